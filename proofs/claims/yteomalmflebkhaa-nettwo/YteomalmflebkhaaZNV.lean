/-
  The law's copies, much; Copies of none.
-/
import Derived.Test.YteomalmflebkhaaZNU
import Derived.Test.YteomalmflebkhaaZNS
set_option linter.unusedSimpArgs false
set_option linter.unusedVariables false
namespace Go.Proofs.Yteomalmflebkhaa
open Go.RowKit Go.Lib

variable {P N : Nat → Prop} {w W W' : World} {b p f m B : Nat} {c : Cp} {s : Stn} {v : Value} {L M : List (Cp × Value)}
/-- copies that lie somewhere -/
structure RCp (W : World) (v : Value) (L : List (Cp × Value)) : Prop where
  row : RC W v L.length (flat encC L)
  dat : ∀ x ∈ L, RB W x.2 x.1.dat ∧ x.1.dat.length ≤ 1000000
theorem RCp.below (h : RCp W v L) (hb : Below W.heap.size W W') : RCp W' v L := ⟨h.row.below hb, fun x hx => ⟨(h.dat x hx).1.below hb, (h.dat x hx).2⟩⟩
theorem CL.rcp (h : CL W B v L) (hl : ∀ x ∈ L, x.1.dat.length ≤ 1000000) : RCp W v L := ⟨RC.of_owns h.row, fun x hx => ⟨(h.dat x hx).row, hl x hx⟩⟩
theorem RCp.at {a : Option Addr} {n k i : Nat} (h : RCp W (.slice a n k) L) {x : Cp × Value} (hi : L[i]? = some x) : ∃ b off, a = some ⟨b, off, none⟩ ∧ b < W.heap.size ∧ W.cell? ⟨b, off + i * 6, none⟩ = some (.int .i64 x.1.num) ∧ W.cell? ⟨b, off + i * 6 + 1, none⟩ = some (.int .i64 x.1.frm) ∧ W.cell? ⟨b, off + i * 6 + 2, none⟩ = some (.int .i64 x.1.to) ∧ W.cell? ⟨b, off + i * 6 + 3, none⟩ = some x.2 ∧ W.cell? ⟨b, off + i * 6 + 4, none⟩ = some (.int .i64 x.1.sent) ∧ W.cell? ⟨b, off + i * 6 + 5, none⟩ = some (.bool x.1.bad) := by
  have hl := (List.getElem?_eq_some_iff.1 hi).1
  rcases h.row with ⟨h0, _⟩ | ⟨b, off, cap, e', h1, h2, hc⟩
  · omega
  · simp at e'
    obtain ⟨rfl, _⟩ := e'
    have f := fun q (hq : q < 6) v (hv : (encC x)[q]? = some v) => hc (i * 6 + q) v ((flat_get encC_len L i q x hi hq).trans hv)
    exact ⟨b, off, rfl, h2, f 0 (by omega) _ rfl, f 1 (by omega) _ rfl, f 2 (by omega) _ rfl, f 3 (by omega) _ rfl, f 4 (by omega) _ rfl, f 5 (by omega) _ rfl⟩
theorem eqL_drop {l m : List Cp} {i : Nat} {c d : Cp} (h1 : l[i]? = some c) (h2 : m[i]? = some d) : eqL (l.drop i) (m.drop i) = (eqC c d && eqL (l.drop (i + 1)) (m.drop (i + 1))) := by
  have e1 := (List.getElem?_eq_some_iff.1 h1)
  have e2 := (List.getElem?_eq_some_iff.1 h2)
  rw [List.drop_eq_getElem_cons e1.1, List.drop_eq_getElem_cons e2.1, e1.2, e2.2]
  rfl
theorem eqL_ne : ∀ {l m : List Cp}, l.length ≠ m.length → eqL l m = false := fun h => by
  cases e : eqL _ _ with
  | false => rfl
  | true => exact absurd (eqL_len e) h
set_option maxRecDepth 100000 in
set_option maxHeartbeats 4000000 in
theorem copies_in (a1 a2 : Option Addr) (k1 k2 : Nat) (w : World) (h1 : RCp w (.slice a1 L.length k1) L) (h2 : RCp w (.slice a2 M.length k2) M) (hl : L.length ≤ 2147483647) (hm : M.length ≤ 2147483647) : Calls Try.prog 14 #[.slice a1 L.length k1, .slice a2 M.length k2] w fun e W => e = .returned (.bool (eqL (L.map Prod.fst) (M.map Prod.fst))) ∧ Below w.heap.size w W := by
  obtain ⟨R, hR⟩ : ∃ R, eqL (L.map Prod.fst) (M.map Prod.fst) = R := ⟨_, rfl⟩
  rw [hR]
  by_cases hne : L.length = M.length
  · obtain ⟨n, hn⟩ : ∃ n, L.length = n := ⟨_, rfl⟩
    have hn' : M.length = n := by omega
    have HL := hide hn
    have HM := hide hn'
    have H1 := hide h1
    have H2 := hide h2
    have HR := hide hR
    rw [hn, hn']
    rw [hn] at hl
    clear hn hn' hne hm h1 h2 hR
    go_enter Try.func14, Try.ntmps14
    go_wp2
    go_loopw [5] (fun iv wr => ∃ i : Nat, i ≤ n ∧ iv = .int .i64 (i : Nat) ∧ Hid (eqL ((L.map Prod.fst).drop i) ((M.map Prod.fst).drop i) = R ∧ Below w.heap.size w wr)) (fun iv _ => n - (RowKit.intOf iv).toNat)
    case atStart => exact ⟨0, Nat.zero_le _, rfl, hide ⟨unhide HR, Below.refl _ _⟩⟩
    case round =>
      obtain ⟨i, hi, rfl, HI⟩ := hrel
      obtain ⟨htk, hb⟩ := unhide HI
      by_cases hlt : i < n
      · have hlt' : (i : Int) < (n : Int) := by omega
        obtain ⟨x, hx⟩ : ∃ x, L[i]? = some x := ⟨_, List.getElem?_eq_getElem (by rw [unhide HL]; exact hlt)⟩
        obtain ⟨y, hy⟩ : ∃ y, M[i]? = some y := ⟨_, List.getElem?_eq_getElem (by rw [unhide HM]; exact hlt)⟩
        have r1 := (unhide H1).below hb
        have r2 := (unhide H2).below hb
        rw [show (Value.slice a1 L.length k1) = .slice a1 n k1 by rw [unhide HL]] at r1
        rw [show (Value.slice a2 M.length k2) = .slice a2 n k2 by rw [unhide HM]] at r2
        obtain ⟨b1, o1, rfl, _, u0, u1, u2, u3, u4, u5⟩ := r1.at hx
        obtain ⟨b2, o2, rfl, _, v0, v1, v2, v3, v4, v5⟩ := r2.at hy
        obtain ⟨rx, lx⟩ := r1.dat x (List.mem_of_getElem? hx)
        obtain ⟨ry, ly⟩ := r2.dat y (List.mem_of_getElem? hy)
        obtain ⟨c, vc⟩ := x
        obtain ⟨d, vd⟩ := y
        obtain ⟨a3, k3, e3⟩ := rx.form
        obtain ⟨a4, k4, e4⟩ := ry.form
        simp only at rx ry lx ly u0 u1 u2 u3 u4 u5 v0 v1 v2 v3 v4 v5 e3 e4
        subst e3 e4
        have hst := eqL_drop (l := L.map Prod.fst) (m := M.map Prod.fst) (i := i) (c := c) (d := d) (by rw [List.getElem?_map, hx]; rfl) (by rw [List.getElem?_map, hy]; rfl)
        rw [htk] at hst
        have HS := hide (fun q : BelowOf wr => same_in c d a3 a4 k3 k4 q.w (rx.below q.h) (ry.below q.h) lx ly)
        unfold cpV at HS
        have mixed : Try.prog.follows .mixedOrders = true := by kernel_rfl
        have hnq := BelowOf.ne wr
        have mu0 : ∀ q : BelowOf wr, q.w.cell? ⟨b1, o1 + i * 6, none⟩ = some (.int .i64 c.num) := fun q => cell_below u0 q.h
        have mu1 : ∀ q : BelowOf wr, q.w.cell? ⟨b1, o1 + i * 6 + 1, none⟩ = some (.int .i64 c.frm) := fun q => cell_below u1 q.h
        have mu2 : ∀ q : BelowOf wr, q.w.cell? ⟨b1, o1 + i * 6 + 2, none⟩ = some (.int .i64 c.to) := fun q => cell_below u2 q.h
        have mu3 : ∀ q : BelowOf wr, q.w.cell? ⟨b1, o1 + i * 6 + 3, none⟩ = some (.slice a3 c.dat.length k3) := fun q => cell_below u3 q.h
        have mu4 : ∀ q : BelowOf wr, q.w.cell? ⟨b1, o1 + i * 6 + 4, none⟩ = some (.int .i64 c.sent) := fun q => cell_below u4 q.h
        have mu5 : ∀ q : BelowOf wr, q.w.cell? ⟨b1, o1 + i * 6 + 5, none⟩ = some (.bool c.bad) := fun q => cell_below u5 q.h
        have mv0 : ∀ q : BelowOf wr, q.w.cell? ⟨b2, o2 + i * 6, none⟩ = some (.int .i64 d.num) := fun q => cell_below v0 q.h
        have mv1 : ∀ q : BelowOf wr, q.w.cell? ⟨b2, o2 + i * 6 + 1, none⟩ = some (.int .i64 d.frm) := fun q => cell_below v1 q.h
        have mv2 : ∀ q : BelowOf wr, q.w.cell? ⟨b2, o2 + i * 6 + 2, none⟩ = some (.int .i64 d.to) := fun q => cell_below v2 q.h
        have mv3 : ∀ q : BelowOf wr, q.w.cell? ⟨b2, o2 + i * 6 + 3, none⟩ = some (.slice a4 d.dat.length k4) := fun q => cell_below v3 q.h
        have mv4 : ∀ q : BelowOf wr, q.w.cell? ⟨b2, o2 + i * 6 + 4, none⟩ = some (.int .i64 d.sent) := fun q => cell_below v4 q.h
        have mv5 : ∀ q : BelowOf wr, q.w.cell? ⟨b2, o2 + i * 6 + 5, none⟩ = some (.bool d.bad) := fun q => cell_below v5 q.h
        have hB := hide hb
        clear htk hb HI r1 r2 hx hy rx ry lx ly
        cases hC : eqC c d with
        | true =>
          rw [hC] at HS hst
          rw [Bool.true_and] at hst
          have HST := hide hst.symm
          clear hst hC
          generalize c.dat.length = n3 at *
          generalize d.dat.length = n4 at *
          go_wp2_with fail
          refine wp_region_quiet_below mixed (by kernel_rfl) ?_
          repeat (any_goals (first | go_big_quiet_step ((go_at_call 21; exact below_of (unhide HS _))) | quiet_step ((go_at_call 21; exact below_of (unhide HS _)))))
          all_goals (refine wpQuiet_nil ?_; intro _ hw'; obtain ⟨q, hw''⟩ := hw'; subst hw'')
          all_goals (
            have HB9 := hide (bnext (unhide hB) q.h)
            clear HS mu0 mu1 mu2 mu3 mu4 mu5 mv0 mv1 mv2 mv3 mv4 mv5
            go_wp2
            go_roundw
            case rel => exact ⟨i + 1, by omega, by go_num, hide ⟨unhide HST, unhide HB9⟩⟩
            case measure => show n - ((i : Int) + 1).toNat < n - ((i : Nat) : Int).toNat; omega)
        | false =>
          rw [hC] at HS hst
          rw [Bool.false_and] at hst
          have HST := hide hst
          clear hst hC
          generalize c.dat.length = n3 at *
          generalize d.dat.length = n4 at *
          go_wp2_with fail
          refine wp_region_quiet_below mixed (by kernel_rfl) ?_
          repeat (any_goals (first | go_big_quiet_step ((go_at_call 21; exact below_of (unhide HS _))) | quiet_step ((go_at_call 21; exact below_of (unhide HS _)))))
          all_goals (refine wpQuiet_nil ?_; intro _ hw'; obtain ⟨q, hw''⟩ := hw'; subst hw'')
          all_goals (
            have HB9 := hide (bnext (unhide hB) q.h)
            clear HS mu0 mu1 mu2 mu3 mu4 mu5 mv0 mv1 mv2 mv3 mv4 mv5
            go_wp2
            go_ret
            exact ⟨by rw [unhide HST]; rfl, unhide HB9⟩)
      · obtain rfl : i = n := by omega
        have hlt' : ¬ (i : Int) < (i : Int) := by omega
        have HT : Hid (R = true) := hide (by rw [← htk, List.drop_eq_nil_of_le (by rw [List.length_map, unhide HL]; exact Nat.le_refl _), List.drop_eq_nil_of_le (by rw [List.length_map, unhide HM]; exact Nat.le_refl _)]; rfl)
        have hB := hide hb
        clear htk hb HI
        go_wp2
        go_ret
        exact ⟨by rw [unhide HT]; rfl, unhide hB⟩
  · have HF : Hid (R = false) := hide (by rw [← hR]; exact eqL_ne (by rw [List.length_map, List.length_map]; exact hne))
    have hne' : (((L.length : Nat) : Int) != ((M.length : Nat) : Int)) = true := by rw [bne_iff_ne]; omega
    clear hR h1 h2 hne
    generalize L.length = n1 at *
    generalize M.length = n2 at *
    go_enter Try.func14, Try.ntmps14
    go_wp2
    go_ret
    exact ⟨by rw [unhide HF]; rfl, Below.refl _ _⟩
theorem Copies_nil (w : World) : Calls Try.prog 15 #[.pointer none] w fun e W => e = .returned (.slice none 0 0) ∧ w = W := by
  go_enter Try.func15, Try.ntmps15
  go_wp2
  go_ret
  exact ⟨rfl, rfl⟩
/-- a script that is played -/
def SmS (l : List Stp) : Prop := l.length ≤ 200 ∧ ∀ x ∈ l, x.dat.length ≤ 60000
def MuA (l : List Stp) (w : World) (e : Ending) (W : World) : Prop := ∃ R : Bool, e = .returned (.bool R) ∧ (R = false → SmS l) ∧ w = W
set_option maxRecDepth 100000 in
set_option maxHeartbeats 4000000 in
theorem much_in (l : List Stp) (a : Option Addr) (k : Nat) (w : World) (h : RSt w (.slice a l.length k) l) (hs : ∀ x ∈ l, StW w x) (hl : l.length ≤ 9223372036854775807) : Calls Try.prog 9 #[.slice a l.length k] w (MuA l w) := by
  obtain ⟨n, hn⟩ : ∃ n, l.length = n := ⟨_, rfl⟩
  have Hn := hide hn
  have HR := hide h
  have HS := hide hs
  rw [hn]
  rw [hn] at hl
  clear hn h hs
  by_cases h0 : 200 < n
  · have h0' : (200 : Int) < (n : Int) := by omega
    go_enter Try.func9, Try.ntmps9
    go_wp2
    go_ret
    exact ⟨true, rfl, fun e => (by cases e), rfl⟩
  · have h0' : ¬ (200 : Int) < (n : Int) := by omega
    go_enter Try.func9, Try.ntmps9
    go_wp2
    go_loopw [3, 4] (fun sv iv wr => ∃ (i z : Nat), i ≤ n ∧ z ≤ i * 60000 ∧ sv = .int .i64 (z : Nat) ∧ iv = .int .i64 (i : Nat) ∧ w = wr ∧ Hid (∀ x ∈ l.take i, x.dat.length ≤ 60000)) (fun _ iv _ => n - (RowKit.intOf iv).toNat)
    case atStart => exact ⟨0, 0, Nat.zero_le _, Nat.zero_le _, rfl, rfl, rfl, hide (fun x hx => by simp at hx)⟩
    case round =>
      obtain ⟨i, z, hi, hz, rfl, rfl, hw, HI⟩ := hrel
      subst hw
      by_cases hlt : i < n
      · have hlt' : (i : Int) < (n : Int) := by omega
        obtain ⟨x, hx⟩ : ∃ x, l[i]? = some x := ⟨_, List.getElem?_eq_getElem (by rw [unhide Hn]; exact hlt)⟩
        have r := unhide HR
        rw [show (Value.slice a l.length k) = .slice a n k by rw [unhide Hn]] at r
        obtain ⟨b1, o1, rfl, _, _, _, _, _, _, u5⟩ := r.at hx
        obtain ⟨a2, k2, e2⟩ := ((unhide HS) x (List.mem_of_getElem? hx)).fd
        rw [e2] at u5
        by_cases hg : 60000 < x.dat.length
        · have hg' : (60000 : Int) < ((x.dat.length : Nat) : Int) := by omega
          clear hx r e2 HI
          generalize x.dat.length = m at *
          go_wp2
          go_ret
          exact ⟨true, rfl, fun e => (by cases e), rfl⟩
        · have hg' : ¬ (60000 : Int) < ((x.dat.length : Nat) : Int) := by omega
          have HI2 : Hid (∀ y ∈ l.take (i + 1), y.dat.length ≤ 60000) := by
            intro y hy
            rw [List.take_add_one, hx] at hy
            rcases List.mem_append.1 hy with hy | hy
            · exact unhide HI y hy
            · have e : y = x := by simpa using hy
              rw [e]; omega
          clear hx r e2 HI
          generalize x.dat.length = m at *
          have hm : m ≤ 60000 := by omega
          have hw1 : (z : Int) + (m : Int) ≤ 12120000 := by omega
          go_wp2
          go_roundw
          case rel => exact ⟨i + 1, z + m, by omega, by omega, by go_num, by go_num, by first | trivial | rfl, HI2⟩
          case measure => show n - ((i : Int) + 1).toNat < n - ((i : Nat) : Int).toNat; omega
      · obtain rfl : i = n := by omega
        have hlt' : ¬ (i : Int) < (i : Int) := by omega
        have HI2 : Hid (SmS l) := hide ⟨by rw [unhide Hn]; omega, fun x hx => unhide HI x (by rw [List.take_of_length_le (by rw [unhide Hn]; exact Nat.le_refl _)]; exact hx)⟩
        clear HI
        go_wp2
        go_ret
        exact ⟨_, rfl, fun _ => unhide HI2, rfl⟩

end Go.Proofs.Yteomalmflebkhaa
