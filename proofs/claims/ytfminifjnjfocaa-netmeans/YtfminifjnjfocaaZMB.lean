/-
  The law's apart; its book.
-/
import Derived.Test.YtfminifjnjfocaaZMA
set_option linter.unusedSimpArgs false
set_option linter.unusedVariables false
namespace Go.Proofs.Ytfminifjnjfocaa
open Go.RowKit Go.Lib

variable {P N S S' : Nat → Prop} {w W W' V V' Y : World} {b p f m B q : Nat} {c : Cp} {s s' : Stn} {v u : Value} {L : List (Cp × Value)} {x x' : Stp}
set_option maxRecDepth 100000 in
set_option maxHeartbeats 4000000 in
theorem apart_in (l m : List Int) (a1 a2 : Option Addr) (k1 k2 : Nat) (w : World) (h1 : RB w (.slice a1 l.length k1) l) (h2 : RB w (.slice a2 m.length k2) m) (l1 : l.length ≤ 1000000) (l2 : m.length ≤ 1000000) (hap : apB l m) : Calls Try.prog 26 #[.slice a1 l.length k1, .slice a2 m.length k2] w fun e W => e = .returned (.bool true) ∧ Below w.heap.size w W := by
  rcases hap with ⟨hlt, heq⟩ | ⟨hlen, i0, j0, hij, hij4, hn1, hn2, hall⟩
  · have hk2 : m.length ≤ k2 := by
      rcases h2 with ⟨h0, _⟩ | ⟨_, _, cap', e, hh, _⟩
      · omega
      · simp only [Value.slice.injEq] at e; omega
    have HB := hide (lbytes_in _ _ l (m.take l.length) w h1 (RB.take (n := 0) h2 (by omega) (fun _ => trivial)) l1 (by rw [List.length_take]; omega))
    rw [decide_eq_true heq] at HB
    have hlt' : (l.length : Int) < (m.length : Int) := by omega
    have hk3 : ((l.length : Nat) : Int) ≤ ((k2 : Nat) : Int) := by omega
    have hk4 : l.length ≤ k2 := by omega
    clear h1 h2 heq
    generalize l.length = n1 at *
    generalize m.length = n2 at *
    go_enter Try.func26, Try.ntmps26
    go_wp2_with fail
    refine (unhide HB).mono ?_
    rintro e W1 ⟨rfl, hb⟩
    have HBB := hide hb
    clear hb HB
    go_wp2
    go_ret
    exact ⟨rfl, unhide HBB⟩
  · obtain ⟨n, hn⟩ : ∃ n, l.length = n := ⟨_, rfl⟩
    have hm : m.length = n := by omega
    have Hn := hide hn
    have Hm := hide hm
    have H1 := hide h1
    have H2 := hide h2
    have HA := hide hall
    have Hd := hide (And.intro hn1 hn2)
    have hj0n : j0 < n := by
      apply Classical.byContradiction
      intro hne
      exact hn2 (by rw [List.getElem?_eq_none (by omega), List.getElem?_eq_none (by omega)])
    rw [hn, hm]
    rw [hn] at l1
    clear hn hm h1 h2 hall hn1 hn2 hlen l2
    go_enter Try.func26, Try.ntmps26
    go_wp2
    go_loopw [5, 6, 7] (fun fv lv iv wr => ∃ (i : Nat) (F G : Int), i ≤ n ∧ fv = .int .i64 F ∧ lv = .int .i64 G ∧ iv = .int .i64 (i : Nat) ∧ ((i ≤ i0 ∧ F = -1 ∧ G = -1) ∨ (i0 < i ∧ F = (i0 : Int) ∧ (i0 : Int) ≤ G ∧ G ≤ (j0 : Int))) ∧ Hid (Below w.heap.size w wr)) (fun _ _ iv _ => n - (RowKit.intOf iv).toNat)
    case atStart => exact ⟨0, -1, -1, Nat.zero_le _, rfl, rfl, rfl, .inl ⟨Nat.zero_le _, rfl, rfl⟩, hide (Below.refl _ _)⟩
    case round =>
      obtain ⟨i, F, G, hi, rfl, rfl, rfl, hFG, HI⟩ := hrel
      by_cases hlt : i < n
      · have hlt' : (i : Int) < (n : Int) := by omega
        have hx1 := List.getElem?_eq_getElem (l := l) (i := i) (by rw [unhide Hn]; exact hlt)
        have hx2 := List.getElem?_eq_getElem (l := m) (i := i) (by rw [unhide Hm]; exact hlt)
        have r1 := (unhide H1).below (unhide HI)
        have r2 := (unhide H2).below (unhide HI)
        rw [show (Value.slice a1 l.length k1) = .slice a1 n k1 by rw [unhide Hn]] at r1
        rw [show (Value.slice a2 m.length k2) = .slice a2 n k2 by rw [unhide Hm]] at r2
        obtain ⟨b1, o1, rfl, _, u1⟩ := r1.at hx1
        obtain ⟨b2, o2, rfl, _, u2⟩ := r2.at hx2
        have HI2 := hide (bdrew (unhide HI) 1)
        by_cases he : l[i]'(by rw [unhide Hn]; exact hlt) = m[i]'(by rw [unhide Hm]; exact hlt)
        · have hnq : (l[i]'(by rw [unhide Hn]; exact hlt) != m[i]'(by rw [unhide Hm]; exact hlt)) = false := by simpa using he
          have hne : i ≠ i0 := fun e => (unhide Hd).1 (by rw [← e, hx1, hx2, he])
          have HN : Hid ((i + 1 ≤ i0 ∧ F = -1 ∧ G = -1) ∨ (i0 < i + 1 ∧ F = (i0 : Int) ∧ (i0 : Int) ≤ G ∧ G ≤ (j0 : Int))) := hide (by
            rcases hFG with ⟨h1, h2, h3⟩ | ⟨h1, h2, h3, h4⟩
            · exact .inl ⟨by omega, h2, h3⟩
            · exact .inr ⟨by omega, h2, h3, h4⟩)
          clear he hx1 hx2 r1 r2 hFG HI
          generalize l[i]'(by rw [unhide Hn]; exact hlt) = e1 at *
          generalize m[i]'(by rw [unhide Hm]; exact hlt) = e2 at *
          go_wp2
          go_region
          go_wp2
          go_roundw
          case rel => exact ⟨i + 1, F, G, by omega, rfl, rfl, by go_num, unhide HN, HI2⟩
          case measure => show n - ((i : Int) + 1).toNat < n - ((i : Nat) : Int).toNat; omega
        · have hnq : (l[i]'(by rw [unhide Hn]; exact hlt) != m[i]'(by rw [unhide Hm]; exact hlt)) = true := by simpa using he
          have hin := unhide HA i (by rw [hx1, hx2]; exact fun e => he (Option.some.inj e))
          rcases hFG with ⟨h1, h2, h3⟩ | ⟨h1, h2, h3, h4⟩
          · have E0 := hide (show i = i0 by omega)
            have hF : F < 0 := by omega
            clear h1 h2 h3 hin
            clear he hx1 hx2 r1 r2 HI
            generalize l[i]'(by rw [unhide Hn]; exact hlt) = e1 at *
            generalize m[i]'(by rw [unhide Hm]; exact hlt) = e2 at *
            go_wp2
            go_region
            go_wp2
            go_roundw
            case rel => exact ⟨i + 1, (i : Int), (i : Int), by omega, rfl, rfl, by go_num, .inr ⟨by have := unhide E0; omega, by rw [unhide E0], by rw [unhide E0]; exact Int.le_refl _, by rw [unhide E0]; omega⟩, HI2⟩
            case measure => show n - ((i : Int) + 1).toNat < n - ((i : Nat) : Int).toNat; omega
          · have hF : ¬ F < 0 := by omega
            have H2 := hide (And.intro h2 (And.intro h1 hin))
            clear h1 h2 h3 h4 hin
            clear he hx1 hx2 r1 r2 HI
            generalize l[i]'(by rw [unhide Hn]; exact hlt) = e1 at *
            generalize m[i]'(by rw [unhide Hm]; exact hlt) = e2 at *
            go_wp2
            go_region
            go_wp2
            go_roundw
            case rel => exact ⟨i + 1, F, (i : Int), by omega, rfl, rfl, by go_num, .inr ⟨by have := (unhide H2).2.1; omega, (unhide H2).1, by have := (unhide H2).2.2.1; omega, by have := (unhide H2).2.2.2; omega⟩, HI2⟩
            case measure => show n - ((i : Int) + 1).toNat < n - ((i : Nat) : Int).toNat; omega
      · obtain rfl : i = n := by omega
        have hlt' : ¬ (i : Int) < (i : Int) := by omega
        rcases hFG with ⟨h1, h2, h3⟩ | ⟨h1, h2, h3, h4⟩
        · omega
        · have hF : 0 ≤ F := by omega
          have hG : G - F < 4 := by omega
          have hw1 : G - F ≤ 9223372036854775807 := by omega
          have hw2 : -9223372036854775808 ≤ G - F := by omega
          clear h1 h2 h3 h4
          go_wp2
          go_ret
          exact ⟨by first | rfl | simp [hG], unhide HI⟩
/-- the law's book: frames by their numbers -/
structure BR (W0 W : World) (B : Nat) (v : Value) (L : List (Cp × Value)) : Prop where
  row : W.ownsRow B 56 6 v L.length (flat encC L)
  dat : ∀ x ∈ L, RB W0 x.2 x.1.cl ∧ x.1.cl.length ≤ 60000
theorem infoSt : (Try.prog.info? 56).map (fun i => (i.zero, i.size, i.bytes)) = some (some (.agg #[.int .i64 0, .int .i64 0, .int .i64 0, .slice none 0 0, .int .i64 0, .bool false]), 6, 64) := by kernel_rfl
theorem infoBo : (Try.prog.info? 4).map (fun i => (i.zero, i.size, i.bytes)) = some (some (.bool false), 1, 1) := by kernel_rfl
theorem BR.kp {W0 : World} (h : BR W0 W B v L) (k : Kp N W W') (hn : ∀ i, v.ownBlock = some i → ¬ N i) : BR W0 W' B v L := ⟨owns_kp h.row k hn, h.dat⟩
theorem BR.at {W0 : World} {a : Option Addr} {n k i : Nat} (h : BR W0 W B (.slice a n k) L) {x : Cp × Value} (hi : L[i]? = some x) : ∃ b off, a = some ⟨b, off, none⟩ ∧ W.cell? ⟨b, off + i * 6, none⟩ = some (.int .i64 x.1.num) ∧ W.cell? ⟨b, off + i * 6 + 1, none⟩ = some (.int .i64 x.1.frm) ∧ W.cell? ⟨b, off + i * 6 + 2, none⟩ = some (.int .i64 x.1.to) ∧ W.cell? ⟨b, off + i * 6 + 3, none⟩ = some x.2 ∧ W.cell? ⟨b, off + i * 6 + 4, none⟩ = some (.int .i64 x.1.sent) ∧ W.cell? ⟨b, off + i * 6 + 5, none⟩ = some (.bool x.1.bad) := by
  have hl := (List.getElem?_eq_some_iff.1 hi).1
  rcases RC.of_owns h.row with ⟨h0, _⟩ | ⟨b, off, cap, e', h1, h2, hc⟩
  · omega
  · simp at e'
    obtain ⟨rfl, _⟩ := e'
    have f := fun q (hq : q < 6) v (hv : (encC x)[q]? = some v) => hc (i * 6 + q) v ((flat_get encC_len L i q x hi hq).trans hv)
    exact ⟨b, off, rfl, f 0 (by omega) _ rfl, f 1 (by omega) _ rfl, f 2 (by omega) _ rfl, f 3 (by omega) _ rfl, f 4 (by omega) _ rfl, f 5 (by omega) _ rfl⟩
theorem BR.push {W0 : World} (h : BR W0 W B v L) (hB : B ≤ W.heap.size) {x : Cp × Value} (hx : RB W0 x.2 x.1.cl ∧ x.1.cl.length ≤ 60000) (hl : L.length ≤ 1000) (ty : TypeId) {X : World} (hX : W.alloc (.cells (encC x).toArray 56) = X) :
    ∃ a k Y, (Builtin.append_ #[52, 52] ty #[v, .slice (some ⟨W.heap.size, 0, none⟩) 1 1]).run Try.prog X = .ok (.slice a (L.length + 1) k) Y ∧ BR W0 Y B (.slice a (L.length + 1) k) (L ++ [x]) ∧ Kp (fun i => v.ownBlock = some i) W Y ∧ (∀ i, (Value.slice a (L.length + 1) k).ownBlock = some i → v.ownBlock = some i ∨ W.heap.size ≤ i) := by
  obtain ⟨i0, hi, hz0, hz1, hz2⟩ := info_parts infoSt
  have hbx : Bx X W.heap.size 56 (encC x).toArray := by rw [← hX]; exact Bx.new _ _ _
  have bX : Below W.heap.size W X := by rw [← hX]; exact ballc (Below.refl _ _) _
  have hsX := bX.size
  have hform : ∃ a n k, x.2 = .slice a n k := by obtain ⟨a, k, e⟩ := hx.1.form; exact ⟨a, _, k, e⟩
  obtain ⟨v', Y, h1, h2, h3, h4, h5⟩ := run_append_own_at (P := Try.prog) X B 52 ty 56 i0 _ 6 64 Try.underlying52 hi hz0 hz1 hz2 rfl (by decide) v L.length _ (owns_kp h.row (Kp.of_below (N := fun _ => False) bX) (fun _ _ e => e)) ⟨W.heap.size, 0, none⟩ 1 1 (encC x) rfl (fun j u hu => by
    rw [Addr.add_lit, Nat.zero_add]
    exact hbx.cell j u (by simpa using hu)) (encC_one hform) (by unfold maxLen; omega) (by omega) (by omega)
  obtain ⟨a, k, e⟩ := owns_form h2
  subst e
  have kY : Kp (fun i => v.ownBlock = some i) X Y := Kp.of_grown h3 (fun i e => e)
  refine ⟨a, k, Y, h1, ⟨?_, fun y hy => ?_⟩, (Kp.of_below bX).trans kY (fun i hi => .inl hi), fun i hi => ?_⟩
  · rw [flat_append, List.length_append]
    exact h2
  · rcases List.mem_append.1 hy with hy | hy
    · exact h.dat y hy
    · obtain rfl : y = x := by simpa using hy
      exact hx
  · rcases h5 with e | e
    · exact .inl (by rw [← e]; exact hi)
    · rw [e] at hi; cases hi; exact .inr (by omega)
/-- which are there -/
def BT (W : World) (B : Nat) (v : Value) (T : List Bool) : Prop := W.ownsRow B 4 1 v T.length (T.map Value.bool)
theorem BT.at {a : Option Addr} {n k i : Nat} {T : List Bool} (h : BT W B (.slice a n k) T) {t : Bool} (hi : T[i]? = some t) : ∃ g, a = some ⟨g, 0, none⟩ ∧ B ≤ g ∧ W.cell? ⟨g, i, none⟩ = some (.bool t) ∧ W.frozen? ⟨g, i, none⟩ = false ∧ BT (W.setCell ⟨g, i, none⟩ (.bool false)) B (.slice a n k) (T.set i false) := by
  have hl := (List.getElem?_eq_some_iff.1 hi).1
  have hh := h
  obtain ⟨h0, (⟨e, e2⟩ | ⟨g, cap, cur, e, hb, hg, hc1, hc2, hc3, hc4⟩)⟩ := h
  · omega
  · simp only [Value.slice.injEq] at e
    obtain ⟨rfl, rfl, rfl⟩ := e
    have hbx : Bx W g 4 cur := hg
    have hci : cur[i]? = some (.bool t) := by
      have e := congrArg (fun l => l[i]?) hc4
      simp only [Nat.mul_one] at e
      rw [List.getElem?_take_of_lt hl, List.getElem?_map, hi] at e
      simpa using e
    refine ⟨g, rfl, hb, hbx.cell i _ hci, hbx.frozen i, ?_⟩
    refine ⟨by simp, .inr ⟨g, k, _, by rw [List.length_set], hb, hbx.set i _, by rw [List.length_set]; exact hc1, hc2, by simp [hc3], ?_⟩⟩
    rw [List.length_set, Nat.mul_one, Array.toList_setIfInBounds, List.take_set, List.map_set]
    rw [Nat.mul_one] at hc4
    rw [hc4]
theorem BT.push {T : List Bool} (h : BT W B v T) (hB : B ≤ W.heap.size) (t : Bool) (hl : T.length ≤ 1000) (ty : TypeId) {X : World} (hX : W.alloc (.cells #[.bool t] 4) = X) :
    ∃ a k Y, (Builtin.append_ #[53, 53] ty #[v, .slice (some ⟨W.heap.size, 0, none⟩) 1 1]).run Try.prog X = .ok (.slice a (T.length + 1) k) Y ∧ BT Y B (.slice a (T.length + 1) k) (T ++ [t]) ∧ Kp (fun i => v.ownBlock = some i) W Y ∧ (∀ i, (Value.slice a (T.length + 1) k).ownBlock = some i → v.ownBlock = some i ∨ W.heap.size ≤ i) := by
  obtain ⟨i0, hi, hz0, hz1, hz2⟩ := info_parts infoBo
  have hbx : Bx X W.heap.size 4 #[.bool t] := by rw [← hX]; exact Bx.new _ _ _
  have bX : Below W.heap.size W X := by rw [← hX]; exact ballc (Below.refl _ _) _
  have hsX := bX.size
  obtain ⟨v', Y, h1, h2, h3, h4, h5⟩ := run_append_own_at (P := Try.prog) X B 53 ty 4 i0 _ 1 1 Try.underlying53 hi hz0 hz1 hz2 rfl (by decide) v T.length _ (owns_kp h (Kp.of_below (N := fun _ => False) bX) (fun _ _ e => e)) ⟨W.heap.size, 0, none⟩ 1 1 [.bool t] rfl (fun j u hu => by
    rw [Addr.add_lit, Nat.zero_add]
    exact hbx.cell j u (by simpa using hu)) (fun u hu => by simp at hu; subst hu; rfl) (by unfold maxLen; omega) (by omega) (by omega)
  obtain ⟨a, k, e⟩ := owns_form h2
  subst e
  have kY : Kp (fun i => v.ownBlock = some i) X Y := Kp.of_grown h3 (fun i e => e)
  refine ⟨a, k, Y, h1, ?_, (Kp.of_below bX).trans kY (fun i hi => .inl hi), fun i hi => ?_⟩
  · unfold BT
    rw [List.length_append, List.map_append]
    exact h2
  · rcases h5 with e | e
    · exact .inl (by rw [← e]; exact hi)
    · rw [e] at hi; cases hi; exact .inr (by omega)

end Go.Proofs.Ytfminifjnjfocaa
