/-
  All copies: Copies.
-/
import Derived.Test.YteomalmflebkhaaZNR
set_option linter.unusedSimpArgs false
set_option linter.unusedVariables false
namespace Go.Proofs.Yteomalmflebkhaa
open Go.RowKit Go.Lib Go.Shelf

variable {P N : Nat → Prop} {w W W' : World} {b p f m B : Nat} {c : Cp} {s : Stn} {mo : Option Nat} {pb : Int → Nat} {vc vs v : Value} {frm to sent : Int} {cl : List Int} {L : List (Cp × Value)}
/-- a copy's cells -/
def encC (x : Cp × Value) : List Value := [.int .i64 x.1.num, .int .i64 x.1.frm, .int .i64 x.1.to, x.2, .int .i64 x.1.sent, .bool x.1.bad]
theorem encC_len (x : Cp × Value) : (encC x).length = 6 := rfl
/-- copies that were told, in memory from B on -/
structure CL (W : World) (B : Nat) (v : Value) (L : List (Cp × Value)) : Prop where
  row : W.ownsRow B 44 6 v L.length (flat encC L)
  dat : ∀ x ∈ L, OwB W B 5 x.2 x.1.dat
  apt : L.Pairwise (fun x y => ∀ i, x.2.ownBlock = some i → y.2.ownBlock ≠ some i)
theorem CL.kp (h : CL W B v L) (k : Kp N W W') (hn : ∀ i, N i → i < B) : CL W' B v L := ⟨owns_kp h.row k (fun i hi e => by have := (World.ownsRow.lt h.row i hi).1; have := hn i e; omega), fun x hx => (h.dat x hx).kp k (fun i hi e => by have := ((h.dat x hx).lt i hi).1; have := hn i e; omega), h.apt⟩
theorem CL.below (h : CL W B v L) (hb : Below W.heap.size W W') : CL W' B v L := h.kp (N := fun _ => False) (Kp.of_below hb) (fun _ e => e.elim)
theorem CL.wk {B' : Nat} (h : CL W B v L) (hb : B' ≤ B) : CL W B' v L := ⟨owns_wk h.row hb, fun x hx => (h.dat x hx).wk hb, h.apt⟩
theorem infoC : (Try.prog.info? 44).map (fun i => (i.zero, i.size, i.bytes)) = some (some (.agg #[.int .i64 0, .int .i64 0, .int .i64 0, .slice none 0 0, .int .i64 0, .bool false]), 6, 64) := by kernel_rfl
theorem mkC (n : Nat) (hn : n ≤ 2147483647) : ∃ Z : Array Value, Z.size = n * 6 ∧ ∀ w : World, (Instr.makeSlice 34 (.int .i64 0) (.int .i64 (n : Nat))).run Try.prog w = .ok (.slice (some ⟨w.heap.size, 0, none⟩) 0 n) (w.alloc (.cells Z 44)) := by
  obtain ⟨i, hi, hz, hs, hb⟩ := info_parts infoC
  refine ⟨madeCells (Value.agg #[.int .i64 0, .int .i64 0, .int .i64 0, .slice none 0 0, .int .i64 0, .bool false]).cells (n * 6), size_madeCells _ _, fun w => ?_⟩
  have := run_make (P := Try.prog) w 34 44 i _ Try.underlying34 hi hz .i64 .i64 (0 : Int) (n : Int) (by omega) (by omega) (by rw [hb]; omega) (by omega)
  rw [hs, Int.toNat_natCast] at this
  exact this
theorem encC_one {x : Cp × Value} (h : ∃ a n k, x.2 = .slice a n k) : ∀ u ∈ encC x, u.oneCell' = true := by
  obtain ⟨a, n, k, e⟩ := h
  intro u hu
  unfold encC at hu
  rw [e] at hu
  simp only [List.mem_cons, List.not_mem_nil, or_false] at hu
  rcases hu with rfl | rfl | rfl | rfl | rfl | rfl <;> rfl
/-- append(list, x) -/
theorem CL.push (h : CL W B v L) (hB : B ≤ W.heap.size) {x : Cp × Value} (hx : OwB W B 5 x.2 x.1.dat) (hap : ∀ y ∈ L, ∀ i, y.2.ownBlock = some i → x.2.ownBlock ≠ some i) (hl : L.length ≤ 2147483647) (ty : TypeId) {X : World} (hX : W.alloc (.cells (encC x).toArray 44) = X) :
    ∃ a k Y, (Builtin.append_ #[34, 34] ty #[v, .slice (some ⟨W.heap.size, 0, none⟩) 1 1]).run Try.prog X = .ok (.slice a (L.length + 1) k) Y ∧ CL Y B (.slice a (L.length + 1) k) (L ++ [x]) ∧ Kp (fun i => v.ownBlock = some i) W Y := by
  obtain ⟨i0, hi, hz0, hz1, hz2⟩ := info_parts infoC
  have hbx : Bx X W.heap.size 44 (encC x).toArray := by rw [← hX]; exact Bx.new _ _ _
  have bX : Below W.heap.size W X := by rw [← hX]; exact ballc (Below.refl _ _) _
  have hsX := bX.size
  have hform : ∃ a n k, x.2 = .slice a n k := by obtain ⟨a, k, e⟩ := hx.form; exact ⟨a, _, k, e⟩
  obtain ⟨v', Y, h1, h2, h3, h4, h5⟩ := run_append_own_at (P := Try.prog) X B 34 ty 44 i0 _ 6 64 Try.underlying34 hi hz0 hz1 hz2 rfl (by decide) v L.length _ (owns_kp h.row (Kp.of_below (N := fun _ => False) bX) (fun _ _ e => e)) ⟨W.heap.size, 0, none⟩ 1 1 (encC x) rfl (fun j u hu => by
    rw [Addr.add_lit, Nat.zero_add]
    exact hbx.cell j u (by simpa using hu)) (encC_one hform) (by unfold maxLen; omega) (by omega) (by omega)
  obtain ⟨a, k, e⟩ := owns_form h2
  subst e
  have kY : Kp (fun i => v.ownBlock = some i) X Y := Kp.of_grown h3 (fun i e => e)
  have kWY : Kp (fun i => v.ownBlock = some i) W Y := (Kp.of_below bX).trans kY (fun i hi => .inl hi)
  have tyv : ∀ i, v.ownBlock = some i → ∃ cur, Bx W i 44 cur := fun i hi => by
    rcases h.row.2 with ⟨rfl, _⟩ | ⟨g, cap, cur, rfl, _, hg, _⟩
    · cases hi
    · cases hi; exact ⟨cur, hg⟩
  have keep : ∀ {u : Value} {l : List Int}, OwB W B 5 u l → OwB Y B 5 u l := fun hu => hu.kp kWY (fun i hi e => by
    obtain ⟨cur, hc⟩ := hu.ty i hi
    obtain ⟨cur', hc'⟩ := tyv i e
    exact hc.apart hc' (by decide) rfl)
  refine ⟨a, k, Y, h1, ⟨?_, fun y hy => ?_, ?_⟩, kWY⟩
  · rw [flat_append, List.length_append]
    exact h2
  · rcases List.mem_append.1 hy with hy | hy
    · exact keep (h.dat y hy)
    · obtain rfl : y = x := by simpa using hy
      exact keep hx
  · refine List.pairwise_append.2 ⟨h.apt, List.pairwise_singleton _ _, fun y hy z hz => ?_⟩
    obtain rfl : z = x := by simpa using hz
    exact hap y hy
theorem Sorted_any (h : NM P W b mo pb s) {bx : Nat} (hbx : Bx W bx 36 #[.map mo]) : Calls Try.prog 33 #[keysV bx] W fun e W' => ∃ a k, e = .returned (.slice a (numsOf s).length k) ∧ OwN W' W.heap.size (.slice a (numsOf s).length k) (numsOf s) ∧ Below W.heap.size W W' := by
  rcases h.mp with ⟨rfl, e⟩ | ⟨m, n, rfl, hm, hp, hl⟩
  · refine (Sorted_nil hbx).mono ?_
    rintro e' W' ⟨rfl, hb⟩
    have e0 : numsOf s = [] := by unfold numsOf; rw [e]; rfl
    rw [e0]
    exact ⟨none, 0, rfl, World.ownsRow_nil _ _ _ _, hb⟩
  · exact Sorted_in hp h.gd hbx
theorem NM.len (h : NM P W b mo pb s) (ty : TypeId) : (Builtin.len_ #[36] ty #[.map mo]).run Try.prog W = .ok (.int .i64 (s.ls.length : Nat)) W := by
  rcases h.mp with ⟨rfl, e⟩ | ⟨m, n, rfl, hm, hp, hl⟩
  · rw [e]; exact Maps.len_nil undM ty
  · exact hp.len h.gd ty
/-- what Copies answers -/
def CopA (w : World) (s : Stn) (e : Ending) (W : World) : Prop := ∃ a k L, e = .returned (.slice a s.ls.length k) ∧ L.map Prod.fst = s.ls ∧ CL W w.heap.size (.slice a s.ls.length k) L ∧ Below w.heap.size w W
/-- the first i of them are told -/
structure CI (w W : World) (s : Stn) (u v : Value) (i : Nat) (L : List (Cp × Value)) : Prop where
  num : OwN W w.heap.size u (numsOf s)
  cl : CL W w.heap.size v L
  fst : L.map Prod.fst = s.ls.take i
  bel : Below w.heap.size w W
set_option maxRecDepth 100000 in
set_option maxHeartbeats 4000000 in
theorem Copies_in (h : NL P w b s) : Calls Try.prog 15 #[.pointer (some ⟨b, 0, none⟩)] w (CopA w s) := by
  obtain ⟨mo, pb, h⟩ := h
  have hle := h.gd.len'
  obtain ⟨n, hn⟩ : ∃ n, s.ls.length = n := ⟨_, rfl⟩
  have hnn : (numsOf s).length = n := by unfold numsOf; rw [List.length_map]; exact hn
  have hnb : n ≤ 2147483647 := by omega
  obtain ⟨Z, hZ, mk⟩ := mkC n (by omega)
  clear hle
  have c1 := h.c1
  have hln := h.len 3
  rw [hn] at hln
  obtain ⟨X0, hX0⟩ : ∃ X0, w.alloc (.cells Z 44) = X0 := ⟨_, rfl⟩
  have b0 : Below w.heap.size w X0 := by rw [← hX0]; exact ballc (Below.refl _ _) _
  have r0 : X0.ownsRow w.heap.size 44 6 (.slice (some ⟨w.heap.size, 0, none⟩) 0 n) 0 [] := by rw [← hX0]; exact World.ownsRow_made w Z n (Nat.le_refl _) (by unfold maxLen; omega) hZ
  have h0 := h.kp (N := fun _ => False) (Kp.of_below b0) (fun _ e => e.elim)
  have d1 := h0.c1
  have HK := hide (Keys_in mo X0)
  obtain ⟨X1, hX1⟩ : ∃ X1, X0.alloc (.cells #[.map mo] 36) = X1 := ⟨_, rfl⟩
  have b1 : Below X0.heap.size X0 X1 := by rw [← hX1]; exact ballc (Below.refl _ _) _
  have x1 : Bx X1 X0.heap.size 36 #[.map mo] := by rw [← hX1]; exact Bx.new _ _ _
  rw [hX1] at HK
  have HSo := hide (Sorted_any (h0.kp (N := fun _ => False) (Kp.of_below b1) (fun _ e => e.elim)) x1)
  rw [hnn] at HSo
  have I0 : Hid (∀ W u, OwN W X1.heap.size u (numsOf s) → Below X1.heap.size X1 W → CI w W s u (.slice (some ⟨w.heap.size, 0, none⟩) 0 n) 0 []) := fun W u hu hW => ⟨owns_wk hu (bnext b0 b1).size, ⟨owns_kp (owns_kp r0 (Kp.of_below (N := fun _ => False) b1) (fun _ _ e => e)) (Kp.of_below (N := fun _ => False) hW) (fun _ _ e => e), fun x hx => (by cases hx), List.Pairwise.nil⟩, by simp, bnext (bnext b0 b1) hW⟩
  have HM := hide h
  have Hn := hide hn
  have Hnn := hide hnn
  have HB1 := hide (bnext b0 b1)
  unfold keysV at HK HSo
  clear hn hnn h h0 r0 b0 b1 x1 hZ hX1
  go_enter Try.func15, Try.ntmps15
  go_wp2_with fail
  refine (unhide HK).mono ?_
  rintro e W1 ⟨rfl, hW1⟩
  subst hW1
  clear HK
  go_wp2_with fail
  refine (unhide HSo).mono ?_
  rintro e W2 ⟨a2, k2, rfl, ho2, hb2⟩
  have HI0 := hide (unhide I0 W2 _ ho2 hb2)
  clear HSo I0 ho2 hb2
  go_wp2
  go_loopw [3, 21] (fun lv iv wr => ∃ (i : Nat) (a : Option Addr) (k : Nat) (L : List (Cp × Value)), i ≤ n ∧ lv = .slice a i k ∧ iv = .int .i64 (i : Nat) ∧ Hid (CI w wr s (.slice a2 n k2) (.slice a i k) i L)) (fun _ iv _ => n - (RowKit.intOf iv).toNat)
  case atStart => exact ⟨0, _, _, [], Nat.zero_le _, rfl, rfl, HI0⟩
  case round =>
    obtain ⟨i, a, k, L, hi, rfl, rfl, HI⟩ := hrel
    by_cases hlt : i < n
    · have hlt' : (i : Int) < (n : Int) := by omega
      have I := unhide HI
      have hM := (unhide HM).kp (N := fun _ => False) (Kp.of_below I.bel) (fun _ e => e.elim)
      have hi1 : i < s.ls.length := by rw [unhide Hn]; exact hlt
      obtain ⟨c, hc⟩ : ∃ c, s.ls[i]? = some c := ⟨_, List.getElem?_eq_getElem hi1⟩
      have hcm : c ∈ s.ls := List.mem_of_getElem? hc
      obtain ⟨bn, off, e2, _, k1⟩ := RN.at (l := numsOf s) (by have := I.num.row; exact this) (x := c.num) (i := i) (by unfold numsOf; rw [List.getElem?_map, hc]; rfl)
      have d1 := hM.c1
      have hlk := hM.look (in64_num hM.gd hcm)
      rw [show gO pb s.ls c.num = some (pb c.num) by unfold gO; rw [fnd_of hM.gd.ris hcm]; rfl] at hlk
      unfold pO at hlk
      obtain ⟨f, vc, vs, hp⟩ := hM.pr c hcm
      have HT := hide (tell_in hp (hM.gd.ln c hcm).1 (hM.gd.ln c hcm).2)
      have FIN : Hid (∀ W3 a3 k3, OwB W3 wr.heap.size 5 (.slice a3 c.dat.length k3) c.dat → Below wr.heap.size wr W3 → ∃ a4 k4 Y, (Builtin.append_ #[34, 34] 34 #[.slice a i k, .slice (some ⟨W3.heap.size, 0, none⟩) 1 1]).run Try.prog (W3.alloc (.cells #[.int .i64 c.num, .int .i64 c.frm, .int .i64 c.to, .slice a3 c.dat.length k3, .int .i64 c.sent, .bool c.bad] 44)) = .ok (.slice a4 (i + 1) k4) Y ∧ ∃ L', CI w Y s (.slice a2 n k2) (.slice a4 (i + 1) k4) (i + 1) L') := by
        intro W3 a3 k3 ho hb
        have hz := I.bel.size
        have hll : L.length = i := by
          have := congrArg List.length I.fst
          rw [List.length_map, List.length_take] at this
          omega
        obtain ⟨a4, k4, Y, h1, h2, h3⟩ := (I.cl.below hb).push (by have := hb.size; omega) (x := (c, .slice a3 c.dat.length k3)) (ho.wk hz) (fun y hy j hj e => by have := ((I.cl.dat y hy).lt j hj).2; have := (ho.lt j e).1; omega) (by omega) 34 rfl
        rw [hll] at h1 h2
        refine ⟨a4, k4, Y, h1, _, ?_, h2, ?_, ?_⟩
        · refine owns_kp (owns_kp I.num (Kp.of_below (N := fun _ => False) hb) (fun _ _ e => e)) h3 (fun j hj e => ?_)
          obtain ⟨cur, hc1⟩ : ∃ cur, Bx wr j 3 cur := by
            rcases I.num.2 with ⟨e1, _⟩ | ⟨g, cap, cur, e1, _, hg, _⟩
            · rw [e1] at hj; cases hj
            · rw [e1] at hj; cases hj; exact ⟨cur, hg⟩
          obtain ⟨cur', hc2⟩ : ∃ cur, Bx wr j 44 cur := by
            rcases I.cl.row.2 with ⟨e1, _⟩ | ⟨g, cap, cur, e1, _, hg, _⟩
            · rw [e1] at e; cases e
            · rw [e1] at e; cases e; exact ⟨cur, hg⟩
          exact hc1.apart hc2 (by decide) rfl
        · rw [List.map_append, I.fst, List.take_add_one, hc]; rfl
        · exact h3.below (bnext I.bel hb) (fun j hj => (World.ownsRow.lt I.cl.row j hj).1)
      subst e2
      unfold TelA cpV at HT
      clear I hM hc hcm hp HI
      generalize pb c.num = q at *
      go_wp2_with fail
      refine (unhide HT).mono ?_
      rintro e W3 ⟨a3, k3, rfl, ho, hb⟩
      obtain ⟨a4, k4, Y, hr, L', hci⟩ := unhide FIN W3 a3 k3 ho hb
      have HR := hide hr
      have HCI := hide hci
      clear HT FIN ho hb hr hci hi1
      go_wp2_with (at_builtin; refine wpList_append_eq rfl _ _ 34 34 rfl _ _ _ _ rfl rfl (unhide HR) ?_)
      go_roundw
      case rel => exact ⟨i + 1, a4, k4, L', by omega, rfl, by go_num, HCI⟩
      case measure => show n - ((i : Int) + 1).toNat < n - ((i : Nat) : Int).toNat; omega
    · obtain rfl : i = n := by omega
      have hlt' : ¬ (i : Int) < (i : Int) := by omega
      go_wp2
      go_ret
      have I := unhide HI
      have e := unhide Hn
      subst e
      exact ⟨_, _, L, rfl, by rw [I.fst, List.take_of_length_le (Nat.le_refl _)], I.cl, I.bel⟩

end Go.Proofs.Yteomalmflebkhaa
