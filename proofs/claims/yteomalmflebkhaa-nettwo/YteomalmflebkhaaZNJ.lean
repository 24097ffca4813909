/-
  take, Deliver, Drop.
-/
import Derived.Test.YteomalmflebkhaaZNI
set_option linter.unusedSimpArgs false
set_option linter.unusedVariables false
namespace Go.Proofs.Yteomalmflebkhaa
open Go.RowKit Go.Lib

variable {P N : Nat → Prop} {w W W' : World} {b p f m : Nat} {c : Cp} {s : Stn} {mo : Option Nat} {pb : Int → Nat} {vc vs : Value} {frm to sent : Int} {cl : List Int}
set_option maxRecDepth 100000 in
set_option maxHeartbeats 2000000 in
theorem take_none (h : NL P w b s) {k : Int} (hk : in64 k) (hf : fnd s.ls k = none) : Calls Try.prog 40 #[.pointer (some ⟨b, 0, none⟩), .int .i64 k] w (TkA P w b s k) := by
  have HL := hide h
  obtain ⟨mo, pb, h⟩ := h
  have HF := hide (fun X (hX : Below w.heap.size w X) => find_none (h.kp (N := fun _ => False) (Kp.of_below hX) (fun _ e => e.elim)) hk hf)
  have Hf := hide hf
  obtain ⟨X0, hX0⟩ : ∃ X0, w.alloc (.cells #[.int .i64 0, .int .i64 0, .int .i64 0, .slice none 0 0, .int .i64 0, .bool false] 44) = X0 := ⟨_, rfl⟩
  have bx : Bx X0 w.heap.size 44 #[.int .i64 0, .int .i64 0, .int .i64 0, .slice none 0 0, .int .i64 0, .bool false] := by rw [← hX0]; exact Bx.new _ _ _
  have bel : Below w.heap.size w X0 := by rw [← hX0]; exact ballc (Below.refl _ _) _
  obtain ⟨Y, hY⟩ : ∃ Y, (((((X0.setCell ⟨w.heap.size, 0, none⟩ (.int .i64 0)).setCell ⟨w.heap.size, 1, none⟩ (.int .i64 0)).setCell ⟨w.heap.size, 2, none⟩ (.int .i64 0)).setCell ⟨w.heap.size, 3, none⟩ (.slice none 0 0)).setCell ⟨w.heap.size, 4, none⟩ (.int .i64 0)).setCell ⟨w.heap.size, 5, none⟩ (.bool false) = Y := ⟨_, rfl⟩
  obtain ⟨bY, kY⟩ := set6 bx _ _ _ _ _ _ hY
  have HbY := hide bY
  have HB := hide (kY.below bel (fun i e => by omega))
  have HBel := hide bel
  have z0 := bx.cell 0 _ rfl
  have f0 := bx.frozen 0
  have z1 := bx.cell 1 _ rfl
  have f1 := bx.frozen 1
  have z2 := bx.cell 2 _ rfl
  have f2 := bx.frozen 2
  have z3 := bx.cell 3 _ rfl
  have f3 := bx.frozen 3
  have z4 := bx.cell 4 _ rfl
  have f4 := bx.frozen 4
  have z5 := bx.cell 5 _ rfl
  have f5 := bx.frozen 5
  clear bY kY bel bx h hf
  go_enter Try.func40, Try.ntmps40
  go_wp2_with fail
  refine (unhide HF _ (unhide HBel)).mono ?_
  rintro e W1 ⟨rfl, rfl⟩
  clear HF
  go_wp2
  refine bodyPost_ret (results_ct rfl _ _ w.heap.size _ _ _ _ rfl (unhide HbY) Try.underlying44 rfl sizeC) rfl ?_
  have hf := unhide Hf
  have e1 : tkC s k = zCp := by unfold tkC; rw [hf]; rfl
  have e2 : tkE s k = 11 := by unfold tkE; rw [hf]; rfl
  refine ⟨none, 0, ?_, ?_, ?_, Kp.of_below (unhide HB)⟩
  · rw [e1, e2]; rfl
  · rw [e1]; exact OwB.nil _ _ _
  · rw [tk_none hf]; exact (unhide HL).below (unhide HB)
set_option maxRecDepth 100000 in
set_option maxHeartbeats 4000000 in
theorem take_some (h : NL P w b s) (hP : ∀ i, P i → i < w.heap.size) {k : Int} (hk : in64 k) (hf : fnd s.ls k = some c) : Calls Try.prog 40 #[.pointer (some ⟨b, 0, none⟩), .int .i64 k] w (TkA P w b s k) := by
  obtain ⟨mo, pb, h⟩ := h
  have hbl := h.bx.lt
  have hm := fnd_mem hf
  have hnum := fnd_num hf
  obtain ⟨X0, hX0⟩ : ∃ X0, w.alloc (.cells #[.int .i64 0, .int .i64 0, .int .i64 0, .slice none 0 0, .int .i64 0, .bool false] 44) = X0 := ⟨_, rfl⟩
  have bx : Bx X0 w.heap.size 44 #[.int .i64 0, .int .i64 0, .int .i64 0, .slice none 0 0, .int .i64 0, .bool false] := by rw [← hX0]; exact Bx.new _ _ _
  have bel : Below w.heap.size w X0 := by rw [← hX0]; exact ballc (Below.refl _ _) _
  have h0 := h.kp (N := fun _ => False) (Kp.of_below bel) (fun _ e => e.elim)
  have HF := hide (find_some h0 hk hf)
  obtain ⟨m, n, rfl, _, _, _⟩ := h0.hasmap hf
  obtain ⟨f, vc, vs, hp⟩ := h0.pr c hm
  rw [hnum] at hp
  have c1 := h0.c1
  obtain ⟨X1, hd, h1, p1, k1⟩ := h0.less hk hf hp 0
  have b1 := bx.kp k1 (fun e => by have := hP _ e; omega)
  have d1 := h1.c1
  have df := h1.bx.frozen 1
  obtain ⟨m', n', e', hm', hmp', _⟩ : ∃ m' n', some m = some m' ∧ P m' ∧ MP X1 m' n' (gO pb (tkS s k).ls) ∧ (n' : Int) ≤ (tkS s k).la := by
    rcases h1.mp with ⟨e, _⟩ | h
    · cases e
    · exact h
  cases e'
  have hln := hmp'.len h1.gd 3
  have K1 := hide ((Kp.of_below bel).trans k1 (fun i hi => .inl hi))
  have FIN : Hid (∀ X2 mo2, NM P X2 b mo2 pb (tkS s k) → PR P X2 c (pb k) f vc vs → Bx X2 w.heap.size 44 #[.int .i64 0, .int .i64 0, .int .i64 0, .slice none 0 0, .int .i64 0, .bool false] → Kp P w X2 → Calls Try.prog 35 #[.pointer (some ⟨pb k, 0, none⟩), .int .i64 k] X2 fun e W => ∃ a q, e = .returned (cpV c (.slice a c.dat.length q)) ∧ Bx W w.heap.size 44 #[.int .i64 0, .int .i64 0, .int .i64 0, .slice none 0 0, .int .i64 0, .bool false] ∧ ∀ Y, Bx Y w.heap.size 44 #[.int .i64 c.num, .int .i64 c.frm, .int .i64 c.to, .slice a c.dat.length q, .int .i64 c.sent, .bool c.bad] → Kp (fun i => i = w.heap.size) W Y → TkA P w b s k (.returned (.tuple #[cpV c (.slice a c.dat.length q), .int .i64 0])) Y) := by
    intro X2 mo2 h2 p2 b2 k2
    have ht := tell_in p2 (h.gd.ln c hm).1 (h.gd.ln c hm).2
    rw [hnum] at ht
    refine ht.mono ?_
    rintro e W ⟨a, q, rfl, ho, hb⟩
    have hz2 := k2.size
    have hz3 := b2.lt
    refine ⟨a, q, rfl, b2.below hb, fun Y bY kY => ?_⟩
    have e1 : tkC s k = c := by unfold tkC; rw [hf]; rfl
    have e2 : tkE s k = 0 := by unfold tkE; rw [hf]; rfl
    refine ⟨a, q, by rw [e1, e2], ?_, ?_, ?_⟩
    · rw [e1]
      exact (ho.kp kY (fun i hi e => by have := ho.lt i hi; omega)).wk (by omega)
    · exact ((NL.below ⟨_, _, h2⟩ hb).kp kY (fun i e hi => by have := hP i hi; omega))
    · exact (k2.trans (Kp.of_below (N := fun _ => False) hb) (fun _ e => e.elim)).trans kY (fun i hi => .inr (by omega))
  have F1 := hide (unhide FIN X1 (some m) h1 p1 b1 (unhide K1))
  by_cases hz : (tkS s k).ls = []
  · have hl0 : ((tkS s k).ls.length : Nat) = 0 := by rw [hz]; rfl
    rw [hl0] at hln
    simp only [Int.natCast_zero] at hln
    obtain ⟨X2, hX2⟩ : ∃ X2, X1.setCell ⟨b, 1, none⟩ (.map none) = X2 := ⟨_, rfl⟩
    obtain ⟨h2, p2, k2⟩ := h1.off hz p1 hX2
    have F2 := hide (unhide FIN X2 none h2 p2 (b1.kp k2 (fun e => by have := hP _ e; omega)) ((unhide K1).trans k2 (fun i hi => .inl hi)))
    clear h h0 h1 h2 hp p1 p2 k1 k2 b1 hmp' hm' hl0 hz hf hm hnum hP hk bel FIN F1 K1 bx
    generalize hpb : pb k = q at *
    clear hpb
    unfold cpV at F2
    go_enter Try.func40, Try.ntmps40
    go_wp2_with fail
    refine (unhide HF).mono ?_
    rintro e W1 ⟨rfl, rfl⟩
    clear HF
    go_wp2_with fail
    refine (unhide F2).mono ?_
    rintro e W2 ⟨a2, q2, rfl, b2, fin⟩
    replace fin := hide fin
    obtain ⟨Y, hY⟩ : ∃ Y, (((((W2.setCell ⟨w.heap.size, 0, none⟩ (.int .i64 c.num)).setCell ⟨w.heap.size, 1, none⟩ (.int .i64 c.frm)).setCell ⟨w.heap.size, 2, none⟩ (.int .i64 c.to)).setCell ⟨w.heap.size, 3, none⟩ (.slice a2 c.dat.length q2)).setCell ⟨w.heap.size, 4, none⟩ (.int .i64 c.sent)).setCell ⟨w.heap.size, 5, none⟩ (.bool c.bad) = Y := ⟨_, rfl⟩
    obtain ⟨bY, kY⟩ := set6 b2 _ _ _ _ _ _ hY
    have FN := hide (unhide fin Y bY kY)
    have HbY := hide bY
    have z0 := b2.cell 0 _ rfl
    have f0 := b2.frozen 0
    have z1 := b2.cell 1 _ rfl
    have f1 := b2.frozen 1
    have z2 := b2.cell 2 _ rfl
    have f2 := b2.frozen 2
    have z3 := b2.cell 3 _ rfl
    have f3 := b2.frozen 3
    have z4 := b2.cell 4 _ rfl
    have f4 := b2.frozen 4
    have z5 := b2.cell 5 _ rfl
    have f5 := b2.frozen 5
    clear bY kY b2 fin F2
    go_wp2
    refine bodyPost_ret (results_ct rfl _ _ w.heap.size _ _ _ _ rfl (unhide HbY) Try.underlying44 rfl sizeC) rfl ?_
    exact unhide FN
  · have hl0 : (((tkS s k).ls.length : Nat) : Int) ≠ 0 := fun e => hz (List.eq_nil_of_length_eq_zero (by omega))
    have hl1 : ((((tkS s k).ls.length : Nat) : Int) == 0) = false := by rw [beq_eq_false_iff_ne]; exact hl0
    clear h h0 h1 hp p1 k1 b1 hmp' hm' hl0 hz hf hm hnum hP hk bel FIN K1 bx
    generalize hpb : pb k = q at *
    clear hpb
    generalize (tkS s k).ls.length = n0 at *
    unfold cpV at F1
    go_enter Try.func40, Try.ntmps40
    go_wp2_with fail
    refine (unhide HF).mono ?_
    rintro e W1 ⟨rfl, rfl⟩
    clear HF
    go_wp2_with fail
    refine (unhide F1).mono ?_
    rintro e W2 ⟨a2, q2, rfl, b2, fin⟩
    replace fin := hide fin
    obtain ⟨Y, hY⟩ : ∃ Y, (((((W2.setCell ⟨w.heap.size, 0, none⟩ (.int .i64 c.num)).setCell ⟨w.heap.size, 1, none⟩ (.int .i64 c.frm)).setCell ⟨w.heap.size, 2, none⟩ (.int .i64 c.to)).setCell ⟨w.heap.size, 3, none⟩ (.slice a2 c.dat.length q2)).setCell ⟨w.heap.size, 4, none⟩ (.int .i64 c.sent)).setCell ⟨w.heap.size, 5, none⟩ (.bool c.bad) = Y := ⟨_, rfl⟩
    obtain ⟨bY, kY⟩ := set6 b2 _ _ _ _ _ _ hY
    have FN := hide (unhide fin Y bY kY)
    have HbY := hide bY
    have z0 := b2.cell 0 _ rfl
    have f0 := b2.frozen 0
    have z1 := b2.cell 1 _ rfl
    have f1 := b2.frozen 1
    have z2 := b2.cell 2 _ rfl
    have f2 := b2.frozen 2
    have z3 := b2.cell 3 _ rfl
    have f3 := b2.frozen 3
    have z4 := b2.cell 4 _ rfl
    have f4 := b2.frozen 4
    have z5 := b2.cell 5 _ rfl
    have f5 := b2.frozen 5
    clear bY kY b2 fin F1
    go_wp2
    refine bodyPost_ret (results_ct rfl _ _ w.heap.size _ _ _ _ rfl (unhide HbY) Try.underlying44 rfl sizeC) rfl ?_
    exact unhide FN
theorem take_in (h : NL P w b s) (hP : ∀ i, P i → i < w.heap.size) {k : Int} (hk : in64 k) : Calls Try.prog 40 #[.pointer (some ⟨b, 0, none⟩), .int .i64 k] w (TkA P w b s k) := by
  cases hf : fnd s.ls k with
  | none => exact take_none h hk hf
  | some c => exact take_some h hP hk hf
set_option maxRecDepth 100000 in
set_option maxHeartbeats 4000000 in
theorem Deliver_in (h : NL P w b s) (hP : ∀ i, P i → i < w.heap.size) {k : Int} (hk : in64 k) : Calls Try.prog 18 #[.pointer (some ⟨b, 0, none⟩), .int .i64 k] w (TkA P w b s k) := by
  obtain ⟨X0, hX0⟩ : ∃ X0, w.alloc (.cells #[.int .i64 0, .int .i64 0, .int .i64 0, .slice none 0 0, .int .i64 0, .bool false] 44) = X0 := ⟨_, rfl⟩
  have bx : Bx X0 w.heap.size 44 #[.int .i64 0, .int .i64 0, .int .i64 0, .slice none 0 0, .int .i64 0, .bool false] := by rw [← hX0]; exact Bx.new _ _ _
  have bel : Below w.heap.size w X0 := by rw [← hX0]; exact ballc (Below.refl _ _) _
  have hz0 : X0.heap.size = w.heap.size + 1 := by rw [← hX0]; simp
  have HT : Hid (Calls Try.prog 40 #[.pointer (some ⟨b, 0, none⟩), .int .i64 k] X0 fun e W => ∃ a q, e = .returned (.tuple #[cpV (tkC s k) (.slice a (tkC s k).dat.length q), .int .i64 (tkE s k)]) ∧ Bx W w.heap.size 44 #[.int .i64 0, .int .i64 0, .int .i64 0, .slice none 0 0, .int .i64 0, .bool false] ∧ ∀ Y, Kp (fun i => i = w.heap.size) W Y → TkA P w b s k (.returned (.tuple #[cpV (tkC s k) (.slice a (tkC s k).dat.length q), .int .i64 (tkE s k)])) Y) := by
    refine (take_in (h.below bel) (fun i hi => by have := hP i hi; omega) hk).mono ?_
    rintro e W ⟨a, q, rfl, ho, hn, kk⟩
    refine ⟨a, q, rfl, bx.kp kk (fun e => by have := hP _ e; omega), fun Y kY => ⟨a, q, rfl, (ho.kp kY (fun i hi e => by have := ho.lt i hi; omega)).wk (by omega), hn.kp kY (fun i e hi => by have := hP i hi; omega), ((Kp.of_below bel).trans kk (fun i hi => .inl hi)).trans kY (fun i hi => .inr (by omega))⟩⟩
  clear bx bel hz0 h hP hk
  generalize tkC s k = c at *
  generalize tkE s k = er at *
  unfold cpV at HT
  go_enter Try.func18, Try.ntmps18
  go_wp2_with fail
  refine (unhide HT).mono ?_
  rintro e W2 ⟨a2, q2, rfl, b2, fin⟩
  replace fin := hide fin
  obtain ⟨Y, hY⟩ : ∃ Y, (((((W2.setCell ⟨w.heap.size, 0, none⟩ (.int .i64 c.num)).setCell ⟨w.heap.size, 1, none⟩ (.int .i64 c.frm)).setCell ⟨w.heap.size, 2, none⟩ (.int .i64 c.to)).setCell ⟨w.heap.size, 3, none⟩ (.slice a2 c.dat.length q2)).setCell ⟨w.heap.size, 4, none⟩ (.int .i64 c.sent)).setCell ⟨w.heap.size, 5, none⟩ (.bool c.bad) = Y := ⟨_, rfl⟩
  obtain ⟨bY, kY⟩ := set6 b2 _ _ _ _ _ _ hY
  have FN := hide (unhide fin Y kY)
  have HbY := hide bY
  have z0 := b2.cell 0 _ rfl
  have f0 := b2.frozen 0
  have z1 := b2.cell 1 _ rfl
  have f1 := b2.frozen 1
  have z2 := b2.cell 2 _ rfl
  have f2 := b2.frozen 2
  have z3 := b2.cell 3 _ rfl
  have f3 := b2.frozen 3
  have z4 := b2.cell 4 _ rfl
  have f4 := b2.frozen 4
  have z5 := b2.cell 5 _ rfl
  have f5 := b2.frozen 5
  clear bY kY b2 fin HT
  go_wp2
  refine bodyPost_ret (results_ct rfl _ _ w.heap.size _ _ _ _ rfl (unhide HbY) Try.underlying44 rfl sizeC) rfl ?_
  exact unhide FN
set_option maxRecDepth 100000 in
set_option maxHeartbeats 4000000 in
theorem Deliver_nil (k : Int) (w : World) : Calls Try.prog 18 #[.pointer none, .int .i64 k] w fun e W => e = .returned (.tuple #[nilC, .int .i64 1]) ∧ Below w.heap.size w W := by
  obtain ⟨X0, hX0⟩ : ∃ X0, w.alloc (.cells #[.int .i64 0, .int .i64 0, .int .i64 0, .slice none 0 0, .int .i64 0, .bool false] 44) = X0 := ⟨_, rfl⟩
  have bx : Bx X0 w.heap.size 44 #[.int .i64 0, .int .i64 0, .int .i64 0, .slice none 0 0, .int .i64 0, .bool false] := by rw [← hX0]; exact Bx.new _ _ _
  have bel : Below w.heap.size w X0 := by rw [← hX0]; exact ballc (Below.refl _ _) _
  have HT := hide (take_nil k X0)
  have HBX := hide bx
  have HBel := hide bel
  unfold nilC at *
  clear bx bel
  go_enter Try.func18, Try.ntmps18
  go_wp2_with fail
  refine (unhide HT).mono ?_
  rintro e W2 ⟨rfl, hb⟩
  have b2 := (unhide HBX).below hb
  have hbel := bnext (unhide HBel) hb
  obtain ⟨Y, hY⟩ : ∃ Y, (((((W2.setCell ⟨w.heap.size, 0, none⟩ (.int .i64 0)).setCell ⟨w.heap.size, 1, none⟩ (.int .i64 0)).setCell ⟨w.heap.size, 2, none⟩ (.int .i64 0)).setCell ⟨w.heap.size, 3, none⟩ (.slice none 0 0)).setCell ⟨w.heap.size, 4, none⟩ (.int .i64 0)).setCell ⟨w.heap.size, 5, none⟩ (.bool false) = Y := ⟨_, rfl⟩
  obtain ⟨bY, kY⟩ := set6 b2 _ _ _ _ _ _ hY
  have FN := hide (kY.below hbel (fun i e => by omega))
  have HbY := hide bY
  have z0 := b2.cell 0 _ rfl
  have f0 := b2.frozen 0
  have z1 := b2.cell 1 _ rfl
  have f1 := b2.frozen 1
  have z2 := b2.cell 2 _ rfl
  have f2 := b2.frozen 2
  have z3 := b2.cell 3 _ rfl
  have f3 := b2.frozen 3
  have z4 := b2.cell 4 _ rfl
  have f4 := b2.frozen 4
  have z5 := b2.cell 5 _ rfl
  have f5 := b2.frozen 5
  clear bY kY b2 HT hb hbel HBX HBel
  go_wp2
  refine bodyPost_ret (results_ct rfl _ _ w.heap.size _ _ _ _ rfl (unhide HbY) Try.underlying44 rfl sizeC) rfl ?_
  exact ⟨rfl, unhide FN⟩
set_option maxRecDepth 100000 in
set_option maxHeartbeats 4000000 in
theorem Drop_in (h : NL P w b s) (hP : ∀ i, P i → i < w.heap.size) {k : Int} (hk : in64 k) : Calls Try.prog 19 #[.pointer (some ⟨b, 0, none⟩), .int .i64 k] w (TkA P w b s k) := by
  obtain ⟨X0, hX0⟩ : ∃ X0, w.alloc (.cells #[.int .i64 0, .int .i64 0, .int .i64 0, .slice none 0 0, .int .i64 0, .bool false] 44) = X0 := ⟨_, rfl⟩
  have bx : Bx X0 w.heap.size 44 #[.int .i64 0, .int .i64 0, .int .i64 0, .slice none 0 0, .int .i64 0, .bool false] := by rw [← hX0]; exact Bx.new _ _ _
  have bel : Below w.heap.size w X0 := by rw [← hX0]; exact ballc (Below.refl _ _) _
  have hz0 : X0.heap.size = w.heap.size + 1 := by rw [← hX0]; simp
  have HT : Hid (Calls Try.prog 40 #[.pointer (some ⟨b, 0, none⟩), .int .i64 k] X0 fun e W => ∃ a q, e = .returned (.tuple #[cpV (tkC s k) (.slice a (tkC s k).dat.length q), .int .i64 (tkE s k)]) ∧ Bx W w.heap.size 44 #[.int .i64 0, .int .i64 0, .int .i64 0, .slice none 0 0, .int .i64 0, .bool false] ∧ ∀ Y, Kp (fun i => i = w.heap.size) W Y → TkA P w b s k (.returned (.tuple #[cpV (tkC s k) (.slice a (tkC s k).dat.length q), .int .i64 (tkE s k)])) Y) := by
    refine (take_in (h.below bel) (fun i hi => by have := hP i hi; omega) hk).mono ?_
    rintro e W ⟨a, q, rfl, ho, hn, kk⟩
    refine ⟨a, q, rfl, bx.kp kk (fun e => by have := hP _ e; omega), fun Y kY => ⟨a, q, rfl, (ho.kp kY (fun i hi e => by have := ho.lt i hi; omega)).wk (by omega), hn.kp kY (fun i e hi => by have := hP i hi; omega), ((Kp.of_below bel).trans kk (fun i hi => .inl hi)).trans kY (fun i hi => .inr (by omega))⟩⟩
  clear bx bel hz0 h hP hk
  generalize tkC s k = c at *
  generalize tkE s k = er at *
  unfold cpV at HT
  go_enter Try.func19, Try.ntmps19
  go_wp2_with fail
  refine (unhide HT).mono ?_
  rintro e W2 ⟨a2, q2, rfl, b2, fin⟩
  replace fin := hide fin
  obtain ⟨Y, hY⟩ : ∃ Y, (((((W2.setCell ⟨w.heap.size, 0, none⟩ (.int .i64 c.num)).setCell ⟨w.heap.size, 1, none⟩ (.int .i64 c.frm)).setCell ⟨w.heap.size, 2, none⟩ (.int .i64 c.to)).setCell ⟨w.heap.size, 3, none⟩ (.slice a2 c.dat.length q2)).setCell ⟨w.heap.size, 4, none⟩ (.int .i64 c.sent)).setCell ⟨w.heap.size, 5, none⟩ (.bool c.bad) = Y := ⟨_, rfl⟩
  obtain ⟨bY, kY⟩ := set6 b2 _ _ _ _ _ _ hY
  have FN := hide (unhide fin Y kY)
  have HbY := hide bY
  have z0 := b2.cell 0 _ rfl
  have f0 := b2.frozen 0
  have z1 := b2.cell 1 _ rfl
  have f1 := b2.frozen 1
  have z2 := b2.cell 2 _ rfl
  have f2 := b2.frozen 2
  have z3 := b2.cell 3 _ rfl
  have f3 := b2.frozen 3
  have z4 := b2.cell 4 _ rfl
  have f4 := b2.frozen 4
  have z5 := b2.cell 5 _ rfl
  have f5 := b2.frozen 5
  clear bY kY b2 fin HT
  go_wp2
  refine bodyPost_ret (results_ct rfl _ _ w.heap.size _ _ _ _ rfl (unhide HbY) Try.underlying44 rfl sizeC) rfl ?_
  exact unhide FN
set_option maxRecDepth 100000 in
set_option maxHeartbeats 4000000 in
theorem Drop_nil (k : Int) (w : World) : Calls Try.prog 19 #[.pointer none, .int .i64 k] w fun e W => e = .returned (.tuple #[nilC, .int .i64 1]) ∧ Below w.heap.size w W := by
  obtain ⟨X0, hX0⟩ : ∃ X0, w.alloc (.cells #[.int .i64 0, .int .i64 0, .int .i64 0, .slice none 0 0, .int .i64 0, .bool false] 44) = X0 := ⟨_, rfl⟩
  have bx : Bx X0 w.heap.size 44 #[.int .i64 0, .int .i64 0, .int .i64 0, .slice none 0 0, .int .i64 0, .bool false] := by rw [← hX0]; exact Bx.new _ _ _
  have bel : Below w.heap.size w X0 := by rw [← hX0]; exact ballc (Below.refl _ _) _
  have HT := hide (take_nil k X0)
  have HBX := hide bx
  have HBel := hide bel
  unfold nilC at *
  clear bx bel
  go_enter Try.func19, Try.ntmps19
  go_wp2_with fail
  refine (unhide HT).mono ?_
  rintro e W2 ⟨rfl, hb⟩
  have b2 := (unhide HBX).below hb
  have hbel := bnext (unhide HBel) hb
  obtain ⟨Y, hY⟩ : ∃ Y, (((((W2.setCell ⟨w.heap.size, 0, none⟩ (.int .i64 0)).setCell ⟨w.heap.size, 1, none⟩ (.int .i64 0)).setCell ⟨w.heap.size, 2, none⟩ (.int .i64 0)).setCell ⟨w.heap.size, 3, none⟩ (.slice none 0 0)).setCell ⟨w.heap.size, 4, none⟩ (.int .i64 0)).setCell ⟨w.heap.size, 5, none⟩ (.bool false) = Y := ⟨_, rfl⟩
  obtain ⟨bY, kY⟩ := set6 b2 _ _ _ _ _ _ hY
  have FN := hide (kY.below hbel (fun i e => by omega))
  have HbY := hide bY
  have z0 := b2.cell 0 _ rfl
  have f0 := b2.frozen 0
  have z1 := b2.cell 1 _ rfl
  have f1 := b2.frozen 1
  have z2 := b2.cell 2 _ rfl
  have f2 := b2.frozen 2
  have z3 := b2.cell 3 _ rfl
  have f3 := b2.frozen 3
  have z4 := b2.cell 4 _ rfl
  have f4 := b2.frozen 4
  have z5 := b2.cell 5 _ rfl
  have f5 := b2.frozen 5
  clear bY kY b2 HT hb hbel HBX HBel
  go_wp2
  refine bodyPost_ret (results_ct rfl _ _ w.heap.size _ _ _ _ rfl (unhide HbY) Try.underlying44 rfl sizeC) rfl ?_
  exact ⟨rfl, unhide FN⟩

end Go.Proofs.Yteomalmflebkhaa
