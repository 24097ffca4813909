/-
  refusals and Check of frame, of the document's example and of the zero frame.
-/
import Derived.Test.YtkffonoifbaifaaGreatZFD
import Derived.Laws.EntriesVeiled
set_option linter.unusedSimpArgs false
set_option linter.unusedVariables false
namespace Go.Proofs.YtkffonoifbaifaaGreat
open Go.RowKit Go.Lib

def cls3 (b : Nat) : List Value := [.func (.func 73) #[] #[.pointer (some ⟨b, 0, none⟩)], .func (.func 75) #[] #[.pointer (some ⟨b, 0, none⟩)], .func (.func 76) #[] #[.pointer (some ⟨b, 0, none⟩)]]
def cls5 (b : Nat) : List Value := [.func (.func 42) #[] #[.pointer (some ⟨b, 0, none⟩)], .func (.func 44) #[] #[.pointer (some ⟨b, 0, none⟩)], .func (.func 46) #[] #[.pointer (some ⟨b, 0, none⟩)], .func (.func 48) #[] #[.pointer (some ⟨b, 0, none⟩)], .func (.func 49) #[] #[.pointer (some ⟨b, 0, none⟩)]]
theorem infoC : (Tryz.prog.info? 61).map (fun i => (i.zero, i.size, i.bytes)) = some (some .nilFunc, 1, 8) := by kernel_rfl
theorem app_clo (W : World) (ty : TypeId) (N b b2 s5 s3 : Nat) (h5 : Bx W s5 61 (cls5 b).toArray) (h3 : Bx W s3 61 (cls3 b2).toArray) (hN : N ≤ s5) :
    ∃ a c W', (Builtin.append_ #[59, 59] ty #[.slice (some ⟨s5, 0, none⟩) 5 5, .slice (some ⟨s3, 0, none⟩) 3 3]).run Tryz.prog W = .ok (.slice a 8 c) W' ∧ RC W' (.slice a 8 c) 8 (cls5 b ++ cls3 b2) ∧ Kp (fun i => i = s5) W W' := by
  obtain ⟨i0, hi, hz0, hz1, hz2⟩ := info_parts infoC
  have ho : W.ownsRow N 61 1 (.slice (some ⟨s5, 0, none⟩) 5 5) 5 (cls5 b) := ⟨rfl, .inr ⟨s5, 5, (cls5 b).toArray, rfl, hN, h5, Nat.le_refl _, by unfold maxLen; omega, rfl, rfl⟩⟩
  obtain ⟨v', w', q1, q2, q3, _, _⟩ := run_append_own_at (P := Tryz.prog) W N 59 ty 61 i0 _ 1 8 Tryz.underlying59 hi hz0 hz1 hz2 rfl (by decide) _ 5 (cls5 b) ho ⟨s3, 0, none⟩ 3 3 (cls3 b2) rfl (fun j u hj => by rw [Addr.add_lit, Nat.zero_add]; exact h3.cell j u (by rw [List.getElem?_toArray]; exact hj)) (fun u hu => by simp [cls3] at hu; rcases hu with rfl | rfl | rfl <;> rfl) (by unfold maxLen; omega) (by omega) (Nat.le_trans hN (Nat.le_of_lt h5.lt))
  obtain ⟨a, c, rfl⟩ := owns_form q2
  exact ⟨a, c, w', q1, RC.of_owns q2, Kp.of_grown (N := fun i => i = s5) q3 (fun k e => by simp [Value.ownBlock] at e; exact e.symm)⟩

set_option maxRecDepth 100000 in
set_option maxHeartbeats 4000000 in
theorem opsRef_ex (hv : Value) (w : World) : Calls Tryz.prog 52 #[.agg #[Value.int .i64 1, Value.int .i64 1, Value.int .i64 2, Value.int .i64 3, Value.int .i64 4, Value.int .i64 5, Value.bool true, hv, (Value.slice none 0 0), (Value.slice none 0 0), (Value.slice none 0 0), (Value.int .i64 0), (Value.slice none 0 0), (Value.slice none 0 0), (Value.slice none 0 0), (Value.slice none 0 0), (Value.int .i64 0)]] w fun r W => ∃ b s, r = .returned (.slice (some ⟨s, 0, none⟩) 3 3) ∧ w.heap.size ≤ b ∧ w.heap.size ≤ s ∧ Bx W b 39 #[Value.int .i64 1, Value.int .i64 1, Value.int .i64 2, Value.int .i64 3, Value.int .i64 4, Value.int .i64 5, Value.bool true, hv, (Value.slice none 0 0), (Value.slice none 0 0), (Value.slice none 0 0), (Value.int .i64 0), (Value.slice none 0 0), (Value.slice none 0 0), (Value.slice none 0 0), (Value.slice none 0 0), (Value.int .i64 0)] ∧ Bx W s 61 (cls3 b).toArray ∧ Below w.heap.size w W := by
  obtain ⟨X, hX⟩ : ∃ X, w.alloc (.cells #[Value.int .i64 1, Value.int .i64 1, Value.int .i64 2, Value.int .i64 3, Value.int .i64 4, Value.int .i64 5, Value.bool true, hv, (Value.slice none 0 0), (Value.slice none 0 0), (Value.slice none 0 0), (Value.int .i64 0), (Value.slice none 0 0), (Value.slice none 0 0), (Value.slice none 0 0), (Value.slice none 0 0), (Value.int .i64 0)] 39) = X := ⟨_, rfl⟩
  have x1 : Bx X w.heap.size 39 #[Value.int .i64 1, Value.int .i64 1, Value.int .i64 2, Value.int .i64 3, Value.int .i64 4, Value.int .i64 5, Value.bool true, hv, (Value.slice none 0 0), (Value.slice none 0 0), (Value.slice none 0 0), (Value.int .i64 0), (Value.slice none 0 0), (Value.slice none 0 0), (Value.slice none 0 0), (Value.slice none 0 0), (Value.int .i64 0)] := by rw [← hX]; exact Bx.new _ _ _
  have bX : Below w.heap.size w X := by rw [← hX]; exact ballc (Below.refl _ _) _
  have sX : X.heap.size = w.heap.size + 1 := by rw [← hX]; simp
  obtain ⟨Y, hY⟩ : ∃ Y, X.alloc (.cells (cls3 w.heap.size).toArray 61) = Y := ⟨_, rfl⟩
  have y1 := x1.below (ballc (Below.refl _ _) (.cells (cls3 w.heap.size).toArray 61))
  have y2 := Bx.new X 61 (cls3 w.heap.size).toArray
  have bY := ballc bX (.cells (cls3 w.heap.size).toArray 61)
  rw [hY] at y1 y2 bY
  rw [sX] at y2
  have H := hide (show Bx Y w.heap.size 39 #[Value.int .i64 1, Value.int .i64 1, Value.int .i64 2, Value.int .i64 3, Value.int .i64 4, Value.int .i64 5, Value.bool true, hv, (Value.slice none 0 0), (Value.slice none 0 0), (Value.slice none 0 0), (Value.int .i64 0), (Value.slice none 0 0), (Value.slice none 0 0), (Value.slice none 0 0), (Value.slice none 0 0), (Value.int .i64 0)] ∧ Bx Y (w.heap.size + 1) 61 (cls3 w.heap.size).toArray ∧ Below w.heap.size w Y from ⟨y1, y2, bY⟩)
  rw [← hX] at hY
  unfold cls3 at hY
  subst hY
  clear x1 bX sX hX y1 y2 bY X
  go_enter Tryz.func52, Tryz.ntmps52
  go_wp2
  go_ret
  exact ⟨w.heap.size, w.heap.size + 1, rfl, Nat.le_refl _, by omega, (unhide H).1, (unhide H).2.1, (unhide H).2.2⟩

set_option maxRecDepth 100000 in
set_option maxHeartbeats 4000000 in
theorem opsRef_zr (hv : Value) (w : World) : Calls Tryz.prog 52 #[.agg #[Value.int .i64 0, Value.int .i64 0, Value.int .i64 0, Value.int .i64 0, Value.int .i64 0, Value.int .i64 0, Value.bool false, (Value.slice none 0 0), (Value.slice none 0 0), (Value.slice none 0 0), (Value.slice none 0 0), (Value.int .i64 0), (Value.slice none 0 0), (Value.slice none 0 0), (Value.slice none 0 0), (Value.slice none 0 0), (Value.int .i64 0)]] w fun r W => ∃ b s, r = .returned (.slice (some ⟨s, 0, none⟩) 3 3) ∧ w.heap.size ≤ b ∧ w.heap.size ≤ s ∧ Bx W b 39 #[Value.int .i64 0, Value.int .i64 0, Value.int .i64 0, Value.int .i64 0, Value.int .i64 0, Value.int .i64 0, Value.bool false, (Value.slice none 0 0), (Value.slice none 0 0), (Value.slice none 0 0), (Value.slice none 0 0), (Value.int .i64 0), (Value.slice none 0 0), (Value.slice none 0 0), (Value.slice none 0 0), (Value.slice none 0 0), (Value.int .i64 0)] ∧ Bx W s 61 (cls3 b).toArray ∧ Below w.heap.size w W := by
  obtain ⟨X, hX⟩ : ∃ X, w.alloc (.cells #[Value.int .i64 0, Value.int .i64 0, Value.int .i64 0, Value.int .i64 0, Value.int .i64 0, Value.int .i64 0, Value.bool false, (Value.slice none 0 0), (Value.slice none 0 0), (Value.slice none 0 0), (Value.slice none 0 0), (Value.int .i64 0), (Value.slice none 0 0), (Value.slice none 0 0), (Value.slice none 0 0), (Value.slice none 0 0), (Value.int .i64 0)] 39) = X := ⟨_, rfl⟩
  have x1 : Bx X w.heap.size 39 #[Value.int .i64 0, Value.int .i64 0, Value.int .i64 0, Value.int .i64 0, Value.int .i64 0, Value.int .i64 0, Value.bool false, (Value.slice none 0 0), (Value.slice none 0 0), (Value.slice none 0 0), (Value.slice none 0 0), (Value.int .i64 0), (Value.slice none 0 0), (Value.slice none 0 0), (Value.slice none 0 0), (Value.slice none 0 0), (Value.int .i64 0)] := by rw [← hX]; exact Bx.new _ _ _
  have bX : Below w.heap.size w X := by rw [← hX]; exact ballc (Below.refl _ _) _
  have sX : X.heap.size = w.heap.size + 1 := by rw [← hX]; simp
  obtain ⟨Y, hY⟩ : ∃ Y, X.alloc (.cells (cls3 w.heap.size).toArray 61) = Y := ⟨_, rfl⟩
  have y1 := x1.below (ballc (Below.refl _ _) (.cells (cls3 w.heap.size).toArray 61))
  have y2 := Bx.new X 61 (cls3 w.heap.size).toArray
  have bY := ballc bX (.cells (cls3 w.heap.size).toArray 61)
  rw [hY] at y1 y2 bY
  rw [sX] at y2
  have H := hide (show Bx Y w.heap.size 39 #[Value.int .i64 0, Value.int .i64 0, Value.int .i64 0, Value.int .i64 0, Value.int .i64 0, Value.int .i64 0, Value.bool false, (Value.slice none 0 0), (Value.slice none 0 0), (Value.slice none 0 0), (Value.slice none 0 0), (Value.int .i64 0), (Value.slice none 0 0), (Value.slice none 0 0), (Value.slice none 0 0), (Value.slice none 0 0), (Value.int .i64 0)] ∧ Bx Y (w.heap.size + 1) 61 (cls3 w.heap.size).toArray ∧ Below w.heap.size w Y from ⟨y1, y2, bY⟩)
  rw [← hX] at hY
  unfold cls3 at hY
  subst hY
  clear x1 bX sX hX y1 y2 bY X
  go_enter Tryz.func52, Tryz.ntmps52
  go_wp2
  go_ret
  exact ⟨w.heap.size, w.heap.size + 1, rfl, Nat.le_refl _, by omega, (unhide H).1, (unhide H).2.1, (unhide H).2.2⟩

set_option maxRecDepth 100000 in
set_option maxHeartbeats 4000000 in
theorem refus_ex (hv : Value) (w : World) : Calls Tryz.prog 20 #[.agg #[Value.int .i64 1, Value.int .i64 1, Value.int .i64 2, Value.int .i64 3, Value.int .i64 4, Value.int .i64 5, Value.bool true, hv, (Value.slice none 0 0), (Value.slice none 0 0), (Value.slice none 0 0), (Value.int .i64 0), (Value.slice none 0 0), (Value.slice none 0 0), (Value.slice none 0 0), (Value.slice none 0 0), (Value.int .i64 0)]] w fun r W => ∃ a c b b2, r = .returned (.slice a 8 c) ∧ Bx W b 39 #[Value.int .i64 1, Value.int .i64 1, Value.int .i64 2, Value.int .i64 3, Value.int .i64 4, Value.int .i64 5, Value.bool true, hv, (Value.slice none 0 0), (Value.slice none 0 0), (Value.slice none 0 0), (Value.int .i64 0), (Value.slice none 0 0), (Value.slice none 0 0), (Value.slice none 0 0), (Value.slice none 0 0), (Value.int .i64 0)] ∧ Bx W b2 39 #[Value.int .i64 1, Value.int .i64 1, Value.int .i64 2, Value.int .i64 3, Value.int .i64 4, Value.int .i64 5, Value.bool true, hv, (Value.slice none 0 0), (Value.slice none 0 0), (Value.slice none 0 0), (Value.int .i64 0), (Value.slice none 0 0), (Value.slice none 0 0), (Value.slice none 0 0), (Value.slice none 0 0), (Value.int .i64 0)] ∧ RC W (.slice a 8 c) 8 (cls5 b ++ cls3 b2) ∧ Below w.heap.size w W := by
  obtain ⟨X, hX⟩ : ∃ X, w.alloc (.cells #[Value.int .i64 1, Value.int .i64 1, Value.int .i64 2, Value.int .i64 3, Value.int .i64 4, Value.int .i64 5, Value.bool true, hv, (Value.slice none 0 0), (Value.slice none 0 0), (Value.slice none 0 0), (Value.int .i64 0), (Value.slice none 0 0), (Value.slice none 0 0), (Value.slice none 0 0), (Value.slice none 0 0), (Value.int .i64 0)] 39) = X := ⟨_, rfl⟩
  have x1 : Bx X w.heap.size 39 #[Value.int .i64 1, Value.int .i64 1, Value.int .i64 2, Value.int .i64 3, Value.int .i64 4, Value.int .i64 5, Value.bool true, hv, (Value.slice none 0 0), (Value.slice none 0 0), (Value.slice none 0 0), (Value.int .i64 0), (Value.slice none 0 0), (Value.slice none 0 0), (Value.slice none 0 0), (Value.slice none 0 0), (Value.int .i64 0)] := by rw [← hX]; exact Bx.new _ _ _
  have bX : Below w.heap.size w X := by rw [← hX]; exact ballc (Below.refl _ _) _
  have sX : X.heap.size = w.heap.size + 1 := by rw [← hX]; simp
  obtain ⟨Y, hY⟩ : ∃ Y, X.alloc (.cells (cls5 w.heap.size).toArray 61) = Y := ⟨_, rfl⟩
  have y1 := x1.below (ballc (Below.refl _ _) (.cells (cls5 w.heap.size).toArray 61))
  have y2 := Bx.new X 61 (cls5 w.heap.size).toArray
  have bY := ballc bX (.cells (cls5 w.heap.size).toArray 61)
  rw [hY] at y1 y2 bY
  rw [sX] at y2
  have H := hide (show Bx Y w.heap.size 39 #[Value.int .i64 1, Value.int .i64 1, Value.int .i64 2, Value.int .i64 3, Value.int .i64 4, Value.int .i64 5, Value.bool true, hv, (Value.slice none 0 0), (Value.slice none 0 0), (Value.slice none 0 0), (Value.int .i64 0), (Value.slice none 0 0), (Value.slice none 0 0), (Value.slice none 0 0), (Value.slice none 0 0), (Value.int .i64 0)] ∧ Bx Y (w.heap.size + 1) 61 (cls5 w.heap.size).toArray ∧ Below w.heap.size w Y from ⟨y1, y2, bY⟩)
  rw [← hX] at hY
  unfold cls5 at hY
  subst hY
  clear x1 bX sX hX y1 y2 bY X
  go_enter Tryz.func20, Tryz.ntmps20
  go_wp2_with fail
  refine (opsRef_ex hv _).mono ?_
  rintro r W1 ⟨b2, s3, rfl, hb, hs, x3, x4, bl⟩
  have h1 := (unhide H).1.below bl
  have h2 := (unhide H).2.1.below bl
  have h3 := bnext (unhide H).2.2 bl
  obtain ⟨a, c, W2, hap, hrow, kk⟩ := app_clo W1 59 (w.heap.size + 1) w.heap.size b2 (w.heap.size + 1) s3 h2 x4 (Nat.le_refl _)
  have g1 := h1.kp kk (by omega)
  have g3 := x3.kp kk (by
    intro e
    have h4 := h2
    unfold Bx at h4
    have h5 := x3
    unfold Bx at h5
    rw [e, h4] at h5
    simp at h5)
  have HR := hide (show Bx W2 w.heap.size 39 #[Value.int .i64 1, Value.int .i64 1, Value.int .i64 2, Value.int .i64 3, Value.int .i64 4, Value.int .i64 5, Value.bool true, hv, (Value.slice none 0 0), (Value.slice none 0 0), (Value.slice none 0 0), (Value.int .i64 0), (Value.slice none 0 0), (Value.slice none 0 0), (Value.slice none 0 0), (Value.slice none 0 0), (Value.int .i64 0)] ∧ Bx W2 b2 39 #[Value.int .i64 1, Value.int .i64 1, Value.int .i64 2, Value.int .i64 3, Value.int .i64 4, Value.int .i64 5, Value.bool true, hv, (Value.slice none 0 0), (Value.slice none 0 0), (Value.slice none 0 0), (Value.int .i64 0), (Value.slice none 0 0), (Value.slice none 0 0), (Value.slice none 0 0), (Value.slice none 0 0), (Value.int .i64 0)] ∧ RC W2 (.slice a 8 c) 8 (cls5 w.heap.size ++ cls3 b2) ∧ Below w.heap.size w W2 from ⟨g1, g3, hrow, kk.below h3 (fun i e => by omega)⟩)
  have HA := hide hap
  clear hap hrow kk g1 g3 h1 h2 h3 x3 x4 bl hb hs H
  go_wp2_with (at_builtin; refine wpList_append_eq rfl _ _ 59 rfl _ _ _ _ rfl rfl (unhide HA) ?_)
  go_ret
  exact ⟨a, c, _, _, rfl, unhide HR⟩

set_option maxRecDepth 100000 in
set_option maxHeartbeats 4000000 in
theorem refus_zr (hv : Value) (w : World) : Calls Tryz.prog 20 #[.agg #[Value.int .i64 0, Value.int .i64 0, Value.int .i64 0, Value.int .i64 0, Value.int .i64 0, Value.int .i64 0, Value.bool false, (Value.slice none 0 0), (Value.slice none 0 0), (Value.slice none 0 0), (Value.slice none 0 0), (Value.int .i64 0), (Value.slice none 0 0), (Value.slice none 0 0), (Value.slice none 0 0), (Value.slice none 0 0), (Value.int .i64 0)]] w fun r W => ∃ a c b b2, r = .returned (.slice a 8 c) ∧ Bx W b 39 #[Value.int .i64 0, Value.int .i64 0, Value.int .i64 0, Value.int .i64 0, Value.int .i64 0, Value.int .i64 0, Value.bool false, (Value.slice none 0 0), (Value.slice none 0 0), (Value.slice none 0 0), (Value.slice none 0 0), (Value.int .i64 0), (Value.slice none 0 0), (Value.slice none 0 0), (Value.slice none 0 0), (Value.slice none 0 0), (Value.int .i64 0)] ∧ Bx W b2 39 #[Value.int .i64 0, Value.int .i64 0, Value.int .i64 0, Value.int .i64 0, Value.int .i64 0, Value.int .i64 0, Value.bool false, (Value.slice none 0 0), (Value.slice none 0 0), (Value.slice none 0 0), (Value.slice none 0 0), (Value.int .i64 0), (Value.slice none 0 0), (Value.slice none 0 0), (Value.slice none 0 0), (Value.slice none 0 0), (Value.int .i64 0)] ∧ RC W (.slice a 8 c) 8 (cls5 b ++ cls3 b2) ∧ Below w.heap.size w W := by
  obtain ⟨X, hX⟩ : ∃ X, w.alloc (.cells #[Value.int .i64 0, Value.int .i64 0, Value.int .i64 0, Value.int .i64 0, Value.int .i64 0, Value.int .i64 0, Value.bool false, (Value.slice none 0 0), (Value.slice none 0 0), (Value.slice none 0 0), (Value.slice none 0 0), (Value.int .i64 0), (Value.slice none 0 0), (Value.slice none 0 0), (Value.slice none 0 0), (Value.slice none 0 0), (Value.int .i64 0)] 39) = X := ⟨_, rfl⟩
  have x1 : Bx X w.heap.size 39 #[Value.int .i64 0, Value.int .i64 0, Value.int .i64 0, Value.int .i64 0, Value.int .i64 0, Value.int .i64 0, Value.bool false, (Value.slice none 0 0), (Value.slice none 0 0), (Value.slice none 0 0), (Value.slice none 0 0), (Value.int .i64 0), (Value.slice none 0 0), (Value.slice none 0 0), (Value.slice none 0 0), (Value.slice none 0 0), (Value.int .i64 0)] := by rw [← hX]; exact Bx.new _ _ _
  have bX : Below w.heap.size w X := by rw [← hX]; exact ballc (Below.refl _ _) _
  have sX : X.heap.size = w.heap.size + 1 := by rw [← hX]; simp
  obtain ⟨Y, hY⟩ : ∃ Y, X.alloc (.cells (cls5 w.heap.size).toArray 61) = Y := ⟨_, rfl⟩
  have y1 := x1.below (ballc (Below.refl _ _) (.cells (cls5 w.heap.size).toArray 61))
  have y2 := Bx.new X 61 (cls5 w.heap.size).toArray
  have bY := ballc bX (.cells (cls5 w.heap.size).toArray 61)
  rw [hY] at y1 y2 bY
  rw [sX] at y2
  have H := hide (show Bx Y w.heap.size 39 #[Value.int .i64 0, Value.int .i64 0, Value.int .i64 0, Value.int .i64 0, Value.int .i64 0, Value.int .i64 0, Value.bool false, (Value.slice none 0 0), (Value.slice none 0 0), (Value.slice none 0 0), (Value.slice none 0 0), (Value.int .i64 0), (Value.slice none 0 0), (Value.slice none 0 0), (Value.slice none 0 0), (Value.slice none 0 0), (Value.int .i64 0)] ∧ Bx Y (w.heap.size + 1) 61 (cls5 w.heap.size).toArray ∧ Below w.heap.size w Y from ⟨y1, y2, bY⟩)
  rw [← hX] at hY
  unfold cls5 at hY
  subst hY
  clear x1 bX sX hX y1 y2 bY X
  go_enter Tryz.func20, Tryz.ntmps20
  go_wp2_with fail
  refine (opsRef_zr hv _).mono ?_
  rintro r W1 ⟨b2, s3, rfl, hb, hs, x3, x4, bl⟩
  have h1 := (unhide H).1.below bl
  have h2 := (unhide H).2.1.below bl
  have h3 := bnext (unhide H).2.2 bl
  obtain ⟨a, c, W2, hap, hrow, kk⟩ := app_clo W1 59 (w.heap.size + 1) w.heap.size b2 (w.heap.size + 1) s3 h2 x4 (Nat.le_refl _)
  have g1 := h1.kp kk (by omega)
  have g3 := x3.kp kk (by
    intro e
    have h4 := h2
    unfold Bx at h4
    have h5 := x3
    unfold Bx at h5
    rw [e, h4] at h5
    simp at h5)
  have HR := hide (show Bx W2 w.heap.size 39 #[Value.int .i64 0, Value.int .i64 0, Value.int .i64 0, Value.int .i64 0, Value.int .i64 0, Value.int .i64 0, Value.bool false, (Value.slice none 0 0), (Value.slice none 0 0), (Value.slice none 0 0), (Value.slice none 0 0), (Value.int .i64 0), (Value.slice none 0 0), (Value.slice none 0 0), (Value.slice none 0 0), (Value.slice none 0 0), (Value.int .i64 0)] ∧ Bx W2 b2 39 #[Value.int .i64 0, Value.int .i64 0, Value.int .i64 0, Value.int .i64 0, Value.int .i64 0, Value.int .i64 0, Value.bool false, (Value.slice none 0 0), (Value.slice none 0 0), (Value.slice none 0 0), (Value.slice none 0 0), (Value.int .i64 0), (Value.slice none 0 0), (Value.slice none 0 0), (Value.slice none 0 0), (Value.slice none 0 0), (Value.int .i64 0)] ∧ RC W2 (.slice a 8 c) 8 (cls5 w.heap.size ++ cls3 b2) ∧ Below w.heap.size w W2 from ⟨g1, g3, hrow, kk.below h3 (fun i e => by omega)⟩)
  have HA := hide hap
  clear hap hrow kk g1 g3 h1 h2 h3 x3 x4 bl hb hs H
  go_wp2_with (at_builtin; refine wpList_append_eq rfl _ _ 59 rfl _ _ _ _ rfl rfl (unhide HA) ?_)
  go_ret
  exact ⟨a, c, _, _, rfl, unhide HR⟩

set_option maxRecDepth 100000 in
set_option maxHeartbeats 8000000 in
theorem fCheck_ex (hv : Value) (w : World) (hr : RI w hv [(1, 7)]) : Calls Tryz.prog 11 #[.agg #[Value.int .i64 1, Value.int .i64 1, Value.int .i64 2, Value.int .i64 3, Value.int .i64 4, Value.int .i64 5, Value.bool true, hv, (Value.slice none 0 0), (Value.slice none 0 0), (Value.slice none 0 0), (Value.int .i64 0), (Value.slice none 0 0), (Value.slice none 0 0), (Value.slice none 0 0), (Value.slice none 0 0), (Value.int .i64 0)]] w fun r W => r = .returned (.int .i64 0) ∧ Below w.heap.size w W := by
  have HB0 := hide (ballc (Below.refl w.heap.size w) (.cells #[Value.int .i64 1, Value.int .i64 1, Value.int .i64 2, Value.int .i64 3, Value.int .i64 4, Value.int .i64 5, Value.bool true, hv, (Value.slice none 0 0), (Value.slice none 0 0), (Value.slice none 0 0), (Value.int .i64 0), (Value.slice none 0 0), (Value.slice none 0 0), (Value.slice none 0 0), (Value.slice none 0 0), (Value.int .i64 0)] 39))
  have HR := hide hr
  clear hr
  go_enter Tryz.func11, Tryz.ntmps11
  go_wp2_with fail
  refine (refus_ex hv _).mono ?_
  rintro r W1 ⟨a, c, b, b2, rfl, x1, x2, hrow, bl⟩
  obtain ⟨rb, ro, ea, hc⟩ : ∃ rb ro, a = some ⟨rb, ro, none⟩ ∧ ∀ j x, (cls5 b ++ cls3 b2)[j]? = some x → W1.cell? ⟨rb, ro + j, none⟩ = some x := by
    rcases hrow with ⟨e, _⟩ | ⟨rb, ro, cc, e, _, _, h⟩
    · cases e
    · simp at e
      exact ⟨rb, ro, e.1, h⟩
  subst ea
  have HC := hide hc
  have H1 := hide x1
  have H2 := hide x2
  have HB := hide (bnext (unhide HB0) bl)
  clear hc x1 x2 bl hrow HB0
  go_wp2
  go_loopw [9] (fun iv wr => ∃ i : Nat, i ≤ 8 ∧ iv = .int .i64 (i : Nat) ∧ Hid (Below W1.heap.size W1 wr)) (fun iv _ => 8 - (RowKit.intOf iv).toNat)
  case atStart => exact ⟨0, Nat.zero_le _, rfl, hide (Below.refl _ _)⟩
  case round =>
    obtain ⟨i, hi, rfl, HI⟩ := hrel
    obtain rfl | rfl | rfl | rfl | rfl | rfl | rfl | rfl | rfl : i = 0 ∨ i = 1 ∨ i = 2 ∨ i = 3 ∨ i = 4 ∨ i = 5 ∨ i = 6 ∨ i = 7 ∨ i = 8 := by omega
    · have k0 : wr.cell? ⟨rb, ro + 0, none⟩ = some (Value.func (.func 42) #[] #[.pointer (some ⟨b, 0, none⟩)]) := cell_below (unhide HC 0 _ rfl) (unhide HI)
      have k9 : (0 : Int) < 8 := by decide
      simp only [Nat.add_zero] at k0
      go_wp2_with fail
      refine (clo1 ((unhide H1).below (unhide HI))).mono ?_
      rintro r W2 ⟨rfl, hb⟩
      have HJ := hide (bnext (unhide HI) hb)
      clear hb k0 k9
      go_wp2
      go_roundw
      case rel => exact ⟨1, by omega, by go_num, HJ⟩
      case measure => decide
    · have k0 : wr.cell? ⟨rb, ro + 1, none⟩ = some (Value.func (.func 44) #[] #[.pointer (some ⟨b, 0, none⟩)]) := cell_below (unhide HC 1 _ rfl) (unhide HI)
      have k9 : (1 : Int) < 8 := by decide
      go_wp2_with fail
      refine (clo2 ((unhide H1).below (unhide HI))).mono ?_
      rintro r W2 ⟨rfl, hb⟩
      have HJ := hide (bnext (unhide HI) hb)
      clear hb k0 k9
      go_wp2
      go_roundw
      case rel => exact ⟨2, by omega, by go_num, HJ⟩
      case measure => decide
    · have k0 : wr.cell? ⟨rb, ro + 2, none⟩ = some (Value.func (.func 46) #[] #[.pointer (some ⟨b, 0, none⟩)]) := cell_below (unhide HC 2 _ rfl) (unhide HI)
      have k9 : (2 : Int) < 8 := by decide
      go_wp2_with fail
      refine (clo3 ((unhide H1).below (unhide HI))).mono ?_
      rintro r W2 ⟨rfl, hb⟩
      have HJ := hide (bnext (unhide HI) hb)
      clear hb k0 k9
      go_wp2
      go_roundw
      case rel => exact ⟨3, by omega, by go_num, HJ⟩
      case measure => decide
    · have k0 : wr.cell? ⟨rb, ro + 3, none⟩ = some (Value.func (.func 48) #[] #[.pointer (some ⟨b, 0, none⟩)]) := cell_below (unhide HC 3 _ rfl) (unhide HI)
      have k9 : (3 : Int) < 8 := by decide
      go_wp2_with fail
      refine (clo4 ((unhide H1).below (unhide HI))).mono ?_
      rintro r W2 ⟨rfl, hb⟩
      have HJ := hide (bnext (unhide HI) hb)
      clear hb k0 k9
      go_wp2
      go_roundw
      case rel => exact ⟨4, by omega, by go_num, HJ⟩
      case measure => decide
    · have k0 : wr.cell? ⟨rb, ro + 4, none⟩ = some (Value.func (.func 49) #[] #[.pointer (some ⟨b, 0, none⟩)]) := cell_below (unhide HC 4 _ rfl) (unhide HI)
      have k9 : (4 : Int) < 8 := by decide
      go_wp2_with fail
      refine (clo5 ((unhide H1).below (unhide HI)) ((unhide HR).below (bnext (unhide HB) (unhide HI)))).mono ?_
      rintro r W2 ⟨rfl, hb⟩
      have HJ := hide (bnext (unhide HI) hb)
      clear hb k0 k9
      go_wp2
      go_roundw
      case rel => exact ⟨5, by omega, by go_num, HJ⟩
      case measure => decide
    · have k0 : wr.cell? ⟨rb, ro + 5, none⟩ = some (Value.func (.func 73) #[] #[.pointer (some ⟨b2, 0, none⟩)]) := cell_below (unhide HC 5 _ rfl) (unhide HI)
      have k9 : (5 : Int) < 8 := by decide
      go_wp2_with fail
      refine (clo6 ((unhide H2).below (unhide HI))).mono ?_
      rintro r W2 ⟨rfl, hb⟩
      have HJ := hide (bnext (unhide HI) hb)
      clear hb k0 k9
      go_wp2
      go_roundw
      case rel => exact ⟨6, by omega, by go_num, HJ⟩
      case measure => decide
    · have k0 : wr.cell? ⟨rb, ro + 6, none⟩ = some (Value.func (.func 75) #[] #[.pointer (some ⟨b2, 0, none⟩)]) := cell_below (unhide HC 6 _ rfl) (unhide HI)
      have k9 : (6 : Int) < 8 := by decide
      go_wp2_with fail
      refine (clo7 ((unhide H2).below (unhide HI))).mono ?_
      rintro r W2 ⟨rfl, hb⟩
      have HJ := hide (bnext (unhide HI) hb)
      clear hb k0 k9
      go_wp2
      go_roundw
      case rel => exact ⟨7, by omega, by go_num, HJ⟩
      case measure => decide
    · have k0 : wr.cell? ⟨rb, ro + 7, none⟩ = some (Value.func (.func 76) #[] #[.pointer (some ⟨b2, 0, none⟩)]) := cell_below (unhide HC 7 _ rfl) (unhide HI)
      have k9 : (7 : Int) < 8 := by decide
      go_wp2_with fail
      refine (clo8 ((unhide H2).below (unhide HI))).mono ?_
      rintro r W2 ⟨rfl, hb⟩
      have HJ := hide (bnext (unhide HI) hb)
      clear hb k0 k9
      go_wp2
      go_roundw
      case rel => exact ⟨8, by omega, by go_num, HJ⟩
      case measure => decide
    · go_wp2
      go_ret
      exact ⟨rfl, bnext (unhide HB) (unhide HI)⟩

set_option maxRecDepth 100000 in
set_option maxHeartbeats 8000000 in
theorem fCheck_zr (hv : Value) (w : World) : Calls Tryz.prog 11 #[.agg #[Value.int .i64 0, Value.int .i64 0, Value.int .i64 0, Value.int .i64 0, Value.int .i64 0, Value.int .i64 0, Value.bool false, (Value.slice none 0 0), (Value.slice none 0 0), (Value.slice none 0 0), (Value.slice none 0 0), (Value.int .i64 0), (Value.slice none 0 0), (Value.slice none 0 0), (Value.slice none 0 0), (Value.slice none 0 0), (Value.int .i64 0)]] w fun r W => r = .returned (.int .i64 1) ∧ Below w.heap.size w W := by
  have HB0 := hide (ballc (Below.refl w.heap.size w) (.cells #[Value.int .i64 0, Value.int .i64 0, Value.int .i64 0, Value.int .i64 0, Value.int .i64 0, Value.int .i64 0, Value.bool false, (Value.slice none 0 0), (Value.slice none 0 0), (Value.slice none 0 0), (Value.slice none 0 0), (Value.int .i64 0), (Value.slice none 0 0), (Value.slice none 0 0), (Value.slice none 0 0), (Value.slice none 0 0), (Value.int .i64 0)] 39))
  go_enter Tryz.func11, Tryz.ntmps11
  go_wp2_with fail
  refine (refus_zr hv _).mono ?_
  rintro r W1 ⟨a, c, b, b2, rfl, x1, x2, hrow, bl⟩
  obtain ⟨rb, ro, ea, hc⟩ : ∃ rb ro, a = some ⟨rb, ro, none⟩ ∧ ∀ j x, (cls5 b ++ cls3 b2)[j]? = some x → W1.cell? ⟨rb, ro + j, none⟩ = some x := by
    rcases hrow with ⟨e, _⟩ | ⟨rb, ro, cc, e, _, _, h⟩
    · cases e
    · simp at e
      exact ⟨rb, ro, e.1, h⟩
  subst ea
  have HC := hide hc
  have H1 := hide x1
  have H2 := hide x2
  have HB := hide (bnext (unhide HB0) bl)
  clear hc x1 x2 bl hrow HB0
  go_wp2
  go_loopw [9] (fun iv wr => ∃ i : Nat, i ≤ 8 ∧ iv = .int .i64 (i : Nat) ∧ Hid (Below W1.heap.size W1 wr) ∧ i = 0) (fun iv _ => 8 - (RowKit.intOf iv).toNat)
  case atStart => exact ⟨0, Nat.zero_le _, rfl, hide (Below.refl _ _), rfl⟩
  case round =>
    obtain ⟨i, hi, rfl, HI, hz⟩ := hrel
    have k0 : wr.cell? ⟨rb, ro, none⟩ = some (Value.func (.func 42) #[] #[.pointer (some ⟨b, 0, none⟩)]) := cell_below (unhide HC 0 _ rfl) (unhide HI)
    obtain rfl : i = 0 := by omega
    go_wp2_with fail
    refine (clo1z (hv := hv) ((unhide H1).below (unhide HI))).mono ?_
    rintro r W2 ⟨rfl, hb⟩
    have HJ := hide (bnext (unhide HB) (bnext (unhide HI) hb))
    clear hb k0
    go_wp2
    go_ret
    exact ⟨rfl, unhide HJ⟩
end Go.Proofs.YtkffonoifbaifaaGreat
