/-
  The document's own spots of all places.
-/
import Derived.Test.YtjgkkkfonioplaaZR3a
import Derived.Test.YtjgkkkfonioplaaZXReg
import Derived.Test.YtjgkkkfonioplaaZPlW
set_option linter.unusedSimpArgs false
set_option linter.unusedVariables false
namespace Go.Proofs.Ytjgkkkfonioplaa
open Go.RowKit Go.Lib

/-- the spots of all places lie in a row -/
def SpAt (s : ByteArray) (v : Value) (W : World) : Prop := ∃ g cap, v = .slice (some ⟨g, 0, none⟩) (pN s + 1) cap ∧ ∀ n, n ≤ pN s → ∀ j u, (spC s n)[j]? = some u → W.cell? ⟨g, n * 6 + j, none⟩ = some u
theorem SpAt.below {s : ByteArray} {v : Value} {W W' : World} (h : SpAt s v W) (hb : Below W.heap.size W W') : SpAt s v W' := by
  obtain ⟨g, cap, e, h⟩ := h
  exact ⟨g, cap, e, fun n hn j u hu => cell_below (h n hn j u hu) hb⟩
/-- the cells of the rows of the first places -/
def spG (s : ByteArray) (n : Nat) : List Value := (List.range n).flatMap fun i => spC s i
theorem spG_succ (s : ByteArray) (n : Nat) : spG s (n + 1) = spG s n ++ spC s n := by
  unfold spG; rw [List.range_succ, List.flatMap_append]; simp
theorem spG_length (s : ByteArray) : ∀ n, (spG s n).length = n * 6
  | 0 => rfl
  | n + 1 => by rw [spG_succ, List.length_append, spG_length s n]; simp [spC]; omega
theorem spG_get (s : ByteArray) (j : Nat) (hj : j < 6) : ∀ (N n : Nat), n < N → (spG s N)[n * 6 + j]? = (spC s n)[j]?
  | 0, n, h => by omega
  | N + 1, n, h => by
    rw [spG_succ]
    rcases (by omega : n < N ∨ n = N) with h1 | h1
    · rw [List.getElem?_append_left (by rw [spG_length]; omega)]; exact spG_get s j hj N n h1
    · subst h1
      rw [List.getElem?_append_right (by rw [spG_length]; omega), spG_length]; congr 1; omega
theorem spG_at {s : ByteArray} {v : Value} {B : Nat} {W : World} (h : W.ownsRow B 29 6 v (pN s + 1) (spG s (pN s + 1))) : SpAt s v W := by
  obtain ⟨a, c, rfl⟩ := owns_form h
  obtain ⟨g, rfl⟩ := owns_some h (by omega)
  refine ⟨g, c, rfl, fun n hn j u hu => ?_⟩
  have hj : j < 6 := by have := (List.getElem?_eq_some_iff.1 hu).1; simpa [spC] using this
  rw [h.cellAt (n * 6 + j) (by omega), spG_get s j hj _ n (by omega), hu]

theorem below_dn {n : Nat} {w W : World} (h : Below n w W) (k : Nat) : Below n w (W.drewN k) := ⟨h.os, h.tape, h.output, h.size, h.block⟩
theorem row_bx {W W' : World} {bx e m n : Nat} {v : Value} {xs : List Value} (h : W.ownsRow (bx + 1) e m v n xs) (hg : W.grownBy W' (some bx)) : W'.ownsRow (bx + 1) e m v n xs := row_window h hg (fun r e => by cases e; exact ⟨Nat.le_refl _, Nat.lt_succ_self _⟩) (Nat.le_refl _)
theorem Box6.set1 {W : World} {b : Nat} {v0 v1 v2 v3 v4 v5 : Value} (h : Box6 W b v0 v1 v2 v3 v4 v5) (u : Value) : Box6 (W.setCell ⟨b, 1, none⟩ u) b v0 u v2 v3 v4 v5 := heap_set 1 u h
theorem Box6.set2 {W : World} {b : Nat} {v0 v1 v2 v3 v4 v5 : Value} (h : Box6 W b v0 v1 v2 v3 v4 v5) (u : Value) : Box6 (W.setCell ⟨b, 2, none⟩ u) b v0 v1 u v3 v4 v5 := heap_set 2 u h
theorem Box6.set4 {W : World} {b : Nat} {v0 v1 v2 v3 v4 v5 : Value} (h : Box6 W b v0 v1 v2 v3 v4 v5) (u : Value) : Box6 (W.setCell ⟨b, 4, none⟩ u) b v0 v1 v2 v3 u v5 := heap_set 4 u h
theorem Box6.set5 {W : World} {b : Nat} {v0 v1 v2 v3 v4 v5 : Value} (h : Box6 W b v0 v1 v2 v3 v4 v5) (u : Value) : Box6 (W.setCell ⟨b, 5, none⟩ u) b v0 v1 v2 v3 v4 u := heap_set 5 u h

set_option maxRecDepth 100000 in
set_option maxHeartbeats 8000000 in
theorem spots_in (s : ByteArray) (hs : s.size ≤ 1000000) (w : World) :
    Calls Try.prog 26 #[.string s] w fun e W' => ∃ v, e = .returned v ∧ SpAt s v W' ∧ Below w.heap.size w W' := by
  obtain ⟨i0, hi, hz0, hz1, hz2⟩ := info_parts infoSpot
  have hN := pN_le s
  have hbl := brL_length s
  go_enter Try.func26, Try.ntmps26
  go_wp2_with fail
  refine (pieces_in s (by omega) _).mono ?_
  rintro e W1 ⟨pv, rfl, hop, hB1⟩
  go_wp2_with fail
  refine (breaks_in s (by omega) _).mono ?_
  rintro e W2 ⟨bv, rfl, hob, hB2⟩
  have hop2 := owns_below hop hB2
  have hBs := bnext hB1 hB2
  clear hop hB1 hB2
  obtain ⟨pa, pc, rfl⟩ := owns_form hop2
  obtain ⟨ba, bc, rfl⟩ := owns_form hob
  obtain ⟨bg, rfl⟩ := owns_some hob (brL_pos s)
  have hbx := Box6.new W2 (.int .i64 0) (.int .i64 0) (.int .i64 0) (.int .i64 0) (.int .i64 1) (.int .i64 1)
  have hrow0 : ((W2.alloc (.cells #[.int .i64 0, .int .i64 0, .int .i64 0, .int .i64 0, .int .i64 1, .int .i64 1] 29)).alloc (.cells #[.int .i64 0, .int .i64 0, .int .i64 0, .int .i64 0, .int .i64 1, .int .i64 1] 29)).ownsRow (W2.heap.size + 1) 29 6 (.slice (some ⟨W2.heap.size + 1, 0, none⟩) 1 1) 1 (spG s 1) := by
    have h := World.ownsRow_lit (e := 29) (size := 6) (base := W2.heap.size + 1) (W2.alloc (.cells #[.int .i64 0, .int .i64 0, .int .i64 0, .int .i64 0, .int .i64 1, .int .i64 1] 29)) #[.int .i64 0, .int .i64 0, .int .i64 0, .int .i64 0, .int .i64 1, .int .i64 1] 1 (by simp) (by decide) rfl
    rw [World.size_alloc] at h
    exact h
  have hBA : Below W2.heap.size W2 ((W2.alloc (.cells #[.int .i64 0, .int .i64 0, .int .i64 0, .int .i64 0, .int .i64 1, .int .i64 1] 29)).alloc (.cells #[.int .i64 0, .int .i64 0, .int .i64 0, .int .i64 0, .int .i64 1, .int .i64 1] 29)) := ((Below.refl _ W2).alloc (Nat.le_refl _) _).alloc (by simp) _
  have hbx2 := hbx.below ((Below.refl _ _).alloc (Nat.le_refl _) (.cells #[.int .i64 0, .int .i64 0, .int .i64 0, .int .i64 0, .int .i64 1, .int .i64 1] 29))
  obtain ⟨NN, hNN⟩ : ∃ NN, pN s = NN := ⟨_, rfl⟩
  have hop3 := hop2
  rw [show (allL s).length = NN from hNN] at hop3 ⊢
  obtain ⟨M, hM⟩ : ∃ M, (brL s).length = M := ⟨_, rfl⟩
  rw [hM] at hbl ⊢
  rw [hNN] at hN
  have HNN := hide hNN
  have HM := hide hM
  have Hop := hide hop2
  have Hob := hide hob
  have Hop3 := hide hop3
  have Hr0 := hide hrow0
  have Hb0 := hide hbx2
  clear hNN hM hop2 hob hop3 hrow0 hbx2 hbx
  go_wp2_with fail
  go_loopw [6, 7] (fun ov iv wr => ∃ i : Nat, i ≤ NN ∧ iv = .int .i64 (i : Nat) ∧ wr.ownsRow (W2.heap.size + 1) 29 6 ov (i + 1) (spG s (i + 1)) ∧ Box6 wr W2.heap.size (.int .i64 (pB s i : Nat)) (.int .i64 (i : Nat)) (.int .i64 (pU s i : Nat)) (.int .i64 (pC s i : Nat)) (.int .i64 (pL s i : Nat)) (.int .i64 (pK s i : Nat)) ∧ Below W2.heap.size W2 wr) (fun _ iv _ => NN - (RowKit.intOf iv).toNat)
  case atStart => exact ⟨0, by omega, rfl, unhide Hr0, unhide Hb0, hBA⟩
  case round =>
    obtain ⟨i, hin, rfl, hrow, hbx, hB⟩ := hrel
    by_cases hlt : i < NN
    · have hnN : i < pN s := by rw [unhide HNN]; exact hlt
      obtain ⟨pg, hpg⟩ := owns_some (unhide Hop3) (show 0 < NN by omega)
      obtain rfl := hpg
      have i1 : (i : Int) < (NN : Int) := by omega
      obtain ⟨B, hBb⟩ : ∃ B, pB s i = B := ⟨_, rfl⟩
      obtain ⟨R, hR⟩ : ∃ R, rn s B = R := ⟨_, rfl⟩
      obtain ⟨d, hd⟩ : ∃ d, wd s B = d := ⟨_, rfl⟩
      obtain ⟨ok, hok⟩ : ∃ k, okR s B = k := ⟨_, rfl⟩
      obtain ⟨E, hE⟩ : ∃ E, pE s B = E := ⟨_, rfl⟩
      have hpc : ∀ W, Below W2.heap.size W2 W → W.cell? ⟨pg, i * 4, none⟩ = some (.int .i64 (B : Nat)) ∧ W.cell? ⟨pg, i * 4 + 1, none⟩ = some (.int .i32 (R : Nat)) ∧ W.cell? ⟨pg, i * 4 + 2, none⟩ = some (.int .i64 (d : Nat)) ∧ W.cell? ⟨pg, i * 4 + 3, none⟩ = some (.bool ok) := fun W hW => by
        have ho := owns_below (unhide Hop) hW
        have hg := pB_get hnN
        rw [hBb] at hg
        refine ⟨(pcs_cell ho hg 0 (by omega)).trans ?_, (pcs_cell ho hg 1 (by omega)).trans ?_, (pcs_cell ho hg 2 (by omega)).trans ?_, (pcs_cell ho hg 3 (by omega)).trans ?_⟩
        · rfl
        · rw [← hR]; rfl
        · rw [← hd]; rfl
        · rw [← hok]; rfl
      have hends := fun W (hW : Below W2.heap.size W2 W) => ends_in s i pg pc _ W hnN hs (owns_below (unhide Hop) hW)
      rw [hBb, hE] at hends
      rw [unhide HNN] at hends
      have hB1 : pB s (i + 1) = B + d := by show pB s i + wd s (pB s i) = _; rw [hBb, hd]
      have hU1 : pU s (i + 1) = pU s i + if 65536 ≤ R then 2 else 1 := by show pU s i + pW s (pB s i) = _; rw [hBb]; unfold pW; rw [hR]
      have hL1 : pL s (i + 1) = if E then pL s i + 1 else pL s i := by show (if pE s (pB s i) then _ else _) = _; rw [hBb, hE]
      have hK1 : pK s (i + 1) = if E then 1 else pK s i + 1 := by show (if pE s (pB s i) then _ else _) = _; rw [hBb, hE]
      have hC1 := pC_count s (i + 1) hnN
      rw [hB1] at hC1
      have hPB := pB_le s (i + 1) hnN
      rw [hB1] at hPB
      have hUl := pU_le s i
      have hLl := (pL_le s i).2
      have hKl := (pK_le s i).2
      have hRl := rn_lt s B (by have := (pN_iff s i).1 hnN; omega)
      rw [hR] at hRl
      obtain ⟨U, hU⟩ : ∃ U, pU s i = U := ⟨_, rfl⟩
      obtain ⟨C, hC⟩ : ∃ C, pC s i = C := ⟨_, rfl⟩
      obtain ⟨L, hL⟩ : ∃ L, pL s i = L := ⟨_, rfl⟩
      obtain ⟨K0, hK⟩ : ∃ K, pK s i = K := ⟨_, rfl⟩
      rw [hBb, hU, hC, hL, hK] at hbx
      rw [hU] at hU1 hUl
      rw [hL] at hL1 hLl
      rw [hK] at hK1 hKl
      obtain ⟨u1, hu1⟩ : ∃ u1 : Nat, (if 65536 ≤ R then 2 else 1) = u1 := ⟨_, rfl⟩
      have hu1I : (if (65536 : Int) ≤ ((R : Nat) : Int) then (2 : Int) else 1) = (u1 : Nat) := by
        rw [← hu1]
        by_cases h : 65536 ≤ R
        · rw [if_pos (by omega), if_pos h]; rfl
        · rw [if_neg (by omega), if_neg h]; rfl
      have hu2 : u1 ≤ 2 := by rw [← hu1]; split <;> omega
      rw [hu1] at hU1
      have hspc : spC s (i + 1) = [.int .i64 (B + d : Nat), .int .i64 (i + 1 : Nat), .int .i64 (U + u1 : Nat), .int .i64 ((brL s).countP (fun b => decide (0 < b) && decide (b ≤ B + d)) : Nat), .int .i64 ((if E then L + 1 else L) : Nat), .int .i64 ((if E then 1 else K0 + 1) : Nat)] := by unfold spC; rw [hB1, hU1, hC1, hL1, hK1]
      have hBn : ∀ W, Box6 W W2.heap.size (.int .i64 (B + d : Nat)) (.int .i64 (i + 1 : Nat)) (.int .i64 (U + u1 : Nat)) (.int .i64 ((brL s).countP (fun b => decide (0 < b) && decide (b ≤ B + d)) : Nat)) (.int .i64 ((if E then L + 1 else L) : Nat)) (.int .i64 ((if E then 1 else K0 + 1) : Nat)) → Box6 W W2.heap.size (.int .i64 (pB s (i + 1) : Nat)) (.int .i64 (i + 1 : Nat)) (.int .i64 (pU s (i + 1) : Nat)) (.int .i64 (pC s (i + 1) : Nat)) (.int .i64 (pL s (i + 1) : Nat)) (.int .i64 (pK s (i + 1) : Nat)) := fun W h => by rw [hB1, hU1, hC1, hL1, hK1]; exact h
      have Hpc := hide hpc
      have Hends := hide hends
      have Hspc := hide hspc
      have HBn := hide hBn
      have hz := hB.size
      have hin6 : i < 1000000 := by omega
      have hU6 : U ≤ 2000000 := by omega
      have hK6 : K0 ≤ 1000001 := by omega
      have hL6 : L ≤ 1000001 := by omega
      have hBd : B + d ≤ 1000000 := by omega
      clear hpc hends hspc hBn hB1 hU1 hL1 hK1 hC1 hPB hUl hLl hKl hU hC hL hK hu1 hE hok hd hR hBb hin hlt hnN
      go_wp2_with fail
      refine wp_region_any (by kernel_rfl) ?_
      change wpAny _ _ _ _ _ _ _ (World.drew _)
      refine region_sp  86 (fun j => 22 + j) ((0, (Value.string s)) :: (1, undef) :: (2, (Value.slice none 0 0)) :: (3, (Value.slice (some { block := pg, off := 0 }) NN pc)) :: (4, (Value.slice (some { block := bg, off := 0 }) M bc)) :: (5, (Value.pointer (some { block := W2.heap.size, off := 0 }))) :: (6, u6) :: (7, (Value.int IntKind.i64 ↑i)) :: (8, u8) :: (9, (Value.string s)) :: (10, (Value.slice (some { block := pg, off := 0 }) NN pc)) :: (11, (Value.string s)) :: (12, (Value.slice (some { block := bg, off := 0 }) M bc)) :: (13, (Value.agg #[Value.int IntKind.i64 0, Value.int IntKind.i64 0, Value.int IntKind.i64 0, Value.int IntKind.i64 0, Value.int IntKind.i64 1, Value.int IntKind.i64 1])) :: (14, (Value.agg #[Value.int IntKind.i64 0, Value.int IntKind.i64 0, Value.int IntKind.i64 0, Value.int IntKind.i64 0, Value.int IntKind.i64 1, Value.int IntKind.i64 1])) :: (15, (Value.slice (some { block := W2.heap.size + 1, off := 0 }) 1 1)) :: (16, (Value.int IntKind.i64 ↑i)) :: (17, (Value.slice (some { block := pg, off := 0 }) NN pc)) :: (18, (Value.int IntKind.i64 ↑NN)) :: (19, (Value.bool true)) :: (20, u20) :: (21, u21) :: (31, u31) :: (32, u32) :: (33, u33) :: (34, u34) :: (35, u35) :: (36, u36) :: (37, u37) :: (38, u38) :: (39, u39) :: (40, u40) :: (41, u41) :: (42, u42) :: (43, u43) :: (44, u44) :: (45, u45) :: (46, u46) :: (47, u47) :: (48, u48) :: (49, u49) :: (50, u50) :: (51, u51) :: (52, u52) :: (53, u53) :: (54, u54) :: (55, u55) :: (56, u56) :: (57, u57) :: (58, u58) :: (59, u59) :: (60, u60) :: (61, u61) :: (62, u62) :: (63, u63) :: (64, u64) :: (65, u65) :: (66, u66) :: (67, u67) :: (68, u68) :: (69, u69) :: (70, u70) :: (71, u71) :: (72, u72) :: (73, u73) :: (74, u74) :: (75, u75) :: (76, u76) :: (77, u77) :: (78, u78) :: (79, u79) :: (80, u80) :: (81, u81) :: (82, u82) :: (83, u83) :: (84, u84) :: (85, undef) :: [])
        (fun _ W => Below wr.heap.size wr W)
        (valsOf [isV (.pointer (some ⟨W2.heap.size, 0, none⟩)), isV (.int .i64 (B : Nat)), isV (Value.slice (some { block := pg, off := 0 }) NN pc), isV (Value.int IntKind.i64 ↑i), isV (.pointer (some ⟨pg, i * 4, none⟩)), isV (.pointer (some ⟨pg, i * 4 + 2, none⟩)), isV (.int .i64 (d : Nat)), isV (.int .i64 ((B : Int) + (d : Int))), isV (.pointer (some ⟨W2.heap.size, 0, none⟩))])
        (fun w w' => Below w.heap.size w w') [] ?pos ?fit ?last (fun j f => valsOf_stable (Stables.all ?stable) j) ?steps 3 (.tmp 30) (.tmp 29) rfl ?fin _ _ ?sz rfl ?base ?start
      case pos => decide
      case fit => kernel_rfl
      case last => kernel_rfl
      case sz => rfl
      case base => intro p hp; repeat (first | (rcases List.mem_cons.1 hp with rfl | hp; · rfl) | cases hp)
      case stable => repeat (first | exact .nil | refine .same ?_)
      case start => exact (Below.refl _ _).drew
      case steps =>
        refine .cons (fun hlt f ρ wz hno hyes hρ hJ hb hd => by
          have d0 : ρ (.tmp 5) = (Value.pointer (some { block := W2.heap.size, off := 0 })) := hb (5, _) (List.mem_of_getElem? (i := 5) rfl)
          exact step_val (v := (.pointer (some ⟨W2.heap.size, 0, none⟩))) (w' := wz) (by simp [go_sem, execOp, d0, hρ.const]) ⟨Below.refl _ _, hJ, rfl⟩) ?_
        refine .cons (fun hlt f ρ wz hno hyes hρ hJ hb hd => by
          have d0 : ρ (.tmp 22) = (.pointer (some ⟨W2.heap.size, 0, none⟩)) := hd 0 _ rfl rfl
          obtain ⟨c0, _⟩ := (hbx.below hJ).facts
          exact step_val (v := (.int .i64 (B : Nat))) (w' := wz) (by simp [go_sem, execOp, d0, c0]) ⟨Below.refl _ _, hJ, rfl⟩) ?_
        refine .cons (fun hlt f ρ wz hno hyes hρ hJ hb hd => by
          have d0 : ρ (.tmp 3) = (Value.slice (some { block := pg, off := 0 }) NN pc) := hb (3, _) (List.mem_of_getElem? (i := 3) rfl)
          exact step_move (.tmp 3) rfl ⟨Below.refl _ _, hJ, d0⟩) ?_
        refine .cons (fun hlt f ρ wz hno hyes hρ hJ hb hd => by
          have d0 : ρ (.tmp 7) = (Value.int IntKind.i64 ↑i) := hb (7, _) (List.mem_of_getElem? (i := 7) rfl)
          exact step_move (.tmp 7) rfl ⟨Below.refl _ _, hJ, d0⟩) ?_
        refine .cons (fun hlt f ρ wz hno hyes hρ hJ hb hd => by
          have d0 : ρ (.tmp 24) = (Value.slice (some { block := pg, off := 0 }) NN pc) := hd 0 _ rfl rfl
          have d1 : ρ (.tmp 25) = (Value.int IntKind.i64 ↑i) := hd 1 _ rfl rfl
          have j1 : (0 : Int) ≤ (i : Int) := by omega
          exact step_val (v := (.pointer (some ⟨pg, i * 4, none⟩))) (w' := wz) (by simp [go_sem, execOp, d0, d1, i1, j1]) ⟨Below.refl _ _, hJ, rfl⟩) ?_
        refine .cons (fun hlt f ρ wz hno hyes hρ hJ hb hd => by
          have d0 : ρ (.tmp 26) = (.pointer (some ⟨pg, i * 4, none⟩)) := hd 0 _ rfl rfl
          exact step_val (v := (.pointer (some ⟨pg, i * 4 + 2, none⟩))) (w' := wz) (by simp [go_sem, execOp, d0, hρ.const]) ⟨Below.refl _ _, hJ, rfl⟩) ?_
        refine .cons (fun hlt f ρ wz hno hyes hρ hJ hb hd => by
          have d0 : ρ (.tmp 27) = (.pointer (some ⟨pg, i * 4 + 2, none⟩)) := hd 0 _ rfl rfl
          have c0 := (unhide Hpc wz (bnext hB hJ)).2.2.1
          exact step_val (v := (.int .i64 (d : Nat))) (w' := wz) (by simp [go_sem, execOp, d0, c0]) ⟨Below.refl _ _, hJ, rfl⟩) ?_
        refine .cons (fun hlt f ρ wz hno hyes hρ hJ hb hd => by
          have d0 : ρ (.tmp 23) = (.int .i64 (B : Nat)) := hd 0 _ rfl rfl
          have d1 : ρ (.tmp 28) = (.int .i64 (d : Nat)) := hd 1 _ rfl rfl
          refine step_val (v := (.int .i64 ((B : Int) + (d : Int)))) (w' := wz) ?_ ⟨Below.refl _ _, hJ, rfl⟩
          simp [go_sem, execOp, d0, d1]
          exact wrap_small (by omega) (by omega)) ?_
        refine .cons (fun hlt f ρ wz hno hyes hρ hJ hb hd => by
          have d0 : ρ (.tmp 5) = (Value.pointer (some { block := W2.heap.size, off := 0 })) := hb (5, _) (List.mem_of_getElem? (i := 5) rfl)
          exact step_val (v := (.pointer (some ⟨W2.heap.size, 0, none⟩))) (w' := wz) (by simp [go_sem, execOp, d0, hρ.const]) ⟨Below.refl _ _, hJ, rfl⟩) ?_
        refine .cons (fun h => absurd h (by decide)) (.nil _)
      case fin =>
        intro a W5 hsz2 hds hb hJ hv
        obtain rfl := frame_of (((0, (Value.string s)) :: (1, undef) :: (2, (Value.slice none 0 0)) :: (3, (Value.slice (some { block := pg, off := 0 }) NN pc)) :: (4, (Value.slice (some { block := bg, off := 0 }) M bc)) :: (5, (Value.pointer (some { block := W2.heap.size, off := 0 }))) :: (6, u6) :: (7, (Value.int IntKind.i64 ↑i)) :: (8, u8) :: (9, (Value.string s)) :: (10, (Value.slice (some { block := pg, off := 0 }) NN pc)) :: (11, (Value.string s)) :: (12, (Value.slice (some { block := bg, off := 0 }) M bc)) :: (13, (Value.agg #[Value.int IntKind.i64 0, Value.int IntKind.i64 0, Value.int IntKind.i64 0, Value.int IntKind.i64 0, Value.int IntKind.i64 1, Value.int IntKind.i64 1])) :: (14, (Value.agg #[Value.int IntKind.i64 0, Value.int IntKind.i64 0, Value.int IntKind.i64 0, Value.int IntKind.i64 0, Value.int IntKind.i64 1, Value.int IntKind.i64 1])) :: (15, (Value.slice (some { block := W2.heap.size + 1, off := 0 }) 1 1)) :: (16, (Value.int IntKind.i64 ↑i)) :: (17, (Value.slice (some { block := pg, off := 0 }) NN pc)) :: (18, (Value.int IntKind.i64 ↑NN)) :: (19, (Value.bool true)) :: (20, u20) :: (21, u21) :: (31, u31) :: (32, u32) :: (33, u33) :: (34, u34) :: (35, u35) :: (36, u36) :: (37, u37) :: (38, u38) :: (39, u39) :: (40, u40) :: (41, u41) :: (42, u42) :: (43, u43) :: (44, u44) :: (45, u45) :: (46, u46) :: (47, u47) :: (48, u48) :: (49, u49) :: (50, u50) :: (51, u51) :: (52, u52) :: (53, u53) :: (54, u54) :: (55, u55) :: (56, u56) :: (57, u57) :: (58, u58) :: (59, u59) :: (60, u60) :: (61, u61) :: (62, u62) :: (63, u63) :: (64, u64) :: (65, u65) :: (66, u66) :: (67, u67) :: (68, u68) :: (69, u69) :: (70, u70) :: (71, u71) :: (72, u72) :: (73, u73) :: (74, u74) :: (75, u75) :: (76, u76) :: (77, u77) :: (78, u78) :: (79, u79) :: (80, u80) :: (81, u81) :: (82, u82) :: (83, u83) :: (84, u84) :: (85, undef) :: []) ++ [(22, (.pointer (some ⟨W2.heap.size, 0, none⟩))), (23, (.int .i64 (B : Nat))), (24, (Value.slice (some { block := pg, off := 0 }) NN pc)), (25, (Value.int IntKind.i64 ↑i)), (26, (.pointer (some ⟨pg, i * 4, none⟩))), (27, (.pointer (some ⟨pg, i * 4 + 2, none⟩))), (28, (.int .i64 (d : Nat))), (29, (.int .i64 ((B : Int) + (d : Int)))), (30, (.pointer (some ⟨W2.heap.size, 0, none⟩)))]) ((Value.string s) :: undef :: (Value.slice none 0 0) :: (Value.slice (some { block := pg, off := 0 }) NN pc) :: (Value.slice (some { block := bg, off := 0 }) M bc) :: (Value.pointer (some { block := W2.heap.size, off := 0 })) :: u6 :: (Value.int IntKind.i64 ↑i) :: u8 :: (Value.string s) :: (Value.slice (some { block := pg, off := 0 }) NN pc) :: (Value.string s) :: (Value.slice (some { block := bg, off := 0 }) M bc) :: (Value.agg #[Value.int IntKind.i64 0, Value.int IntKind.i64 0, Value.int IntKind.i64 0, Value.int IntKind.i64 0, Value.int IntKind.i64 1, Value.int IntKind.i64 1]) :: (Value.agg #[Value.int IntKind.i64 0, Value.int IntKind.i64 0, Value.int IntKind.i64 0, Value.int IntKind.i64 0, Value.int IntKind.i64 1, Value.int IntKind.i64 1]) :: (Value.slice (some { block := W2.heap.size + 1, off := 0 }) 1 1) :: (Value.int IntKind.i64 ↑i) :: (Value.slice (some { block := pg, off := 0 }) NN pc) :: (Value.int IntKind.i64 ↑NN) :: (Value.bool true) :: u20 :: u21 :: (.pointer (some ⟨W2.heap.size, 0, none⟩)) :: (.int .i64 (B : Nat)) :: (Value.slice (some { block := pg, off := 0 }) NN pc) :: (Value.int IntKind.i64 ↑i) :: (.pointer (some ⟨pg, i * 4, none⟩)) :: (.pointer (some ⟨pg, i * 4 + 2, none⟩)) :: (.int .i64 (d : Nat)) :: (.int .i64 ((B : Int) + (d : Int))) :: (.pointer (some ⟨W2.heap.size, 0, none⟩)) :: u31 :: u32 :: u33 :: u34 :: u35 :: u36 :: u37 :: u38 :: u39 :: u40 :: u41 :: u42 :: u43 :: u44 :: u45 :: u46 :: u47 :: u48 :: u49 :: u50 :: u51 :: u52 :: u53 :: u54 :: u55 :: u56 :: u57 :: u58 :: u59 :: u60 :: u61 :: u62 :: u63 :: u64 :: u65 :: u66 :: u67 :: u68 :: u69 :: u70 :: u71 :: u72 :: u73 :: u74 :: u75 :: u76 :: u77 :: u78 :: u79 :: u80 :: u81 :: u82 :: u83 :: u84 :: undef :: []) hsz2 hds (fun p hp => by
          rcases List.mem_append.1 hp with h | h
          · exact hb p h
          · simp only [List.mem_cons, List.not_mem_nil, or_false] at h
            rcases h with rfl | rfl | rfl | rfl | rfl | rfl | rfl | rfl | rfl
            · exact hv 0 (by decide)
            · exact hv 1 (by decide)
            · exact hv 2 (by decide)
            · exact hv 3 (by decide)
            · exact hv 4 (by decide)
            · exact hv 5 (by decide)
            · exact hv 6 (by decide)
            · exact hv 7 (by decide)
            · exact hv 8 (by decide)) rfl
        clear hb hv hds hsz2
        obtain ⟨f, _, _, hJ⟩ := hJ
        have hbx5 := hbx.below hJ
        have hrow5 := owns_below hrow hJ
        have hB5 := bnext hB hJ
        obtain ⟨c0, c1, c2, c3, c4, c5, f0, f1, f2, f3, f4, f5⟩ := hbx5.facts
        refine ⟨W5.setCell ⟨W2.heap.size, 0, none⟩ (.int .i64 ((B : Int) + (d : Int))), by simp [go_sem, Act.eval, c0, f0], ?_⟩
        have hbx6 := hbx5.set0 (.int .i64 ((B : Int) + (d : Int)))
        have hrow6 := row_bx hrow5 (grown_set W5 W2.heap.size 0 (.int .i64 ((B : Int) + (d : Int))))
        have hB6 := hB5.setCell (p := ⟨W2.heap.size, 0, none⟩) (Nat.le_refl _) (.int .i64 ((B : Int) + (d : Int)))
        generalize W5.setCell ⟨W2.heap.size, 0, none⟩ (.int .i64 ((B : Int) + (d : Int))) = W6 at hbx6 hrow6 hB6 ⊢
        clear hbx5 hrow5 hB5 c0 c1 c2 c3 c4 c5 f0 f1 f2 f3 f4 f5 hJ hbx hrow hB hz
        have hbx7 := hbx6.set1 (.int .i64 ((i : Int) + 1))
        have hrow7 := row_bx hrow6 (grown_set W6 W2.heap.size 1 (.int .i64 ((i : Int) + 1)))
        have hB7 := hB6.setCell (p := ⟨W2.heap.size, 1, none⟩) (Nat.le_refl _) (.int .i64 ((i : Int) + 1))
        obtain ⟨c0, c1, c2, c3, c4, c5, f0, f1, f2, f3, f4, f5⟩ := hbx6.facts
        obtain ⟨W7, hW7⟩ : ∃ W7, W6.setCell ⟨W2.heap.size, 1, none⟩ (.int .i64 ((i : Int) + 1)) = W7 := ⟨_, rfl⟩
        rw [hW7] at hbx7 hrow7 hB7
        go_wp2_with fail
        clear c0 c1 c2 c3 c4 c5 f0 f1 f2 f3 f4 f5 hbx6 hrow6 hB6
        refine wp_region_any (by kernel_rfl) ?_
        change wpAny _ _ _ _ _ _ _ (World.drew _)
        refine region_sp  86 (fun j => 35 + j) ((0, (Value.string s)) :: (1, undef) :: (2, (Value.slice none 0 0)) :: (3, (Value.slice (some { block := pg, off := 0 }) NN pc)) :: (4, (Value.slice (some { block := bg, off := 0 }) M bc)) :: (5, (Value.pointer (some { block := W2.heap.size, off := 0 }))) :: (6, u6) :: (7, (Value.int IntKind.i64 ↑i)) :: (8, u8) :: (9, (Value.string s)) :: (10, (Value.slice (some { block := pg, off := 0 }) NN pc)) :: (11, (Value.string s)) :: (12, (Value.slice (some { block := bg, off := 0 }) M bc)) :: (13, (Value.agg #[Value.int IntKind.i64 0, Value.int IntKind.i64 0, Value.int IntKind.i64 0, Value.int IntKind.i64 0, Value.int IntKind.i64 1, Value.int IntKind.i64 1])) :: (14, (Value.agg #[Value.int IntKind.i64 0, Value.int IntKind.i64 0, Value.int IntKind.i64 0, Value.int IntKind.i64 0, Value.int IntKind.i64 1, Value.int IntKind.i64 1])) :: (15, (Value.slice (some { block := W2.heap.size + 1, off := 0 }) 1 1)) :: (16, (Value.int IntKind.i64 ↑i)) :: (17, (Value.slice (some { block := pg, off := 0 }) NN pc)) :: (18, (Value.int IntKind.i64 ↑NN)) :: (19, (Value.bool true)) :: (20, u20) :: (21, u21) :: (22, (Value.pointer (some { block := W2.heap.size, off := 0 }))) :: (23, (Value.int IntKind.i64 ↑B)) :: (24, (Value.slice (some { block := pg, off := 0 }) NN pc)) :: (25, (Value.int IntKind.i64 ↑i)) :: (26, (Value.pointer (some { block := pg, off := i * 4 }))) :: (27, (Value.pointer (some { block := pg, off := i * 4 + 2 }))) :: (28, (Value.int IntKind.i64 ↑d)) :: (29, (Value.int IntKind.i64 (↑B + ↑d))) :: (30, (Value.pointer (some { block := W2.heap.size, off := 0 }))) :: (31, (Value.pointer (some { block := W2.heap.size, off := 1 }))) :: (32, (Value.int IntKind.i64 ↑i)) :: (33, (Value.int IntKind.i64 (↑i + 1))) :: (34, (Value.pointer (some { block := W2.heap.size, off := 1 }))) :: (44, u44) :: (45, u45) :: (46, u46) :: (47, u47) :: (48, u48) :: (49, u49) :: (50, u50) :: (51, u51) :: (52, u52) :: (53, u53) :: (54, u54) :: (55, u55) :: (56, u56) :: (57, u57) :: (58, u58) :: (59, u59) :: (60, u60) :: (61, u61) :: (62, u62) :: (63, u63) :: (64, u64) :: (65, u65) :: (66, u66) :: (67, u67) :: (68, u68) :: (69, u69) :: (70, u70) :: (71, u71) :: (72, u72) :: (73, u73) :: (74, u74) :: (75, u75) :: (76, u76) :: (77, u77) :: (78, u78) :: (79, u79) :: (80, u80) :: (81, u81) :: (82, u82) :: (83, u83) :: (84, u84) :: (85, undef) :: [])
          (fun _ W => Below W7.heap.size W7 W)
          (valsOf [isV (.pointer (some ⟨W2.heap.size, 2, none⟩)), isV (.int .i64 (U : Nat)), isV (Value.slice (some { block := pg, off := 0 }) NN pc), isV (Value.int IntKind.i64 ↑i), isV (.pointer (some ⟨pg, i * 4, none⟩)), isV (.agg #[.int .i64 (B : Nat), .int .i32 (R : Nat), .int .i64 (d : Nat), .bool ok]), isV (.int .i64 (u1 : Nat)), isV (.int .i64 ((U : Int) + (u1 : Int))), isV (.pointer (some ⟨W2.heap.size, 2, none⟩))])
          (fun w w' => Below w.heap.size w w') [] ?pos ?fit ?last (fun j f => valsOf_stable (Stables.all ?stable) j) ?steps 3 (.tmp 43) (.tmp 42) rfl ?fin _ _ ?sz rfl ?base ?start
        case pos => decide
        case fit => kernel_rfl
        case last => kernel_rfl
        case sz => rfl
        case base => intro p hp; repeat (first | (rcases List.mem_cons.1 hp with rfl | hp; · rfl) | cases hp)
        case stable => repeat (first | exact .nil | refine .same ?_)
        case start => exact (Below.refl _ _).drew
        case steps =>
          refine .cons (fun hlt f ρ wz hno hyes hρ hJ hb hd => by
            have d0 : ρ (.tmp 5) = (Value.pointer (some { block := W2.heap.size, off := 0 })) := hb (5, _) (List.mem_of_getElem? (i := 5) rfl)
            exact step_val (v := (.pointer (some ⟨W2.heap.size, 2, none⟩))) (w' := wz) (by simp [go_sem, execOp, d0, hρ.const]) ⟨Below.refl _ _, hJ, rfl⟩) ?_
          refine .cons (fun hlt f ρ wz hno hyes hρ hJ hb hd => by
            have d0 : ρ (.tmp 35) = (.pointer (some ⟨W2.heap.size, 2, none⟩)) := hd 0 _ rfl rfl
            obtain ⟨_, _, c2, _⟩ := (hbx7.below hJ).facts
            exact step_val (v := (.int .i64 (U : Nat))) (w' := wz) (by simp [go_sem, execOp, d0, c2]) ⟨Below.refl _ _, hJ, rfl⟩) ?_
          refine .cons (fun hlt f ρ wz hno hyes hρ hJ hb hd => by
            have d0 : ρ (.tmp 3) = (Value.slice (some { block := pg, off := 0 }) NN pc) := hb (3, _) (List.mem_of_getElem? (i := 3) rfl)
            exact step_move (.tmp 3) rfl ⟨Below.refl _ _, hJ, d0⟩) ?_
          refine .cons (fun hlt f ρ wz hno hyes hρ hJ hb hd => by
            have d0 : ρ (.tmp 7) = (Value.int IntKind.i64 ↑i) := hb (7, _) (List.mem_of_getElem? (i := 7) rfl)
            exact step_move (.tmp 7) rfl ⟨Below.refl _ _, hJ, d0⟩) ?_
          refine .cons (fun hlt f ρ wz hno hyes hρ hJ hb hd => by
            have d0 : ρ (.tmp 37) = (Value.slice (some { block := pg, off := 0 }) NN pc) := hd 0 _ rfl rfl
            have d1 : ρ (.tmp 38) = (Value.int IntKind.i64 ↑i) := hd 1 _ rfl rfl
            have j1 : (0 : Int) ≤ (i : Int) := by omega
            exact step_val (v := (.pointer (some ⟨pg, i * 4, none⟩))) (w' := wz) (by simp [go_sem, execOp, d0, d1, i1, j1]) ⟨Below.refl _ _, hJ, rfl⟩) ?_
          refine .cons (fun hlt f ρ wz hno hyes hρ hJ hb hd => by
            have d0 : ρ (.tmp 39) = (.pointer (some ⟨pg, i * 4, none⟩)) := hd 0 _ rfl rfl
            obtain ⟨c0, c1, c2, c3⟩ := unhide Hpc wz (bnext hB7 hJ)
            exact step_val (v := (.agg #[.int .i64 (B : Nat), .int .i32 (R : Nat), .int .i64 (d : Nat), .bool ok])) (w' := wz) (by simp [go_sem, execOp, d0, c0, c1, c2, c3]) ⟨Below.refl _ _, hJ, rfl⟩) ?_
          refine .cons (fun hlt f ρ wz hno hyes hρ hJ hb hd => by
            have d0 : ρ (.tmp 40) = (.agg #[.int .i64 (B : Nat), .int .i32 (R : Nat), .int .i64 (d : Nat), .bool ok]) := hd 0 _ rfl rfl
            refine step_func 44 _ _ #[.agg #[.int .i64 (B : Nat), .int .i32 (R : Nat), .int .i64 (d : Nat), .bool ok]] hρ rfl (enters_of Try.func44 (by kernel_rfl) rfl) (by simp [d0]) ((wide_in _ _ _ _ wz).mono ?_)
            rintro e w2 ⟨rfl, hb2⟩
            rw [hu1I]
            exact ⟨_, rfl, hb2, bnext hJ hb2, rfl⟩) ?_
          refine .cons (fun hlt f ρ wz hno hyes hρ hJ hb hd => by
            have d0 : ρ (.tmp 36) = (.int .i64 (U : Nat)) := hd 0 _ rfl rfl
            have d1 : ρ (.tmp 41) = (.int .i64 (u1 : Nat)) := hd 1 _ rfl rfl
            refine step_val (v := (.int .i64 ((U : Int) + (u1 : Int)))) (w' := wz) ?_ ⟨Below.refl _ _, hJ, rfl⟩
            simp [go_sem, execOp, d0, d1]
            exact wrap_small (by omega) (by omega)) ?_
          refine .cons (fun hlt f ρ wz hno hyes hρ hJ hb hd => by
            have d0 : ρ (.tmp 5) = (Value.pointer (some { block := W2.heap.size, off := 0 })) := hb (5, _) (List.mem_of_getElem? (i := 5) rfl)
            exact step_val (v := (.pointer (some ⟨W2.heap.size, 2, none⟩))) (w' := wz) (by simp [go_sem, execOp, d0, hρ.const]) ⟨Below.refl _ _, hJ, rfl⟩) ?_
          refine .cons (fun h => absurd h (by decide)) (.nil _)
        case fin =>
          intro a W5 hsz2 hds hb hJ hv
          obtain rfl := frame_of (((0, (Value.string s)) :: (1, undef) :: (2, (Value.slice none 0 0)) :: (3, (Value.slice (some { block := pg, off := 0 }) NN pc)) :: (4, (Value.slice (some { block := bg, off := 0 }) M bc)) :: (5, (Value.pointer (some { block := W2.heap.size, off := 0 }))) :: (6, u6) :: (7, (Value.int IntKind.i64 ↑i)) :: (8, u8) :: (9, (Value.string s)) :: (10, (Value.slice (some { block := pg, off := 0 }) NN pc)) :: (11, (Value.string s)) :: (12, (Value.slice (some { block := bg, off := 0 }) M bc)) :: (13, (Value.agg #[Value.int IntKind.i64 0, Value.int IntKind.i64 0, Value.int IntKind.i64 0, Value.int IntKind.i64 0, Value.int IntKind.i64 1, Value.int IntKind.i64 1])) :: (14, (Value.agg #[Value.int IntKind.i64 0, Value.int IntKind.i64 0, Value.int IntKind.i64 0, Value.int IntKind.i64 0, Value.int IntKind.i64 1, Value.int IntKind.i64 1])) :: (15, (Value.slice (some { block := W2.heap.size + 1, off := 0 }) 1 1)) :: (16, (Value.int IntKind.i64 ↑i)) :: (17, (Value.slice (some { block := pg, off := 0 }) NN pc)) :: (18, (Value.int IntKind.i64 ↑NN)) :: (19, (Value.bool true)) :: (20, u20) :: (21, u21) :: (22, (Value.pointer (some { block := W2.heap.size, off := 0 }))) :: (23, (Value.int IntKind.i64 ↑B)) :: (24, (Value.slice (some { block := pg, off := 0 }) NN pc)) :: (25, (Value.int IntKind.i64 ↑i)) :: (26, (Value.pointer (some { block := pg, off := i * 4 }))) :: (27, (Value.pointer (some { block := pg, off := i * 4 + 2 }))) :: (28, (Value.int IntKind.i64 ↑d)) :: (29, (Value.int IntKind.i64 (↑B + ↑d))) :: (30, (Value.pointer (some { block := W2.heap.size, off := 0 }))) :: (31, (Value.pointer (some { block := W2.heap.size, off := 1 }))) :: (32, (Value.int IntKind.i64 ↑i)) :: (33, (Value.int IntKind.i64 (↑i + 1))) :: (34, (Value.pointer (some { block := W2.heap.size, off := 1 }))) :: (44, u44) :: (45, u45) :: (46, u46) :: (47, u47) :: (48, u48) :: (49, u49) :: (50, u50) :: (51, u51) :: (52, u52) :: (53, u53) :: (54, u54) :: (55, u55) :: (56, u56) :: (57, u57) :: (58, u58) :: (59, u59) :: (60, u60) :: (61, u61) :: (62, u62) :: (63, u63) :: (64, u64) :: (65, u65) :: (66, u66) :: (67, u67) :: (68, u68) :: (69, u69) :: (70, u70) :: (71, u71) :: (72, u72) :: (73, u73) :: (74, u74) :: (75, u75) :: (76, u76) :: (77, u77) :: (78, u78) :: (79, u79) :: (80, u80) :: (81, u81) :: (82, u82) :: (83, u83) :: (84, u84) :: (85, undef) :: []) ++ [(35, (.pointer (some ⟨W2.heap.size, 2, none⟩))), (36, (.int .i64 (U : Nat))), (37, (Value.slice (some { block := pg, off := 0 }) NN pc)), (38, (Value.int IntKind.i64 ↑i)), (39, (.pointer (some ⟨pg, i * 4, none⟩))), (40, (.agg #[.int .i64 (B : Nat), .int .i32 (R : Nat), .int .i64 (d : Nat), .bool ok])), (41, (.int .i64 (u1 : Nat))), (42, (.int .i64 ((U : Int) + (u1 : Int)))), (43, (.pointer (some ⟨W2.heap.size, 2, none⟩)))]) ((Value.string s) :: undef :: (Value.slice none 0 0) :: (Value.slice (some { block := pg, off := 0 }) NN pc) :: (Value.slice (some { block := bg, off := 0 }) M bc) :: (Value.pointer (some { block := W2.heap.size, off := 0 })) :: u6 :: (Value.int IntKind.i64 ↑i) :: u8 :: (Value.string s) :: (Value.slice (some { block := pg, off := 0 }) NN pc) :: (Value.string s) :: (Value.slice (some { block := bg, off := 0 }) M bc) :: (Value.agg #[Value.int IntKind.i64 0, Value.int IntKind.i64 0, Value.int IntKind.i64 0, Value.int IntKind.i64 0, Value.int IntKind.i64 1, Value.int IntKind.i64 1]) :: (Value.agg #[Value.int IntKind.i64 0, Value.int IntKind.i64 0, Value.int IntKind.i64 0, Value.int IntKind.i64 0, Value.int IntKind.i64 1, Value.int IntKind.i64 1]) :: (Value.slice (some { block := W2.heap.size + 1, off := 0 }) 1 1) :: (Value.int IntKind.i64 ↑i) :: (Value.slice (some { block := pg, off := 0 }) NN pc) :: (Value.int IntKind.i64 ↑NN) :: (Value.bool true) :: u20 :: u21 :: (Value.pointer (some { block := W2.heap.size, off := 0 })) :: (Value.int IntKind.i64 ↑B) :: (Value.slice (some { block := pg, off := 0 }) NN pc) :: (Value.int IntKind.i64 ↑i) :: (Value.pointer (some { block := pg, off := i * 4 })) :: (Value.pointer (some { block := pg, off := i * 4 + 2 })) :: (Value.int IntKind.i64 ↑d) :: (Value.int IntKind.i64 (↑B + ↑d)) :: (Value.pointer (some { block := W2.heap.size, off := 0 })) :: (Value.pointer (some { block := W2.heap.size, off := 1 })) :: (Value.int IntKind.i64 ↑i) :: (Value.int IntKind.i64 (↑i + 1)) :: (Value.pointer (some { block := W2.heap.size, off := 1 })) :: (.pointer (some ⟨W2.heap.size, 2, none⟩)) :: (.int .i64 (U : Nat)) :: (Value.slice (some { block := pg, off := 0 }) NN pc) :: (Value.int IntKind.i64 ↑i) :: (.pointer (some ⟨pg, i * 4, none⟩)) :: (.agg #[.int .i64 (B : Nat), .int .i32 (R : Nat), .int .i64 (d : Nat), .bool ok]) :: (.int .i64 (u1 : Nat)) :: (.int .i64 ((U : Int) + (u1 : Int))) :: (.pointer (some ⟨W2.heap.size, 2, none⟩)) :: u44 :: u45 :: u46 :: u47 :: u48 :: u49 :: u50 :: u51 :: u52 :: u53 :: u54 :: u55 :: u56 :: u57 :: u58 :: u59 :: u60 :: u61 :: u62 :: u63 :: u64 :: u65 :: u66 :: u67 :: u68 :: u69 :: u70 :: u71 :: u72 :: u73 :: u74 :: u75 :: u76 :: u77 :: u78 :: u79 :: u80 :: u81 :: u82 :: u83 :: u84 :: undef :: []) hsz2 hds (fun p hp => by
            rcases List.mem_append.1 hp with h | h
            · exact hb p h
            · simp only [List.mem_cons, List.not_mem_nil, or_false] at h
              rcases h with rfl | rfl | rfl | rfl | rfl | rfl | rfl | rfl | rfl
              · exact hv 0 (by decide)
              · exact hv 1 (by decide)
              · exact hv 2 (by decide)
              · exact hv 3 (by decide)
              · exact hv 4 (by decide)
              · exact hv 5 (by decide)
              · exact hv 6 (by decide)
              · exact hv 7 (by decide)
              · exact hv 8 (by decide)) rfl
          clear hb hv hds hsz2
          obtain ⟨f, _, _, hJ⟩ := hJ
          have hbx5 := hbx7.below hJ
          have hrow5 := owns_below hrow7 hJ
          have hB5 := bnext hB7 hJ
          obtain ⟨c0, c1, c2, c3, c4, c5, f0, f1, f2, f3, f4, f5⟩ := hbx5.facts
          refine ⟨W5.setCell ⟨W2.heap.size, 2, none⟩ (.int .i64 ((U : Int) + (u1 : Int))), by simp [go_sem, Act.eval, c2, f2], ?_⟩
          have hbx8 := hbx5.set2 (.int .i64 ((U : Int) + (u1 : Int)))
          have hrow8 := row_bx hrow5 (grown_set W5 W2.heap.size 2 (.int .i64 ((U : Int) + (u1 : Int))))
          have hB8 := hB5.setCell (p := ⟨W2.heap.size, 2, none⟩) (Nat.le_refl _) (.int .i64 ((U : Int) + (u1 : Int)))
          generalize W5.setCell ⟨W2.heap.size, 2, none⟩ (.int .i64 ((U : Int) + (u1 : Int))) = W8 at hbx8 hrow8 hB8 ⊢
          clear hbx5 hrow5 hB5 c0 c1 c2 c3 c4 c5 f0 f1 f2 f3 f4 f5 hJ hbx7 hrow7 hB7 hW7 hu1I
          rw [show (B : Int) + (d : Int) = ((B + d : Nat) : Int) by simp, show (i : Int) + 1 = ((i + 1 : Nat) : Int) by simp, show (U : Int) + (u1 : Int) = ((U + u1 : Nat) : Int) by simp] at hbx8
          have hbx9 := hbx8.set5 (.int .i64 ((K0 : Int) + 1))
          have hrow9 := row_bx hrow8 (grown_set W8 W2.heap.size 5 (.int .i64 ((K0 : Int) + 1)))
          have hB9 := hB8.setCell (p := ⟨W2.heap.size, 5, none⟩) (Nat.le_refl _) (.int .i64 ((K0 : Int) + 1))
          obtain ⟨c0, c1, c2, c3, c4, c5, f0, f1, f2, f3, f4, f5⟩ := hbx8.facts
          obtain ⟨W9, hW9⟩ : ∃ W9, W8.setCell ⟨W2.heap.size, 5, none⟩ (.int .i64 ((K0 : Int) + 1)) = W9 := ⟨_, rfl⟩
          rw [hW9] at hbx9 hrow9 hB9
          have hen9 := hide (unhide Hends W9 hB9)
          cases E with
          | true =>
            rw [if_pos rfl, if_pos rfl] at Hspc HBn
            have hbx10 := hbx9.set4 (.int .i64 ((L : Int) + 1))
            have hrow10 := row_bx hrow9 (grown_set W9 W2.heap.size 4 (.int .i64 ((L : Int) + 1)))
            have hB10 := hB9.setCell (p := ⟨W2.heap.size, 4, none⟩) (Nat.le_refl _) (.int .i64 ((L : Int) + 1))
            obtain ⟨W10, hW10⟩ : ∃ W10, W9.setCell ⟨W2.heap.size, 4, none⟩ (.int .i64 ((L : Int) + 1)) = W10 := ⟨_, rfl⟩
            rw [hW10] at hbx10 hrow10 hB10
            have hbx11 := hbx10.set5 (.int .i64 1)
            have hrow11 := row_bx hrow10 (grown_set W10 W2.heap.size 5 (.int .i64 1))
            have hB11 := hB10.setCell (p := ⟨W2.heap.size, 5, none⟩) (Nat.le_refl _) (.int .i64 1)
            obtain ⟨W11, hW11⟩ : ∃ W11, W10.setCell ⟨W2.heap.size, 5, none⟩ (.int .i64 1) = W11 := ⟨_, rfl⟩
            rw [hW11] at hbx11 hrow11 hB11
            have hbxa := hbx11.set3 (.int .i64 0)
            have hrowa := row_bx hrow11 (grown_set W11 W2.heap.size 3 (.int .i64 0))
            have hBa := hB11.setCell (p := ⟨W2.heap.size, 3, none⟩) (Nat.le_refl _) (.int .i64 0)
            obtain ⟨Wa, hWa⟩ : ∃ Wa, W11.setCell ⟨W2.heap.size, 3, none⟩ (.int .i64 0) = Wa := ⟨_, rfl⟩
            rw [hWa] at hbxa hrowa hBa
            obtain ⟨_, _, _, _, g4, _, _, _, _, _, k4, _⟩ := hbx9.facts
            obtain ⟨_, _, _, _, _, m5, _, _, _, _, _, n5⟩ := hbx10.facts
            obtain ⟨_, _, _, o3, _, _, _, _, _, p3, _, _⟩ := hbx11.facts
            go_wp2_with (go_at_call 45; refine (unhide hen9).mono ?_; rintro e W9' ⟨rfl, rfl⟩)
            clear c0 c1 c2 c3 c4 c5 f0 f1 f2 f3 f4 f5
            clear g4 k4 m5 n5 o3 p3 hbx8 hrow8 hB8 hbx9 hrow9 hB9 hbx10 hrow10 hB10 hbx11 hrow11 hB11 hW9 hW10 hW11 hen9
            rw [show (L : Int) + 1 = ((L + 1 : Nat) : Int) by simp] at hbxa
            go_loopw [8] (fun kv wr => ∃ k : Nat, k ≤ M ∧ kv = .int .i64 (k : Nat) ∧ Box6 wr W2.heap.size (.int .i64 (B + d : Nat)) (.int .i64 (i + 1 : Nat)) (.int .i64 (U + u1 : Nat)) (.int .i64 (((brL s).take k).countP (fun b => decide (0 < b) && decide (b ≤ B + d)) : Nat)) (.int .i64 (L + 1 : Nat)) (.int .i64 (1 : Nat)) ∧ wr.ownsRow (W2.heap.size + 1) 29 6 u6 (i + 1) (spG s (i + 1)) ∧ Below W2.heap.size W2 wr) (fun kv _ => M - (RowKit.intOf kv).toNat)
            case atStart => exact ⟨0, by omega, rfl, hbxa, hrowa, hBa⟩
            case round =>
              obtain ⟨k, hk, rfl, hbxk, hrowk, hBk⟩ := hrel
              clear hbxa hrowa hBa hWa
              have hzk := hBk.size
              by_cases hkM : k < M
              · obtain ⟨b, hb⟩ : ∃ b, (brL s)[k]? = some b := ⟨_, List.getElem?_eq_getElem (by rw [unhide HM]; exact hkM)⟩
                have cb := iv_cell (owns_below (unhide Hob) hBk) hb
                have hcnt : ((brL s).take (k + 1)).countP (fun b => decide (0 < b) && decide (b ≤ B + d)) = ((brL s).take k).countP (fun b => decide (0 < b) && decide (b ≤ B + d)) + if (decide (0 < b) && decide (b ≤ B + d)) = true then 1 else 0 := by
                  rw [List.take_add_one, hb, Option.toList_some, List.countP_append, List.countP_cons, List.countP_nil, Nat.zero_add]
                have hcl : ((brL s).take k).countP (fun b => decide (0 < b) && decide (b ≤ B + d)) ≤ k := Nat.le_trans (List.countP_le_length) (by rw [List.length_take]; exact Nat.min_le_left _ _)
                have Hcnt := hide hcnt
                obtain ⟨q, hq⟩ : ∃ q, ((brL s).take k).countP (fun b => decide (0 < b) && decide (b ≤ B + d)) = q := ⟨_, rfl⟩
                rw [hq] at hbxk hcl
                have Hq := hide hq
                have hkI : (k : Int) < (M : Int) := by omega
                obtain ⟨c0, c1, c2, c3, c4, c5, f0, f1, f2, f3, f4, f5⟩ := hbxk.facts
                clear hcnt hq hb
                by_cases hb0 : 0 < b
                · have j0 : decide ((0 : Int) < (b : Int)) = true := decide_eq_true (by omega)
                  have j0' : decide (0 < b) = true := decide_eq_true hb0
                  by_cases hb1 : b ≤ B + d
                  · have j1 : decide (((b : Nat) : Int) ≤ ((B + d : Nat) : Int)) = true := decide_eq_true (by omega)
                    have j1' : decide ((b : Int) ≤ (B : Int) + (d : Int)) = true := decide_eq_true (by omega)
                    have j1'' : decide (b ≤ B + d) = true := decide_eq_true hb1
                    have hbxn := hbxk.set3 (.int .i64 ((q : Int) + 1))
                    have hrown := row_bx hrowk (grown_set wr W2.heap.size 3 (.int .i64 ((q : Int) + 1)))
                    have hBn := hBk.setCell (p := ⟨W2.heap.size, 3, none⟩) (Nat.le_refl _) (.int .i64 ((q : Int) + 1))
                    have Hn := hide (And.intro hb0 hb1)
                    clear hb0 hb1
                    go_wp2_with fail
                    go_quiet (fail)
                    go_wp2
                    go_roundw
                    case rel =>
                      have e1 := unhide Hcnt
                      rw [unhide Hq, decide_eq_true (unhide Hn).1, decide_eq_true (unhide Hn).2, if_pos (by decide)] at e1
                      refine ⟨k + 1, by omega, by go_num, ?_, hrown, (below_dn hBk _).setCell (p := ⟨W2.heap.size, 3, none⟩) (Nat.le_refl _) _⟩
                      rw [e1, show ((q + 1 : Nat) : Int) = (q : Int) + 1 by simp]
                      exact hbxn
                    case measure => simp [RowKit.intOf]; omega
                  · have j1 : decide (((b : Nat) : Int) ≤ ((B + d : Nat) : Int)) = false := decide_eq_false (by omega)
                    have j1' : decide ((b : Int) ≤ (B : Int) + (d : Int)) = false := decide_eq_false (by omega)
                    have j1'' : decide (b ≤ B + d) = false := decide_eq_false hb1
                    have Hn := hide hb1
                    clear hb0 hb1
                    go_wp2_with fail
                    go_quiet (fail)
                    go_wp2
                    go_roundw
                    case rel =>
                      have e1 := unhide Hcnt
                      rw [unhide Hq, decide_eq_false (unhide Hn), Bool.and_false, if_neg (by decide), Nat.add_zero] at e1
                      refine ⟨k + 1, by omega, by go_num, ?_, hrowk, below_dn hBk _⟩
                      rw [e1]
                      exact hbxk
                    case measure => simp [RowKit.intOf]; omega
                · have j0 : decide ((0 : Int) < (b : Int)) = false := decide_eq_false (by omega)
                  have j0' : decide (0 < b) = false := decide_eq_false hb0
                  have Hn := hide hb0
                  clear hb0
                  go_wp2_with fail
                  go_quiet (fail)
                  go_wp2
                  go_roundw
                  case rel =>
                    have e1 := unhide Hcnt
                    rw [unhide Hq, decide_eq_false (unhide Hn), Bool.false_and, if_neg (by decide), Nat.add_zero] at e1
                    refine ⟨k + 1, by omega, by go_num, ?_, hrowk, below_dn hBk _⟩
                    rw [e1]
                    exact hbxk
                  case measure => simp [RowKit.intOf]; omega
              · have hkE : k = M := by omega
                subst hkE
                rw [List.take_of_length_le (by rw [unhide HM]; exact Nat.le_refl _)] at hbxk
                have hspn := unhide Hspc
                have hbxf := fun W => unhide HBn W
                obtain ⟨q, hq⟩ : ∃ q, (brL s).countP (fun b => decide (0 < b) && decide (b ≤ B + d)) = q := ⟨_, rfl⟩
                rw [hq] at hbxk hspn hbxf
                have Hspn := hide hspn
                have Hbxf := hide hbxf
                obtain ⟨c0, c1, c2, c3, c4, c5, f0, f1, f2, f3, f4, f5⟩ := hbxk.facts
                clear hspn hbxf hq
                go_wp2_with (at_builtin; refine wpList_append_own _ rfl _ _ 36 rfl (W2.heap.size + 1) 29 i0 _ 6 48 Try.underlying36 hi hz0 hz1 hz2 rfl (by decide) u6 (i + 1) (spG s (i + 1)) rfl (World.ownsRow.alloc hrowk _) ⟨wr.heap.size, 0, none⟩ 1 1 [.int .i64 (B + d : Nat), .int .i64 (i + 1 : Nat), .int .i64 (U + u1 : Nat), .int .i64 (q : Nat), .int .i64 (L + 1 : Nat), .int .i64 (1 : Nat)] rfl rfl (new_six _ _ _ _ _ _ _ _) (by simp [Value.oneCell']) (by unfold maxLen; omega) (by omega) (by simp; omega) ?_; intro v4 W4 ho4 hg4 _)
                go_roundw
                case rel =>
                  have hBal := (hBk.alloc hzk (.cells #[.int .i64 (B + d : Nat), .int .i64 (i + 1 : Nat), .int .i64 (U + u1 : Nat), .int .i64 (q : Nat), .int .i64 (L + 1 : Nat), .int .i64 (1 : Nat)] 29))
                  refine ⟨i + 1, by omega, by go_num, ?_, unhide Hbxf _ ?_, hBal.grown hg4 (by simp; omega) (fun k e => by have := (hrowk.lt k e).1; omega)⟩
                  · rw [spG_succ, unhide Hspn]; exact ho4
                  · exact (hg4.block _ (by simp; omega) (fun e => by have := (hrowk.lt _ e.symm).1; omega)).trans (hbxk.below ((Below.refl _ wr).alloc (Nat.le_refl _) _))
                case measure => simp [RowKit.intOf]; omega
          | false =>
            rw [if_neg (by decide), if_neg (by decide)] at Hspc HBn
            have hbxa := hbx9.set3 (.int .i64 0)
            have hrowa := row_bx hrow9 (grown_set W9 W2.heap.size 3 (.int .i64 0))
            have hBa := hB9.setCell (p := ⟨W2.heap.size, 3, none⟩) (Nat.le_refl _) (.int .i64 0)
            obtain ⟨Wa, hWa⟩ : ∃ Wa, W9.setCell ⟨W2.heap.size, 3, none⟩ (.int .i64 0) = Wa := ⟨_, rfl⟩
            rw [hWa] at hbxa hrowa hBa
            obtain ⟨_, _, _, o3, _, _, _, _, _, p3, _, _⟩ := hbx9.facts
            go_wp2_with (go_at_call 45; refine (unhide hen9).mono ?_; rintro e W9' ⟨rfl, rfl⟩)
            clear c0 c1 c2 c3 c4 c5 f0 f1 f2 f3 f4 f5
            clear o3 p3 hbx8 hrow8 hB8 hbx9 hrow9 hB9 hW9 hen9
            rw [show (K0 : Int) + 1 = ((K0 + 1 : Nat) : Int) by simp] at hbxa
            go_loopw [8] (fun kv wr => ∃ k : Nat, k ≤ M ∧ kv = .int .i64 (k : Nat) ∧ Box6 wr W2.heap.size (.int .i64 (B + d : Nat)) (.int .i64 (i + 1 : Nat)) (.int .i64 (U + u1 : Nat)) (.int .i64 (((brL s).take k).countP (fun b => decide (0 < b) && decide (b ≤ B + d)) : Nat)) (.int .i64 (L : Nat)) (.int .i64 (K0 + 1 : Nat)) ∧ wr.ownsRow (W2.heap.size + 1) 29 6 u6 (i + 1) (spG s (i + 1)) ∧ Below W2.heap.size W2 wr) (fun kv _ => M - (RowKit.intOf kv).toNat)
            case atStart => exact ⟨0, by omega, rfl, hbxa, hrowa, hBa⟩
            case round =>
              obtain ⟨k, hk, rfl, hbxk, hrowk, hBk⟩ := hrel
              clear hbxa hrowa hBa hWa
              have hzk := hBk.size
              by_cases hkM : k < M
              · obtain ⟨b, hb⟩ : ∃ b, (brL s)[k]? = some b := ⟨_, List.getElem?_eq_getElem (by rw [unhide HM]; exact hkM)⟩
                have cb := iv_cell (owns_below (unhide Hob) hBk) hb
                have hcnt : ((brL s).take (k + 1)).countP (fun b => decide (0 < b) && decide (b ≤ B + d)) = ((brL s).take k).countP (fun b => decide (0 < b) && decide (b ≤ B + d)) + if (decide (0 < b) && decide (b ≤ B + d)) = true then 1 else 0 := by
                  rw [List.take_add_one, hb, Option.toList_some, List.countP_append, List.countP_cons, List.countP_nil, Nat.zero_add]
                have hcl : ((brL s).take k).countP (fun b => decide (0 < b) && decide (b ≤ B + d)) ≤ k := Nat.le_trans (List.countP_le_length) (by rw [List.length_take]; exact Nat.min_le_left _ _)
                have Hcnt := hide hcnt
                obtain ⟨q, hq⟩ : ∃ q, ((brL s).take k).countP (fun b => decide (0 < b) && decide (b ≤ B + d)) = q := ⟨_, rfl⟩
                rw [hq] at hbxk hcl
                have Hq := hide hq
                have hkI : (k : Int) < (M : Int) := by omega
                obtain ⟨c0, c1, c2, c3, c4, c5, f0, f1, f2, f3, f4, f5⟩ := hbxk.facts
                clear hcnt hq hb
                by_cases hb0 : 0 < b
                · have j0 : decide ((0 : Int) < (b : Int)) = true := decide_eq_true (by omega)
                  have j0' : decide (0 < b) = true := decide_eq_true hb0
                  by_cases hb1 : b ≤ B + d
                  · have j1 : decide (((b : Nat) : Int) ≤ ((B + d : Nat) : Int)) = true := decide_eq_true (by omega)
                    have j1' : decide ((b : Int) ≤ (B : Int) + (d : Int)) = true := decide_eq_true (by omega)
                    have j1'' : decide (b ≤ B + d) = true := decide_eq_true hb1
                    have hbxn := hbxk.set3 (.int .i64 ((q : Int) + 1))
                    have hrown := row_bx hrowk (grown_set wr W2.heap.size 3 (.int .i64 ((q : Int) + 1)))
                    have hBn := hBk.setCell (p := ⟨W2.heap.size, 3, none⟩) (Nat.le_refl _) (.int .i64 ((q : Int) + 1))
                    have Hn := hide (And.intro hb0 hb1)
                    clear hb0 hb1
                    go_wp2_with fail
                    go_quiet (fail)
                    go_wp2
                    go_roundw
                    case rel =>
                      have e1 := unhide Hcnt
                      rw [unhide Hq, decide_eq_true (unhide Hn).1, decide_eq_true (unhide Hn).2, if_pos (by decide)] at e1
                      refine ⟨k + 1, by omega, by go_num, ?_, hrown, (below_dn hBk _).setCell (p := ⟨W2.heap.size, 3, none⟩) (Nat.le_refl _) _⟩
                      rw [e1, show ((q + 1 : Nat) : Int) = (q : Int) + 1 by simp]
                      exact hbxn
                    case measure => simp [RowKit.intOf]; omega
                  · have j1 : decide (((b : Nat) : Int) ≤ ((B + d : Nat) : Int)) = false := decide_eq_false (by omega)
                    have j1' : decide ((b : Int) ≤ (B : Int) + (d : Int)) = false := decide_eq_false (by omega)
                    have j1'' : decide (b ≤ B + d) = false := decide_eq_false hb1
                    have Hn := hide hb1
                    clear hb0 hb1
                    go_wp2_with fail
                    go_quiet (fail)
                    go_wp2
                    go_roundw
                    case rel =>
                      have e1 := unhide Hcnt
                      rw [unhide Hq, decide_eq_false (unhide Hn), Bool.and_false, if_neg (by decide), Nat.add_zero] at e1
                      refine ⟨k + 1, by omega, by go_num, ?_, hrowk, below_dn hBk _⟩
                      rw [e1]
                      exact hbxk
                    case measure => simp [RowKit.intOf]; omega
                · have j0 : decide ((0 : Int) < (b : Int)) = false := decide_eq_false (by omega)
                  have j0' : decide (0 < b) = false := decide_eq_false hb0
                  have Hn := hide hb0
                  clear hb0
                  go_wp2_with fail
                  go_quiet (fail)
                  go_wp2
                  go_roundw
                  case rel =>
                    have e1 := unhide Hcnt
                    rw [unhide Hq, decide_eq_false (unhide Hn), Bool.false_and, if_neg (by decide), Nat.add_zero] at e1
                    refine ⟨k + 1, by omega, by go_num, ?_, hrowk, below_dn hBk _⟩
                    rw [e1]
                    exact hbxk
                  case measure => simp [RowKit.intOf]; omega
              · have hkE : k = M := by omega
                subst hkE
                rw [List.take_of_length_le (by rw [unhide HM]; exact Nat.le_refl _)] at hbxk
                have hspn := unhide Hspc
                have hbxf := fun W => unhide HBn W
                obtain ⟨q, hq⟩ : ∃ q, (brL s).countP (fun b => decide (0 < b) && decide (b ≤ B + d)) = q := ⟨_, rfl⟩
                rw [hq] at hbxk hspn hbxf
                have Hspn := hide hspn
                have Hbxf := hide hbxf
                obtain ⟨c0, c1, c2, c3, c4, c5, f0, f1, f2, f3, f4, f5⟩ := hbxk.facts
                clear hspn hbxf hq
                go_wp2_with (at_builtin; refine wpList_append_own _ rfl _ _ 36 rfl (W2.heap.size + 1) 29 i0 _ 6 48 Try.underlying36 hi hz0 hz1 hz2 rfl (by decide) u6 (i + 1) (spG s (i + 1)) rfl (World.ownsRow.alloc hrowk _) ⟨wr.heap.size, 0, none⟩ 1 1 [.int .i64 (B + d : Nat), .int .i64 (i + 1 : Nat), .int .i64 (U + u1 : Nat), .int .i64 (q : Nat), .int .i64 (L : Nat), .int .i64 (K0 + 1 : Nat)] rfl rfl (new_six _ _ _ _ _ _ _ _) (by simp [Value.oneCell']) (by unfold maxLen; omega) (by omega) (by simp; omega) ?_; intro v4 W4 ho4 hg4 _)
                go_roundw
                case rel =>
                  have hBal := (hBk.alloc hzk (.cells #[.int .i64 (B + d : Nat), .int .i64 (i + 1 : Nat), .int .i64 (U + u1 : Nat), .int .i64 (q : Nat), .int .i64 (L : Nat), .int .i64 (K0 + 1 : Nat)] 29))
                  refine ⟨i + 1, by omega, by go_num, ?_, unhide Hbxf _ ?_, hBal.grown hg4 (by simp; omega) (fun k e => by have := (hrowk.lt k e).1; omega)⟩
                  · rw [spG_succ, unhide Hspn]; exact ho4
                  · exact (hg4.block _ (by simp; omega) (fun e => by have := (hrowk.lt _ e.symm).1; omega)).trans (hbxk.below ((Below.refl _ wr).alloc (Nat.le_refl _) _))
                case measure => simp [RowKit.intOf]; omega
    · have : i = NN := by omega
      subst this
      have hat := spG_at (s := s) (v := u6) (B := W2.heap.size + 1) (W := wr) (by rw [unhide HNN]; exact hrow)
      clear hrow hbx
      go_wp2
      go_ret
      exact ⟨_, rfl, hat, bnext hBs hB⟩

end Go.Proofs.Ytjgkkkfonioplaa
