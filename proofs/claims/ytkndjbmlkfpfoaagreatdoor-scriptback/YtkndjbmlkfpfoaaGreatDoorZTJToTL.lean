/-
  What a field's words are.
-/
import Derived.Test.YtkndjbmlkfpfoaaGreatDoorZLaidToTI
import Derived.Laws.EntriesVeiled

set_option linter.unusedSimpArgs false
set_option linter.unusedVariables false
namespace Go.Proofs.YtkndjbmlkfpfoaaGreatDoor
open Go.RowKit Go.Lib

theorem ptr_in1 (b : Nat) (W : World) : Calls Tryz.prog 48 #[.pointer (some ⟨b, 0, none⟩)] W fun e W' => e = .returned (.pointer (some ⟨b, 2, none⟩)) ∧ W = W' := by
  go_enter Tryz.func48, Tryz.ntmps48
  go_wp2
  go_ret
  exact ⟨rfl, rfl⟩
theorem ptr_in2 (b : Nat) (W : World) : Calls Tryz.prog 49 #[.pointer (some ⟨b, 0, none⟩)] W fun e W' => e = .returned (.pointer (some ⟨b, 4, none⟩)) ∧ W = W' := by
  go_enter Tryz.func49, Tryz.ntmps49
  go_wp2
  go_ret
  exact ⟨rfl, rfl⟩
theorem ptr_in3 (b : Nat) (W : World) : Calls Tryz.prog 50 #[.pointer (some ⟨b, 0, none⟩)] W fun e W' => e = .returned (.pointer (some ⟨b, 5, none⟩)) ∧ W = W' := by
  go_enter Tryz.func50, Tryz.ntmps50
  go_wp2
  go_ret
  exact ⟨rfl, rfl⟩
theorem ptr_in4 (b : Nat) (W : World) : Calls Tryz.prog 51 #[.pointer (some ⟨b, 0, none⟩)] W fun e W' => e = .returned (.pointer (some ⟨b, 7, none⟩)) ∧ W = W' := by
  go_enter Tryz.func51, Tryz.ntmps51
  go_wp2
  go_ret
  exact ⟨rfl, rfl⟩
theorem ptr_in5 (b : Nat) (W : World) : Calls Tryz.prog 52 #[.pointer (some ⟨b, 0, none⟩)] W fun e W' => e = .returned (.pointer (some ⟨b, 6, none⟩)) ∧ W = W' := by
  go_enter Tryz.func52, Tryz.ntmps52
  go_wp2
  go_ret
  exact ⟨rfl, rfl⟩
theorem ptr_in6 (b : Nat) (W : World) : Calls Tryz.prog 53 #[.pointer (some ⟨b, 0, none⟩)] W fun e W' => e = .returned (.pointer (some ⟨b, 8, none⟩)) ∧ W = W' := by
  go_enter Tryz.func53, Tryz.ntmps53
  go_wp2
  go_ret
  exact ⟨rfl, rfl⟩
theorem run_equalIn_fnil {P : Program} (w : World) (d : Nat) (t : TypeId) {x y z} (f : Fn) (bs cs : Array Value) (h : P.underlying t = some (.func x y z)) : (Op.equalIn (d + 1) t (.func f bs cs) .nilFunc).run P w = .ok false w := by
  simp [Op.equalIn, run_underlying h]
theorem run_equal_fnil {P : Program} (w : World) (t : TypeId) {x y z} (f : Fn) (bs cs : Array Value) (h : P.underlying t = some (.func x y z)) : (Op.equal t (.func f bs cs) .nilFunc).run P w = .ok false w := run_equalIn_fnil w 9999 t f bs cs h
theorem run_neq_fnil {P : Program} (w : World) (t : TypeId) {x y z} (f : Fn) (bs cs : Array Value) (h : P.underlying t = some (.func x y z)) : (binOp .neq t (.func f bs cs) .nilFunc).run P w = .ok (.bool true) w := by
  simp only [binOp]
  simp [run_equal_fnil w t f bs cs h]
theorem run_equalIn_fnn {P : Program} (w : World) (d : Nat) (t : TypeId) {x y z} (h : P.underlying t = some (.func x y z)) : (Op.equalIn (d + 1) t .nilFunc .nilFunc).run P w = .ok true w := by
  simp [Op.equalIn, run_underlying h]
theorem run_equal_fnn {P : Program} (w : World) (t : TypeId) {x y z} (h : P.underlying t = some (.func x y z)) : (Op.equal t .nilFunc .nilFunc).run P w = .ok true w := run_equalIn_fnn w 9999 t h
theorem run_neq_fnn {P : Program} (w : World) (t : TypeId) {x y z} (h : P.underlying t = some (.func x y z)) : (binOp .neq t .nilFunc .nilFunc).run P w = .ok (.bool false) w := by
  simp only [binOp]
  simp [run_equal_fnn w t h]
set_option maxRecDepth 100000 in
set_option maxHeartbeats 1000000 in
theorem words0 {W : World} {b : Nat} {s : Sp} {dv bv : Value} (h : StB W b s dv bv) (hw : SpW s) (hL : Lw W) :
    Calls Tryz.prog 72 #[.agg #[(.func (.func 47) #[] #[]), .nilFunc, .nilFunc, .nilFunc], .pointer (some ⟨b, 0, none⟩)] W (MkT W (fw s 0)) := by
  obtain ⟨X, hX⟩ : ∃ X, W.alloc (.cells #[(.func (.func 47) #[] #[]), .nilFunc, .nilFunc, .nilFunc] 117) = X := ⟨_, rfl⟩
  have hb1 : Below W.heap.size W X := by rw [← hX]; exact ballc (Below.refl _ _) _
  have hbx : Bq X W.heap.size 117 #[(.func (.func 47) #[] #[]), .nilFunc, .nilFunc, .nilFunc] := by rw [← hX]; exact Bq.new _ _ _
  have h1 := h.below hb1
  have q0 := hbx.cell 0 _ rfl
  have q1 := hbx.cell 1 _ rfl
  have q2 := hbx.cell 2 _ rfl
  have q3 := hbx.cell 3 _ rfl
  have qv := h1.box.cell 1 (.int .i64 s.site) rfl
  have hr := one_row X s.site
  have hb2 := ballc hb1 (.cells #[.int .i64 s.site] 3)
  have HN := hide (numbers_in [s.site] _ _ hr (by simp) (by simp; exact hw.site) (hL.below hb2))
  have HB := hide hb2
  have g0 := fun w => run_neq_fnn (P := Tryz.prog) w 112 Tryz.underlying112
  have g1 := fun w => run_neq_fnn (P := Tryz.prog) w 113 Tryz.underlying113
  have g2 := fun w => run_neq_fnn (P := Tryz.prog) w 114 Tryz.underlying114
  have g3 := fun w => run_neq_fnn (P := Tryz.prog) w 115 Tryz.underlying115
  have gf := fun w => run_neq_fnil (P := Tryz.prog) w 112 (.func 47) #[] #[] Tryz.underlying112
  clear h h1 hw hL hb1 hbx hr hb2
  go_enter Tryz.func72, Tryz.ntmps72
  go_wp2_with (go_at_call 47; refine (ptr_in0 _ _).mono ?_; rintro e W2 ⟨rfl, rfl⟩)
  refine (unhide HN).mono ?_
  rintro e W2 h2
  obtain ⟨a, c, rfl, ho, hb3⟩ := h2.of
  have HM := hide (show MkT W (fw s 0) (.returned (.slice a 1 c)) W2 from ⟨_, rfl, ho.wk (unhide HB).size, bnext (unhide HB) hb3⟩)
  clear h2 ho hb3 HN HB
  go_wp2
  go_ret
  exact unhide HM
set_option maxRecDepth 100000 in
set_option maxHeartbeats 1000000 in
theorem words1 {W : World} {b : Nat} {s : Sp} {dv bv : Value} (h : StB W b s dv bv) (hw : SpW s) (hL : Lw W) :
    Calls Tryz.prog 72 #[.agg #[(.func (.func 48) #[] #[]), .nilFunc, .nilFunc, .nilFunc], .pointer (some ⟨b, 0, none⟩)] W (MkT W (fw s 1)) := by
  obtain ⟨X, hX⟩ : ∃ X, W.alloc (.cells #[(.func (.func 48) #[] #[]), .nilFunc, .nilFunc, .nilFunc] 117) = X := ⟨_, rfl⟩
  have hb1 : Below W.heap.size W X := by rw [← hX]; exact ballc (Below.refl _ _) _
  have hbx : Bq X W.heap.size 117 #[(.func (.func 48) #[] #[]), .nilFunc, .nilFunc, .nilFunc] := by rw [← hX]; exact Bq.new _ _ _
  have h1 := h.below hb1
  have q0 := hbx.cell 0 _ rfl
  have q1 := hbx.cell 1 _ rfl
  have q2 := hbx.cell 2 _ rfl
  have q3 := hbx.cell 3 _ rfl
  have qv := h1.box.cell 2 (.int .i64 s.peer) rfl
  have hr := one_row X s.peer
  have hb2 := ballc hb1 (.cells #[.int .i64 s.peer] 3)
  have HN := hide (numbers_in [s.peer] _ _ hr (by simp) (by simp; exact hw.peer) (hL.below hb2))
  have HB := hide hb2
  have g0 := fun w => run_neq_fnn (P := Tryz.prog) w 112 Tryz.underlying112
  have g1 := fun w => run_neq_fnn (P := Tryz.prog) w 113 Tryz.underlying113
  have g2 := fun w => run_neq_fnn (P := Tryz.prog) w 114 Tryz.underlying114
  have g3 := fun w => run_neq_fnn (P := Tryz.prog) w 115 Tryz.underlying115
  have gf := fun w => run_neq_fnil (P := Tryz.prog) w 112 (.func 48) #[] #[] Tryz.underlying112
  clear h h1 hw hL hb1 hbx hr hb2
  go_enter Tryz.func72, Tryz.ntmps72
  go_wp2_with (go_at_call 48; refine (ptr_in1 _ _).mono ?_; rintro e W2 ⟨rfl, rfl⟩)
  refine (unhide HN).mono ?_
  rintro e W2 h2
  obtain ⟨a, c, rfl, ho, hb3⟩ := h2.of
  have HM := hide (show MkT W (fw s 1) (.returned (.slice a 1 c)) W2 from ⟨_, rfl, ho.wk (unhide HB).size, bnext (unhide HB) hb3⟩)
  clear h2 ho hb3 HN HB
  go_wp2
  go_ret
  exact unhide HM
set_option maxRecDepth 100000 in
set_option maxHeartbeats 1000000 in
theorem words2 {W : World} {b : Nat} {s : Sp} {dv bv : Value} (h : StB W b s dv bv) (hw : SpW s) (hL : Lw W) :
    Calls Tryz.prog 72 #[.agg #[(.func (.func 49) #[] #[]), .nilFunc, .nilFunc, .nilFunc], .pointer (some ⟨b, 0, none⟩)] W (MkT W (fw s 2)) := by
  obtain ⟨X, hX⟩ : ∃ X, W.alloc (.cells #[(.func (.func 49) #[] #[]), .nilFunc, .nilFunc, .nilFunc] 117) = X := ⟨_, rfl⟩
  have hb1 : Below W.heap.size W X := by rw [← hX]; exact ballc (Below.refl _ _) _
  have hbx : Bq X W.heap.size 117 #[(.func (.func 49) #[] #[]), .nilFunc, .nilFunc, .nilFunc] := by rw [← hX]; exact Bq.new _ _ _
  have h1 := h.below hb1
  have q0 := hbx.cell 0 _ rfl
  have q1 := hbx.cell 1 _ rfl
  have q2 := hbx.cell 2 _ rfl
  have q3 := hbx.cell 3 _ rfl
  have qv := h1.box.cell 4 (.int .i64 s.at_) rfl
  have hr := one_row X s.at_
  have hb2 := ballc hb1 (.cells #[.int .i64 s.at_] 3)
  have HN := hide (numbers_in [s.at_] _ _ hr (by simp) (by simp; exact hw.at_) (hL.below hb2))
  have HB := hide hb2
  have g0 := fun w => run_neq_fnn (P := Tryz.prog) w 112 Tryz.underlying112
  have g1 := fun w => run_neq_fnn (P := Tryz.prog) w 113 Tryz.underlying113
  have g2 := fun w => run_neq_fnn (P := Tryz.prog) w 114 Tryz.underlying114
  have g3 := fun w => run_neq_fnn (P := Tryz.prog) w 115 Tryz.underlying115
  have gf := fun w => run_neq_fnil (P := Tryz.prog) w 112 (.func 49) #[] #[] Tryz.underlying112
  clear h h1 hw hL hb1 hbx hr hb2
  go_enter Tryz.func72, Tryz.ntmps72
  go_wp2_with (go_at_call 49; refine (ptr_in2 _ _).mono ?_; rintro e W2 ⟨rfl, rfl⟩)
  refine (unhide HN).mono ?_
  rintro e W2 h2
  obtain ⟨a, c, rfl, ho, hb3⟩ := h2.of
  have HM := hide (show MkT W (fw s 2) (.returned (.slice a 1 c)) W2 from ⟨_, rfl, ho.wk (unhide HB).size, bnext (unhide HB) hb3⟩)
  clear h2 ho hb3 HN HB
  go_wp2
  go_ret
  exact unhide HM
set_option maxRecDepth 100000 in
set_option maxHeartbeats 1000000 in
theorem words3 {W : World} {b : Nat} {s : Sp} {dv bv : Value} (h : StB W b s dv bv) (hw : SpW s) (hL : Lw W) :
    Calls Tryz.prog 72 #[.agg #[(.func (.func 50) #[] #[]), .nilFunc, .nilFunc, .nilFunc], .pointer (some ⟨b, 0, none⟩)] W (MkT W (fw s 3)) := by
  obtain ⟨X, hX⟩ : ∃ X, W.alloc (.cells #[(.func (.func 50) #[] #[]), .nilFunc, .nilFunc, .nilFunc] 117) = X := ⟨_, rfl⟩
  have hb1 : Below W.heap.size W X := by rw [← hX]; exact ballc (Below.refl _ _) _
  have hbx : Bq X W.heap.size 117 #[(.func (.func 50) #[] #[]), .nilFunc, .nilFunc, .nilFunc] := by rw [← hX]; exact Bq.new _ _ _
  have h1 := h.below hb1
  have q0 := hbx.cell 0 _ rfl
  have q1 := hbx.cell 1 _ rfl
  have q2 := hbx.cell 2 _ rfl
  have q3 := hbx.cell 3 _ rfl
  have qv := h1.box.cell 5 (.int .i64 s.n) rfl
  have hr := one_row X s.n
  have hb2 := ballc hb1 (.cells #[.int .i64 s.n] 3)
  have HN := hide (numbers_in [s.n] _ _ hr (by simp) (by simp; exact hw.n) (hL.below hb2))
  have HB := hide hb2
  have g0 := fun w => run_neq_fnn (P := Tryz.prog) w 112 Tryz.underlying112
  have g1 := fun w => run_neq_fnn (P := Tryz.prog) w 113 Tryz.underlying113
  have g2 := fun w => run_neq_fnn (P := Tryz.prog) w 114 Tryz.underlying114
  have g3 := fun w => run_neq_fnn (P := Tryz.prog) w 115 Tryz.underlying115
  have gf := fun w => run_neq_fnil (P := Tryz.prog) w 112 (.func 50) #[] #[] Tryz.underlying112
  clear h h1 hw hL hb1 hbx hr hb2
  go_enter Tryz.func72, Tryz.ntmps72
  go_wp2_with (go_at_call 50; refine (ptr_in3 _ _).mono ?_; rintro e W2 ⟨rfl, rfl⟩)
  refine (unhide HN).mono ?_
  rintro e W2 h2
  obtain ⟨a, c, rfl, ho, hb3⟩ := h2.of
  have HM := hide (show MkT W (fw s 3) (.returned (.slice a 1 c)) W2 from ⟨_, rfl, ho.wk (unhide HB).size, bnext (unhide HB) hb3⟩)
  clear h2 ho hb3 HN HB
  go_wp2
  go_ret
  exact unhide HM
set_option maxRecDepth 100000 in
set_option maxHeartbeats 1000000 in
theorem words4 {W : World} {b : Nat} {s : Sp} {dv bv : Value} (h : StB W b s dv bv) (hw : SpW s) (hL : Lw W) :
    Calls Tryz.prog 72 #[.agg #[.nilFunc, (.func (.func 51) #[] #[]), .nilFunc, .nilFunc], .pointer (some ⟨b, 0, none⟩)] W (MkT W (fw s 4)) := by
  obtain ⟨X, hX⟩ : ∃ X, W.alloc (.cells #[.nilFunc, (.func (.func 51) #[] #[]), .nilFunc, .nilFunc] 117) = X := ⟨_, rfl⟩
  have hb1 : Below W.heap.size W X := by rw [← hX]; exact ballc (Below.refl _ _) _
  have hbx : Bq X W.heap.size 117 #[.nilFunc, (.func (.func 51) #[] #[]), .nilFunc, .nilFunc] := by rw [← hX]; exact Bq.new _ _ _
  have h1 := h.below hb1
  have q0 := hbx.cell 0 _ rfl
  have q1 := hbx.cell 1 _ rfl
  have q2 := hbx.cell 2 _ rfl
  have q3 := hbx.cell 3 _ rfl
  have qv := h1.box.cell 7 (dv) rfl
  have HN := hide (numbers_in s.draws _ X h1.dr hw.draws hw.dnum (hL.below hb1))
  have HB := hide hb1
  have g0 := fun w => run_neq_fnn (P := Tryz.prog) w 112 Tryz.underlying112
  have g1 := fun w => run_neq_fnn (P := Tryz.prog) w 113 Tryz.underlying113
  have g2 := fun w => run_neq_fnn (P := Tryz.prog) w 114 Tryz.underlying114
  have g3 := fun w => run_neq_fnn (P := Tryz.prog) w 115 Tryz.underlying115
  have gf := fun w => run_neq_fnil (P := Tryz.prog) w 113 (.func 51) #[] #[] Tryz.underlying113
  clear h h1 hw hL hb1 hbx
  go_enter Tryz.func72, Tryz.ntmps72
  go_wp2_with (go_at_call 51; refine (ptr_in4 _ _).mono ?_; rintro e W2 ⟨rfl, rfl⟩)
  refine (unhide HN).mono ?_
  rintro e W2 h2
  obtain ⟨a, c, rfl, ho, hb3⟩ := h2.of
  rw [List.length_map] at ho ⊢
  have HM := hide (show MkT W (fw s 4) (.returned (.slice a s.draws.length c)) W2 from ⟨_, rfl, ho.wk (unhide HB).size, bnext (unhide HB) hb3⟩)
  clear h2 ho hb3 HN HB
  go_wp2
  go_ret
  exact unhide HM
set_option maxRecDepth 100000 in
set_option maxHeartbeats 1000000 in
theorem words5 {W : World} {b : Nat} {s : Sp} {dv bv : Value} (h : StB W b s dv bv) (hw : SpW s) (hL : Lw W) :
    Calls Tryz.prog 72 #[.agg #[.nilFunc, .nilFunc, (.func (.func 52) #[] #[]), .nilFunc], .pointer (some ⟨b, 0, none⟩)] W (MkT W (fw s 5)) := by
  obtain ⟨X, hX⟩ : ∃ X, W.alloc (.cells #[.nilFunc, .nilFunc, (.func (.func 52) #[] #[]), .nilFunc] 117) = X := ⟨_, rfl⟩
  have hb1 : Below W.heap.size W X := by rw [← hX]; exact ballc (Below.refl _ _) _
  have hbx : Bq X W.heap.size 117 #[.nilFunc, .nilFunc, (.func (.func 52) #[] #[]), .nilFunc] := by rw [← hX]; exact Bq.new _ _ _
  have h1 := h.below hb1
  have q0 := hbx.cell 0 _ rfl
  have q1 := hbx.cell 1 _ rfl
  have q2 := hbx.cell 2 _ rfl
  have q3 := hbx.cell 3 _ rfl
  have qv := h1.box.cell 6 (.string s.text) rfl
  have HN := hide (quoted_in s.text hw.text X (hL.below hb1))
  have HB := hide hb1
  have g0 := fun w => run_neq_fnn (P := Tryz.prog) w 112 Tryz.underlying112
  have g1 := fun w => run_neq_fnn (P := Tryz.prog) w 113 Tryz.underlying113
  have g2 := fun w => run_neq_fnn (P := Tryz.prog) w 114 Tryz.underlying114
  have g3 := fun w => run_neq_fnn (P := Tryz.prog) w 115 Tryz.underlying115
  have gf := fun w => run_neq_fnil (P := Tryz.prog) w 114 (.func 52) #[] #[] Tryz.underlying114
  clear h h1 hw hL hb1 hbx
  go_enter Tryz.func72, Tryz.ntmps72
  go_wp2_with (go_at_call 52; refine (ptr_in5 _ _).mono ?_; rintro e W2 ⟨rfl, rfl⟩)
  refine (unhide HN).mono ?_
  rintro e W2 h2
  obtain ⟨a, c, rfl, ho, hb3⟩ := h2.of
  have HM := hide (show MkT W (fw s 5) (.returned (.slice a 1 c)) W2 from ⟨_, rfl, ho.wk (unhide HB).size, bnext (unhide HB) hb3⟩)
  clear h2 ho hb3 HN HB
  go_wp2
  go_ret
  exact unhide HM
set_option maxRecDepth 100000 in
set_option maxHeartbeats 1000000 in
theorem words6 {W : World} {b : Nat} {s : Sp} {dv bv : Value} (h : StB W b s dv bv) (hw : SpW s) (hL : Lw W) :
    Calls Tryz.prog 72 #[.agg #[.nilFunc, .nilFunc, .nilFunc, (.func (.func 53) #[] #[])], .pointer (some ⟨b, 0, none⟩)] W (MkT W (fw s 6)) := by
  obtain ⟨X, hX⟩ : ∃ X, W.alloc (.cells #[.nilFunc, .nilFunc, .nilFunc, (.func (.func 53) #[] #[])] 117) = X := ⟨_, rfl⟩
  have hb1 : Below W.heap.size W X := by rw [← hX]; exact ballc (Below.refl _ _) _
  have hbx : Bq X W.heap.size 117 #[.nilFunc, .nilFunc, .nilFunc, (.func (.func 53) #[] #[])] := by rw [← hX]; exact Bq.new _ _ _
  have h1 := h.below hb1
  have q0 := hbx.cell 0 _ rfl
  have q1 := hbx.cell 1 _ rfl
  have q2 := hbx.cell 2 _ rfl
  have q3 := hbx.cell 3 _ rfl
  have qv := h1.box.cell 8 (bv) rfl
  have hcv := conv_rc h1.by_
  have HN := hide (quoted_in (ofL s.data) (by rw [ofL_size]; exact hw.data) X (hL.below hb1))
  have HB := hide hb1
  have g0 := fun w => run_neq_fnn (P := Tryz.prog) w 112 Tryz.underlying112
  have g1 := fun w => run_neq_fnn (P := Tryz.prog) w 113 Tryz.underlying113
  have g2 := fun w => run_neq_fnn (P := Tryz.prog) w 114 Tryz.underlying114
  have g3 := fun w => run_neq_fnn (P := Tryz.prog) w 115 Tryz.underlying115
  have gf := fun w => run_neq_fnil (P := Tryz.prog) w 115 (.func 53) #[] #[] Tryz.underlying115
  clear h h1 hw hL hb1 hbx
  go_enter Tryz.func72, Tryz.ntmps72
  go_wp2_with (go_at_call 53; refine (ptr_in6 _ _).mono ?_; rintro e W2 ⟨rfl, rfl⟩)
  refine (unhide HN).mono ?_
  rintro e W2 h2
  obtain ⟨a, c, rfl, ho, hb3⟩ := h2.of
  have HM := hide (show MkT W (fw s 6) (.returned (.slice a 1 c)) W2 from ⟨_, rfl, ho.wk (unhide HB).size, bnext (unhide HB) hb3⟩)
  clear h2 ho hb3 HN HB
  go_wp2
  go_ret
  exact unhide HM
theorem words_in {W : World} {b : Nat} {s : Sp} {dv bv : Value} (h : StB W b s dv bv) (hw : SpW s) (hL : Lw W) (f : Nat) (hf : f < 7) :
    Calls Tryz.prog 72 #[.agg (fC f).toArray, .pointer (some ⟨b, 0, none⟩)] W (MkT W (fw s f)) := by
  have hi2 : f = 0 ∨ f = 1 ∨ f = 2 ∨ f = 3 ∨ f = 4 ∨ f = 5 ∨ f = 6 := by omega
  rcases hi2 with rfl | rfl | rfl | rfl | rfl | rfl | rfl
  · exact words0 h hw hL
  · exact words1 h hw hL
  · exact words2 h hw hL
  · exact words3 h hw hL
  · exact words4 h hw hL
  · exact words5 h hw hL
  · exact words6 h hw hL
end Go.Proofs.YtkndjbmlkfpfoaaGreatDoor

/-
  Which row of the table a step's kind has.
-/
set_option linter.unusedSimpArgs false
set_option linter.unusedVariables false
namespace Go.Proofs.YtkndjbmlkfpfoaaGreatDoor
open Go.RowKit Go.Lib

def ixK (k : Int) : Int := if 1 ≤ k ∧ k ≤ 14 then k - 1 else -1
theorem fC_four (f : Nat) : ∃ u0 u1 u2 u3, fC f = [u0, u1, u2, u3] ∧ u0.oneCell' = true ∧ u1.oneCell' = true ∧ u2.oneCell' = true ∧ u3.oneCell' = true := by
  unfold fC
  split <;> exact ⟨_, _, _, _, rfl, rfl, rfl, rfl, rfl⟩
theorem fC_len (f : Nat) : (fC f).length = 4 := by
  obtain ⟨u0, u1, u2, u3, e, _⟩ := fC_four f
  rw [e]; rfl
theorem Tb.at {W : World} {v : Value} {b : Nat} {bs : Nat → Nat} (h : Tb W v b bs) {i : Nat} (hi : i < 14) :
    W.cell? ⟨b, i * 3, none⟩ = some (.string (ofL (tnm.getD i []))) ∧ W.cell? ⟨b, i * 3 + 1, none⟩ = some (.int .i64 ((i : Int) + 1)) ∧ W.cell? ⟨b, i * 3 + 2, none⟩ = some (fsV bs i) := by
  have hr : (List.range 14)[i]? = some i := by simp [hi]
  have hq := fun q u (hu : (rwC bs i)[q]? = some u) (hq : q < 3) => h.row.cell (i * 3 + q) u (by
    have := flat_get (enc := rwC bs) (k := 3) (fun _ => rfl) (List.range 14) i q i hr hq
    simpa [rowsC] using this.trans hu)
  exact ⟨hq 0 _ rfl (by omega), hq 1 _ rfl (by omega), hq 2 _ rfl (by omega)⟩
theorem tfl_lt : ∀ i, i < 14 → ∀ f ∈ tfl.getD i [], f < 7 := by decide
theorem tfl_le : ∀ i, i < 14 → (tfl.getD i []).length ≤ 3 := by decide
theorem Tb.fields {W : World} {v : Value} {b : Nat} {bs : Nat → Nat} (h : Tb W v b bs) {i : Nat} (hi : i < 14) :
    ∃ a, fsV bs i = .slice a (tfl.getD i []).length (tfl.getD i []).length ∧ ∀ (j f : Nat), (tfl.getD i [])[j]? = some f → ∃ g, a = some ⟨g, 0, none⟩ ∧ g < W.heap.size ∧ ∀ (q : Nat) u, (fC f)[q]? = some u → W.cell? ⟨g, j * 4 + q, none⟩ = some u := by
  unfold fsV
  by_cases h13 : i = 13
  · subst h13
    exact ⟨none, rfl, fun j f hj => by simp [tfl] at hj⟩
  · rw [if_neg h13]
    refine ⟨_, rfl, fun j f hj => ⟨bs i, rfl, (h.fld i (by omega)).lt, fun q u hu => (h.fld i (by omega)).cell (j * 4 + q) u ?_⟩⟩
    have hq := (List.getElem?_eq_some_iff.1 hu).1
    rw [fC_len] at hq
    have := flat_get (enc := fC) (k := 4) fC_len (tfl.getD i []) j q f hj hq
    simpa [fsC] using this.trans hu

set_option maxRecDepth 100000 in
theorem isKind_in (nm : ByteArray) (k : Int) (fv : Value) (hf : fv.oneCell' = true) {W : World} {b : Nat} {s : Sp} {dv bv : Value} (h : Bq W b 40 (spC s dv bv)) :
    Calls Tryz.prog 71 #[.agg #[.string nm, .int .i64 k, fv], .pointer (some ⟨b, 0, none⟩)] W fun e W' => e = .returned (.bool (k == s.kind)) ∧ Below W.heap.size W W' := by
  obtain ⟨X, hX⟩ : ∃ X, W.alloc (.cells #[.string nm, .int .i64 k, fv] 76) = X := ⟨_, rfl⟩
  have hb1 : Below W.heap.size W X := by rw [← hX]; exact ballc (Below.refl _ _) _
  have hbx : Bq X W.heap.size 76 #[.string nm, .int .i64 k, fv] := by rw [← hX]; exact Bq.new _ _ _
  have q1 := hbx.cell 1 (.int .i64 k) rfl
  have q0 := (h.keep hb1 h.lt).cell 0 (.int .i64 s.kind) rfl
  have HB := hide hb1
  clear h hb1 hbx
  go_enter Tryz.func71, Tryz.ntmps71
  go_wp2
  go_ret
  exact ⟨rfl, unhide HB⟩

set_option maxRecDepth 100000 in
set_option maxHeartbeats 2000000 in
theorem index_in {W : World} {v : Value} {b b0 : Nat} {bs : Nat → Nat} {s : Sp} {dv bv : Value} (ht : Tb W v b0 bs) (h : Bq W b 40 (spC s dv bv)) :
    Calls Tryz.prog 70 #[v, .func (.func 71) #[] #[.pointer (some ⟨b, 0, none⟩)]] W fun e W' => e = .returned (.int .i64 (ixK s.kind)) ∧ Below W.heap.size W W' := by
  have hv := ht.form
  subst hv
  have HT := hide ht
  have HH := hide h
  clear ht h
  go_enter Tryz.func70, Tryz.ntmps70
  go_wp2_with fail
  go_loopw [5, 8] (fun v5 v8 wr => ∃ (i : Nat), v8 = .int .i64 (i : Int) ∧ i ≤ 14 ∧ Hid (Below W.heap.size W wr ∧ ∀ j : Nat, j < i → (j : Int) + 1 ≠ s.kind)) (fun _ v8 _ => 14 - (RowKit.intOf v8).toNat)
  case atStart => exact ⟨0, rfl, Nat.zero_le _, hide ⟨Below.refl _ _, fun j hj => absurd hj (Nat.not_lt_zero _)⟩⟩
  case round =>
    obtain ⟨i, rfl, hi, H⟩ := hrel
    by_cases hil : i < 14
    · have hT2 := (unhide HT).below (unhide H).1
      obtain ⟨q0, q1, q2⟩ := hT2.at hil
      obtain ⟨fa, fe, _⟩ := hT2.fields hil
      rw [fe] at q2
      obtain ⟨nm, hnm⟩ : ∃ x, ofL (tnm.getD i []) = x := ⟨_, rfl⟩
      rw [hnm] at q0
      generalize (tfl.getD i []).length = n at q2
      have k1 : (i : Int) < 14 := by omega
      have k2 : (0 : Int) ≤ (i : Int) := by omega
      have hK := hide (isKind_in nm ((i : Int) + 1) (.slice fa n n) rfl ((unhide HH).keep (unhide H).1 (unhide HH).lt))
      clear hT2 fe hnm
      go_wp2_with fail
      refine (unhide hK).mono ?_
      rintro e W2 ⟨rfl, hb2⟩
      by_cases hk : (i : Int) + 1 = s.kind
      · have hkk : ((i : Int) + 1 == s.kind) = true := by rw [beq_iff_eq]; exact hk
        have hx : ixK s.kind = (i : Int) := by unfold ixK; rw [if_pos (by omega)]; omega
        have HB := hide (bnext (unhide H).1 hb2)
        clear hb2 hK H hk
        rw [hkk]
        go_wp2
        go_ret
        exact ⟨by rw [hx]; rfl, unhide HB⟩
      · have hkk : ((i : Int) + 1 == s.kind) = false := by rw [beq_eq_false_iff_ne]; exact hk
        have HN := hide (show Below W.heap.size W W2 ∧ ∀ j : Nat, j < i + 1 → (j : Int) + 1 ≠ s.kind from ⟨bnext (unhide H).1 hb2, fun j hj => by
          by_cases hji : j < i
          · exact (unhide H).2 j hji
          · obtain rfl : j = i := by omega
            exact hk⟩)
        clear hb2 hK H hk
        rw [hkk]
        go_wp2
        go_roundw
        case rel => exact ⟨i + 1, by go_num, by omega, HN⟩
        case measure => simp [RowKit.intOf]; omega
    · obtain rfl : i = 14 := by omega
      have hx : ixK s.kind = -1 := by
        unfold ixK
        rw [if_neg]
        rintro ⟨h1, h2⟩
        exact (unhide H).2 (s.kind - 1).toNat (by omega) (by omega)
      have HB := hide (unhide H).1
      clear H
      go_wp2
      go_ret
      exact ⟨by rw [hx]; rfl, unhide HB⟩
end Go.Proofs.YtkndjbmlkfpfoaaGreatDoor

/-
  A step's line, laid by the table.
-/
set_option linter.unusedSimpArgs false
set_option linter.unusedVariables false
namespace Go.Proofs.YtkndjbmlkfpfoaaGreatDoor
open Go.RowKit Go.Lib

/-- a step's row in the table, its words, its line -/
def kx (s : Sp) : Nat := (s.kind - 1).toNat
def stW (s : Sp) : List (List UInt8) := (tfl.getD (kx s) []).flatMap (fw s)
def stT (s : Sp) : List UInt8 := lnT (tnm.getD (kx s) []) (stW s)
def isK (s : Sp) : Prop := 1 ≤ s.kind ∧ s.kind ≤ 14
theorem fw_len {s : Sp} (hw : SpW s) (f : Nat) : (fw s f).length ≤ 1000000 := by
  unfold fw
  split <;> first | (simp; done) | (simpa using hw.draws)
theorem fm_take {s : Sp} {l : List Nat} {j f : Nat} (h : l[j]? = some f) : (l.take (j + 1)).flatMap (fw s) = (l.take j).flatMap (fw s) ++ fw s f := by
  rw [List.take_add_one, h]
  simp
theorem fm_len {s : Sp} (hw : SpW s) : ∀ l : List Nat, (l.flatMap (fw s)).length ≤ 1000000 * l.length := by
  intro l
  induction l with
  | nil => simp
  | cons f l ih => simp only [List.flatMap_cons, List.length_append, List.length_cons]; have := fw_len hw f; omega
/-- what layStep answers, and what is written -/
def LayA (c b B : Nat) (L : List UInt8) (s : Sp) (W : World) (e : Ending) (W' : World) : Prop :=
  (isK s ∧ e = .returned (.bool true) ∧ LnP c b B (L ++ stT s) W' ∧ Wrt B b W W') ∨ (¬ isK s ∧ e = .returned (.bool false) ∧ LnP c b B L W' ∧ Wrt B b W W')

set_option maxRecDepth 100000 in
set_option maxHeartbeats 4000000 in
theorem layStep_in {c b B : Nat} {L : List UInt8} {W : World} {v : Value} {b0 : Nat} {bs : Nat → Nat} {s : Sp} {dv bv : Value} (h : LnP c b B L W) (ht : Tb W v b0 bs) (hd : RNm W dv s.draws) (hb : RBy W bv s.data) (hw : SpW s) (hL : Lw W) (hs : (L ++ stT s).length ≤ 1000000000) (h1 : dv.oneCell' = true) (h2 : bv.oneCell' = true) :
    Calls Tryz.prog 30 #[.func (.func 66) #[] #[.pointer (some ⟨c, 0, none⟩)], v, .agg (spC s dv bv)] W (LayA c b B L s W) := by
  have hv := ht.form
  subst hv
  obtain ⟨X, hX⟩ : ∃ X, W.alloc (.cells (spC s dv bv) 40) = X := ⟨_, rfl⟩
  have hb1 : Below W.heap.size W X := by rw [← hX]; exact ballc (Below.refl _ _) _
  have hst : StB X W.heap.size s dv bv := ⟨by rw [← hX]; exact Bq.new _ _ _, RC.below hd hb1, RC.below hb hb1⟩
  have hI := hide (index_in (ht.below hb1) hst.box)
  have HW := hide hw
  have HS := hide hs
  have HP := hide (h.below hb1)
  have HB := hide hb1
  have HST := hide hst
  have HT := hide (ht.below hb1)
  have HL := hide (hL.below hb1)
  have hsz := h.sz
  unfold spC at hX ⊢
  clear h ht hd hb hw hL hs hb1 hst
  go_enter Tryz.func30, Tryz.ntmps30
  go_wp2_with fail
  refine (unhide hI).mono ?_
  rintro e W2 ⟨rfl, hb2⟩
  have HB2 := hide (bnext (unhide HB) hb2)
  by_cases hk : isK s
  · have hkx : (kx s : Int) = s.kind - 1 := by unfold kx; have := hk.1; omega
    have hx : ixK s.kind = (kx s : Int) := by unfold ixK; rw [hkx]; exact if_pos hk
    have hk14 : kx s < 14 := by have := hk.2; omega
    rw [hx]
    obtain ⟨k, hkk⟩ : ∃ k, kx s = k := ⟨_, rfl⟩
    rw [hkk] at hk14 ⊢
    obtain ⟨q0, q1, q2⟩ := ((unhide HT).below hb2).at hk14
    obtain ⟨fa, fe, hfl⟩ := ((unhide HT).below hb2).fields hk14
    rw [fe] at q2
    obtain ⟨fl, hfl0⟩ : ∃ fl, tfl.getD k [] = fl := ⟨_, rfl⟩
    have hl7 := tfl_lt k hk14
    have hl3 := tfl_le k hk14
    rw [hfl0] at hl7 hl3 hfl q2
    obtain ⟨nm, hnm⟩ : ∃ nm, tnm.getD k [] = nm := ⟨_, rfl⟩
    rw [hnm] at q0
    obtain ⟨N, hN⟩ : ∃ N, fl.length = N := ⟨_, rfl⟩
    rw [hN] at q2 hl3
    have kn : ¬ ((k : Int) < 0) := by omega
    have k14 : (k : Int) < 14 := by omega
    have k0 : (0 : Int) ≤ (k : Int) := by omega
    have HKK := hide hkk
    have HQ0 := hide q0
    have HFL := hide hfl
    have HL7 := hide hl7
    have HFL0 := hide hfl0
    have HNM := hide hnm
    have HN := hide hN
    have HK := hide hk
    have HP2 := hide ((unhide HP).below hb2)
    have HL2 := hide ((unhide HL).below hb2)
    have HST2 := hide ((unhide HST).below hb2)
    have HT2 := hide ((unhide HT).below hb2)
    clear hkx hx hkk q0 q1 hfl hl7 hfl0 hnm hN hk hb2 hI HP HL HST HT fe
    go_wp2_with fail
    go_loopw [8, 10, 22] (fun v8 v10 v22 wr => ∃ (j m c2 : Nat) (a : Option Addr), v22 = .int .i64 (j : Int) ∧ v8 = .slice a m c2 ∧ j ≤ N ∧ Hid (m = ((fl.take j).flatMap (fw s)).length ∧ OT wr W2.heap.size (.slice a m c2) ((fl.take j).flatMap (fw s)) ∧ Below W2.heap.size W2 wr)) (fun _ _ v22 _ => N - (RowKit.intOf v22).toNat)
    case atStart => exact ⟨0, 0, 0, none, rfl, rfl, Nat.zero_le _, hide ⟨rfl, OT.nil _ _, Below.refl _ _⟩⟩
    case round =>
      obtain ⟨j, m, c2, a, rfl, rfl, hj, H⟩ := hrel
      by_cases hjl : j < N
      · obtain ⟨f, hf⟩ : ∃ f, fl[j]? = some f := ⟨_, List.getElem?_eq_getElem (by rw [unhide HN]; exact hjl)⟩
        obtain ⟨g, rfl, hglt, hcs⟩ := unhide HFL j f hf
        obtain ⟨u0, u1, u2, u3, hu, o0, o1, o2, o3⟩ := fC_four f
        rw [hu] at hcs
        have d0 := cell_below (hcs 0 u0 rfl) (unhide H).2.2
        rw [Nat.add_zero] at d0
        have d1 := cell_below (hcs 1 u1 rfl) (unhide H).2.2
        have d2 := cell_below (hcs 2 u2 rfl) (unhide H).2.2
        have d3 := cell_below (hcs 3 u3 rfl) (unhide H).2.2
        have k5 : (j : Int) < (N : Int) := by omega
        have k6 : (0 : Int) ≤ (j : Int) := by omega
        have hf7 := unhide HL7 f (List.mem_of_getElem? hf)
        have hb3 := ballc (Below.refl _ wr) (.cells #[u0, u1, u2, u3] 117)
        have hbx := Bq.new wr 117 #[u0, u1, u2, u3]
        have hb4 := bnext (unhide H).2.2 hb3
        have hwd := hide (words_in ((unhide HST2).below hb4) (unhide HW) ((unhide HL2).below hb4) f hf7)
        rw [hu] at hwd
        have e0 := hbx.cell 0 u0 rfl
        have e1 := hbx.cell 1 u1 rfl
        have e2 := hbx.cell 2 u2 rfl
        have e3 := hbx.cell 3 u3 rfl
        have HF := hide hf
        have HB4 := hide hb4
        have HO3 := hide ((unhide H).2.1.below hb3)
        have HM := hide (unhide H).1
        have HU := hide hu
        clear hcs hu hf hb3 hbx hb4 hglt H o0 o1 o2 o3
        go_upto_region 7 with fail
        go_cut [10] from 24 to 25 (fun v wx => v = .pointer (some ⟨wr.heap.size, 0, none⟩) ∧ wx = wr.alloc (.cells #[u0, u1, u2, u3] 117))
        case first =>
          have hu := unhide HU
          have hi2 : f = 0 ∨ f = 1 ∨ f = 2 ∨ f = 3 ∨ f = 4 ∨ f = 5 ∨ f = 6 := by omega
          clear hwd e0 e1 e2 e3 HF HB4 HO3 HM HU
          rcases hi2 with rfl | rfl | rfl | rfl | rfl | rfl | rfl <;> (simp only [fC, List.cons.injEq, and_true] at hu; obtain ⟨rfl, rfl, rfl, rfl⟩ := hu; go_wp2; go_meet; exact ⟨rfl, rfl⟩)
        case rest =>
        obtain ⟨rfl, rfl⟩ := hcut
        go_wp2_with fail
        refine (unhide hwd).mono ?_
        rintro e W4 h4
        obtain ⟨a4, c4, rfl, ho4, hb5⟩ := h4.of
        have ho5 := (unhide HO3).below hb5
        have hb6 := bnext (unhide HB4) hb5
        have hle := fw_len (unhide HW) f
        have hle2 : ((fl.take j).flatMap (fw s)).length ≤ 100000000 := by have := fm_len (unhide HW) (fl.take j); simp only [List.length_take] at this; omega
        have hm := unhide HM
        subst hm
        obtain ⟨v', w', p1, p2, p3⟩ := append_txts W4 96 W2.heap.size (.slice a ((fl.take j).flatMap (fw s)).length c2) (.slice a4 (fw s f).length c4) ((fl.take j).flatMap (fw s)) (fw s f) ho5 ho4.rt hb6.size hle2 (by omega)
        rw [← fm_take (unhide HF)] at p2
        obtain ⟨a', c', e'⟩ := owns_form p2
        subst e'
        obtain ⟨m', hm'⟩ : ∃ m', ((fl.take (j + 1)).flatMap (fw s)).length = m' := ⟨_, rfl⟩
        rw [hm'] at p1 p2
        have HN2 := hide (show m' = ((fl.take (j + 1)).flatMap (fw s)).length ∧ OT w' W2.heap.size (.slice a' m' c') ((fl.take (j + 1)).flatMap (fw s)) ∧ Below W2.heap.size W2 w' from ⟨hm'.symm, by have := p2; exact this, (Kp.of_grown (N := fun k => W2.heap.size ≤ k) p3 (fun k hk => (World.ownsRow.lt ho5 k hk).1)).below hb6 (fun i hi => hi)⟩)
        have HA := hide p1
        generalize ((fl.take j).flatMap (fw s)).length = M0 at *
        generalize (fw s f).length = M1 at *
        clear p1 p2 p3 ho4 hb5 ho5 hb6 hle hle2 h4 hwd HF HB4 HO3 HM hm'
        go_wp2_with (at_builtin; refine wpList_append_eq rfl _ _ 96 96 rfl _ _ _ _ rfl rfl (unhide HA) ?_)
        go_roundw
        case rel => exact ⟨j + 1, m', c', a', by go_num, rfl, by omega, HN2⟩
        case measure => simp [RowKit.intOf]; omega
      · obtain rfl : j = N := by omega
        have kd : decide ((j : Int) < (j : Int)) = false := by simp
        have e1 : fl.take j = fl := List.take_of_length_le (by rw [unhide HN]; exact Nat.le_refl _)
        rw [e1] at H
        obtain ⟨hm, ho, hb7⟩ := unhide H
        obtain ⟨ws, hws⟩ : ∃ ws, fl.flatMap (fw s) = ws := ⟨_, rfl⟩
        rw [hws] at hm ho
        have hst : stT s = lnT nm ws := by unfold stT stW; rw [unhide HKK, unhide HNM, unhide HFL0, hws]
        have hwl : ws.length ≤ 100000000 := by rw [← hws]; have := fm_len (unhide HW) fl; have := unhide HN; omega
        have hb8 := ballc (Below.refl _ wr) (.cells #[.slice a m c2] 96)
        have hln := hide (line_in ((unhide HP2).below (bnext hb7 hb8)) nm [ws] _ (RR.one ho) (by simp) (by simpa using hwl) (by have := unhide HS; rw [hst] at this; simpa using this))
        have q0' := cell_below (unhide HQ0) hb7
        have HB8 := hide (Wrt.trans (Wrt.of_below (unhide HB2) hsz) (Wrt.of_below (B := B) (b := b) (bnext hb7 hb8) (Nat.le_trans hsz (unhide HB2).size)))
        have HSt := hide hst
        clear H hm ho hb7 hb8 hws hwl e1 hst
        go_wp2_with fail
        refine (unhide hln).mono ?_
        rintro e W5 ⟨rfl, p5, w5⟩
        have HF := hide (show LayA c b B L s W (.returned (.bool true)) W5 from .inl ⟨unhide HK, rfl, by rw [unhide HSt]; simpa using p5, (unhide HB8).trans w5⟩)
        clear p5 w5 hln HSt HB8
        go_wp2
        go_ret
        exact unhide HF
  · have hx : ixK s.kind = -1 := by unfold ixK; exact if_neg hk
    rw [hx]
    have HF := hide (show LayA c b B L s W (.returned (.bool false)) W2 from .inr ⟨hk, rfl, (unhide HP).below hb2, Wrt.of_below (unhide HB2) hsz⟩)
    clear hb2 hI
    go_wp2
    go_ret
    exact unhide HF
end Go.Proofs.YtkndjbmlkfpfoaaGreatDoor
