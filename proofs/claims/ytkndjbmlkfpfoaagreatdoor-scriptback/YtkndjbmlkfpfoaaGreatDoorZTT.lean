/-
  What script.Tell answers, of a step that there is and an answer of copies alone.
-/
import Derived.Test.YtkndjbmlkfpfoaaGreatDoorZTT0
import Derived.Test.YtkndjbmlkfpfoaaGreatDoorZLN0ToLN1
import Derived.Test.YtkndjbmlkfpfoaaGreatDoorZRegToRegV
import Derived.Deep.CutRange

set_option linter.unusedSimpArgs false
set_option linter.unusedVariables false
namespace Go.Proofs.YtkndjbmlkfpfoaaGreatDoor
open Go Go.RowKit Go.Lib

/-- an answer of copies alone -/
def anC (cv : Value) : Array Value := #[.int .i64 0, .string ⟨#[]⟩, .int .i64 0, .int .i64 0, .slice none 0 0, .int .i64 0, .int .i64 0, .int .i64 0, .int .i64 0, .int .i64 0, .string ⟨#[]⟩, .slice none 0 0, .int .i64 0, .int .i64 0, .bool false, .bool false, .slice none 0 0, .slice none 0 0, .int .i64 0, .int .i64 0, .slice none 0 0, .int .i64 0, .int .i64 0, .slice none 0 0, .int .i64 0, .slice none 0 0, cv]

set_option maxRecDepth 100000 in
set_option maxHeartbeats 8000000 in
theorem Tell_cp {w : World} (s : Sp) (da : Option Addr) (n1 k1 : Nat) (ba : Option Addr) (n2 k2 : Nat) (ca : Option Addr) (cc : Nat) (l : List (Cpy × Value)) (hd : RNm w (.slice da n1 k1) s.draws) (hb : RBy w (.slice ba n2 k2) s.data) (hw : SpW s) (hk : isK s) (h12 : s.kind ≠ 12)
    (hr : RCpy w (.slice ca l.length cc) l) (hcw : ∀ e ∈ l, CpW e.1) (hl : l.length ≤ 1000000) (hL : Lw w) (hs : (stT s ++ csT l).length ≤ 1000000000) :
    Calls Tryz.prog 19 #[.agg (spC s (.slice da n1 k1) (.slice ba n2 k2)), .agg (anC (.slice ca l.length cc))] w fun e W => e = .returned (.string (ofL (stT s ++ csT l))) ∧ Below w.heap.size w W := by
  obtain ⟨X0, hX0⟩ : ∃ X, w.alloc (.cells (spC s (.slice da n1 k1) (.slice ba n2 k2)) 40) = X := ⟨_, rfl⟩
  obtain ⟨X1, hX1⟩ : ∃ X, X0.alloc (.cells (anC (.slice ca l.length cc)) 55) = X := ⟨_, rfl⟩
  have b0 : Below w.heap.size w X0 := by rw [← hX0]; exact ballc (Below.refl _ _) _
  have b01 : Below X0.heap.size X0 X1 := by rw [← hX1]; exact ballc (Below.refl _ _) _
  have b1 : Below w.heap.size w X1 := bnext b0 b01
  have hz0 : X0.heap.size = w.heap.size + 1 := by rw [← hX0]; simp
  have hz1 : X1.heap.size = w.heap.size + 2 := by rw [← hX1]; simp [hz0]
  have B0 : Bq X1 w.heap.size 40 (spC s (.slice da n1 k1) (.slice ba n2 k2)) := by
    have h := Bq.new w 40 (spC s (.slice da n1 k1) (.slice ba n2 k2))
    rw [hX0] at h
    exact h.keep b01 h.lt
  have B1 : Bq X1 X0.heap.size 55 (anC (.slice ca l.length cc)) := by rw [← hX1]; exact Bq.new _ _ _
  have HB0 := hide B0
  have HB1 := hide B1
  have HBX := hide b1
  have HZ0 := hide hz0
  have HZ1 := hide hz1
  have HR := hide (hr.below b1)
  have HD := hide (RC.below hd b1)
  have HBY := hide (RC.below hb b1)
  have HW := hide hw
  have HK := hide hk
  have HCW := hide hcw
  have HL := hide (hL.below b1)
  have HS := hide hs
  have k12 : decide (s.kind = 12) = false := by simpa using h12
  obtain ⟨N, hN⟩ : ∃ N, l.length = N := ⟨_, rfl⟩
  have HN := hide hN
  rw [hN] at hl
  unfold spC at hX0
  unfold anC at hX1
  unfold spC anC
  rw [hN] at hX1 ⊢
  clear hr hcw hw hk hd hb hL hs b0 b01 b1 hz0 hz1 B0 B1 hN
  go_enter Tryz.func19, Tryz.ntmps19
  go_wp2_with fail
  refine (lineTo_in _ _).mono ?_
  rintro e W1 ⟨rfl, hW1⟩
  have hp1 : LnP (X1.heap.size + 1) X1.heap.size X1.heap.size [] W1 := by
    have h0 := IsBuilderF.of (fresh_isBuilder 86 5 X1)
    have hb := ballc (Below.refl _ (X1.alloc (.cells #[.pointer none, .slice none 0 0] 86))) (.cells #[.pointer (some ⟨X1.heap.size, 0, none⟩)] 84)
    have hx := Bq.new (X1.alloc (.cells #[.pointer none, .slice none 0 0] 86)) 84 #[.pointer (some ⟨X1.heap.size, 0, none⟩)]
    rw [World.size_alloc] at hx
    rw [← hW1]
    exact ⟨hx, isB_below h0 hb, by simp; omega, by omega⟩
  have hbW : Below X1.heap.size X1 W1 := by rw [← hW1]; exact ballc (ballc (Below.refl _ _) _) _
  have HP1 := hide hp1
  have HBW := hide hbW
  clear hW1 hp1 hbW
  go_upto_region 3 with fail
  go_cut [14] from 10 to 14 (fun v wx => v = .bool false ∧ Hid (LnP (X1.heap.size + 1) X1.heap.size X1.heap.size ([] ++ stT s) wx ∧ Wrt X1.heap.size X1.heap.size W1 wx))
  case first =>
    refine wp_region_any (by kernel_rfl) ?_
    change wpAny _ _ _ _ _ _ _ (World.drew _)
    refine region_ss 109 (fun j => 10 + j) ((0, (.agg #[.int .i64 s.kind, .int .i64 s.site, .int .i64 s.peer, .int .i64 s.unit, .int .i64 s.at_, .int .i64 s.n, .string s.text, .slice da n1 k1, .slice ba n2 k2])) :: (1, (.agg #[.int .i64 0, .string ⟨#[]⟩, .int .i64 0, .int .i64 0, .slice none 0 0, .int .i64 0, .int .i64 0, .int .i64 0, .int .i64 0, .int .i64 0, .string ⟨#[]⟩, .slice none 0 0, .int .i64 0, .int .i64 0, .bool false, .bool false, .slice none 0 0, .slice none 0 0, .int .i64 0, .int .i64 0, .slice none 0 0, .int .i64 0, .int .i64 0, .slice none 0 0, .int .i64 0, .slice none 0 0, .slice ca N cc])) :: (2, (.pointer (some { block := w.heap.size, off := 0 }))) :: (3, (.pointer (some { block := X0.heap.size, off := 0 }))) :: (4, (.string ⟨#[]⟩)) :: (5, (.pointer (some { block := X1.heap.size, off := 0 }))) :: (6, (.func (.func 66) #[] #[.pointer (some ⟨X1.heap.size + 1, 0, none⟩)])) :: (7, undef) :: (8, undef) :: (9, (.func (.func 66) #[] #[.pointer (some ⟨X1.heap.size + 1, 0, none⟩)])) :: (15, undef) :: (16, undef) :: (17, undef) :: (18, undef) :: (19, undef) :: (20, undef) :: (21, undef) :: (22, undef) :: (23, undef) :: (24, undef) :: (25, undef) :: (26, undef) :: (27, undef) :: (28, undef) :: (29, undef) :: (30, undef) :: (31, undef) :: (32, undef) :: (33, undef) :: (34, undef) :: (35, undef) :: (36, undef) :: (37, undef) :: (38, undef) :: (39, undef) :: (40, undef) :: (41, undef) :: (42, undef) :: (43, undef) :: (44, undef) :: (45, undef) :: (46, undef) :: (47, undef) :: (48, undef) :: (49, undef) :: (50, undef) :: (51, undef) :: (52, undef) :: (53, undef) :: (54, undef) :: (55, undef) :: (56, undef) :: (57, undef) :: (58, undef) :: (59, undef) :: (60, undef) :: (61, undef) :: (62, undef) :: (63, undef) :: (64, undef) :: (65, undef) :: (66, undef) :: (67, undef) :: (68, undef) :: (69, undef) :: (70, undef) :: (71, undef) :: (72, undef) :: (73, undef) :: (74, undef) :: (75, undef) :: (76, undef) :: (77, undef) :: (78, undef) :: (79, undef) :: (80, undef) :: (81, undef) :: (82, undef) :: (83, undef) :: (84, undef) :: (85, undef) :: (86, undef) :: (87, undef) :: (88, undef) :: (89, undef) :: (90, undef) :: (91, undef) :: (92, undef) :: (93, undef) :: (94, undef) :: (95, undef) :: (96, undef) :: (97, undef) :: (98, undef) :: (99, undef) :: (100, undef) :: (101, undef) :: (102, undef) :: (103, undef) :: (104, undef) :: (105, undef) :: (106, undef) :: (107, undef) :: (108, undef) :: []) (LnJ (X1.heap.size + 1) X1.heap.size X1.heap.size [] ([] ++ stT s) 3 W1) (valsOf [isV (.func (.func 66) #[] #[.pointer (some ⟨X1.heap.size + 1, 0, none⟩)]), TbV, isV (.agg (spC s (.slice da n1 k1) (.slice ba n2 k2))), isV (.bool true), isV (.bool false)]) (fun _ W W' => Wrt X1.heap.size X1.heap.size W W') [] ?fit ?stable ?none ?steps ?fin _ _ ?sz rfl ?base ?j0
    case fit => kernel_rfl
    case sz => rfl
    case base => intro p hp; repeat (first | (rcases List.mem_cons.1 hp with rfl | hp; · rfl) | cases hp)
    case none =>
      intro j o' ho hdn w1 v
      have hj : j < 5 := (Array.getElem?_eq_some_iff.1 ho).1
      obtain rfl | rfl | rfl | rfl | rfl : j = 0 ∨ j = 1 ∨ j = 2 ∨ j = 3 ∨ j = 4 := by omega
      all_goals (exfalso; have e := Option.some.inj ho; rw [← e] at hdn; cases hdn)
    case stable =>
      intro j i f w1 w2 v hfj hfi hJ hv hG
      rcases Nat.lt_or_ge j 5 with hj | hj
      · obtain rfl | rfl | rfl | rfl | rfl : j = 0 ∨ j = 1 ∨ j = 2 ∨ j = 3 ∨ j = 4 := by omega
        · exact hv
        · exact stT' hJ.ln hG hv
        · exact hv
        · exact hv
        · exact hv
      · unfold valsOf
        rw [List.getD_eq_getElem?_getD, List.getElem?_eq_none (by simpa using hj)]
        exact trivial
    case steps =>
      refine .cons (fun f ρ W hf hfe hρ hJ hb hd => by
        refine StepU.ok (by decide) ?_
        have d6 : ρ (.tmp 6) = (.func (.func 66) #[] #[.pointer (some ⟨X1.heap.size + 1, 0, none⟩)]) := hb (6, _) (List.mem_of_getElem? (i := 6) rfl)
        exact step_move (.tmp 6) rfl ⟨Wrt.refl _ _ _, hJ.one 0 (by decide), d6⟩) ?_
      refine .cons (fun f ρ W hf hfe hρ hJ hb hd => by
        refine StepU.ok (by decide) ?_
        have h3 : f 3 = false := hf 3 (.inr (by decide +kernel))
        refine step_func 23 _ _ #[] hρ rfl (enters_of Tryz.func23 (by kernel_rfl) rfl) (by simp) ?_
        refine (table_in W).mono ?_
        rintro e W' ⟨v, tb, bs, rfl, ht, hb2⟩
        exact ⟨_, rfl, Wrt.of_below hb2 hJ.ln.sz, hJ.grow 1 (by decide) h3 hb2, tb, bs, ht⟩) ?_
      refine .cons (fun f ρ W hf hfe hρ hJ hb hd => by
        refine StepU.ok (by decide) ?_
        have h3 : f 3 = false := hf 3 (.inr (by decide +kernel))
        have d0 : ρ (.tmp 2) = (.pointer (some { block := w.heap.size, off := 0 })) := hb (2, _) (List.mem_of_getElem? (i := 2) rfl)
        have hq := (unhide HB0).keep (bnext (unhide HBW) (hJ.be h3).1) (unhide HB0).lt
        exact step_val (v := (.agg (spC s (.slice da n1 k1) (.slice ba n2 k2)))) (w' := W) (run_load_agg 40 (.tmp 2) rfl d0 hq Tryz.underlying40 rfl (by kernel_rfl)) ⟨Wrt.refl _ _ _, hJ.one 2 (by decide), rfl⟩) ?_
      refine .cons (fun f ρ W hf hfe hρ hJ hb hd => by
        refine StepU.ok (by decide) ?_
        have h3 : f 3 = false := hf 3 (.inl rfl)
        have d0 : ρ (.tmp 10) = (.func (.func 66) #[] #[.pointer (some ⟨X1.heap.size + 1, 0, none⟩)]) := hd 0 _ rfl rfl
        obtain ⟨tb, bs, ht⟩ : TbV W (ρ (.tmp 11)) := hd 1 _ rfl rfl
        have d2 : ρ (.tmp 12) = (.agg (spC s (.slice da n1 k1) (.slice ba n2 k2))) := hd 2 _ rfl rfl
        have d1 := ht.form
        rw [d1] at ht
        have hbw := bnext (unhide HBW) (hJ.be h3).1
        refine step_func 30 _ _ #[(.func (.func 66) #[] #[.pointer (some ⟨X1.heap.size + 1, 0, none⟩)]), .slice (some ⟨tb, 0, none⟩) 14 14, (.agg (spC s (.slice da n1 k1) (.slice ba n2 k2)))] hρ rfl (enters_of Tryz.func30 (by kernel_rfl) rfl) (by simp [d0, d1, d2]) ?_
        refine (layStep_in (hJ.at0 h3) ht (RC.below (unhide HD) hbw) (RC.below (unhide HBY) hbw) (unhide HW) ((unhide HL).below hbw) (by have := unhide HS; simp only [List.length_append, List.length_nil] at this ⊢; omega) rfl rfl).mono ?_
        rintro e W' (⟨_, rfl, hp, hw⟩ | ⟨hk, _⟩)
        · exact ⟨_, rfl, hw, hJ.put hp hw, rfl⟩
        · exact absurd (unhide HK) hk) ?_
      refine .cons (fun f ρ W hf hfe hρ hJ hb hd => by
        refine StepU.ok (by decide) ?_
        have d0 : ρ (.tmp 13) = .bool true := hd 0 _ rfl rfl
        exact step_val (v := .bool false) (w' := W) (by simp [go_sem, execOp, d0]) ⟨Wrt.refl _ _ _, hJ.one 4 (by decide), rfl⟩) ?_
      exact .nil _
    case fin =>
      intro a W5 hsz2 hds hb hJ hv
      obtain ⟨f, hf, hJ⟩ := hJ
      have hF := hide (hJ.fin (hf 3 (by decide)))
      obtain ⟨u', rfl⟩ : ∃ u : Nat → Value, a = ⟨#[u 0, u 1, u 2, u 3, u 4, u 5, u 6, u 7, u 8, u 9, u 10, u 11, u 12, u 13, u 14, u 15, u 16, u 17, u 18, u 19, u 20, u 21, u 22, u 23, u 24, u 25, u 26, u 27, u 28, u 29, u 30, u 31, u 32, u 33, u 34, u 35, u 36, u 37, u 38, u 39, u 40, u 41, u 42, u 43, u 44, u 45, u 46, u 47, u 48, u 49, u 50, u 51, u 52, u 53, u 54, u 55, u 56, u 57, u 58, u 59, u 60, u 61, u 62, u 63, u 64, u 65, u 66, u 67, u 68, u 69, u 70, u 71, u 72, u 73, u 74, u 75, u 76, u 77, u 78, u 79, u 80, u 81, u 82, u 83, u 84, u 85, u 86, u 87, u 88, u 89, u 90, u 91, u 92, u 93, u 94, u 95, u 96, u 97, u 98, u 99, u 100, u 101, u 102, u 103, u 104, u 105, u 106, u 107, u 108], []⟩ := ⟨fun k => a.eval (.tmp k), frame_fn 109 hsz2 hds⟩
      have e0 : u' 0 = (.agg #[.int .i64 s.kind, .int .i64 s.site, .int .i64 s.peer, .int .i64 s.unit, .int .i64 s.at_, .int .i64 s.n, .string s.text, .slice da n1 k1, .slice ba n2 k2]) := hb (0, _) (List.mem_of_getElem? (i := 0) rfl)
      have e1 : u' 1 = (.agg #[.int .i64 0, .string ⟨#[]⟩, .int .i64 0, .int .i64 0, .slice none 0 0, .int .i64 0, .int .i64 0, .int .i64 0, .int .i64 0, .int .i64 0, .string ⟨#[]⟩, .slice none 0 0, .int .i64 0, .int .i64 0, .bool false, .bool false, .slice none 0 0, .slice none 0 0, .int .i64 0, .int .i64 0, .slice none 0 0, .int .i64 0, .int .i64 0, .slice none 0 0, .int .i64 0, .slice none 0 0, .slice ca N cc]) := hb (1, _) (List.mem_of_getElem? (i := 1) rfl)
      have e2 : u' 2 = (.pointer (some { block := w.heap.size, off := 0 })) := hb (2, _) (List.mem_of_getElem? (i := 2) rfl)
      have e3 : u' 3 = (.pointer (some { block := X0.heap.size, off := 0 })) := hb (3, _) (List.mem_of_getElem? (i := 3) rfl)
      have e4 : u' 4 = (.string ⟨#[]⟩) := hb (4, _) (List.mem_of_getElem? (i := 4) rfl)
      have e5 : u' 5 = (.pointer (some { block := X1.heap.size, off := 0 })) := hb (5, _) (List.mem_of_getElem? (i := 5) rfl)
      have e6 : u' 6 = (.func (.func 66) #[] #[.pointer (some ⟨X1.heap.size + 1, 0, none⟩)]) := hb (6, _) (List.mem_of_getElem? (i := 6) rfl)
      have e7 : u' 7 = undef := hb (7, _) (List.mem_of_getElem? (i := 7) rfl)
      have e8 : u' 8 = undef := hb (8, _) (List.mem_of_getElem? (i := 8) rfl)
      have e9 : u' 9 = (.func (.func 66) #[] #[.pointer (some ⟨X1.heap.size + 1, 0, none⟩)]) := hb (9, _) (List.mem_of_getElem? (i := 9) rfl)
      have e15 : u' 15 = undef := hb (15, _) (List.mem_of_getElem? (i := 10) rfl)
      have e16 : u' 16 = undef := hb (16, _) (List.mem_of_getElem? (i := 11) rfl)
      have e17 : u' 17 = undef := hb (17, _) (List.mem_of_getElem? (i := 12) rfl)
      have e18 : u' 18 = undef := hb (18, _) (List.mem_of_getElem? (i := 13) rfl)
      have e19 : u' 19 = undef := hb (19, _) (List.mem_of_getElem? (i := 14) rfl)
      have e20 : u' 20 = undef := hb (20, _) (List.mem_of_getElem? (i := 15) rfl)
      have e21 : u' 21 = undef := hb (21, _) (List.mem_of_getElem? (i := 16) rfl)
      have e22 : u' 22 = undef := hb (22, _) (List.mem_of_getElem? (i := 17) rfl)
      have e23 : u' 23 = undef := hb (23, _) (List.mem_of_getElem? (i := 18) rfl)
      have e24 : u' 24 = undef := hb (24, _) (List.mem_of_getElem? (i := 19) rfl)
      have e25 : u' 25 = undef := hb (25, _) (List.mem_of_getElem? (i := 20) rfl)
      have e26 : u' 26 = undef := hb (26, _) (List.mem_of_getElem? (i := 21) rfl)
      have e27 : u' 27 = undef := hb (27, _) (List.mem_of_getElem? (i := 22) rfl)
      have e28 : u' 28 = undef := hb (28, _) (List.mem_of_getElem? (i := 23) rfl)
      have e29 : u' 29 = undef := hb (29, _) (List.mem_of_getElem? (i := 24) rfl)
      have e30 : u' 30 = undef := hb (30, _) (List.mem_of_getElem? (i := 25) rfl)
      have e31 : u' 31 = undef := hb (31, _) (List.mem_of_getElem? (i := 26) rfl)
      have e32 : u' 32 = undef := hb (32, _) (List.mem_of_getElem? (i := 27) rfl)
      have e33 : u' 33 = undef := hb (33, _) (List.mem_of_getElem? (i := 28) rfl)
      have e34 : u' 34 = undef := hb (34, _) (List.mem_of_getElem? (i := 29) rfl)
      have e35 : u' 35 = undef := hb (35, _) (List.mem_of_getElem? (i := 30) rfl)
      have e36 : u' 36 = undef := hb (36, _) (List.mem_of_getElem? (i := 31) rfl)
      have e37 : u' 37 = undef := hb (37, _) (List.mem_of_getElem? (i := 32) rfl)
      have e38 : u' 38 = undef := hb (38, _) (List.mem_of_getElem? (i := 33) rfl)
      have e39 : u' 39 = undef := hb (39, _) (List.mem_of_getElem? (i := 34) rfl)
      have e40 : u' 40 = undef := hb (40, _) (List.mem_of_getElem? (i := 35) rfl)
      have e41 : u' 41 = undef := hb (41, _) (List.mem_of_getElem? (i := 36) rfl)
      have e42 : u' 42 = undef := hb (42, _) (List.mem_of_getElem? (i := 37) rfl)
      have e43 : u' 43 = undef := hb (43, _) (List.mem_of_getElem? (i := 38) rfl)
      have e44 : u' 44 = undef := hb (44, _) (List.mem_of_getElem? (i := 39) rfl)
      have e45 : u' 45 = undef := hb (45, _) (List.mem_of_getElem? (i := 40) rfl)
      have e46 : u' 46 = undef := hb (46, _) (List.mem_of_getElem? (i := 41) rfl)
      have e47 : u' 47 = undef := hb (47, _) (List.mem_of_getElem? (i := 42) rfl)
      have e48 : u' 48 = undef := hb (48, _) (List.mem_of_getElem? (i := 43) rfl)
      have e49 : u' 49 = undef := hb (49, _) (List.mem_of_getElem? (i := 44) rfl)
      have e50 : u' 50 = undef := hb (50, _) (List.mem_of_getElem? (i := 45) rfl)
      have e51 : u' 51 = undef := hb (51, _) (List.mem_of_getElem? (i := 46) rfl)
      have e52 : u' 52 = undef := hb (52, _) (List.mem_of_getElem? (i := 47) rfl)
      have e53 : u' 53 = undef := hb (53, _) (List.mem_of_getElem? (i := 48) rfl)
      have e54 : u' 54 = undef := hb (54, _) (List.mem_of_getElem? (i := 49) rfl)
      have e55 : u' 55 = undef := hb (55, _) (List.mem_of_getElem? (i := 50) rfl)
      have e56 : u' 56 = undef := hb (56, _) (List.mem_of_getElem? (i := 51) rfl)
      have e57 : u' 57 = undef := hb (57, _) (List.mem_of_getElem? (i := 52) rfl)
      have e58 : u' 58 = undef := hb (58, _) (List.mem_of_getElem? (i := 53) rfl)
      have e59 : u' 59 = undef := hb (59, _) (List.mem_of_getElem? (i := 54) rfl)
      have e60 : u' 60 = undef := hb (60, _) (List.mem_of_getElem? (i := 55) rfl)
      have e61 : u' 61 = undef := hb (61, _) (List.mem_of_getElem? (i := 56) rfl)
      have e62 : u' 62 = undef := hb (62, _) (List.mem_of_getElem? (i := 57) rfl)
      have e63 : u' 63 = undef := hb (63, _) (List.mem_of_getElem? (i := 58) rfl)
      have e64 : u' 64 = undef := hb (64, _) (List.mem_of_getElem? (i := 59) rfl)
      have e65 : u' 65 = undef := hb (65, _) (List.mem_of_getElem? (i := 60) rfl)
      have e66 : u' 66 = undef := hb (66, _) (List.mem_of_getElem? (i := 61) rfl)
      have e67 : u' 67 = undef := hb (67, _) (List.mem_of_getElem? (i := 62) rfl)
      have e68 : u' 68 = undef := hb (68, _) (List.mem_of_getElem? (i := 63) rfl)
      have e69 : u' 69 = undef := hb (69, _) (List.mem_of_getElem? (i := 64) rfl)
      have e70 : u' 70 = undef := hb (70, _) (List.mem_of_getElem? (i := 65) rfl)
      have e71 : u' 71 = undef := hb (71, _) (List.mem_of_getElem? (i := 66) rfl)
      have e72 : u' 72 = undef := hb (72, _) (List.mem_of_getElem? (i := 67) rfl)
      have e73 : u' 73 = undef := hb (73, _) (List.mem_of_getElem? (i := 68) rfl)
      have e74 : u' 74 = undef := hb (74, _) (List.mem_of_getElem? (i := 69) rfl)
      have e75 : u' 75 = undef := hb (75, _) (List.mem_of_getElem? (i := 70) rfl)
      have e76 : u' 76 = undef := hb (76, _) (List.mem_of_getElem? (i := 71) rfl)
      have e77 : u' 77 = undef := hb (77, _) (List.mem_of_getElem? (i := 72) rfl)
      have e78 : u' 78 = undef := hb (78, _) (List.mem_of_getElem? (i := 73) rfl)
      have e79 : u' 79 = undef := hb (79, _) (List.mem_of_getElem? (i := 74) rfl)
      have e80 : u' 80 = undef := hb (80, _) (List.mem_of_getElem? (i := 75) rfl)
      have e81 : u' 81 = undef := hb (81, _) (List.mem_of_getElem? (i := 76) rfl)
      have e82 : u' 82 = undef := hb (82, _) (List.mem_of_getElem? (i := 77) rfl)
      have e83 : u' 83 = undef := hb (83, _) (List.mem_of_getElem? (i := 78) rfl)
      have e84 : u' 84 = undef := hb (84, _) (List.mem_of_getElem? (i := 79) rfl)
      have e85 : u' 85 = undef := hb (85, _) (List.mem_of_getElem? (i := 80) rfl)
      have e86 : u' 86 = undef := hb (86, _) (List.mem_of_getElem? (i := 81) rfl)
      have e87 : u' 87 = undef := hb (87, _) (List.mem_of_getElem? (i := 82) rfl)
      have e88 : u' 88 = undef := hb (88, _) (List.mem_of_getElem? (i := 83) rfl)
      have e89 : u' 89 = undef := hb (89, _) (List.mem_of_getElem? (i := 84) rfl)
      have e90 : u' 90 = undef := hb (90, _) (List.mem_of_getElem? (i := 85) rfl)
      have e91 : u' 91 = undef := hb (91, _) (List.mem_of_getElem? (i := 86) rfl)
      have e92 : u' 92 = undef := hb (92, _) (List.mem_of_getElem? (i := 87) rfl)
      have e93 : u' 93 = undef := hb (93, _) (List.mem_of_getElem? (i := 88) rfl)
      have e94 : u' 94 = undef := hb (94, _) (List.mem_of_getElem? (i := 89) rfl)
      have e95 : u' 95 = undef := hb (95, _) (List.mem_of_getElem? (i := 90) rfl)
      have e96 : u' 96 = undef := hb (96, _) (List.mem_of_getElem? (i := 91) rfl)
      have e97 : u' 97 = undef := hb (97, _) (List.mem_of_getElem? (i := 92) rfl)
      have e98 : u' 98 = undef := hb (98, _) (List.mem_of_getElem? (i := 93) rfl)
      have e99 : u' 99 = undef := hb (99, _) (List.mem_of_getElem? (i := 94) rfl)
      have e100 : u' 100 = undef := hb (100, _) (List.mem_of_getElem? (i := 95) rfl)
      have e101 : u' 101 = undef := hb (101, _) (List.mem_of_getElem? (i := 96) rfl)
      have e102 : u' 102 = undef := hb (102, _) (List.mem_of_getElem? (i := 97) rfl)
      have e103 : u' 103 = undef := hb (103, _) (List.mem_of_getElem? (i := 98) rfl)
      have e104 : u' 104 = undef := hb (104, _) (List.mem_of_getElem? (i := 99) rfl)
      have e105 : u' 105 = undef := hb (105, _) (List.mem_of_getElem? (i := 100) rfl)
      have e106 : u' 106 = undef := hb (106, _) (List.mem_of_getElem? (i := 101) rfl)
      have e107 : u' 107 = undef := hb (107, _) (List.mem_of_getElem? (i := 102) rfl)
      have e108 : u' 108 = undef := hb (108, _) (List.mem_of_getElem? (i := 103) rfl)
      have e14 : u' 14 = .bool false := hv 4 (by decide)
      rw [e14]
      clear e14
      rw [e0, e1, e2, e3, e4, e5, e6, e7, e8, e9, e15, e16, e17, e18, e19, e20, e21, e22, e23, e24, e25, e26, e27, e28, e29, e30, e31, e32, e33, e34, e35, e36, e37, e38, e39, e40, e41, e42, e43, e44, e45, e46, e47, e48, e49, e50, e51, e52, e53, e54, e55, e56, e57, e58, e59, e60, e61, e62, e63, e64, e65, e66, e67, e68, e69, e70, e71, e72, e73, e74, e75, e76, e77, e78, e79, e80, e81, e82, e83, e84, e85, e86, e87, e88, e89, e90, e91, e92, e93, e94, e95, e96, e97, e98, e99, e100, e101, e102, e103, e104, e105, e106, e107, e108]
      clear hJ hb hv hf hds hsz2 e0 e1 e2 e3 e4 e5 e6 e7 e8 e9 e15 e16 e17 e18 e19 e20 e21 e22 e23 e24 e25 e26 e27 e28 e29 e30 e31 e32 e33 e34 e35 e36 e37 e38 e39 e40 e41 e42 e43 e44 e45 e46 e47 e48 e49 e50 e51 e52 e53 e54 e55 e56 e57 e58 e59 e60 e61 e62 e63 e64 e65 e66 e67 e68 e69 e70 e71 e72 e73 e74 e75 e76 e77 e78 e79 e80 e81 e82 e83 e84 e85 e86 e87 e88 e89 e90 e91 e92 e93 e94 e95 e96 e97 e98 e99 e100 e101 e102 e103 e104 e105 e106 e107 e108
      go_wp2
      go_meet
      exact ⟨rfl, hF⟩
    case j0 => exact ⟨(unhide HP1).below ((Below.refl W1.heap.size W1).drew), Wrt.of_below ((Below.refl W1.heap.size W1).drew) (unhide HP1).sz, fun _ => ⟨(Below.refl _ _).drew, Nat.le_refl _⟩⟩
  case rest =>
  obtain ⟨rfl, hcut⟩ := hcut
  obtain ⟨hp2, hw2⟩ := unhide hcut
  rw [List.nil_append] at hp2
  clear hcut
  have HP2 := hide hp2
  have HW2 := hide hw2
  have hB1 := hw2.bq ((unhide HB1).keep (unhide HBW) (unhide HB1).lt) (by have := unhide HZ0; have := unhide HZ1; omega) (by decide)
  have hB0 := hw2.bq ((unhide HB0).keep (unhide HBW) (unhide HB0).lt) (by have := unhide HZ1; omega) (by decide)
  have c0 := hB0.cell 0 (.int .i64 s.kind) rfl
  have a0 := hB1.cell 0 (.int .i64 0) rfl
  have a5 := hB1.cell 5 (.int .i64 0) rfl
  have a13 := hB1.cell 13 (.int .i64 0) rfl
  have a26 := hB1.cell 26 (.slice ca l.length cc) rfl
  rw [unhide HN] at a26
  clear hp2 hw2 hB1 hB0
  go_wp2_with fail
  go_loopw [8, 77] (fun v8 v77 wr => ∃ (j : Nat), v77 = .int .i64 (j : Int) ∧ j ≤ N ∧ Hid (LnP (X1.heap.size + 1) X1.heap.size X1.heap.size (stT s ++ csT (l.take j)) wr ∧ Wrt X1.heap.size X1.heap.size W1 wr)) (fun _ v77 _ => N - (RowKit.intOf v77).toNat)
  case atStart => exact ⟨0, rfl, Nat.zero_le _, hide ⟨by simpa [csT] using unhide HP2, unhide HW2⟩⟩
  case round =>
    obtain ⟨j, rfl, hj, H⟩ := hrel
    by_cases hjl : j < N
    · obtain ⟨⟨c, dv⟩, he⟩ : ∃ e, l[j]? = some e := ⟨_, List.getElem?_eq_getElem (by rw [unhide HN]; exact hjl)⟩
      have hmem := List.mem_of_getElem? he
      have hbw := (unhide HBW).trans (unhide H).2.bel
      have hR2 := (unhide HR).below hbw
      obtain ⟨a1, kk, e1⟩ := RC.form (hR2.by_ _ hmem)
      simp only at e1
      obtain ⟨b3, off, rfl, hblt3, hcs⟩ := hR2.at he
      have hby := hR2.by_ _ hmem
      simp only at hby
      subst e1
      obtain ⟨m, hm⟩ : ∃ n, c.data.length = n := ⟨_, rfl⟩
      have hwx := unhide HCW _ hmem
      simp only at hwx
      have hdl := hwx.data
      rw [hm] at hby hcs hdl
      have p0 := hcs 0 (.int .i64 c.num) rfl
      rw [Nat.add_zero] at p0
      have p1 := hcs 1 (.int .i64 c.frm) rfl
      have p2 := hcs 2 (.int .i64 c.to_) rfl
      have p3 := hcs 3 (.slice a1 m kk) rfl
      have p4 := hcs 4 (.int .i64 c.sent) rfl
      have p5 := hcs 5 (.bool c.bad) rfl
      have hct := csT_take he
      simp only at hct
      have hcle := csT_le (l := l) (j := j + 1)
      rw [hct, List.length_append] at hcle
      have hblt := (unhide H).1.blt
      have k5 : (j : Int) < (N : Int) := by omega
      have k6 : (0 : Int) ≤ (j : Int) := by omega
      have HCT := hide hct
      have HCL := hide hcle
      have HWX := hide hwx
      have HLr := hide ((unhide HL).below hbw)
      have HBB := hide hbw
      obtain ⟨LL, hLL⟩ : ∃ L, stT s ++ csT (l.take j) = L := ⟨_, rfl⟩
      rw [hLL] at H
      have HLL := hide hLL
      clear hcs he hmem hbw hR2 hct hcle hwx hLL
      go_upto_region 16 with fail
      obtain ⟨X2, hX2⟩ : ∃ X, wr.alloc (.cells #[.int .i64 c.num, .int .i64 c.frm, .int .i64 c.to_, .slice a1 m kk, .int .i64 c.sent, .bool c.bad] 64) = X := ⟨_, rfl⟩
      have HXC := hide (show Bq X2 wr.heap.size 64 #[.int .i64 c.num, .int .i64 c.frm, .int .i64 c.to_, .slice a1 m kk, .int .i64 c.sent, .bool c.bad] by rw [← hX2]; exact Bq.new _ _ _)
      have hbX2 : Below wr.heap.size wr X2 := by rw [← hX2]; exact ballc (Below.refl _ _) _
      have HLX := hide ((unhide HLr).below hbX2)
      have HP3 := hide ((unhide H).1.below hbX2)
      have HW3 := hide ((unhide H).2.trans (Wrt.of_below hbX2 (unhide H).1.sz))
      have hblt2 : X1.heap.size < X2.heap.size := Nat.lt_of_lt_of_le hblt hbX2.size
      have HRB := hide (show RBy X2 (.slice a1 m kk) c.data from RC.below hby hbX2)
      have HFit := hide (show (LL ++ lnT cyT (cpW c).flatten).length ≤ 1000000000 by
        have h1 := unhide HCL
        have h2 := unhide HS
        have h3 := congrArg List.length (unhide HLL)
        have h4 : (lnT cyT (cpW c).flatten).length = (cpT c).length := rfl
        simp only [List.length_append] at h2 h3 ⊢
        omega)
      clear hby hbX2 hm p0 p1 p2 p3 p4 p5
      rw [hX2]
      clear hX2
      rename_i hblt1
      have hblt := hblt2
      refine wp_region_any (by kernel_rfl) ?_
      change wpAny _ _ _ _ _ _ _ (World.drew _)
      refine region_cl 109 (fun j => 81 + j) ((0, (.agg #[.int .i64 s.kind, .int .i64 s.site, .int .i64 s.peer, .int .i64 s.unit, .int .i64 s.at_, .int .i64 s.n, .string s.text, .slice da n1 k1, .slice ba n2 k2])) :: (1, (.agg #[.int .i64 0, .string ⟨#[]⟩, .int .i64 0, .int .i64 0, .slice none 0 0, .int .i64 0, .int .i64 0, .int .i64 0, .int .i64 0, .int .i64 0, .string ⟨#[]⟩, .slice none 0 0, .int .i64 0, .int .i64 0, .bool false, .bool false, .slice none 0 0, .slice none 0 0, .int .i64 0, .int .i64 0, .slice none 0 0, .int .i64 0, .int .i64 0, .slice none 0 0, .int .i64 0, .slice none 0 0, .slice (some { block := b3, off := off }) N cc])) :: (2, (.pointer (some { block := w.heap.size, off := 0 }))) :: (3, (.pointer (some { block := X0.heap.size, off := 0 }))) :: (4, (.string ⟨#[]⟩)) :: (5, (.pointer (some { block := X1.heap.size, off := 0 }))) :: (6, (.func (.func 66) #[] #[.pointer (some ⟨X1.heap.size + 1, 0, none⟩)])) :: (7, undef) :: (8, (.pointer (some { block := wr.heap.size, off := 0 }))) :: (9, (.func (.func 66) #[] #[.pointer (some ⟨X1.heap.size + 1, 0, none⟩)])) :: (10, u10) :: (11, u11) :: (12, u12) :: (13, u13) :: (14, (.bool false)) :: (15, undef) :: (16, undef) :: (17, undef) :: (18, undef) :: (19, undef) :: (20, undef) :: (21, undef) :: (22, (.pointer (some { block := X0.heap.size, off := 0 }))) :: (23, (.int .i64 0)) :: (24, (.bool false)) :: (25, undef) :: (26, undef) :: (27, undef) :: (28, undef) :: (29, undef) :: (30, undef) :: (31, undef) :: (32, (.pointer (some { block := w.heap.size, off := 0 }))) :: (33, (.int .i64 s.kind)) :: (34, (.bool (s.kind == 12))) :: (35, (.bool (s.kind == 12))) :: (36, undef) :: (37, undef) :: (38, undef) :: (39, (.bool false)) :: (40, undef) :: (41, undef) :: (42, undef) :: (43, undef) :: (44, undef) :: (45, undef) :: (46, (.pointer (some { block := X0.heap.size, off := 2 }))) :: (47, (.pointer (some { block := X0.heap.size, off := 5 }))) :: (48, (.int .i64 0)) :: (49, (.bool false)) :: (50, undef) :: (51, undef) :: (52, undef) :: (53, undef) :: (54, undef) :: (55, undef) :: (56, undef) :: (57, undef) :: (58, undef) :: (59, undef) :: (60, undef) :: (61, undef) :: (62, undef) :: (63, undef) :: (64, undef) :: (65, undef) :: (66, (.pointer (some { block := X0.heap.size, off := 13 }))) :: (67, (.pointer (some { block := X0.heap.size, off := 13 }))) :: (68, (.int .i64 0)) :: (69, (.bool false)) :: (70, undef) :: (71, undef) :: (72, undef) :: (73, undef) :: (74, (.pointer (some { block := X0.heap.size, off := 26 }))) :: (75, (.slice (some { block := b3, off := off }) N cc)) :: (76, (.int .i64 (N : Int))) :: (77, (.int .i64 (j : Int))) :: (78, (.bool true)) :: (79, (.pointer (some { block := b3, off := off + j * 6 }))) :: (80, (.agg #[.int .i64 c.num, .int .i64 c.frm, .int .i64 c.to_, .slice a1 m kk, .int .i64 c.sent, .bool c.bad])) :: (107, u107) :: (108, undef) :: []) (fun _ W => Below X2.heap.size X2 W) (valsOf [isV (.func (.func 66) #[] #[.pointer (some ⟨X1.heap.size + 1, 0, none⟩)]), isV (.pointer (some { block := wr.heap.size, off := 0 })), isV (.int .i64 c.num), (I1 c.num), (OtV X2.heap.size [itoa c.num]), isV (.pointer (some { block := wr.heap.size, off := 1 })), isV (.int .i64 c.frm), (I1 c.frm), (OtV X2.heap.size (frT :: [c.frm].map itoa)), isV (.pointer (some { block := wr.heap.size, off := 2 })), isV (.int .i64 c.to_), (I1 c.to_), (OtV X2.heap.size (toT :: [c.to_].map itoa)), isV (.pointer (some { block := wr.heap.size, off := 4 })), isV (.int .i64 c.sent), (I1 c.sent), (OtV X2.heap.size (seT :: [c.sent].map itoa)), isV (.pointer (some { block := wr.heap.size, off := 5 })), isV (.bool c.bad), (OtV X2.heap.size (if c.bad then [baT] else [])), isV (.pointer (some { block := wr.heap.size, off := 3 })), isV (.slice a1 m kk), isV (.string (ofL c.data)), (OtV X2.heap.size [(qT (ofL c.data)).data.toList]), (RrV 6 (cpW c))]) (fun W W' => Below W.heap.size W W') [] (by decide) ?fit ?last ?stable ?steps ?fin _ _ ?sz rfl ?base (Below.refl X2.heap.size X2).drew
      case fit => kernel_rfl
      case last => kernel_rfl
      case sz => rfl
      case base => intro p hp; repeat (first | (rcases List.mem_cons.1 hp with rfl | hp; · rfl) | cases hp)
      case stable =>
        intro j f w1 w2 v hJ hv hG
        refine valsOf_stable (J := fun _ => True) (G := fun W W' => Below W.heap.size W W') ?_ j w1 w2 v trivial hv hG
        refine Stables.all ?_
        refine .same ?_
        refine .same ?_
        refine .same ?_
        refine .other (fun _ _ _ _ hv hG => by obtain ⟨k, e, h⟩ := hv; exact ⟨k, e, h.keep hG h.lt⟩) ?_
        refine .other (fun _ _ _ _ hv hG => OT.below hv hG) ?_
        refine .same ?_
        refine .same ?_
        refine .other (fun _ _ _ _ hv hG => by obtain ⟨k, e, h⟩ := hv; exact ⟨k, e, h.keep hG h.lt⟩) ?_
        refine .other (fun _ _ _ _ hv hG => OT.below hv hG) ?_
        refine .same ?_
        refine .same ?_
        refine .other (fun _ _ _ _ hv hG => by obtain ⟨k, e, h⟩ := hv; exact ⟨k, e, h.keep hG h.lt⟩) ?_
        refine .other (fun _ _ _ _ hv hG => OT.below hv hG) ?_
        refine .same ?_
        refine .same ?_
        refine .other (fun _ _ _ _ hv hG => by obtain ⟨k, e, h⟩ := hv; exact ⟨k, e, h.keep hG h.lt⟩) ?_
        refine .other (fun _ _ _ _ hv hG => OT.below hv hG) ?_
        refine .same ?_
        refine .same ?_
        refine .other (fun _ _ _ _ hv hG => OT.below hv hG) ?_
        refine .same ?_
        refine .same ?_
        refine .same ?_
        refine .other (fun _ _ _ _ hv hG => OT.below hv hG) ?_
        refine .other (fun _ _ _ _ hv hG => ⟨RR.below hv.1 hG, hv.2⟩) ?_
        exact .nil
      case steps =>
        refine .cons (fun hi f ρ W hf hfe hρ hJ hb hd => by
          have d6 : ρ (.tmp 6) = (.func (.func 66) #[] #[.pointer (some ⟨X1.heap.size + 1, 0, none⟩)]) := hb (6, _) (List.mem_of_getElem? (i := 6) rfl)
          exact step_move (.tmp 6) rfl ⟨Below.refl _ _, hJ, d6⟩) ?_
        refine .cons (fun hi f ρ W hf hfe hρ hJ hb hd => by
          have d0 : ρ (.tmp 8) = (.pointer (some { block := wr.heap.size, off := 0 })) := hb (8, _) (List.mem_of_getElem? (i := 8) rfl)
          exact step_val (v := (.pointer (some { block := wr.heap.size, off := 0 }))) (w' := W) (by simp [go_sem, execOp, d0]) ⟨Below.refl _ _, hJ, rfl⟩) ?_
        refine .cons (fun hi f ρ W hf hfe hρ hJ hb hd => by
          have d0 : ρ (.tmp 82) = (.pointer (some { block := wr.heap.size, off := 0 })) := hd 0 _ rfl rfl
          have cc := ((unhide HXC).keep hJ (unhide HXC).lt).cell 0 (.int .i64 c.num) rfl
          exact step_val (v := (.int .i64 c.num)) (w' := W) (by simp [go_sem, execOp, d0, cc]) ⟨Below.refl _ _, hJ, rfl⟩) ?_
        refine .cons (fun hi f ρ W hf hfe hρ hJ hb hd => by
          have d0 : ρ (.tmp 83) = (.int .i64 c.num) := hd 0 _ rfl rfl
          exact step_val (v := .slice (some ⟨W.heap.size, 0, none⟩) 1 1) (w' := W.alloc (.cells #[.int .i64 c.num] 3)) (by simp [go_sem, execOp, d0]) ⟨ballc (Below.refl _ _) _, bnext hJ (ballc (Below.refl _ _) _), _, rfl, Bq.new _ _ _⟩) ?_
        refine .cons (fun hi f ρ W hf hfe hρ hJ hb hd => by
          obtain ⟨k, d0, hq⟩ : I1 c.num W (ρ (.tmp 84)) := hd 0 _ rfl rfl
          refine step_func 34 _ _ #[.slice (some ⟨k, 0, none⟩) 1 1] hρ rfl (enters_of Tryz.func34 (by kernel_rfl) rfl) (by simp [d0]) ?_
          refine (numbers_in [c.num] _ W (I1.nm hq) (by simp) (by intro y hy; simp at hy; rw [hy]; exact (unhide HWX).num) ((unhide HLX).below hJ)).mono ?_
          rintro e W' ⟨u, rfl, ho, hb2⟩
          exact ⟨_, rfl, hb2, bnext hJ hb2, owns_wk ho hJ.size⟩) ?_
        refine .cons (fun hi f ρ W hf hfe hρ hJ hb hd => by
          have d0 : ρ (.tmp 8) = (.pointer (some { block := wr.heap.size, off := 0 })) := hb (8, _) (List.mem_of_getElem? (i := 8) rfl)
          exact step_val (v := (.pointer (some { block := wr.heap.size, off := 1 }))) (w' := W) (by simp [go_sem, execOp, d0]) ⟨Below.refl _ _, hJ, rfl⟩) ?_
        refine .cons (fun hi f ρ W hf hfe hρ hJ hb hd => by
          have d0 : ρ (.tmp 86) = (.pointer (some { block := wr.heap.size, off := 1 })) := hd 0 _ rfl rfl
          have cc := ((unhide HXC).keep hJ (unhide HXC).lt).cell 1 (.int .i64 c.frm) rfl
          exact step_val (v := (.int .i64 c.frm)) (w' := W) (by simp [go_sem, execOp, d0, cc]) ⟨Below.refl _ _, hJ, rfl⟩) ?_
        refine .cons (fun hi f ρ W hf hfe hρ hJ hb hd => by
          have d0 : ρ (.tmp 87) = (.int .i64 c.frm) := hd 0 _ rfl rfl
          exact step_val (v := .slice (some ⟨W.heap.size, 0, none⟩) 1 1) (w' := W.alloc (.cells #[.int .i64 c.frm] 3)) (by simp [go_sem, execOp, d0]) ⟨ballc (Below.refl _ _) _, bnext hJ (ballc (Below.refl _ _) _), _, rfl, Bq.new _ _ _⟩) ?_
        refine .cons (fun hi f ρ W hf hfe hρ hJ hb hd => by
          obtain ⟨k, d0, hq⟩ : I1 c.frm W (ρ (.tmp 88)) := hd 0 _ rfl rfl
          refine step_func 39 _ _ #[.string ⟨#[102, 114, 111, 109]⟩, .slice (some ⟨k, 0, none⟩) 1 1] hρ rfl (enters_of Tryz.func39 (by kernel_rfl) rfl) (by simp [d0, hρ.const]) ?_
          refine (named_in frT [c.frm] _ W (I1.nm hq) (by simp) (by intro y hy; simp at hy; rw [hy]; exact (unhide HWX).frm) ((unhide HLX).below hJ)).mono ?_
          rintro e W' ⟨u, rfl, ho, hb2⟩
          exact ⟨_, rfl, hb2, bnext hJ hb2, owns_wk ho hJ.size⟩) ?_
        refine .cons (fun hi f ρ W hf hfe hρ hJ hb hd => by
          have d0 : ρ (.tmp 8) = (.pointer (some { block := wr.heap.size, off := 0 })) := hb (8, _) (List.mem_of_getElem? (i := 8) rfl)
          exact step_val (v := (.pointer (some { block := wr.heap.size, off := 2 }))) (w' := W) (by simp [go_sem, execOp, d0]) ⟨Below.refl _ _, hJ, rfl⟩) ?_
        refine .cons (fun hi f ρ W hf hfe hρ hJ hb hd => by
          have d0 : ρ (.tmp 90) = (.pointer (some { block := wr.heap.size, off := 2 })) := hd 0 _ rfl rfl
          have cc := ((unhide HXC).keep hJ (unhide HXC).lt).cell 2 (.int .i64 c.to_) rfl
          exact step_val (v := (.int .i64 c.to_)) (w' := W) (by simp [go_sem, execOp, d0, cc]) ⟨Below.refl _ _, hJ, rfl⟩) ?_
        refine .cons (fun hi f ρ W hf hfe hρ hJ hb hd => by
          have d0 : ρ (.tmp 91) = (.int .i64 c.to_) := hd 0 _ rfl rfl
          exact step_val (v := .slice (some ⟨W.heap.size, 0, none⟩) 1 1) (w' := W.alloc (.cells #[.int .i64 c.to_] 3)) (by simp [go_sem, execOp, d0]) ⟨ballc (Below.refl _ _) _, bnext hJ (ballc (Below.refl _ _) _), _, rfl, Bq.new _ _ _⟩) ?_
        refine .cons (fun hi f ρ W hf hfe hρ hJ hb hd => by
          obtain ⟨k, d0, hq⟩ : I1 c.to_ W (ρ (.tmp 92)) := hd 0 _ rfl rfl
          refine step_func 39 _ _ #[.string ⟨#[116, 111]⟩, .slice (some ⟨k, 0, none⟩) 1 1] hρ rfl (enters_of Tryz.func39 (by kernel_rfl) rfl) (by simp [d0, hρ.const]) ?_
          refine (named_in toT [c.to_] _ W (I1.nm hq) (by simp) (by intro y hy; simp at hy; rw [hy]; exact (unhide HWX).to_) ((unhide HLX).below hJ)).mono ?_
          rintro e W' ⟨u, rfl, ho, hb2⟩
          exact ⟨_, rfl, hb2, bnext hJ hb2, owns_wk ho hJ.size⟩) ?_
        refine .cons (fun hi f ρ W hf hfe hρ hJ hb hd => by
          have d0 : ρ (.tmp 8) = (.pointer (some { block := wr.heap.size, off := 0 })) := hb (8, _) (List.mem_of_getElem? (i := 8) rfl)
          exact step_val (v := (.pointer (some { block := wr.heap.size, off := 4 }))) (w' := W) (by simp [go_sem, execOp, d0]) ⟨Below.refl _ _, hJ, rfl⟩) ?_
        refine .cons (fun hi f ρ W hf hfe hρ hJ hb hd => by
          have d0 : ρ (.tmp 94) = (.pointer (some { block := wr.heap.size, off := 4 })) := hd 0 _ rfl rfl
          have cc := ((unhide HXC).keep hJ (unhide HXC).lt).cell 4 (.int .i64 c.sent) rfl
          exact step_val (v := (.int .i64 c.sent)) (w' := W) (by simp [go_sem, execOp, d0, cc]) ⟨Below.refl _ _, hJ, rfl⟩) ?_
        refine .cons (fun hi f ρ W hf hfe hρ hJ hb hd => by
          have d0 : ρ (.tmp 95) = (.int .i64 c.sent) := hd 0 _ rfl rfl
          exact step_val (v := .slice (some ⟨W.heap.size, 0, none⟩) 1 1) (w' := W.alloc (.cells #[.int .i64 c.sent] 3)) (by simp [go_sem, execOp, d0]) ⟨ballc (Below.refl _ _) _, bnext hJ (ballc (Below.refl _ _) _), _, rfl, Bq.new _ _ _⟩) ?_
        refine .cons (fun hi f ρ W hf hfe hρ hJ hb hd => by
          obtain ⟨k, d0, hq⟩ : I1 c.sent W (ρ (.tmp 96)) := hd 0 _ rfl rfl
          refine step_func 39 _ _ #[.string ⟨#[115, 101, 110, 116]⟩, .slice (some ⟨k, 0, none⟩) 1 1] hρ rfl (enters_of Tryz.func39 (by kernel_rfl) rfl) (by simp [d0, hρ.const]) ?_
          refine (named_in seT [c.sent] _ W (I1.nm hq) (by simp) (by intro y hy; simp at hy; rw [hy]; exact (unhide HWX).sent) ((unhide HLX).below hJ)).mono ?_
          rintro e W' ⟨u, rfl, ho, hb2⟩
          exact ⟨_, rfl, hb2, bnext hJ hb2, owns_wk ho hJ.size⟩) ?_
        refine .cons (fun hi f ρ W hf hfe hρ hJ hb hd => by
          have d0 : ρ (.tmp 8) = (.pointer (some { block := wr.heap.size, off := 0 })) := hb (8, _) (List.mem_of_getElem? (i := 8) rfl)
          exact step_val (v := (.pointer (some { block := wr.heap.size, off := 5 }))) (w' := W) (by simp [go_sem, execOp, d0]) ⟨Below.refl _ _, hJ, rfl⟩) ?_
        refine .cons (fun hi f ρ W hf hfe hρ hJ hb hd => by
          have d0 : ρ (.tmp 98) = (.pointer (some { block := wr.heap.size, off := 5 })) := hd 0 _ rfl rfl
          have cc := ((unhide HXC).keep hJ (unhide HXC).lt).cell 5 (.bool c.bad) rfl
          exact step_val (v := (.bool c.bad)) (w' := W) (by simp [go_sem, execOp, d0, cc]) ⟨Below.refl _ _, hJ, rfl⟩) ?_
        refine .cons (fun hi f ρ W hf hfe hρ hJ hb hd => by
          have d0 : ρ (.tmp 99) = (.bool c.bad) := hd 0 _ rfl rfl
          refine step_func 40 _ _ #[.bool c.bad, .string ⟨#[98, 97, 100]⟩] hρ rfl (enters_of Tryz.func40 (by kernel_rfl) rfl) (by simp [d0, hρ.const]) ?_
          refine (when_in c.bad baT W).mono ?_
          rintro e W' ⟨u, rfl, ho, hb2⟩
          exact ⟨_, rfl, hb2, bnext hJ hb2, owns_wk ho hJ.size⟩) ?_
        refine .cons (fun hi f ρ W hf hfe hρ hJ hb hd => by
          have d0 : ρ (.tmp 8) = (.pointer (some { block := wr.heap.size, off := 0 })) := hb (8, _) (List.mem_of_getElem? (i := 8) rfl)
          exact step_val (v := (.pointer (some { block := wr.heap.size, off := 3 }))) (w' := W) (by simp [go_sem, execOp, d0]) ⟨Below.refl _ _, hJ, rfl⟩) ?_
        refine .cons (fun hi f ρ W hf hfe hρ hJ hb hd => by
          have d0 : ρ (.tmp 101) = (.pointer (some { block := wr.heap.size, off := 3 })) := hd 0 _ rfl rfl
          have cc := ((unhide HXC).keep hJ (unhide HXC).lt).cell 3 (.slice a1 m kk) rfl
          exact step_val (v := (.slice a1 m kk)) (w' := W) (by simp [go_sem, execOp, d0, cc]) ⟨Below.refl _ _, hJ, rfl⟩) ?_
        refine .cons (fun hi f ρ W hf hfe hρ hJ hb hd => by
          have d0 : ρ (.tmp 102) = (.slice a1 m kk) := hd 0 _ rfl rfl
          exact step_val (v := .string (ofL c.data)) (w' := W) (run_conv rfl d0 (conv_rc ((unhide HRB).below hJ))) ⟨Below.refl _ _, hJ, rfl⟩) ?_
        refine .cons (fun hi f ρ W hf hfe hρ hJ hb hd => by
          have d0 : ρ (.tmp 103) = (.string (ofL c.data)) := hd 0 _ rfl rfl
          refine step_func 35 _ _ #[.string (ofL c.data)] hρ rfl (enters_of Tryz.func35 (by kernel_rfl) rfl) (by simp [d0]) ?_
          refine (quoted_in (ofL c.data) (by rw [ofL_size]; exact (unhide HWX).data) W ((unhide HLX).below hJ)).mono ?_
          rintro e W' ⟨u, rfl, ho, hb2⟩
          exact ⟨_, rfl, hb2, bnext hJ hb2, owns_wk ho hJ.size⟩) ?_
        refine .cons (fun hi f ρ W hf hfe hρ hJ hb hd => by
          have q0 : OT W X2.heap.size (ρ (.tmp 85)) [itoa c.num] := hd 0 _ rfl rfl
          obtain ⟨a09, c09, d0⟩ := owns_form q0
          rw [d0] at q0
          have q1 : OT W X2.heap.size (ρ (.tmp 89)) (frT :: [c.frm].map itoa) := hd 1 _ rfl rfl
          obtain ⟨a19, c19, d1⟩ := owns_form q1
          rw [d1] at q1
          have q2 : OT W X2.heap.size (ρ (.tmp 93)) (toT :: [c.to_].map itoa) := hd 2 _ rfl rfl
          obtain ⟨a29, c29, d2⟩ := owns_form q2
          rw [d2] at q2
          have q3 : OT W X2.heap.size (ρ (.tmp 97)) (seT :: [c.sent].map itoa) := hd 3 _ rfl rfl
          obtain ⟨a39, c39, d3⟩ := owns_form q3
          rw [d3] at q3
          have q4 : OT W X2.heap.size (ρ (.tmp 100)) (if c.bad then [baT] else []) := hd 4 _ rfl rfl
          obtain ⟨a49, c49, d4⟩ := owns_form q4
          rw [d4] at q4
          have q5 : OT W X2.heap.size (ρ (.tmp 104)) [(qT (ofL c.data)).data.toList] := hd 5 _ rfl rfl
          obtain ⟨a59, c59, d5⟩ := owns_form q5
          rw [d5] at q5
          have hR := rr6 q0 q1 q2 q3 q4 q5
          exact step_val (v := .slice (some ⟨W.heap.size, 0, none⟩) 6 6) (w' := W.alloc (.cells _ 96)) (by simp [go_sem, execOp, d0, d1, d2, d3, d4, d5]) ⟨ballc (Below.refl _ _) _, bnext hJ (ballc (Below.refl _ _) _), hR, _, rfl⟩) ?_
        refine .cons (fun hi => absurd hi (by decide)) ?_
        exact .nil _
      case fin =>
        intro a W o ho hsz2 hds hb hJ hv
        obtain ⟨f, hf, hf25, hJ⟩ := hJ
        have hod : o.dst = some 106 := by cases Option.some.inj ho; rfl
        have hop : o.op = .call { callee := .value (.tmp 81), args := #[.const (.string ⟨#[32, 32, 99, 111, 112, 121]⟩), .tmp 105], argTypes := #[9, 135] } := by cases Option.some.inj ho; rfl
        have d0 : a.eval (.tmp 81) = (.func (.func 66) #[] #[.pointer (some ⟨X1.heap.size + 1, 0, none⟩)]) := hv 0 (by decide)
        obtain ⟨hr, b, d1⟩ : RrV 6 (cpW c) W (a.eval (.tmp 105)) := hv 24 (by decide)
        rw [d1] at hr
        refine step_clo 66 #[.pointer (some ⟨X1.heap.size + 1, 0, none⟩)] (.tmp 81) _ _ #[.string ⟨#[32, 32, 99, 111, 112, 121]⟩, .slice (some ⟨b, 0, none⟩) 6 6, .pointer (some ⟨X1.heap.size + 1, 0, none⟩)] hop d0 (enters_of Tryz.func66 (by kernel_rfl) rfl) (by simp [d1]; rfl) ?_
        refine (line_in ((unhide HP3).below hJ) cyT (cpW c) _ hr (by simp [cpW]) (by have := cpW_len c; omega) (unhide HFit)).mono ?_
        rintro e W5 ⟨rfl, hp, hw⟩
        refine ⟨_, rfl, ?_⟩
        have hF := hide (show LnP (X1.heap.size + 1) X1.heap.size X1.heap.size (LL ++ cpT c) W5 ∧ Wrt X1.heap.size X1.heap.size X2 W5 from ⟨hp, (Wrt.of_below hJ (unhide HP3).sz).trans hw⟩)
        have hb' := put_base (k := 106) (v := .tuple #[]) (by kernel_rfl) hb
        have hsz' := put_sz (k := 106) (v := .tuple #[]) hsz2
        have hds' := put_df (k := 106) (v := .tuple #[]) hds
        clear hb hsz2 hds hv hr d0 d1 hf hf25 hJ hp hw
        rw [hod]
        clear hod hop ho
        generalize a.put (some 106) (.tuple #[]) = a' at *
        obtain ⟨u', rfl⟩ : ∃ u : Nat → Value, a' = ⟨#[u 0, u 1, u 2, u 3, u 4, u 5, u 6, u 7, u 8, u 9, u 10, u 11, u 12, u 13, u 14, u 15, u 16, u 17, u 18, u 19, u 20, u 21, u 22, u 23, u 24, u 25, u 26, u 27, u 28, u 29, u 30, u 31, u 32, u 33, u 34, u 35, u 36, u 37, u 38, u 39, u 40, u 41, u 42, u 43, u 44, u 45, u 46, u 47, u 48, u 49, u 50, u 51, u 52, u 53, u 54, u 55, u 56, u 57, u 58, u 59, u 60, u 61, u 62, u 63, u 64, u 65, u 66, u 67, u 68, u 69, u 70, u 71, u 72, u 73, u 74, u 75, u 76, u 77, u 78, u 79, u 80, u 81, u 82, u 83, u 84, u 85, u 86, u 87, u 88, u 89, u 90, u 91, u 92, u 93, u 94, u 95, u 96, u 97, u 98, u 99, u 100, u 101, u 102, u 103, u 104, u 105, u 106, u 107, u 108], []⟩ := ⟨fun k => a'.eval (.tmp k), frame_fn 109 hsz' hds'⟩
        have e0 : u' 0 = (.agg #[.int .i64 s.kind, .int .i64 s.site, .int .i64 s.peer, .int .i64 s.unit, .int .i64 s.at_, .int .i64 s.n, .string s.text, .slice da n1 k1, .slice ba n2 k2]) := hb' (0, _) (List.mem_of_getElem? (i := 0) rfl)
        have e1 : u' 1 = (.agg #[.int .i64 0, .string ⟨#[]⟩, .int .i64 0, .int .i64 0, .slice none 0 0, .int .i64 0, .int .i64 0, .int .i64 0, .int .i64 0, .int .i64 0, .string ⟨#[]⟩, .slice none 0 0, .int .i64 0, .int .i64 0, .bool false, .bool false, .slice none 0 0, .slice none 0 0, .int .i64 0, .int .i64 0, .slice none 0 0, .int .i64 0, .int .i64 0, .slice none 0 0, .int .i64 0, .slice none 0 0, .slice (some { block := b3, off := off }) N cc]) := hb' (1, _) (List.mem_of_getElem? (i := 1) rfl)
        have e2 : u' 2 = (.pointer (some { block := w.heap.size, off := 0 })) := hb' (2, _) (List.mem_of_getElem? (i := 2) rfl)
        have e3 : u' 3 = (.pointer (some { block := X0.heap.size, off := 0 })) := hb' (3, _) (List.mem_of_getElem? (i := 3) rfl)
        have e4 : u' 4 = (.string ⟨#[]⟩) := hb' (4, _) (List.mem_of_getElem? (i := 4) rfl)
        have e5 : u' 5 = (.pointer (some { block := X1.heap.size, off := 0 })) := hb' (5, _) (List.mem_of_getElem? (i := 5) rfl)
        have e6 : u' 6 = (.func (.func 66) #[] #[.pointer (some ⟨X1.heap.size + 1, 0, none⟩)]) := hb' (6, _) (List.mem_of_getElem? (i := 6) rfl)
        have e7 : u' 7 = undef := hb' (7, _) (List.mem_of_getElem? (i := 7) rfl)
        have e8 : u' 8 = (.pointer (some { block := wr.heap.size, off := 0 })) := hb' (8, _) (List.mem_of_getElem? (i := 8) rfl)
        have e9 : u' 9 = (.func (.func 66) #[] #[.pointer (some ⟨X1.heap.size + 1, 0, none⟩)]) := hb' (9, _) (List.mem_of_getElem? (i := 9) rfl)
        have e10 : u' 10 = u10 := hb' (10, _) (List.mem_of_getElem? (i := 10) rfl)
        have e11 : u' 11 = u11 := hb' (11, _) (List.mem_of_getElem? (i := 11) rfl)
        have e12 : u' 12 = u12 := hb' (12, _) (List.mem_of_getElem? (i := 12) rfl)
        have e13 : u' 13 = u13 := hb' (13, _) (List.mem_of_getElem? (i := 13) rfl)
        have e14 : u' 14 = (.bool false) := hb' (14, _) (List.mem_of_getElem? (i := 14) rfl)
        have e15 : u' 15 = undef := hb' (15, _) (List.mem_of_getElem? (i := 15) rfl)
        have e16 : u' 16 = undef := hb' (16, _) (List.mem_of_getElem? (i := 16) rfl)
        have e17 : u' 17 = undef := hb' (17, _) (List.mem_of_getElem? (i := 17) rfl)
        have e18 : u' 18 = undef := hb' (18, _) (List.mem_of_getElem? (i := 18) rfl)
        have e19 : u' 19 = undef := hb' (19, _) (List.mem_of_getElem? (i := 19) rfl)
        have e20 : u' 20 = undef := hb' (20, _) (List.mem_of_getElem? (i := 20) rfl)
        have e21 : u' 21 = undef := hb' (21, _) (List.mem_of_getElem? (i := 21) rfl)
        have e22 : u' 22 = (.pointer (some { block := X0.heap.size, off := 0 })) := hb' (22, _) (List.mem_of_getElem? (i := 22) rfl)
        have e23 : u' 23 = (.int .i64 0) := hb' (23, _) (List.mem_of_getElem? (i := 23) rfl)
        have e24 : u' 24 = (.bool false) := hb' (24, _) (List.mem_of_getElem? (i := 24) rfl)
        have e25 : u' 25 = undef := hb' (25, _) (List.mem_of_getElem? (i := 25) rfl)
        have e26 : u' 26 = undef := hb' (26, _) (List.mem_of_getElem? (i := 26) rfl)
        have e27 : u' 27 = undef := hb' (27, _) (List.mem_of_getElem? (i := 27) rfl)
        have e28 : u' 28 = undef := hb' (28, _) (List.mem_of_getElem? (i := 28) rfl)
        have e29 : u' 29 = undef := hb' (29, _) (List.mem_of_getElem? (i := 29) rfl)
        have e30 : u' 30 = undef := hb' (30, _) (List.mem_of_getElem? (i := 30) rfl)
        have e31 : u' 31 = undef := hb' (31, _) (List.mem_of_getElem? (i := 31) rfl)
        have e32 : u' 32 = (.pointer (some { block := w.heap.size, off := 0 })) := hb' (32, _) (List.mem_of_getElem? (i := 32) rfl)
        have e33 : u' 33 = (.int .i64 s.kind) := hb' (33, _) (List.mem_of_getElem? (i := 33) rfl)
        have e34 : u' 34 = (.bool (s.kind == 12)) := hb' (34, _) (List.mem_of_getElem? (i := 34) rfl)
        have e35 : u' 35 = (.bool (s.kind == 12)) := hb' (35, _) (List.mem_of_getElem? (i := 35) rfl)
        have e36 : u' 36 = undef := hb' (36, _) (List.mem_of_getElem? (i := 36) rfl)
        have e37 : u' 37 = undef := hb' (37, _) (List.mem_of_getElem? (i := 37) rfl)
        have e38 : u' 38 = undef := hb' (38, _) (List.mem_of_getElem? (i := 38) rfl)
        have e39 : u' 39 = (.bool false) := hb' (39, _) (List.mem_of_getElem? (i := 39) rfl)
        have e40 : u' 40 = undef := hb' (40, _) (List.mem_of_getElem? (i := 40) rfl)
        have e41 : u' 41 = undef := hb' (41, _) (List.mem_of_getElem? (i := 41) rfl)
        have e42 : u' 42 = undef := hb' (42, _) (List.mem_of_getElem? (i := 42) rfl)
        have e43 : u' 43 = undef := hb' (43, _) (List.mem_of_getElem? (i := 43) rfl)
        have e44 : u' 44 = undef := hb' (44, _) (List.mem_of_getElem? (i := 44) rfl)
        have e45 : u' 45 = undef := hb' (45, _) (List.mem_of_getElem? (i := 45) rfl)
        have e46 : u' 46 = (.pointer (some { block := X0.heap.size, off := 2 })) := hb' (46, _) (List.mem_of_getElem? (i := 46) rfl)
        have e47 : u' 47 = (.pointer (some { block := X0.heap.size, off := 5 })) := hb' (47, _) (List.mem_of_getElem? (i := 47) rfl)
        have e48 : u' 48 = (.int .i64 0) := hb' (48, _) (List.mem_of_getElem? (i := 48) rfl)
        have e49 : u' 49 = (.bool false) := hb' (49, _) (List.mem_of_getElem? (i := 49) rfl)
        have e50 : u' 50 = undef := hb' (50, _) (List.mem_of_getElem? (i := 50) rfl)
        have e51 : u' 51 = undef := hb' (51, _) (List.mem_of_getElem? (i := 51) rfl)
        have e52 : u' 52 = undef := hb' (52, _) (List.mem_of_getElem? (i := 52) rfl)
        have e53 : u' 53 = undef := hb' (53, _) (List.mem_of_getElem? (i := 53) rfl)
        have e54 : u' 54 = undef := hb' (54, _) (List.mem_of_getElem? (i := 54) rfl)
        have e55 : u' 55 = undef := hb' (55, _) (List.mem_of_getElem? (i := 55) rfl)
        have e56 : u' 56 = undef := hb' (56, _) (List.mem_of_getElem? (i := 56) rfl)
        have e57 : u' 57 = undef := hb' (57, _) (List.mem_of_getElem? (i := 57) rfl)
        have e58 : u' 58 = undef := hb' (58, _) (List.mem_of_getElem? (i := 58) rfl)
        have e59 : u' 59 = undef := hb' (59, _) (List.mem_of_getElem? (i := 59) rfl)
        have e60 : u' 60 = undef := hb' (60, _) (List.mem_of_getElem? (i := 60) rfl)
        have e61 : u' 61 = undef := hb' (61, _) (List.mem_of_getElem? (i := 61) rfl)
        have e62 : u' 62 = undef := hb' (62, _) (List.mem_of_getElem? (i := 62) rfl)
        have e63 : u' 63 = undef := hb' (63, _) (List.mem_of_getElem? (i := 63) rfl)
        have e64 : u' 64 = undef := hb' (64, _) (List.mem_of_getElem? (i := 64) rfl)
        have e65 : u' 65 = undef := hb' (65, _) (List.mem_of_getElem? (i := 65) rfl)
        have e66 : u' 66 = (.pointer (some { block := X0.heap.size, off := 13 })) := hb' (66, _) (List.mem_of_getElem? (i := 66) rfl)
        have e67 : u' 67 = (.pointer (some { block := X0.heap.size, off := 13 })) := hb' (67, _) (List.mem_of_getElem? (i := 67) rfl)
        have e68 : u' 68 = (.int .i64 0) := hb' (68, _) (List.mem_of_getElem? (i := 68) rfl)
        have e69 : u' 69 = (.bool false) := hb' (69, _) (List.mem_of_getElem? (i := 69) rfl)
        have e70 : u' 70 = undef := hb' (70, _) (List.mem_of_getElem? (i := 70) rfl)
        have e71 : u' 71 = undef := hb' (71, _) (List.mem_of_getElem? (i := 71) rfl)
        have e72 : u' 72 = undef := hb' (72, _) (List.mem_of_getElem? (i := 72) rfl)
        have e73 : u' 73 = undef := hb' (73, _) (List.mem_of_getElem? (i := 73) rfl)
        have e74 : u' 74 = (.pointer (some { block := X0.heap.size, off := 26 })) := hb' (74, _) (List.mem_of_getElem? (i := 74) rfl)
        have e75 : u' 75 = (.slice (some { block := b3, off := off }) N cc) := hb' (75, _) (List.mem_of_getElem? (i := 75) rfl)
        have e76 : u' 76 = (.int .i64 (N : Int)) := hb' (76, _) (List.mem_of_getElem? (i := 76) rfl)
        have e77 : u' 77 = (.int .i64 (j : Int)) := hb' (77, _) (List.mem_of_getElem? (i := 77) rfl)
        have e78 : u' 78 = (.bool true) := hb' (78, _) (List.mem_of_getElem? (i := 78) rfl)
        have e79 : u' 79 = (.pointer (some { block := b3, off := off + j * 6 })) := hb' (79, _) (List.mem_of_getElem? (i := 79) rfl)
        have e80 : u' 80 = (.agg #[.int .i64 c.num, .int .i64 c.frm, .int .i64 c.to_, .slice a1 m kk, .int .i64 c.sent, .bool c.bad]) := hb' (80, _) (List.mem_of_getElem? (i := 80) rfl)
        have e107 : u' 107 = u107 := hb' (107, _) (List.mem_of_getElem? (i := 81) rfl)
        have e108 : u' 108 = undef := hb' (108, _) (List.mem_of_getElem? (i := 82) rfl)
        rw [e0, e1, e2, e3, e4, e5, e6, e7, e8, e9, e10, e11, e12, e13, e14, e15, e16, e17, e18, e19, e20, e21, e22, e23, e24, e25, e26, e27, e28, e29, e30, e31, e32, e33, e34, e35, e36, e37, e38, e39, e40, e41, e42, e43, e44, e45, e46, e47, e48, e49, e50, e51, e52, e53, e54, e55, e56, e57, e58, e59, e60, e61, e62, e63, e64, e65, e66, e67, e68, e69, e70, e71, e72, e73, e74, e75, e76, e77, e78, e79, e80, e107, e108]
        clear hb' hds' hsz' e0 e1 e2 e3 e4 e5 e6 e7 e8 e9 e10 e11 e12 e13 e14 e15 e16 e17 e18 e19 e20 e21 e22 e23 e24 e25 e26 e27 e28 e29 e30 e31 e32 e33 e34 e35 e36 e37 e38 e39 e40 e41 e42 e43 e44 e45 e46 e47 e48 e49 e50 e51 e52 e53 e54 e55 e56 e57 e58 e59 e60 e61 e62 e63 e64 e65 e66 e67 e68 e69 e70 e71 e72 e73 e74 e75 e76 e77 e78 e79 e80 e107 e108
        have HN4 := hide (show LnP (X1.heap.size + 1) X1.heap.size X1.heap.size (stT s ++ csT (l.take (j + 1))) W5 ∧ Wrt X1.heap.size X1.heap.size W1 W5 from ⟨by have h := (unhide hF).1; rw [unhide HCT, ← List.append_assoc, unhide HLL]; exact h, (unhide HW3).trans (unhide hF).2⟩)
        clear hF HW3 HP3 HRB HFit HXC HLX H HCL HLL HCT
        go_wp2
        go_roundw
        case rel => exact ⟨j + 1, by go_num, by omega, HN4⟩
        case measure => simp [RowKit.intOf]; omega
    · obtain rfl : j = N := by omega
      have kd : decide ((j : Int) < (j : Int)) = false := by simp
      have e1 : l.take j = l := List.take_of_length_le (by rw [unhide HN]; exact Nat.le_refl _)
      rw [e1] at H
      have hstr := hide (string_any_k X1.heap.size X1.heap.size (stT s ++ csT l) wr (unhide H).1.bui (unhide H).1.sz)
      have HB5 := hide (bnext (unhide HBX) ((unhide HBW).trans (unhide H).2.bel))
      clear H e1
      go_wp2_with fail
      refine (unhide hstr).mono ?_
      rintro e W4 ⟨rfl, hb4, -⟩
      have HF := hide ((unhide HB5).trans (hb4.mono (unhide HBX).size))
      clear hb4 hstr HB5
      go_wp2
      go_ret
      exact ⟨rfl, unhide HF⟩
end Go.Proofs.YtkndjbmlkfpfoaaGreatDoor
