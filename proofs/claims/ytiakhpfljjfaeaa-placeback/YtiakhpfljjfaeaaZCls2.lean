/-
  What clump.Class answers: the class of every number.
-/
import Derived.Test.YtiakhpfljjfaeaaZCls
set_option linter.unusedSimpArgs false
set_option linter.unusedVariables false
namespace Go.Proofs.Ytiakhpfljjfaeaa
open Go.RowKit Go.Lib

theorem sp_bounds : ∀ x ∈ sp, 0 ≤ x.2.1 ∧ x.2.2.1 ≤ 1000000 ∧ (x.2.2.2 = 0 ∨ x.2.2.2 = 28) := by decide

theorem index_tab (w : World) (k : Nat) (hk : k < 46) : (Instr.index 91 tabV (.int .i64 k)).run Try.prog w = .ok (sv k) w := by
  rcases (by omega : k = 0 ∨ k = 1 ∨ k = 2 ∨ k = 3 ∨ k = 4 ∨ k = 5 ∨ k = 6 ∨ k = 7 ∨ k = 8 ∨ k = 9 ∨ k = 10 ∨ k = 11 ∨ k = 12 ∨ k = 13 ∨ k = 14 ∨ k = 15 ∨ k = 16 ∨ k = 17 ∨ k = 18 ∨ k = 19 ∨ k = 20 ∨ k = 21 ∨ k = 22 ∨ k = 23 ∨ k = 24 ∨ k = 25 ∨ k = 26 ∨ k = 27 ∨ k = 28 ∨ k = 29 ∨ k = 30 ∨ k = 31 ∨ k = 32 ∨ k = 33 ∨ k = 34 ∨ k = 35 ∨ k = 36 ∨ k = 37 ∨ k = 38 ∨ k = 39 ∨ k = 40 ∨ k = 41 ∨ k = 42 ∨ k = 43 ∨ k = 44 ∨ k = 45) with rfl | rfl | rfl | rfl | rfl | rfl | rfl | rfl | rfl | rfl | rfl | rfl | rfl | rfl | rfl | rfl | rfl | rfl | rfl | rfl | rfl | rfl | rfl | rfl | rfl | rfl | rfl | rfl | rfl | rfl | rfl | rfl | rfl | rfl | rfl | rfl | rfl | rfl | rfl | rfl | rfl | rfl | rfl | rfl | rfl | rfl
  all_goals kernel_rfl

set_option maxHeartbeats 1000000 in
set_option maxRecDepth 100000 in
theorem class_in (r : Int) (h1 : -2147483648 ≤ r) (h2 : r ≤ 2147483647) (w : World) :
    Calls Try.prog 36 #[.int .i32 r] w fun e W' => e = .returned (.int .i64 (cls r)) ∧ Below w.heap.size w W' := by
  go_enter Try.func36, Try.ntmps36
  go_wp2
  go_step3
  go_wp2
  go_step3
  rename_i K hK
  refine hK _ _ ?_
  clear hK
  refine wp_seq_k fun K1 hK1 => ?_
  refine wp_seq_k fun K2 hK2 => ?_
  refine wp_region_lit (wpList_puts (t' := #[.int .i32 r, undef, .int .i64 0, .int .i64 0, undef, undef, sv 0, sv 1, sv 2, sv 3, sv 4, sv 5, sv 6, sv 7, sv 8, sv 9, sv 10, sv 11, sv 12, sv 13, sv 14, sv 15, sv 16, sv 17, sv 18, sv 19, sv 20, sv 21, sv 22, sv 23, sv 24, sv 25, sv 26, sv 27, sv 28, sv 29, sv 30, sv 31, sv 32, sv 33, sv 34, sv 35, sv 36, sv 37, sv 38, sv 39, sv 40, sv 41, sv 42, sv 43, sv 44, sv 45, tabV, .int .i64 0, undef, undef, undef, undef, undef, undef, undef, undef, undef, undef, undef, undef, undef, undef, undef, undef, undef, undef, undef, undef, undef, undef, undef, undef, undef, undef, undef, undef, undef, undef, undef]) ?_ _ _ (by kernel_rfl))
  refine hK2 _ _ ?_
  clear hK2
  have Hix := @index_tab
  go_wp2
  go_loopw [3, 53] (fun cv iv wr => cv = .int .i64 0 ∧ (∃ k : Nat, k ≤ 46 ∧ iv = .int .i64 k ∧ Hid (cls r = fst r (sp.drop k))) ∧ Below w.heap.size w wr) (fun _ iv _ => 46 - (RowKit.intOf iv).toNat)
  case atStart => exact ⟨rfl, ⟨0, by omega, rfl, hide (fst_cls r).symm⟩, Below.refl _ _⟩
  case round =>
    obtain ⟨rfl, ⟨k, hk, rfl, hin⟩, hB⟩ := hrel
    by_cases hlt : k < 46
    · have i1 : (k : Int) < 46 := by omega
      have hix := fun w => Hix w k hlt
      clear Hix
      obtain ⟨x, hx⟩ : ∃ x, sp[k]? = some x := ⟨_, List.getElem?_eq_getElem hlt⟩
      have Hd := hide (fst_drop (r := r) hx)
      obtain ⟨c, lo, hi, st⟩ := x
      have hsv : sv k = .agg #[.int .i64 c, .int .i32 lo, .int .i32 hi, .int .i32 st] := by unfold sv; rw [List.getD, hx]; rfl
      rw [hsv] at hix
      clear hsv
      have hbd := sp_bounds _ (List.mem_of_getElem? hx)
      obtain ⟨b1, b2, b3⟩ := hbd
      simp only at b1 b2 b3
      clear hx
      have no : hit r (c, lo, hi, st) = false → Hid (cls r = fst r (sp.drop (k + 1))) := fun h => hide (by rw [unhide hin, unhide Hd, h]; rfl)
      have yes : hit r (c, lo, hi, st) = true → Hid (cls r = c) := fun h => hide (by rw [unhide hin, unhide Hd, h]; rfl)
      have No := hide no
      have Yes := hide yes
      clear no yes Hd
      by_cases q1 : lo ≤ r
      · by_cases q2 : r ≤ hi
        · rcases b3 with rfl | rfl
          · have hc := unhide Yes (by unfold hit; simp [q1, q2])
            go_wp2
            rw [Exit.noGoto_ret]
            go_ret
            exact ⟨by rw [unhide hc]; rfl, hB.alloc hB.size _⟩
          · by_cases q3 : (r - lo) % 28 = 0
            · have hc := unhide Yes (by unfold hit; simp [q1, q2, q3])
              have Hq := hide q3
              clear q3
              have q5 : ((r - lo) % 28 == 0) = true := by rw [beq_iff_eq]; exact unhide Hq
              go_wp2
              rw [Exit.noGoto_ret]
              go_ret
              exact ⟨by rw [unhide hc]; rfl, hB.alloc hB.size _⟩
            · have hc := unhide No (by unfold hit; simp [q1, q2, q3])
              have Hq := hide q3
              clear q3
              have q5 : ((r - lo) % 28 == 0) = false := by rw [beq_eq_false_iff_ne]; exact unhide Hq
              go_wp2
              go_roundw
              case rel => exact ⟨rfl, ⟨k + 1, by omega, by go_num, hc⟩, hB.alloc hB.size _⟩
              case measure => simp [RowKit.intOf]; omega
        · have hc := unhide No (by unfold hit; simp [q2])
          go_wp2
          go_roundw
          case rel => exact ⟨rfl, ⟨k + 1, by omega, by go_num, hc⟩, hB.alloc hB.size _⟩
          case measure => simp [RowKit.intOf]; omega
      · have hc := unhide No (by unfold hit; simp [q1])
        go_wp2
        go_roundw
        case rel => exact ⟨rfl, ⟨k + 1, by omega, by go_num, hc⟩, hB.alloc hB.size _⟩
        case measure => simp [RowKit.intOf]; omega
    · have hc : Hid (cls r = 0) := hide (by rw [unhide hin, List.drop_eq_nil_of_le (by show 46 ≤ k; omega)]; rfl)
      go_wp2
      rw [Exit.noGoto_ret]
      go_ret
      exact ⟨by rw [unhide hc]; rfl, hB⟩

end Go.Proofs.Ytiakhpfljjfaeaa
