/-
  strings.Clone: the same text.
-/
import Derived.Test.YtlbgfcbhpmhhpabZE2
import Derived.Lib.UnsafeStr
import Derived.Lib.BufferWrite
import Derived.Laws.CopyOwn
set_option linter.unusedSimpArgs false
set_option linter.unusedVariables false
namespace Go.Proofs.Ytlbgfcbhpmhhpab
open Go.RowKit Go.Lib

theorem mkB (N : Nat) (hN : N ≤ 1000000000) : ∃ Z : Array Value, Z.size = N ∧ ∀ w : World, (Instr.makeSlice 47 (.int .i64 (N : Nat)) (.int .i64 (N : Nat))).run Try.prog w = .ok (.slice (some ⟨w.heap.size, 0, none⟩) N N) (w.alloc (.cells Z 5)) := by
  obtain ⟨i, hi, hz, hs, hb⟩ := info_parts (show (Try.prog.info? 5).map (fun i => (i.zero, i.size, i.bytes)) = some (some (.int .u8 0), 1, 1) by kernel_rfl)
  refine ⟨madeCells (Value.int .u8 0).cells (N * 1), by rw [size_madeCells]; omega, fun w => ?_⟩
  have := run_make (P := Try.prog) w 47 5 i _ Try.underlying47 hi hz .i64 .i64 (N : Int) (N : Int) (by omega) (Int.le_refl _) (by rw [hb]; omega) (by omega)
  rw [hs, Int.toNat_natCast] at this
  exact this

set_option maxRecDepth 100000 in
set_option maxHeartbeats 4000000 in
theorem clone_in (s : ByteArray) (w : World) (hs : s.size ≤ 1000000000) :
    Calls Try.prog 28 #[.string s] w fun e W => e = .returned (.string s) ∧ Below w.heap.size w W := by
  by_cases h0 : s.size = 0
  · have e : s = ⟨#[]⟩ := by
      cases s with
      | mk d => simp [ByteArray.size] at h0; simp [h0]
    subst e
    go_enter Try.func28, Try.ntmps28
    go_wp2
    go_ret
    exact ⟨rfl, Below.refl _ _⟩
  · obtain ⟨Z, hZ, mk⟩ := mkB s.size hs
    have hg : (w.alloc (.cells Z 5)).heap[w.heap.size]? = some (.cells Z 5 (0, 0)) := World.alloc_heap_new w _
    have hcp := fun ty => run_copy_row_string (P := Try.prog) (w.alloc (.cells Z 5)) 47 9 ty 5 w.heap.size 0 s.size s.size s Z 5 Try.underlying47 (by kernel_rfl) hg (Nat.le_refl _) (by omega)
    obtain ⟨C, hC⟩ : ∃ C, (Z.toList.take 0 ++ byteCells s.data.toList ++ Z.toList.drop (0 + s.size)).toArray = C := ⟨_, rfl⟩
    rw [hC] at hcp
    have hCe : C = (byteCells s.data.toList).toArray := by
      rw [← hC, List.drop_eq_nil_of_le (by simp; omega)]; simp
    have hg2 := setRow_heap _ w.heap.size Z C 5 (0, 0) hg
    have hCs : C.size = s.size := by rw [hCe]; simp [byteCells]
    have hl : s.data.toList.length = s.size := by simp
    have hus := fun ty => run_unsafeString_row (P := Try.prog) ((w.alloc (.cells Z 5)).setRow w.heap.size C) 70 3 ty 5 Try.underlying70 (by kernel_rfl) w.heap.size s.size (by unfold World.shape?; rw [hg2]; simp [hCs]) s.data.toList (fun e => h0 (by rw [← hl, e]; rfl)) (by rw [hl]; exact Nat.le_refl _) (by rw [hl]; omega) (fun j x hx => by
      rw [Addr.add_lit]
      have := cell_of (j := j) hg2
      rw [Nat.zero_add, this, hCe]
      simp [byteCells, hx])
    have hse : (⟨s.data.toList.toArray⟩ : ByteArray) = s := by cases s; simp
    simp only [hl, hse] at hus
    have hB : Below w.heap.size w (((w.alloc (.cells Z 5)).setRow w.heap.size C).freeze ⟨w.heap.size, 0, none⟩ s.size) := below_freeze (below_setRow ((Below.refl _ w).alloc (Nat.le_refl _) _) (Nat.le_refl _) _) (Nat.le_refl _) _
    have hne : (((s.size : Nat) : Int) == 0) = false := by rw [beq_eq_false_iff_ne]; omega
    have hpos : (0 : Int) < ((s.size : Nat) : Int) := by omega
    generalize hN : s.size = n at *
    clear hC hCe hg hg2 hCs hl hse hZ
    simp only [goInt] at hcp
    go_enter Try.func28, Try.ntmps28
    go_wp2
    go_ret
    exact ⟨rfl, hB⟩

theorem sclone_in (s : ByteArray) (w : World) (hs : s.size ≤ 1000000000) :
    Calls Try.prog 17 #[.string s] w fun e W => e = .returned (.string s) ∧ Below w.heap.size w W := by
  go_enter Try.func17, Try.ntmps17
  go_wp2_with fail
  refine (clone_in s _ hs).mono ?_
  rintro e W ⟨rfl, hB⟩
  go_wp2
  go_ret
  exact ⟨rfl, hB⟩

end Go.Proofs.Ytlbgfcbhpmhhpab
