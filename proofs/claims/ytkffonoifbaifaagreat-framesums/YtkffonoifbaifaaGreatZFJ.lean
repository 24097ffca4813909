/-
  wordOf: four bytes as a word.
-/
import Derived.Test.YtkffonoifbaifaaGreatZFC
set_option linter.unusedSimpArgs false
set_option linter.unusedVariables false
namespace Go.Proofs.YtkffonoifbaifaaGreat
open Go.RowKit Go.Lib

theorem uI_shl (m : Wd) (n : Nat) : IntKind.u32.wrap (uI m * 2 ^ n) = uI (m <<< n) := by
  have h : IntKind.u32.wrap (uI m * 2 ^ n) = (uI m * 2 ^ n) % 4294967296 := rfl
  rw [h]
  unfold uI
  rw [BitVec.toNat_shiftLeft, Nat.shiftLeft_eq]
  simp
/-- the word of the first i bytes -/
def wOf (l : List Nat) : Nat → Wd
  | 0 => 0#32
  | i + 1 => wOf l i ||| (BitVec.ofNat 32 (l.getD i 0) <<< (8 * i))

set_option maxRecDepth 100000 in
set_option maxHeartbeats 4000000 in
theorem wordOf_in (v : Value) (l : List Nat) (w : World) (h : RB w v l) (hl : l.length = 4) : Calls Tryz.prog 34 #[v] w fun e W => e = .returned (.int .u32 (uI (wOf l 4))) ∧ Below w.heap.size w W := by
  obtain ⟨a, c, rfl⟩ := RC.form h
  have Hh := hide h
  have Hl := hide hl
  rw [hl] at Hh ⊢
  clear h hl
  go_enter Tryz.func34, Tryz.ntmps34
  go_wp2
  go_loopw [8, 3] (fun iv mv wr => ∃ i : Nat, i ≤ 4 ∧ iv = .int .i64 (i : Nat) ∧ mv = .int .u32 (uI (wOf l i)) ∧ Hid (Below w.heap.size w wr)) (fun iv _ _ => 4 - (RowKit.intOf iv).toNat)
  case atStart => exact ⟨0, Nat.zero_le _, rfl, rfl, hide (Below.refl _ _)⟩
  case round =>
    obtain ⟨i, hi, rfl, rfl, HI⟩ := hrel
    by_cases hlt : i < 4
    · have k1 : (i : Int) < 4 := by omega
      have k2 : (0 : Int) ≤ (i : Int) := by omega
      obtain ⟨x, hx⟩ : ∃ x, l[i]? = some x := ⟨_, List.getElem?_eq_getElem (by rw [unhide Hl]; exact hlt)⟩
      obtain ⟨b, off, rfl, _, q0⟩ := RB.at ((unhide Hh).below (unhide HI)) hx
      have hnx : wOf l (i + 1) = wOf l i ||| (BitVec.ofNat 32 x <<< (8 * i)) := by show _ ||| (BitVec.ofNat 32 (l.getD i 0) <<< _) = _; rw [List.getD_eq_getElem?_getD, hx]; rfl
      have q1 := uI_nat x
      have q3 := uI_shl (BitVec.ofNat 32 x) (8 * i)
      have q4 := u_or (wOf l i) (BitVec.ofNat 32 x <<< (8 * i))
      rw [← hnx] at q4
      clear hnx hx
      go_wp2
      go_roundw
      case rel => exact ⟨i + 1, by omega, by go_num, by rw [show uI (BitVec.ofNat 32 x) * 2 ^ (8 * i) % 4294967296 = uI (BitVec.ofNat 32 x <<< (8 * i)) from q3, q4], HI⟩
      case measure => show 4 - ((i : Int) + 1).toNat < 4 - ((i : Nat) : Int).toNat; omega
    · obtain rfl : i = 4 := by omega
      go_wp2
      go_ret
      exact ⟨rfl, unhide HI⟩
end Go.Proofs.YtkffonoifbaifaaGreat
