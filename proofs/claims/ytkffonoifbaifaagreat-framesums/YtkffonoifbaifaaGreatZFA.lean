/-
  Pure: the sum of bytes, digit by digit and half by half.
-/
import Derived.Test.YtkffonoifbaifaaGreatZRA
set_option linter.unusedSimpArgs false
set_option linter.unusedVariables false
namespace Go.Proofs.YtkffonoifbaifaaGreat
open Go.RowKit Go.Lib

theorem uI_nn (J : Wd) : 0 ≤ uI J := by unfold uI; omega
theorem uI_lt (J : Wd) : uI J < 4294967296 := by have := J.isLt; unfold uI; omega
theorem u_xor (J L : Wd) : bits .xor .u32 (uI J) (uI L) = uI (J ^^^ L) := by
  show IntKind.u32.wrap ((BitVec.ofInt 32 (uI J) ^^^ BitVec.ofInt 32 (uI L)).toNat : Int) = _
  rw [uI_ofInt, uI_ofInt, uI_wrap]
theorem uI_shrN (m : Wd) (n : Nat) : uI m / 2 ^ n = uI (m >>> n) := by
  unfold uI
  rw [BitVec.toNat_ushiftRight, Nat.shiftRight_eq_div_pow]
  simp
theorem uI_nat (x : Nat) : IntKind.u32.wrap ((x : Nat) : Int) = uI (BitVec.ofNat 32 x) := by
  have h : IntKind.u32.wrap ((x : Nat) : Int) = (x : Int) % 4294967296 := rfl
  rw [h]
  unfold uI
  rw [BitVec.toNat_ofNat]
  omega
theorem uI_odd (J : Wd) : uI J % 2 = if J.getLsbD 0 then 1 else 0 := by
  unfold uI
  have h : J.getLsbD 0 = decide (J.toNat % 2 = 1) := by
    simp [BitVec.getLsbD, Nat.testBit_zero]
  rw [h]
  by_cases e : J.toNat % 2 = 1
  · simp [e]; omega
  · simp [e]; omega
theorem u_odd (J : Wd) : uI (J &&& 1#32) = if J.getLsbD 0 then 1 else 0 := by
  rw [← uI_odd]
  unfold uI
  rw [BitVec.toNat_and]
  simp [Nat.and_one_is_mod]

def poly : Wd := 0xedb88320#32
/-- a digit is shifted out -/
def sh (w : Wd) : Wd := (w >>> 1) ^^^ (if w.getLsbD 0 then poly else 0#32)
def shN : Nat → Wd → Wd
  | 0, w => w
  | k + 1, w => shN k (sh w)
theorem sh_one {w : Wd} (h : w.getLsbD 0 = true) : sh w = (w >>> 1) ^^^ poly := by unfold sh; rw [if_pos h]
theorem sh_zero {w : Wd} (h : w.getLsbD 0 = false) : sh w = w >>> 1 := by unfold sh; rw [h]; simp
theorem sh_xor (a b : Wd) : sh (a ^^^ b) = sh a ^^^ sh b := by
  unfold sh
  rw [BitVec.ushiftRight_xor_distrib, BitVec.getLsbD_xor]
  cases ha : a.getLsbD 0 <;> cases hb : b.getLsbD 0
  · simp
  · simp [BitVec.xor_assoc]
  · simp only [Bool.xor_false, if_true, Bool.false_eq_true, if_false, BitVec.xor_zero]
    rw [BitVec.xor_assoc, BitVec.xor_assoc, BitVec.xor_comm poly]
  · simp only [Bool.xor_self, if_true, Bool.false_eq_true, if_false, BitVec.xor_zero]
    apply wd_ext
    intro i
    simp only [BitVec.getLsbD_xor]
    cases (a >>> 1).getLsbD i <;> cases (b >>> 1).getLsbD i <;> cases poly.getLsbD i <;> rfl
theorem shN_xor : ∀ (k : Nat) (a b : Wd), shN k (a ^^^ b) = shN k a ^^^ shN k b
  | 0, a, b => rfl
  | k + 1, a, b => by unfold shN; rw [sh_xor, shN_xor k]
theorem shN_low : ∀ (k : Nat) (w : Wd), (∀ i, i < k → w.getLsbD i = false) → shN k w = w >>> k
  | 0, w, h => by simp [shN]
  | k + 1, w, h => by
    unfold shN
    rw [sh_zero (h 0 (by omega)), shN_low k (w >>> 1) (fun i hi => by rw [BitVec.getLsbD_ushiftRight]; exact h _ (by omega)), ← BitVec.shiftRight_add, Nat.add_comm]
theorem shN_add : ∀ (k m : Nat) (w : Wd), shN (k + m) w = shN m (shN k w)
  | 0, m, w => by rw [Nat.zero_add]; rfl
  | k + 1, m, w => by rw [Nat.add_right_comm]; exact shN_add k m (sh w)
theorem low4 (i : Nat) : (15#32).getLsbD i = decide (i < 4) := by
  by_cases h : i < 32
  · have : ∀ i, i < 32 → (15#32).getLsbD i = decide (i < 4) := by decide
    exact this i h
  · rw [BitVec.getLsbD_of_ge _ _ (by omega)]; simp; omega
/-- four steps are one -/
theorem sh4 (w : Wd) : shN 4 w = (w >>> 4) ^^^ shN 4 (w &&& 15#32) := by
  have e : w = (w &&& ~~~15#32) ^^^ (w &&& 15#32) := by
    apply wd_ext
    intro i
    by_cases h : i < 32
    · simp only [BitVec.getLsbD_xor, BitVec.getLsbD_and, BitVec.getLsbD_not, h, decide_true, Bool.true_and]
      cases w.getLsbD i <;> cases (15#32).getLsbD i <;> rfl
    · rw [BitVec.getLsbD_of_ge _ _ (by omega), BitVec.getLsbD_of_ge _ _ (by omega)]
  have h1 : shN 4 w = shN 4 (w &&& ~~~15#32) ^^^ shN 4 (w &&& 15#32) := by
    conv => lhs; rw [e]
    exact shN_xor 4 _ _
  rw [h1, shN_low 4 _ (fun i hi => by
    rw [BitVec.getLsbD_and, BitVec.getLsbD_not, low4]
    simp [hi])]
  congr 1
  apply wd_ext
  intro i
  rw [BitVec.getLsbD_ushiftRight, BitVec.getLsbD_ushiftRight, BitVec.getLsbD_and, BitVec.getLsbD_not, low4]
  by_cases h : 4 + i < 32
  · simp [h]
  · rw [BitVec.getLsbD_of_ge _ _ (by omega)]; simp
/-- what a half turns -/
def tb (h : Nat) : Wd := shN 4 (BitVec.ofNat 32 h)
theorem half_lt (w : Wd) : (w &&& 15#32).toNat < 16 := by
  rw [BitVec.toNat_and]
  exact Nat.lt_of_le_of_lt Nat.and_le_right (by decide)
theorem tb_half (w : Wd) : tb (w &&& 15#32).toNat = shN 4 (w &&& 15#32) := by
  unfold tb
  simp
def byt (s : Wd) (x : Nat) : Wd := shN 8 (s ^^^ BitVec.ofNat 32 x)
theorem byt_eq (s : Wd) (x : Nat) {w1 : Wd} (h1 : w1 = ((s ^^^ BitVec.ofNat 32 x) >>> 4) ^^^ tb ((s ^^^ BitVec.ofNat 32 x) &&& 15#32).toNat) : (w1 >>> 4) ^^^ tb (w1 &&& 15#32).toNat = byt s x := by
  rw [tb_half, ← sh4]
  rw [tb_half, ← sh4] at h1
  rw [h1]
  unfold byt
  exact (shN_add 4 4 _).symm
def crcR (l : List Nat) : Wd := l.foldl byt (~~~0#32)
def crc (l : List Nat) : Wd := ~~~(crcR l)
theorem crcR_snoc (l : List Nat) (x : Nat) : crcR (l ++ [x]) = byt (crcR l) x := by unfold crcR; rw [List.foldl_append]; rfl
theorem crc_ex : uI (crc [49, 50, 51, 52, 53, 54, 55, 56, 57]) = 0xcbf43926 := by kernel_rfl
end Go.Proofs.YtkffonoifbaifaaGreat
