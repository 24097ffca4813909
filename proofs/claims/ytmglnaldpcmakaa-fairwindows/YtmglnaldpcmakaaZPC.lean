/-
  Pure: words of 64 bits, and which pairs they tell of.
-/
import Derived.Test.YtmglnaldpcmakaaZPB
set_option linter.unusedSimpArgs false
set_option linter.unusedVariables false
namespace Go.Proofs.Ytmglnaldpcmakaa
open Go.RowKit Go.Lib

abbrev W6 := BitVec 64
def uL (J : W6) : Int := ((J.toNat : Nat) : Int)
theorem uL_inj {J L : W6} (h : uL J = uL L) : J = L := by
  unfold uL at h
  exact BitVec.eq_of_toNat_eq (by omega)
theorem uL_ofInt (J : W6) : BitVec.ofInt 64 (uL J) = J := by unfold uL; simp
theorem uL_wrap (J : W6) : IntKind.u64.wrap ((J.toNat : Nat) : Int) = uL J := by
  have h := J.isLt
  unfold uL IntKind.wrap IntKind.bits IntKind.signed
  simp only [Bool.false_and, if_false]
  exact Int.emod_eq_of_lt (by omega) (by omega)
theorem l_and (J L : W6) : bits .and .u64 (uL J) (uL L) = uL (J &&& L) := by
  show IntKind.u64.wrap ((BitVec.ofInt 64 (uL J) &&& BitVec.ofInt 64 (uL L)).toNat : Int) = _
  rw [uL_ofInt, uL_ofInt, uL_wrap]
theorem l_or (J L : W6) : bits .or .u64 (uL J) (uL L) = uL (J ||| L) := by
  show IntKind.u64.wrap ((BitVec.ofInt 64 (uL J) ||| BitVec.ofInt 64 (uL L)).toNat : Int) = _
  rw [uL_ofInt, uL_ofInt, uL_wrap]
theorem l_andNot (J L : W6) : bits .andNot .u64 (uL J) (uL L) = uL (J &&& ~~~L) := by
  show IntKind.u64.wrap ((BitVec.ofInt 64 (uL J) &&& ~~~BitVec.ofInt 64 (uL L)).toNat : Int) = _
  rw [uL_ofInt, uL_ofInt, uL_wrap]
/-- a pair's bit -/
def btW (p : Nat) : W6 := BitVec.twoPow 64 (p % 64)
theorem btW_eq (p : Nat) : (2 : Int) ^ (p % 64) % 18446744073709551616 = uL (btW p) := by
  have h3 : (2 : Nat) ^ (p % 64) < 2 ^ 64 := Nat.pow_lt_pow_right (by omega) (Nat.mod_lt _ (by omega))
  have e : uL (btW p) = (2 : Int) ^ (p % 64) := by
    unfold uL btW
    rw [BitVec.toNat_twoPow, Nat.mod_eq_of_lt h3]
    simp
  have h4 : uL (btW p) < 18446744073709551616 := by unfold uL; have := (btW p).isLt; omega
  have h5 : 0 ≤ uL (btW p) := by unfold uL; omega
  rw [← e]
  exact Int.emod_eq_of_lt h5 h4
theorem btW_wrap (p : Nat) : IntKind.u64.wrap ((2 : Int) ^ (p % 64)) = uL (btW p) := by
  rw [← btW_eq]
  simp [IntKind.wrap, IntKind.bits, IntKind.signed]
theorem btW_at (p : Nat) (i : Nat) : (btW p).getLsbD i = decide (i = p % 64) := by
  unfold btW
  rw [BitVec.getLsbD_twoPow]
  have h2 : p % 64 < 64 := Nat.mod_lt _ (by omega)
  simp [h2]
  exact ⟨fun e => e.symm, fun e => e.symm⟩

/-- is a pair's bit set? -/
def bitAt (ws : List W6) (p : Nat) : Bool := ((ws[p / 64]?).getD 0#64).getLsbD (p % 64)
theorem bitAt_set {ws : List W6} {p : Nat} (hp : p / 64 < ws.length) (x : W6) (q : Nat) : bitAt (ws.set (p / 64) x) q = if q / 64 = p / 64 then x.getLsbD (q % 64) else bitAt ws q := by
  unfold bitAt
  rw [List.getElem?_set]
  by_cases e : p / 64 = q / 64
  · rw [if_pos e, if_pos (by omega), if_pos e.symm]; simp
  · rw [if_neg e, if_neg (fun c => e c.symm)]
theorem same_pair {p q : Nat} (h1 : q / 64 = p / 64) (h2 : q % 64 = p % 64) : q = p := by omega
theorem bitAt_or {ws : List W6} {p : Nat} (hp : p / 64 < ws.length) (q : Nat) : bitAt (ws.set (p / 64) (((ws[p / 64]?).getD 0#64) ||| btW p)) q = (bitAt ws q || decide (q = p)) := by
  rw [bitAt_set hp]
  split
  · rename_i e
    rw [BitVec.getLsbD_or, btW_at]
    unfold bitAt
    rw [e]
    congr 1
    by_cases h : q % 64 = p % 64
    · rw [decide_eq_true h, decide_eq_true (same_pair e h)]
    · rw [decide_eq_false h, decide_eq_false (fun c => h (by rw [c]))]
  · rename_i e
    rw [decide_eq_false (fun c => e (by rw [c])), Bool.or_false]
theorem bitAt_not {ws : List W6} {p : Nat} (hp : p / 64 < ws.length) (q : Nat) : bitAt (ws.set (p / 64) (((ws[p / 64]?).getD 0#64) &&& ~~~(btW p))) q = (bitAt ws q && !decide (q = p)) := by
  rw [bitAt_set hp]
  split
  · rename_i e
    rw [BitVec.getLsbD_and, BitVec.getLsbD_not, btW_at]
    have h6 : q % 64 < 64 := Nat.mod_lt _ (by omega)
    unfold bitAt
    rw [e, decide_eq_true h6, Bool.true_and]
    congr 1
    by_cases h : q % 64 = p % 64
    · rw [decide_eq_true h, decide_eq_true (same_pair e h)]
    · rw [decide_eq_false h, decide_eq_false (fun c => h (by rw [c]))]
  · rename_i e
    rw [decide_eq_false (fun c => e (by rw [c])), Bool.not_false, Bool.and_true]
theorem and_btW (ws : List W6) (p : Nat) : (uL (((ws[p / 64]?).getD 0#64) &&& btW p) != 0) = bitAt ws p := by
  unfold bitAt
  generalize ((ws[p / 64]?).getD 0#64) = m
  rw [Bool.eq_iff_iff, bne_iff_ne]
  constructor
  · intro h
    cases hm : m.getLsbD (p % 64)
    · exfalso
      apply h
      have : m &&& btW p = 0#64 := by
        apply BitVec.eq_of_getLsbD_eq
        intro i _
        rw [BitVec.getLsbD_and, btW_at]
        by_cases e : i = p % 64
        · subst e; simp [hm]
        · simp [e]
      rw [this]; rfl
    · rfl
  · intro h e
    have e0 : m &&& btW p = 0#64 := uL_inj (by rw [e]; rfl)
    have := congrArg (fun z => z.getLsbD (p % 64)) e0
    simp [btW_at, h] at this

/-- so many words for so many pairs -/
def nWd (N : Nat) : Nat := (N - 1) / 64 + 1
theorem nWd_lt {N p : Nat} (h : p < N) : p / 64 < nWd N := by unfold nWd; omega
/-- the words tell which pairs are there -/
def Tell (N : Nat) (M : Nat → Bool) (ws : List W6) : Prop := ws.length = nWd N ∧ ∀ p, p < N → bitAt ws p = M p
theorem Tell.zero (N : Nat) : Tell N (fun _ => false) (List.replicate (nWd N) 0#64) := by
  refine ⟨by simp, fun p hp => ?_⟩
  unfold bitAt
  rw [List.getElem?_replicate, if_pos (nWd_lt hp)]
  simp
theorem Tell.or {N : Nat} {M : Nat → Bool} {ws : List W6} (h : Tell N M ws) {p : Nat} (hp : p < N) : Tell N (fun q => M q || decide (q = p)) (ws.set (p / 64) (((ws[p / 64]?).getD 0#64) ||| btW p)) := by
  refine ⟨by rw [List.length_set]; exact h.1, fun q hq => ?_⟩
  rw [bitAt_or (by rw [h.1]; exact nWd_lt hp), h.2 q hq]
theorem Tell.not {N : Nat} {M : Nat → Bool} {ws : List W6} (h : Tell N M ws) {p : Nat} (hp : p < N) : Tell N (rmv M p) (ws.set (p / 64) (((ws[p / 64]?).getD 0#64) &&& ~~~(btW p))) := by
  refine ⟨by rw [List.length_set]; exact h.1, fun q hq => ?_⟩
  rw [bitAt_not (by rw [h.1]; exact nWd_lt hp), h.2 q hq]; rfl
theorem Tell.ext {N : Nat} {M M' : Nat → Bool} {ws : List W6} (h : Tell N M ws) (he : ∀ p, p < N → M p = M' p) : Tell N M' ws := ⟨h.1, fun p hp => (h.2 p hp).trans (he p hp)⟩
theorem cnt_ext {N : Nat} {M M' : Nat → Bool} (he : ∀ p, p < N → M p = M' p) : cntB N M = cntB N M' := by
  unfold cntB
  exact List.countP_congr fun p hp => by rw [he p (List.mem_range.1 hp)]

end Go.Proofs.Ytmglnaldpcmakaa
