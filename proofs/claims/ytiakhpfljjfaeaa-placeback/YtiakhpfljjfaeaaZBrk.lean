/-
  What clump.Break answers, for every text and every number.
-/
import Derived.Test.YtiakhpfljjfaeaaZPtd
import Derived.Test.YtiakhpfljjfaeaaZXReg
set_option linter.unusedSimpArgs false
set_option linter.unusedVariables false
namespace Go.Proofs.Ytiakhpfljjfaeaa
open Go.RowKit Go.Lib

theorem wrap_small {z : Int} (h1 : -9223372036854775808 ≤ z) (h2 : z ≤ 9223372036854775807) : IntKind.i64.wrap z = z := by
  rw [IntKind.wrap_i64]; omega

/-- the classes of a part of a text, the last one first -/
theorem rc_seg {s : ByteArray} {b e : Nat} {L : List Nat} (hs : Sync s e) (he : e ≤ s.size) (hb : b ≤ e) (h : frm s b = L ++ frm s e) : rc (s.extract b e) = (L.map (C s)).reverse := by
  have h2 := allL_ext hs he hb
  rw [h] at h2
  have hL := List.append_cancel_right h2
  unfold rc
  rw [hL, List.map_reverse, List.map_map]
  refine congrArg List.reverse (List.map_congr_left (fun i hi => ?_))
  show cls (rn (s.extract b e) i : Nat) = cls (rn s (b + i) : Nat)
  rw [rn_ext hs he hi]

theorem isBr_out {s : ByteArray} {a : Int} (h : a < 0 ∨ (s.size : Int) < a) : isBr s a = false := by
  unfold isBr
  rw [decide_eq_false]
  rintro ⟨h1, h2⟩
  have := brL_le h2
  omega
theorem isBr_zero (s : ByteArray) : isBr s 0 = true := by
  obtain ⟨r, hr⟩ := brL_zero s
  unfold isBr
  rw [hr]; simp
theorem isBr_size (s : ByteArray) : isBr s (s.size : Int) = true := by
  rw [isBr_nat]; simp [brL_end]

/-- a place of the cut within a text, and the one ahead of it -/
theorem cut_split {s : ByteArray} {k : Nat} (h0 : 0 < k) (hk : k < s.size) (h : Sync s k) : ∃ pre j rest, allL s = pre ++ j :: k :: rest ∧ Sync s j ∧ j < s.size ∧ j + wd s j = k := by
  obtain ⟨A, rest, hA⟩ := List.append_of_mem (mem_allL.2 ⟨hk, h⟩)
  rcases List.eq_nil_or_concat A with rfl | ⟨pre, j, rfl⟩
  · obtain ⟨r, hr⟩ := allL_zero s (by omega)
    rw [hr] at hA
    simp at hA
    omega
  · rw [List.concat_eq_append, List.append_assoc] at hA
    have hj := mem_allL.1 (show j ∈ allL s by rw [hA]; simp)
    refine ⟨pre, j, rest, hA, hj.2, hj.1, ?_⟩
    have hf := (frm_split s pre 0 j (k :: rest) (by rw [← allL_frm]; exact hA)).2.2
    by_cases hlt : j + wd s j < s.size
    · rw [frm_step s _ hlt] at hf
      simp at hf
      exact hf.1.symm
    · rw [frm_end s _ hlt] at hf; cases hf

theorem brk_rc {s : ByteArray} {pre rest : List Nat} {j k : Nat} (h : allL s = pre ++ j :: k :: rest) (hj : Sync s j) (hjs : j < s.size) : isBr s (k : Int) = bk (rc (s.extract 0 j)) (C s j) (C s k) := by
  have hf := (frm_split s pre 0 j (k :: rest) (by rw [← allL_frm]; exact h)).2.1
  rw [rc_seg (L := pre) hj (by omega) (by omega) (by rw [← hf, ← allL_frm]; exact h), isBr_nat]
  have := mem_brL h
  cases hb : bk (pre.map (C s)).reverse (C s j) (C s k) with
  | true => rw [decide_eq_true (this.2 hb)]
  | false => rw [decide_eq_false (fun e => by rw [this.1 e] at hb; cases hb)]


end Go.Proofs.Ytiakhpfljjfaeaa
