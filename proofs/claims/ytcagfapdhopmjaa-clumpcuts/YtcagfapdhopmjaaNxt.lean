/-
  What clump.Next and clump.Prev answer.
-/
import Derived.Test.YtcagfapdhopmjaaBrk
set_option linter.unusedSimpArgs false
set_option linter.unusedVariables false
namespace Go.Proofs.Ytcagfapdhopmjaa
open Go.RowKit Go.Lib Go.Shelf

attribute [local go_sem] Oper.semAt_some

/-- a break within a text, as it lies in the part behind a place -/
theorem br_tail {s : ByteArray} {k p : Nat} (hk : k ≤ s.size) (hp : p ∈ brL s) (hkp : k < p) (hps : p < s.size) : p - k ∈ allL (s.extract k s.size) := by
  rcases brL_places hp with e | e | e
  · omega
  · omega
  · exact sync_down (Nat.le_refl _) (by omega) (by rw [show k + (p - k) = p by omega]; exact (mem_allL.1 e).2)
theorem br_head {s : ByteArray} {k p : Nat} (hk : k ≤ s.size) (hp : p ∈ brL s) (hkp : p < k) : p ∈ allL (s.extract 0 k) := by
  have h0 : 0 ∈ allL (s.extract 0 k) := mem_allL.2 ⟨by rw [size_ext s 0 k hk]; omega, sync_zero _⟩
  rcases brL_places hp with e | e | e
  · subst e; exact h0
  · omega
  · exact sync_down hk (by omega) (by rw [Nat.zero_add]; exact (mem_allL.1 e).2)

/-- the first piece of the part behind a place, above its beginning, where there is a break -/
theorem nxt_found {s : ByteArray} {k : Nat} {pre rest : List Nat} {x : Nat} (hk : k ≤ s.size) (h : pre ++ x :: rest = allL (s.extract k s.size)) (hx0 : 0 < x) (hx : isBr s ((k + x : Nat) : Int) = true)
    (hno : ∀ y ∈ pre, 0 < y → isBr s ((k + y : Nat) : Int) = false) : nxt (brL s) (k : Int) s.size = k + x := by
  rw [isBr_nat] at hx
  have hxb : k + x ∈ brL s := of_decide_eq_true hx
  refine nxt_mem (brL_sorted s) hxb (by omega) (fun q hq hkq => ?_)
  by_cases hqs : q < s.size
  · have hm := br_tail hk hq (by omega) hqs
    rw [← h] at hm
    have hso := allL_sorted (s.extract k s.size)
    rw [← h] at hso
    rcases List.mem_append.1 hm with hm | hm
    · have := hno (q - k) hm (by omega)
      rw [show k + (q - k) = q by omega, isBr_nat, decide_eq_true hq] at this
      cases this
    · rcases List.mem_cons.1 hm with e | hm
      · omega
      · have := (List.pairwise_cons.1 (List.pairwise_append.1 hso).2.1).1 _ hm
        omega
  · have := brL_le hxb; omega
theorem nxt_notfound {s : ByteArray} {k : Nat} (hk : k ≤ s.size) (hno : ∀ y ∈ allL (s.extract k s.size), 0 < y → isBr s ((k + y : Nat) : Int) = false) : nxt (brL s) (k : Int) s.size = s.size := by
  by_cases hks : k < s.size
  · refine nxt_mem (brL_sorted s) (brL_end s) (by omega) (fun q hq hkq => ?_)
    by_cases hqs : q < s.size
    · have := hno _ (br_tail hk hq (by omega) hqs) (by omega)
      rw [show k + (q - k) = q by omega, isBr_nat, decide_eq_true hq] at this
      cases this
    · omega
  · exact nxt_none (fun q hq h => by have := brL_le hq; omega)
theorem nxt_neg {s : ByteArray} {a : Int} (h : a < 0) : nxt (brL s) a s.size = 0 := by
  obtain ⟨r, hr⟩ := brL_zero s
  rw [hr]
  exact nxt_at (l := []) (fun k hk => by cases hk) (by omega)
theorem nxt_far {s : ByteArray} {a : Int} (h : (s.size : Int) ≤ a) : nxt (brL s) a s.size = s.size := nxt_none (fun q hq h => by have := brL_le hq; omega)

theorem prv_found {s : ByteArray} {k : Nat} {pre rest : List Nat} {x : Nat} (hk : k ≤ s.size) (h : pre ++ x :: rest = (allL (s.extract 0 k)).reverse) (hx : isBr s (x : Int) = true)
    (hno : ∀ y ∈ pre, isBr s (y : Int) = false) : prv (brL s) (k : Int) = x := by
  rw [isBr_nat] at hx
  have hxb : x ∈ brL s := of_decide_eq_true hx
  have hxm : x ∈ allL (s.extract 0 k) := List.mem_reverse.1 (by rw [← h]; simp)
  have hxk := (mem_allL.1 hxm).1
  rw [size_ext s 0 k hk] at hxk
  refine prv_mem (brL_sorted s) hxb (by omega) (fun q hq hkq => ?_)
  have hm := List.mem_reverse.2 (br_head hk hq (by omega))
  rw [← h] at hm
  have hso := rev_sorted (allL_sorted (s.extract 0 k))
  rw [← h] at hso
  rcases List.mem_append.1 hm with hm | hm
  · have := hno q hm
    rw [isBr_nat, decide_eq_true hq] at this
    cases this
  · rcases List.mem_cons.1 hm with e | hm
    · omega
    · have := (List.pairwise_cons.1 (List.pairwise_append.1 hso).2.1).1 _ hm
      omega
theorem prv_notfound {s : ByteArray} {k : Nat} (hk : k ≤ s.size) (hno : ∀ y ∈ (allL (s.extract 0 k)).reverse, isBr s (y : Int) = false) : prv (brL s) (k : Int) = 0 := by
  refine prv_none _ _ (fun q hq h => ?_)
  have := hno q (List.mem_reverse.2 (br_head hk hq (by omega)))
  rw [isBr_nat, decide_eq_true hq] at this
  cases this
theorem prv_far {s : ByteArray} {a : Int} (h : (s.size : Int) < a) : prv (brL s) a = s.size := prv_mem (brL_sorted s) (brL_end s) h (fun q hq _ => brL_le hq)
theorem prv_low {s : ByteArray} {a : Int} (h : a ≤ 0) : prv (brL s) a = 0 := prv_none _ _ (fun q hq h => by omega)

end Go.Proofs.Ytcagfapdhopmjaa
