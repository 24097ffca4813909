/-
  Pure: two rows that have no rune in common.
-/
import Derived.Test.YtlbgfcbhpmhhpabZE7
set_option linter.unusedSimpArgs false
set_option linter.unusedVariables false
namespace Go.Proofs.Ytlbgfcbhpmhhpab
open Go.RowKit Go.Lib

theorem lev_disj (x : List Int) : ∀ (y : List Int), (∀ a ∈ x, ∀ b ∈ y, a ≠ b) → lev x y = x.length + y.length := by
  induction x with
  | nil => intro y _; simp [lev]
  | cons a x ihx =>
    intro y
    induction y with
    | nil => intro _; rw [lev_nil']; simp
    | cons b y ihy =>
      intro h
      rw [lev_ne (h a (by simp) b (by simp)), ihx (b :: y) (fun p hp q hq => h p (by simp [hp]) q hq), ihy (fun p hp q hq => h p hp q (by simp [hq]))]
      simp
      omega

theorem go_lays : ∀ (y : List Int) (k d : Nat) (t : List Int), go k d t [] y = if full d (t ++ y) then [(k, d, t ++ y)] else []
  | [], k, d, t => by rw [go_end]; simp
  | b :: y, k, d, t => by rw [go_layE, go_lays y k d (t ++ [b])]; simp
theorem go_disj : ∀ (x y : List Int) (k d : Nat) (t : List Int), (∀ a ∈ x, ∀ b ∈ y, a ≠ b) → go k d t x y = if full (d + x.length) (t ++ y) then [(k, d + x.length, t ++ y)] else []
  | [], y, k, d, t, _ => by rw [go_lays]; simp
  | a :: x, [], k, d, t, h => by
    rw [go_dropE, go_disj x [] k (d + 1) t (fun p hp q hq => by cases hq)]
    simp [Nat.add_assoc, Nat.add_comm 1]
  | a :: x, b :: y, k, d, t, h => by
    rw [go_drop k d t (h a (by simp) b (by simp)) x y (by
      rw [lev_disj x (b :: y) (fun p hp q hq => h p (by simp [hp]) q hq), lev_disj (a :: x) (b :: y) h]
      simp), go_disj x (b :: y) k (d + 1) t (fun p hp q hq => h p (by simp [hp]) q hq)]
    simp [Nat.add_assoc, Nat.add_comm 1]
theorem mkL_disj (x y : List Int) (h : ∀ a ∈ x, ∀ b ∈ y, a ≠ b) (hne : x ≠ [] ∨ y ≠ []) : mkL x y = [(0, (x.length : Int), runesBytes y)] := by
  unfold mkL gx
  rw [List.drop_zero, List.drop_zero, go_disj x y 0 0 [] h]
  have hf : full (0 + x.length) ([] ++ y) = true := by
    unfold full
    rcases hne with h | h
    · have : 0 < x.length := List.length_pos_iff.2 h
      simp [this]
    · cases y with
      | nil => exact absurd rfl h
      | cons a y => simp
  rw [if_pos hf]
  simp [edOf]

theorem good_laid (ns : List Int) : goodB (runesBytes ns) = true := by
  unfold goodB
  rw [firstBad_none (ok_laid ns)]
  decide
theorem runesBytes_size (ns : List Int) : (runesBytes ns).size ≤ 4 * ns.length := by
  have h : (runesBytes ns).size = (ns.flatMap encL).length := by rw [← runesBytes_list]; simp
  rw [h]
  clear h
  induction ns with
  | nil => simp
  | cons n ns ih =>
    have := encL_le n
    rw [List.flatMap_cons, List.length_append, List.length_cons]
    omega
theorem fix_rep (n : Nat) (c : Int) (h : (fixN c : Int) = c) : (List.replicate n c).map (fun z => (fixN z : Int)) = List.replicate n c := by
  rw [List.map_replicate, h]

/-- n times a rune -/
def repB (n : Nat) (c : Int) : ByteArray := runesBytes (List.replicate n c)
theorem repB_succ (n : Nat) (c : Int) (s : ByteArray) (h : runesBytes [c] = s) : repB n c ++ s = repB (n + 1) c := by
  unfold repB
  rw [List.replicate_succ', runesBytes_append, h]
theorem repB_len (n : Nat) (c : Int) : (allL (repB n c)).length = n := by unfold repB; rw [count_laid]; simp
theorem repB_mkErr (n m : Nat) (c d : Int) : mkErr (repB n c) (repB m d) = if 400 < max n m then 7 else 0 := by
  unfold mkErr
  rw [repB_len, repB_len]
  unfold repB
  rw [good_laid, good_laid]
  rfl
theorem repB_mkRes (n m : Nat) (c d : Int) (hc : (fixN c : Int) = c) (hd : (fixN d : Int) = d) (hcd : c ≠ d) (hne : 0 < n ∨ 0 < m) (h : ¬ 400 < max n m) : mkRes (repB n c) (repB m d) = [(0, (n : Int), repB m d)] := by
  unfold mkRes
  rw [repB_mkErr, if_neg h, if_pos rfl]
  unfold repB
  rw [runeL_laid, runeL_laid, fix_rep n c hc, fix_rep m d hd, mkL_disj]
  · simp
  · intro a ha b hb
    rw [List.eq_of_mem_replicate ha, List.eq_of_mem_replicate hb]
    exact hcd
  · rcases hne with h | h
    · exact .inl (by intro e; have := congrArg List.length e; simp at this; omega)
    · exact .inr (by intro e; have := congrArg List.length e; simp at this; omega)
theorem repB_mkRes7 (n m : Nat) (c d : Int) (h : 400 < max n m) : mkRes (repB n c) (repB m d) = [] := by
  unfold mkRes
  rw [repB_mkErr, if_pos h, if_neg (by decide)]
theorem repB_size (n : Nat) (c : Int) : (repB n c).size ≤ 4 * n := by
  have := runesBytes_size (List.replicate n c)
  simpa [repB] using this

end Go.Proofs.Ytlbgfcbhpmhhpab
