/-
  What the document's own Break, Count, Next, Prev and All answer.
-/
import Derived.Test.YtcagfapdhopmjaaRBr
import Derived.Test.YtcagfapdhopmjaaReg
set_option linter.unusedSimpArgs false
set_option linter.unusedVariables false
namespace Go.Proofs.Ytcagfapdhopmjaa
open Go.RowKit Go.Lib

theorem brL_length (s : ByteArray) : (brL s).length ≤ s.size + 1 := by
  have h := brL_sorted s
  have hle : ∀ k ∈ brL s, k ≤ s.size := fun k hk => brL_le hk
  have gen : ∀ (l : List Nat) (m b : Nat), l.Pairwise (· < ·) → (∀ k ∈ l, b ≤ k) → (∀ k ∈ l, k ≤ m) → b ≤ m + 1 → l.length + b ≤ m + 1 := by
    intro l
    induction l with
    | nil => intro m b _ _ _ h; simpa using h
    | cons x l ih =>
      intro m b hp hb hm _
      have h1 := List.pairwise_cons.1 hp
      have := ih m (x + 1) h1.2 (fun k hk => h1.1 k hk) (fun k hk => hm k (by simp [hk])) (by have := hm x (by simp); omega)
      have hbx := hb x (by simp)
      simp
      omega
  have := gen (brL s) s.size 0 h (fun _ _ => by omega) hle (by omega)
  omega
theorem brL_pos (s : ByteArray) : 1 ≤ (brL s).length := by obtain ⟨r, hr⟩ := brL_zero s; rw [hr]; simp
theorem cpL_length (s : ByteArray) : (cpL s).length = (brL s).length - 1 := by
  unfold cpL pairs
  rw [List.length_zip, List.length_tail]; omega

theorem iv_cell {W : World} {B g cap : Nat} {l : List Nat} (h : W.ownsRow B 3 1 (.slice (some ⟨g, 0, none⟩) l.length cap) l.length (ivC l)) {k i : Nat} (hk : l[k]? = some i) : W.cell? ⟨g, k, none⟩ = some (.int .i64 (i : Int)) := by
  have hlt : k < l.length := (List.getElem?_eq_some_iff.1 hk).1
  rw [h.cellAt k (by omega)]
  simp [ivC, hk]

set_option maxHeartbeats 1000000 in
theorem refBrk_in (s : ByteArray) (a : Int) (hs : s.size ≤ 100000000) (w : World) :
    Calls Try.prog 15 #[.string s, .int .i64 a] w fun e W' => e = .returned (.bool (isBr s a)) ∧ Below w.heap.size w W' := by
  have hlen := brL_length s
  go_enter Try.func15, Try.ntmps15
  go_wp2_with fail
  refine (breaks_in s hs _).mono ?_
  rintro e W ⟨v, rfl, ho, hB⟩
  have hin : Hid (∀ (k i : Nat), (brL s)[k]? = some i → (i : Int) = a → isBr s a = true) := hide (fun k i hk e => by
    subst e; rw [isBr_nat, decide_eq_true (List.mem_of_getElem? hk)])
  have hout : Hid ((∀ (k i : Nat), (brL s)[k]? = some i → ¬ (i : Int) = a) → isBr s a = false) := hide (fun h => by
    unfold isBr
    rw [decide_eq_false]
    rintro ⟨h0, hm⟩
    obtain ⟨k, hk, e⟩ := List.getElem_of_mem hm
    exact h k a.toNat (by rw [List.getElem?_eq_getElem hk, e]) (by omega))
  generalize brL s = l at *
  obtain ⟨x, c, rfl⟩ := owns_form ho
  go_wp2
  go_loop [6] (fun iv => ∃ k : Nat, k ≤ l.length ∧ iv = .int .i64 k ∧ Hid (∀ (j i : Nat), j < k → l[j]? = some i → ¬ (i : Int) = a)) (fun iv => l.length - (RowKit.intOf iv).toNat)
  case atStart => exact ⟨0, by omega, rfl, hide (fun j i h => by omega)⟩
  case round =>
    obtain ⟨k, hk, rfl, hno⟩ := hrel
    by_cases hlt : k < l.length
    · obtain ⟨g, rfl⟩ := owns_some ho (by omega)
      obtain ⟨i, hx⟩ : ∃ i, l[k]? = some i := ⟨_, List.getElem?_eq_getElem hlt⟩
      have c1 := iv_cell ho hx
      have Hx := hide hx
      clear hx
      have i1 : (k : Int) < (l.length : Int) := by omega
      by_cases hq : (i : Int) = a
      · have hr := hide (unhide hin k i (unhide Hx) hq)
        have hqb : ((i : Int) == a) = true := by rw [beq_iff_eq]; exact hq
        clear hq
        go_wp2
        go_ret
        exact ⟨by rw [unhide hr]; rfl, hB⟩
      · have hqb : ((i : Int) == a) = false := by rw [beq_eq_false_iff_ne]; exact hq
        have Hq := hide hq
        clear hq
        go_wp2
        go_round
        case rel => exact ⟨k + 1, by omega, by go_num, hide (fun j i' hj hi => by
          by_cases e : j = k
          · subst e; rw [unhide Hx] at hi; cases hi; exact unhide Hq
          · exact unhide hno j i' (by omega) hi)⟩
        case measure => simp [RowKit.intOf]; omega
    · have hr := hide (unhide hout (fun j i hj => unhide hno j i (by have := (List.getElem?_eq_some_iff.1 hj).1; omega) hj))
      go_wp2
      go_ret
      exact ⟨by rw [unhide hr]; rfl, hB⟩

set_option maxHeartbeats 1000000 in
theorem refCnt_in (s : ByteArray) (hs : s.size ≤ 100000000) (w : World) :
    Calls Try.prog 17 #[.string s] w fun e W' => e = .returned (.int .i64 ((cpL s).length : Nat)) ∧ Below w.heap.size w W' := by
  have hlen := brL_length s
  have hpos := brL_pos s
  have hcl := hide (cpL_length s)
  go_enter Try.func17, Try.ntmps17
  go_wp2_with fail
  refine (breaks_in s hs _).mono ?_
  rintro e W ⟨v, rfl, ho, hB⟩
  obtain ⟨x, c, rfl⟩ := owns_form ho
  go_wp2
  go_ret
  exact ⟨by rw [unhide hcl]; simp; omega, hB⟩

set_option maxHeartbeats 1000000 in
theorem refNxt_in (s : ByteArray) (a : Int) (hs : s.size ≤ 100000000) (w : World) :
    Calls Try.prog 24 #[.string s, .int .i64 a] w fun e W' => e = .returned (.int .i64 (nxt (brL s) a s.size : Nat)) ∧ Below w.heap.size w W' := by
  have hlen := brL_length s
  go_enter Try.func24, Try.ntmps24
  go_wp2_with fail
  refine (breaks_in s hs _).mono ?_
  rintro e W ⟨v, rfl, ho, hB⟩
  obtain ⟨l, hl⟩ : ∃ l, brL s = l := ⟨_, rfl⟩
  rw [hl] at ho hlen
  have Hl := hide hl
  clear hl
  have hat : Hid (∀ (k i : Nat), l[k]? = some i → (∀ (j y : Nat), j < k → l[j]? = some y → (y : Int) ≤ a) → a < (i : Int) → nxt l a s.size = i) := hide (fun k i hk hno hi => by
    have hlt := (List.getElem?_eq_some_iff.1 hk).1
    have e : l = l.take k ++ i :: l.drop (k + 1) := by
      have hgx : l[k] = i := (List.getElem?_eq_some_iff.1 hk).2
      rw [← hgx, ← List.drop_eq_getElem_cons hlt, List.take_append_drop]
    rw [e]
    refine nxt_at (fun y hy => ?_) hi
    obtain ⟨j, hj, rfl⟩ := List.getElem_of_mem hy
    rw [List.length_take] at hj
    have h9 := hno j l[j] (by omega) (List.getElem?_eq_getElem (by omega))
    rw [List.getElem_take]
    omega)
  have hnone : Hid ((∀ (k i : Nat), l[k]? = some i → (i : Int) ≤ a) → nxt l a s.size = s.size) := hide (fun h => nxt_none (fun y hy => by
    obtain ⟨k, hk, rfl⟩ := List.getElem_of_mem hy
    have := h k _ (List.getElem?_eq_getElem hk)
    omega))
  obtain ⟨x, c, rfl⟩ := owns_form ho
  go_wp2
  go_loop [6] (fun iv => ∃ k : Nat, k ≤ l.length ∧ iv = .int .i64 k ∧ Hid (∀ (j i : Nat), j < k → l[j]? = some i → (i : Int) ≤ a)) (fun iv => l.length - (RowKit.intOf iv).toNat)
  case atStart => exact ⟨0, by omega, rfl, hide (fun j i h => by omega)⟩
  case round =>
    obtain ⟨k, hk, rfl, hno⟩ := hrel
    by_cases hlt : k < l.length
    · obtain ⟨g, rfl⟩ := owns_some ho (by omega)
      obtain ⟨i, hx⟩ : ∃ i, l[k]? = some i := ⟨_, List.getElem?_eq_getElem hlt⟩
      have c1 := iv_cell ho hx
      have Hx := hide hx
      clear hx
      have i1 : (k : Int) < (l.length : Int) := by omega
      by_cases hq : a < (i : Int)
      · have hr := hide (unhide hat k i (unhide Hx) (unhide hno) hq)
        go_wp2
        go_ret
        exact ⟨by rw [unhide Hl, unhide hr]; rfl, hB⟩
      · have Hq := hide hq
        go_wp2
        go_round
        case rel => exact ⟨k + 1, by omega, by go_num, hide (fun j i' hj hi => by
          by_cases e : j = k
          · subst e; rw [unhide Hx] at hi; cases hi; exact Int.not_lt.1 (unhide Hq)
          · exact unhide hno j i' (by omega) hi)⟩
        case measure => simp [RowKit.intOf]; omega
    · have hr := hide (unhide hnone (fun j i hj => unhide hno j i (by have := (List.getElem?_eq_some_iff.1 hj).1; omega) hj))
      go_wp2
      go_ret
      exact ⟨by rw [unhide Hl, unhide hr]; rfl, hB⟩

set_option maxHeartbeats 1000000 in
theorem refPrv_in (s : ByteArray) (a : Int) (hs : s.size ≤ 100000000) (w : World) :
    Calls Try.prog 26 #[.string s, .int .i64 a] w fun e W' => e = .returned (.int .i64 (prv (brL s) a : Nat)) ∧ Below w.heap.size w W' := by
  have hlen := brL_length s
  go_enter Try.func26, Try.ntmps26
  go_wp2_with fail
  refine (breaks_in s hs _).mono ?_
  rintro e W ⟨v, rfl, ho, hB⟩
  obtain ⟨l, hl⟩ : ∃ l, brL s = l := ⟨_, rfl⟩
  rw [hl] at ho hlen
  have Hl := hide hl
  clear hl
  obtain ⟨x, c, rfl⟩ := owns_form ho
  go_wp2
  go_loop [6, 7] (fun ov iv => ∃ k : Nat, k ≤ l.length ∧ iv = .int .i64 k ∧ ov = .int .i64 (prv (l.take k) a : Nat)) (fun _ iv => l.length - (RowKit.intOf iv).toNat)
  case atStart => exact ⟨0, by omega, rfl, rfl⟩
  case round =>
    obtain ⟨k, hk, rfl, rfl⟩ := hrel
    by_cases hlt : k < l.length
    · obtain ⟨g, rfl⟩ := owns_some ho (by omega)
      obtain ⟨i, hx⟩ : ∃ i, l[k]? = some i := ⟨_, List.getElem?_eq_getElem hlt⟩
      have c1 := iv_cell ho hx
      have hst : Hid (prv (l.take (k + 1)) a = if (i : Int) < a then i else prv (l.take k) a) := hide (by rw [List.take_add_one, hx]; exact prv_snoc _ _ _)
      clear hx
      have i1 : (k : Int) < (l.length : Int) := by omega
      by_cases hq : (i : Int) < a
      · have hs2 : Hid (prv (l.take (k + 1)) a = i) := hide (by rw [unhide hst, if_pos hq])
        go_wp2
        go_round
        case rel => exact ⟨k + 1, by omega, by go_num, by rw [unhide hs2]⟩
        case measure => simp [RowKit.intOf]; omega
      · have hs2 : Hid (prv (l.take (k + 1)) a = prv (l.take k) a) := hide (by rw [unhide hst, if_neg hq])
        go_wp2
        go_round
        case rel => exact ⟨k + 1, by omega, by go_num, by rw [unhide hs2]⟩
        case measure => simp [RowKit.intOf]; omega
    · have hr : Hid (l.take k = l) := hide (by rw [List.take_of_length_le (by omega)])
      go_wp2
      go_ret
      exact ⟨by have h := unhide hr; rw [unhide Hl]; simp [h], hB⟩

end Go.Proofs.Ytcagfapdhopmjaa
