/-
  Parts of a row of texts: c[:n], c[n:].
-/
import Derived.Test.YtcagfapdhopmjaaApp
set_option linter.unusedSimpArgs false
set_option linter.unusedVariables false
namespace Go.Proofs.Ytcagfapdhopmjaa
open Go.RowKit Go.Lib

theorem run_slice_to (w : World) (a : Option Addr) (L c n : Nat) (hn : n ≤ c) :
    (Instr.sliceAt 31 (.slice a L c) none (some (.int .i64 (n : Int))) none).run Try.prog w = .ok (.slice a n c) w := by
  obtain ⟨i0, hi, hz0, hz1, hz2⟩ := info_parts infoStr
  have h1 : (n : Int) ≤ (c : Int) := by omega
  have e : (if c = 0 then a else a.map (·.add (0 * 1))) = a := by
    split
    · rfl
    · cases a with
      | none => rfl
      | some ad => simp [Addr.add]
  simp [Instr.sliceAt, Instr.slice, run_underlying Try.underlying31, sizeOf, typeInfo, hi, hz1, go_sem, h1, hn]

theorem run_slice_from (w : World) (a : Option Addr) (L c n : Nat) (h1 : n ≤ L) (h2 : L ≤ c) :
    (Instr.sliceAt 31 (.slice a L c) (some (.int .i64 (n : Int))) none none).run Try.prog w = .ok (.slice (if c = n then a else a.map (·.add n)) (L - n) (c - n)) w := by
  obtain ⟨i0, hi, hz0, hz1, hz2⟩ := info_parts infoStr
  have h3 : (n : Int) ≤ (L : Int) := by omega
  simp [Instr.sliceAt, Instr.slice, run_underlying Try.underlying31, sizeOf, typeInfo, hi, hz1, go_sem, h1, h2, h3]

theorem RowS.len {W : World} {a : Option Addr} {L c : Nat} {xs : List ByteArray} (h : RowS W (.slice a L c) xs) : L = xs.length := by
  rcases h with ⟨rfl, b, cc, e⟩ | ⟨g, off, cap, e, _⟩
  · simp at e; simpa using e.2.1
  · simp at e; exact e.2.1
theorem RowS.take {W : World} {a : Option Addr} {L c n : Nat} {xs : List ByteArray} (h : RowS W (.slice a L c) xs) (hn : n ≤ xs.length) : RowS W (.slice a n c) (xs.take n) := by
  have hl : (xs.take n).length = n := by rw [List.length_take]; omega
  rcases h with ⟨rfl, b, cc, e⟩ | ⟨g, off, cap, e, hc⟩
  · obtain rfl : n = 0 := by simpa using hn
    exact .inl ⟨by simp, a, c, rfl⟩
  · simp at e
    obtain ⟨rfl, _, rfl⟩ := e
    refine .inr ⟨g, off, c, by rw [hl], fun i x hx => hc i x ?_⟩
    rw [List.getElem?_take] at hx
    split at hx
    · exact hx
    · cases hx
theorem RowS.drop {W : World} {a : Option Addr} {L c n : Nat} {xs : List ByteArray} (h : RowS W (.slice a L c) xs) (hn : n ≤ xs.length) (hc : L ≤ c) : RowS W (.slice (if c = n then a else a.map (·.add n)) (L - n) (c - n)) (xs.drop n) := by
  have hL := h.len
  have hl : (xs.drop n).length = L - n := by rw [List.length_drop]; omega
  rcases h with ⟨rfl, b, cc, e⟩ | ⟨g, off, cap, e, hc'⟩
  · obtain rfl : n = 0 := by simpa using hn
    have : L = 0 := by simpa using hL
    subst this
    exact .inl ⟨by simp, _, _, rfl⟩
  · simp at e
    obtain ⟨rfl, _, rfl⟩ := e
    by_cases hcn : c = n
    · have h0 : L - n = 0 := by omega
      have : xs.drop n = [] := List.length_eq_zero_iff.1 (by omega)
      rw [this, h0]
      exact .inl ⟨rfl, _, _, rfl⟩
    · rw [if_neg hcn]
      refine .inr ⟨g, off + n, c - n, by rw [hl]; simp [Addr.add_lit], fun i x hx => ?_⟩
      rw [List.getElem?_drop] at hx
      rw [show off + n + i = off + (n + i) by omega]
      exact hc' _ _ hx

/-- parts, as a row -/
theorem parts_S (s : ByteArray) (hs : s.size ≤ 1000000) (w : World) :
    Calls Try.prog 27 #[.string s] w fun e W' => ∃ a L c, e = .returned (.tuple #[.slice a L c, .bool true]) ∧ Hid (RowS W' (.slice a L c) (tx s)) ∧ Hid (L = (tx s).length) ∧ L ≤ c ∧ L ≤ s.size ∧ Below w.heap.size w W' := by
  refine (parts_in s hs w).mono ?_
  rintro e W' ⟨v, rfl, ho, hB⟩
  rw [tx_cpC, ← tx_length] at ho
  have hle : (tx s).length ≤ s.size := by rw [tx_length]; exact cp_len s
  have hr := rowS_owns ho
  rcases ho.2 with ⟨rfl, h0⟩ | ⟨g, cap, cur, rfl, _, _, h1, _⟩
  · exact ⟨none, 0, 0, rfl, hide hr, hide h0.symm, Nat.le_refl _, by omega, hB⟩
  · exact ⟨_, _, _, rfl, hide hr, hide rfl, h1, hle, hB⟩

end Go.Proofs.Ytcagfapdhopmjaa
