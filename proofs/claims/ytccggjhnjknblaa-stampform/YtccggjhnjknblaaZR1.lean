/-
  Readers: what number, take, Left, Err, End do.
-/
import Derived.Test.YtccggjhnjknblaaZW1
set_option linter.unusedSimpArgs false
set_option linter.unusedVariables false
namespace Go.Proofs.Ytccggjhnjknblaa
open Go.RowKit Go.Lib

/-- the number that stands at a list's beginning: the error, the number, how many bytes it has -/
def tnL : Nat → Nat → List Nat → Int × Nat × Nat
  | _, _, [] => (5, 0, 0)
  | i, s, c :: l => if c < 128 then (if c = 0 ∧ 0 < i then (6, 0, 0) else (0, s + c % 128 * 128 ^ i, i + 1)) else if i = 8 then (6, 0, 0) else tnL (i + 1) (s + c % 128 * 128 ^ i) l
def tn (l : List Nat) : Int × Nat × Nat := tnL 0 0 l

theorem tnL_width : ∀ (l : List Nat) (i s : Nat), (tnL i s l).1 = 0 → (tnL i s l).2.2 ≤ i + l.length
  | [], i, s, h => by simp [tnL] at h
  | c :: l, i, s, h => by
    rw [tnL] at h ⊢
    split at h
    · rename_i h1
      split at h
      · simp at h
      · rename_i h2
        rw [if_pos h1, if_neg h2]; simp
    · rename_i h1
      split at h
      · simp at h
      · rename_i h2
        rw [if_neg h1, if_neg h2]
        have := tnL_width l (i + 1) _ h
        simp
        omega
theorem tn_width {l : List Nat} (h : (tn l).1 = 0) : (tn l).2.2 ≤ l.length := by have := tnL_width l 0 0 h; simpa [tn] using this
theorem tnL_err : ∀ (l : List Nat) (i s : Nat), (tnL i s l).1 ≠ 0 → (tnL i s l).2.1 = 0 ∧ (tnL i s l).2.2 = 0
  | [], i, s, h => by simp [tnL]
  | c :: l, i, s, h => by
    rw [tnL] at h ⊢
    split at h
    · rename_i h1
      split at h
      · rename_i h2
        rw [if_pos h1, if_pos h2]; simp
      · simp at h
    · rename_i h1
      split at h
      · rename_i h2
        rw [if_neg h1, if_pos h2]; simp
      · rename_i h2
        rw [if_neg h1, if_neg h2]
        exact tnL_err l (i + 1) _ h
theorem pow128 {i : Nat} (h : i ≤ 8) : 128 ^ i ≤ 72057594037927936 := Nat.le_trans (Nat.pow_le_pow_right (by decide) h) (by decide)
theorem pow128s (i : Nat) : 128 ^ (i + 1) = 128 ^ i * 128 := Nat.pow_succ 128 i
theorem sum_lt {i s c : Nat} (h : s < 128 ^ i) : s + c % 128 * 128 ^ i < 128 ^ (i + 1) := by
  rw [pow128s]
  have h1 : c % 128 * 128 ^ i ≤ 127 * 128 ^ i := Nat.mul_le_mul_right _ (by omega)
  omega
theorem tnL_lt : ∀ (l : List Nat) (i s : Nat), i ≤ 8 → s < 128 ^ i → (tnL i s l).2.1 < 9223372036854775808
  | [], i, s, hi, h => by simp [tnL]
  | c :: l, i, s, hi, h => by
    have h1 := sum_lt (c := c) h
    have h2 := pow128 hi
    have h3 := pow128s i
    rw [tnL]
    split
    · split
      · simp
      · show s + c % 128 * 128 ^ i < _
        omega
    · split
      · simp
      · exact tnL_lt l (i + 1) _ (by omega) h1
theorem tn_lt (l : List Nat) : (tn l).2.1 < 9223372036854775808 := tnL_lt l 0 0 (by omega) (by simp)

/-- a Reader in memory -/
structure Rd (W : World) (p : Nat) (v : Value) (l : List Nat) (e : Int) : Prop where
  box : Bx W p 72 #[v, .int .i64 e]
  row : RC W v l.length (bC l)
  ne : v.ownBlock ≠ some p
  byte : ∀ b ∈ l, b < 256
  small : l.length ≤ 140737488355328
theorem RC.kp {N : Nat → Prop} {W W' : World} {v : Value} {n : Nat} {C : List Value} (h : RC W v n C) (k : Kp N W W') (hn : ∀ i, v.ownBlock = some i → ¬ N i) : RC W' v n C := by
  rcases h with h | ⟨b, off, cap, rfl, h1, hl, hc⟩
  · exact .inl h
  · refine .inr ⟨b, off, cap, rfl, h1, Nat.lt_of_lt_of_le hl k.size, fun j x hx => ?_⟩
    rw [← hc j x hx]
    exact World.cell?_of_block (k.block b hl (hn b rfl))
theorem Rd.kp {N : Nat → Prop} {W W' : World} {p : Nat} {v : Value} {l : List Nat} {e : Int} (h : Rd W p v l e) (k : Kp N W W') (h1 : ¬ N p) (h2 : ∀ i, v.ownBlock = some i → ¬ N i) : Rd W' p v l e :=
  ⟨h.box.kp k h1, h.row.kp k h2, h.ne, h.byte, h.small⟩
theorem Rd.below {W W' : World} {p : Nat} {v : Value} {l : List Nat} {e : Int} (h : Rd W p v l e) (hb : Below W.heap.size W W') : Rd W' p v l e := h.kp (N := fun _ => False) (Kp.of_below hb) (fun h => h) (fun _ _ h => h)
theorem Rd.setE {W : World} {p : Nat} {v : Value} {l : List Nat} {e : Int} (h : Rd W p v l e) (e' : Int) : Rd (W.setCell ⟨p, 1, none⟩ (.int .i64 e')) p v l e' :=
  ⟨by simpa using h.box.set 1 (.int .i64 e'), h.row.kp (Kp.set (N := fun k => k = p) W ⟨p, 1, none⟩ _ rfl) (fun i hi e => h.ne (by rw [hi, e])), h.ne, h.byte, h.small⟩

set_option maxRecDepth 100000 in
theorem rErr_in {w : World} {p : Nat} {v : Value} {l : List Nat} {e : Int} (h : Rd w p v l e) :
    Calls Try.prog 42 #[.pointer (some ⟨p, 0, none⟩)] w fun r W => r = .returned (.int .i64 e) ∧ w = W := by
  have c1 := h.box.cell 1 _ rfl
  clear h
  go_enter Try.func42, Try.ntmps42
  go_wp2
  go_ret
  exact ⟨rfl, rfl⟩
set_option maxRecDepth 100000 in
theorem rErr_nil (w : World) : Calls Try.prog 42 #[.pointer none] w fun r W => r = .returned (.int .i64 1) ∧ w = W := by
  go_enter Try.func42, Try.ntmps42
  go_wp2
  go_ret
  exact ⟨rfl, rfl⟩
set_option maxRecDepth 100000 in
theorem rLeft_in {w : World} {p : Nat} {v : Value} {l : List Nat} {e : Int} (h : Rd w p v l e) :
    Calls Try.prog 43 #[.pointer (some ⟨p, 0, none⟩)] w fun r W => r = .returned (.int .i64 (l.length : Nat)) ∧ w = W := by
  have c0 := h.box.cell 0 _ rfl
  obtain ⟨a, c, rfl⟩ := h.row.form
  clear h
  go_enter Try.func43, Try.ntmps43
  go_wp2
  go_ret
  exact ⟨rfl, rfl⟩
set_option maxRecDepth 100000 in
theorem rLeft_nil (w : World) : Calls Try.prog 43 #[.pointer none] w fun r W => r = .returned (.int .i64 0) ∧ w = W := by
  go_enter Try.func43, Try.ntmps43
  go_wp2
  go_ret
  exact ⟨rfl, rfl⟩

/-- Err, or that something is left -/
def rEnd (l : List Nat) (e : Int) : Int := if e = 0 ∧ 0 < l.length then 6 else e

set_option maxRecDepth 100000 in
theorem rEnd_in {w : World} {p : Nat} {v : Value} {l : List Nat} {e : Int} (h : Rd w p v l e) :
    Calls Try.prog 26 #[.pointer (some ⟨p, 0, none⟩)] w fun r W => r = .returned (.int .i64 (rEnd l e)) ∧ w = W := by
  have HE := hide (rErr_in h)
  have HL := hide (rLeft_in h)
  unfold rEnd
  by_cases he : e = 0
  · subst he
    by_cases hl : 0 < l.length
    · rw [if_pos ⟨rfl, hl⟩]
      have hl' : (0 : Int) < (l.length : Int) := by omega
      clear h
      go_enter Try.func26, Try.ntmps26
      go_wp2_with (first | (go_at_call 42; refine (unhide HE).mono ?_; rintro r W ⟨rfl, rfl⟩) | (go_at_call 43; refine (unhide HL).mono ?_; rintro r W ⟨rfl, rfl⟩))
      go_ret
      exact ⟨rfl, rfl⟩
    · rw [if_neg (fun h => hl h.2)]
      have hl' : ¬ (0 : Int) < (l.length : Int) := by omega
      obtain ⟨n, hn⟩ : ∃ n, l.length = n := ⟨_, rfl⟩
      rw [hn] at HL hl'
      clear h hn hl
      go_enter Try.func26, Try.ntmps26
      go_wp2_with (first | (go_at_call 42; refine (unhide HE).mono ?_; rintro r W ⟨rfl, rfl⟩) | (go_at_call 43; refine (unhide HL).mono ?_; rintro r W ⟨rfl, rfl⟩))
      go_ret
      exact ⟨rfl, rfl⟩
  · rw [if_neg (fun h => he h.1)]
    have he' : (e == 0) = false := by simpa using he
    clear h
    go_enter Try.func26, Try.ntmps26
    go_wp2_with (first | (go_at_call 42; refine (unhide HE).mono ?_; rintro r W ⟨rfl, rfl⟩) | (go_at_call 43; refine (unhide HL).mono ?_; rintro r W ⟨rfl, rfl⟩))
    go_ret
    exact ⟨rfl, rfl⟩
set_option maxRecDepth 100000 in
theorem rEnd_nil (w : World) : Calls Try.prog 26 #[.pointer none] w fun r W => r = .returned (.int .i64 1) ∧ w = W := by
  have HE := hide (rErr_nil w)
  go_enter Try.func26, Try.ntmps26
  go_wp2_with (go_at_call 42; refine (unhide HE).mono ?_; rintro r W ⟨rfl, rfl⟩)
  go_ret
  exact ⟨rfl, rfl⟩

theorem sl_from (w : World) (a : Option Addr) (n c k : Nat) (hk : k ≤ n) (hn : n ≤ c) :
    (Instr.sliceAt 45 (.slice a n c) (some (.int .i64 (k : Nat))) none none).run Try.prog w = .ok (.slice (if c = k then a else a.map (·.add k)) (n - k) (c - k)) w := by
  obtain ⟨i0, hi, hz0, hz1, hz2⟩ := info_parts infoB
  have h1 : (k : Int) ≤ (n : Int) := by omega
  simp [Instr.sliceAt, Instr.slice, run_underlying Try.underlying45, sizeOf, typeInfo, hi, hz1, go_sem, h1, hk, hn]

end Go.Proofs.Ytccggjhnjknblaa
