/-
  Readers: what number, take, Left, Err, End do.
-/
import Derived.Test.YtkffonoifbaifaaGreatZW1
import Derived.ScopeJumps
import Derived.Laws.BytesArg
import Derived.Laws.IdiomStrings

set_option linter.unusedSimpArgs false
set_option linter.unusedVariables false
namespace Go.Proofs.YtkffonoifbaifaaGreat
open Go.RowKit Go.Lib

/-- the number that stands at a list's beginning: the error, the number, how many bytes it has -/
def tnL : Nat → Nat → List Nat → Int × Nat × Nat
  | _, _, [] => (5, 0, 0)
  | i, s, c :: l => if c < 128 then (if c = 0 ∧ 0 < i then (6, 0, 0) else (0, s + c % 128 * 128 ^ i, i + 1)) else if i = 8 then (6, 0, 0) else tnL (i + 1) (s + c % 128 * 128 ^ i) l
def tn (l : List Nat) : Int × Nat × Nat := tnL 0 0 l

theorem tnL_width : ∀ (l : List Nat) (i s : Nat), (tnL i s l).1 = 0 → (tnL i s l).2.2 ≤ i + l.length
  | [], i, s, h => by simp [tnL] at h
  | c :: l, i, s, h => by
    rw [tnL] at h ⊢
    split at h
    · rename_i h1
      split at h
      · simp at h
      · rename_i h2
        rw [if_pos h1, if_neg h2]; simp
    · rename_i h1
      split at h
      · simp at h
      · rename_i h2
        rw [if_neg h1, if_neg h2]
        have := tnL_width l (i + 1) _ h
        simp
        omega
theorem tn_width {l : List Nat} (h : (tn l).1 = 0) : (tn l).2.2 ≤ l.length := by have := tnL_width l 0 0 h; simpa [tn] using this
theorem tnL_err : ∀ (l : List Nat) (i s : Nat), (tnL i s l).1 ≠ 0 → (tnL i s l).2.1 = 0 ∧ (tnL i s l).2.2 = 0
  | [], i, s, h => by simp [tnL]
  | c :: l, i, s, h => by
    rw [tnL] at h ⊢
    split at h
    · rename_i h1
      split at h
      · rename_i h2
        rw [if_pos h1, if_pos h2]; simp
      · simp at h
    · rename_i h1
      split at h
      · rename_i h2
        rw [if_neg h1, if_pos h2]; simp
      · rename_i h2
        rw [if_neg h1, if_neg h2]
        exact tnL_err l (i + 1) _ h
theorem pow128 {i : Nat} (h : i ≤ 8) : 128 ^ i ≤ 72057594037927936 := Nat.le_trans (Nat.pow_le_pow_right (by decide) h) (by decide)
theorem pow128s (i : Nat) : 128 ^ (i + 1) = 128 ^ i * 128 := Nat.pow_succ 128 i
theorem sum_lt {i s c : Nat} (h : s < 128 ^ i) : s + c % 128 * 128 ^ i < 128 ^ (i + 1) := by
  rw [pow128s]
  have h1 : c % 128 * 128 ^ i ≤ 127 * 128 ^ i := Nat.mul_le_mul_right _ (by omega)
  omega
theorem tnL_lt : ∀ (l : List Nat) (i s : Nat), i ≤ 8 → s < 128 ^ i → (tnL i s l).2.1 < 9223372036854775808
  | [], i, s, hi, h => by simp [tnL]
  | c :: l, i, s, hi, h => by
    have h1 := sum_lt (c := c) h
    have h2 := pow128 hi
    have h3 := pow128s i
    rw [tnL]
    split
    · split
      · simp
      · show s + c % 128 * 128 ^ i < _
        omega
    · split
      · simp
      · exact tnL_lt l (i + 1) _ (by omega) h1
theorem tn_lt (l : List Nat) : (tn l).2.1 < 9223372036854775808 := tnL_lt l 0 0 (by omega) (by simp)

/-- a Reader in memory -/
structure Rd (W : World) (p : Nat) (v : Value) (l : List Nat) (e : Int) : Prop where
  box : Bx W p 76 #[v, .int .i64 e]
  row : RC W v l.length (bC l)
  ne : v.ownBlock ≠ some p
  byte : ∀ b ∈ l, b < 256
  small : l.length ≤ 140737488355328
theorem RC.kp {N : Nat → Prop} {W W' : World} {v : Value} {n : Nat} {C : List Value} (h : RC W v n C) (k : Kp N W W') (hn : ∀ i, v.ownBlock = some i → ¬ N i) : RC W' v n C := by
  rcases h with h | ⟨b, off, cap, rfl, h1, hl, hc⟩
  · exact .inl h
  · refine .inr ⟨b, off, cap, rfl, h1, Nat.lt_of_lt_of_le hl k.size, fun j x hx => ?_⟩
    rw [← hc j x hx]
    exact World.cell?_of_block (k.block b hl (hn b rfl))
theorem Rd.kp {N : Nat → Prop} {W W' : World} {p : Nat} {v : Value} {l : List Nat} {e : Int} (h : Rd W p v l e) (k : Kp N W W') (h1 : ¬ N p) (h2 : ∀ i, v.ownBlock = some i → ¬ N i) : Rd W' p v l e :=
  ⟨h.box.kp k h1, h.row.kp k h2, h.ne, h.byte, h.small⟩
theorem Rd.below {W W' : World} {p : Nat} {v : Value} {l : List Nat} {e : Int} (h : Rd W p v l e) (hb : Below W.heap.size W W') : Rd W' p v l e := h.kp (N := fun _ => False) (Kp.of_below hb) (fun h => h) (fun _ _ h => h)
theorem Rd.setE {W : World} {p : Nat} {v : Value} {l : List Nat} {e : Int} (h : Rd W p v l e) (e' : Int) : Rd (W.setCell ⟨p, 1, none⟩ (.int .i64 e')) p v l e' :=
  ⟨by simpa using h.box.set 1 (.int .i64 e'), h.row.kp (Kp.set (N := fun k => k = p) W ⟨p, 1, none⟩ _ rfl) (fun i hi e => h.ne (by rw [hi, e])), h.ne, h.byte, h.small⟩

set_option maxRecDepth 100000 in
theorem rErr_in {w : World} {p : Nat} {v : Value} {l : List Nat} {e : Int} (h : Rd w p v l e) :
    Calls Tryz.prog 62 #[.pointer (some ⟨p, 0, none⟩)] w fun r W => r = .returned (.int .i64 e) ∧ w = W := by
  have c1 := h.box.cell 1 _ rfl
  clear h
  go_enter Tryz.func62, Tryz.ntmps62
  go_wp2
  go_ret
  exact ⟨rfl, rfl⟩
set_option maxRecDepth 100000 in
theorem rErr_nil (w : World) : Calls Tryz.prog 62 #[.pointer none] w fun r W => r = .returned (.int .i64 1) ∧ w = W := by
  go_enter Tryz.func62, Tryz.ntmps62
  go_wp2
  go_ret
  exact ⟨rfl, rfl⟩
set_option maxRecDepth 100000 in
theorem rLeft_in {w : World} {p : Nat} {v : Value} {l : List Nat} {e : Int} (h : Rd w p v l e) :
    Calls Tryz.prog 66 #[.pointer (some ⟨p, 0, none⟩)] w fun r W => r = .returned (.int .i64 (l.length : Nat)) ∧ w = W := by
  have c0 := h.box.cell 0 _ rfl
  obtain ⟨a, c, rfl⟩ := h.row.form
  clear h
  go_enter Tryz.func66, Tryz.ntmps66
  go_wp2
  go_ret
  exact ⟨rfl, rfl⟩
set_option maxRecDepth 100000 in
theorem rLeft_nil (w : World) : Calls Tryz.prog 66 #[.pointer none] w fun r W => r = .returned (.int .i64 0) ∧ w = W := by
  go_enter Tryz.func66, Tryz.ntmps66
  go_wp2
  go_ret
  exact ⟨rfl, rfl⟩

/-- Err, or that something is left -/
def rEnd (l : List Nat) (e : Int) : Int := if e = 0 ∧ 0 < l.length then 6 else e

set_option maxRecDepth 100000 in
theorem rEnd_in {w : World} {p : Nat} {v : Value} {l : List Nat} {e : Int} (h : Rd w p v l e) :
    Calls Tryz.prog 41 #[.pointer (some ⟨p, 0, none⟩)] w fun r W => r = .returned (.int .i64 (rEnd l e)) ∧ w = W := by
  have HE := hide (rErr_in h)
  have HL := hide (rLeft_in h)
  unfold rEnd
  by_cases he : e = 0
  · subst he
    by_cases hl : 0 < l.length
    · rw [if_pos ⟨rfl, hl⟩]
      have hl' : (0 : Int) < (l.length : Int) := by omega
      clear h
      go_enter Tryz.func41, Tryz.ntmps41
      go_wp2_with (first | (go_at_call 62; refine (unhide HE).mono ?_; rintro r W ⟨rfl, rfl⟩) | (go_at_call 66; refine (unhide HL).mono ?_; rintro r W ⟨rfl, rfl⟩))
      go_ret
      exact ⟨rfl, rfl⟩
    · rw [if_neg (fun h => hl h.2)]
      have hl' : ¬ (0 : Int) < (l.length : Int) := by omega
      obtain ⟨n, hn⟩ : ∃ n, l.length = n := ⟨_, rfl⟩
      rw [hn] at HL hl'
      clear h hn hl
      go_enter Tryz.func41, Tryz.ntmps41
      go_wp2_with (first | (go_at_call 62; refine (unhide HE).mono ?_; rintro r W ⟨rfl, rfl⟩) | (go_at_call 66; refine (unhide HL).mono ?_; rintro r W ⟨rfl, rfl⟩))
      go_ret
      exact ⟨rfl, rfl⟩
  · rw [if_neg (fun h => he h.1)]
    have he' : (e == 0) = false := by simpa using he
    clear h
    go_enter Tryz.func41, Tryz.ntmps41
    go_wp2_with (first | (go_at_call 62; refine (unhide HE).mono ?_; rintro r W ⟨rfl, rfl⟩) | (go_at_call 66; refine (unhide HL).mono ?_; rintro r W ⟨rfl, rfl⟩))
    go_ret
    exact ⟨rfl, rfl⟩
set_option maxRecDepth 100000 in
theorem rEnd_nil (w : World) : Calls Tryz.prog 41 #[.pointer none] w fun r W => r = .returned (.int .i64 1) ∧ w = W := by
  have HE := hide (rErr_nil w)
  go_enter Tryz.func41, Tryz.ntmps41
  go_wp2_with (go_at_call 62; refine (unhide HE).mono ?_; rintro r W ⟨rfl, rfl⟩)
  go_ret
  exact ⟨rfl, rfl⟩

theorem sl_from (w : World) (a : Option Addr) (n c k : Nat) (hk : k ≤ n) (hn : n ≤ c) :
    (Instr.sliceAt 22 (.slice a n c) (some (.int .i64 (k : Nat))) none none).run Tryz.prog w = .ok (.slice (if c = k then a else a.map (·.add k)) (n - k) (c - k)) w := by
  obtain ⟨i0, hi, hz0, hz1, hz2⟩ := info_parts infoB
  have h1 : (k : Int) ≤ (n : Int) := by omega
  simp [Instr.sliceAt, Instr.slice, run_underlying Tryz.underlying22, sizeOf, typeInfo, hi, hz1, go_sem, h1, hk, hn]

end Go.Proofs.YtkffonoifbaifaaGreat

/-
  Readers: take and number.
-/
set_option linter.unusedSimpArgs false
set_option linter.unusedVariables false
namespace Go.Proofs.YtkffonoifbaifaaGreat
open Go.RowKit Go.Lib

theorem RC.drop {W : World} {a : Option Addr} {n c k : Nat} {C : List Value} (h : RC W (.slice a n c) n C) (hk : k ≤ n) (hC : C.length = n) : RC W (.slice (if c = k then a else a.map (·.add k)) (n - k) (c - k)) (n - k) (C.drop k) := by
  by_cases h0 : n - k = 0
  · exact .inl ⟨h0, _, _, by rw [h0]⟩
  · rcases h with ⟨h1, _⟩ | ⟨b, off, cap, e, h1, hl, hc⟩
    · omega
    · simp at e
      obtain ⟨rfl, rfl⟩ := e
      rw [if_neg (by omega)]
      refine .inr ⟨b, off + k, c - k, by simp only [Option.map_some, Addr.add_lit], by omega, hl, fun j x hx => ?_⟩
      rw [List.getElem?_drop] at hx
      rw [Nat.add_assoc]
      exact hc (k + j) x hx

theorem own_drop {a : Option Addr} {n c k m d : Nat} {p : Nat} (h : (Value.slice a n c).ownBlock ≠ some p) : (Value.slice (if c = k then a else a.map (·.add k)) m d).ownBlock ≠ some p := by
  split
  · cases a <;> exact h
  · cases a with
    | none => exact h
    | some ad =>
      have e : (ad.add k).block = ad.block := by unfold Addr.add; split <;> rfl
      intro e'
      simp only [Option.map_some, Value.ownBlock, e] at e'
      exact h e'

theorem bC_drop (l : List Nat) (k : Nat) : (bC l).drop k = bC (l.drop k) := by simp [bC]
theorem bC_take (l : List Nat) (k : Nat) : (bC l).take k = bC (l.take k) := by simp [bC]

theorem Rd.taken {W : World} {p : Nat} {a : Option Addr} {c : Nat} {l : List Nat} {e : Int} (h : Rd W p (.slice a l.length c) l e) (k : Nat) (hk : k ≤ l.length) :
    Rd (W.setCell ⟨p, 0, none⟩ (.slice (if c = k then a else a.map (·.add k)) (l.length - k) (c - k))) p (.slice (if c = k then a else a.map (·.add k)) (l.length - k) (c - k)) (l.drop k) e := by
  have hr := h.row.drop hk (bC_len l)
  rw [bC_drop] at hr
  have hne := own_drop (k := k) (m := l.length - k) (d := c - k) h.ne
  refine ⟨by simpa using h.box.set 0 (.slice (if c = k then a else a.map (·.add k)) (l.length - k) (c - k)), ?_, hne, fun b hb => h.byte b (List.mem_of_mem_drop hb), by have := h.small; simp; omega⟩
  rw [List.length_drop]
  exact hr.kp (Kp.set (N := fun k => k = p) W ⟨p, 0, none⟩ _ rfl) (fun i hi e => hne (by rw [hi, e]))

set_option maxRecDepth 100000 in
set_option maxHeartbeats 1000000 in
theorem rTake_in {w : World} {p : Nat} {v : Value} {l : List Nat} {e : Int} (k : Nat) (h : Rd w p v l e) (hk : k ≤ l.length) :
    Calls Tryz.prog 82 #[.pointer (some ⟨p, 0, none⟩), .int .i64 (k : Nat)] w fun r W => r = .returned (.tuple #[]) ∧ ∃ v', Rd W p v' (l.drop k) e ∧ Kp (fun i => i = p) w W ∧ v'.ownBlock = v.ownBlock := by
  obtain ⟨a, c, rfl⟩ := h.row.form
  have hc : l.length ≤ c := by
    rcases h.row with ⟨h0, _⟩ | ⟨b, off, cap, e, h1, _⟩
    · omega
    · simp at e; omega
  have hs := fun W => sl_from W a l.length c k hk hc
  have c0 := h.box.cell 0 _ rfl
  have f0 := h.box.frozen 0
  have H := hide h
  have Hk := hide hk
  clear h hk hc
  obtain ⟨v', hv⟩ : ∃ v', (Value.slice (if c = k then a else a.map (·.add k)) (l.length - k) (c - k)) = v' := ⟨_, rfl⟩
  obtain ⟨a', hv2⟩ : ∃ a', (if c = k then a else a.map (·.add k)) = a' := ⟨_, rfl⟩
  rw [hv2] at hs hv
  have HV := hide hv2
  clear hv2 hv
  go_enter Tryz.func82, Tryz.ntmps82
  go_wp2
  go_end0
  have ht := (unhide H).taken k (unhide Hk)
  rw [unhide HV] at ht
  refine ⟨rfl, _, ht, Kp.set _ _ _ rfl, ?_⟩
  rw [← unhide HV]
  split
  · cases a <;> rfl
  · cases a with
    | none => rfl
    | some ad =>
      have e : (ad.add k).block = ad.block := by unfold Addr.add; split <;> rfl
      simp only [Option.map_some, Value.ownBlock, e]
set_option maxRecDepth 100000 in
theorem rTake_nil (w : World) (n : Int) : Calls Tryz.prog 82 #[.pointer none, .int .i64 n] w fun r W => r = .returned (.tuple #[]) ∧ w = W := by
  go_enter Tryz.func82, Tryz.ntmps82
  go_wp2
  go_end0
  exact ⟨rfl, rfl⟩

/-- a frame of sixty slots -/
def frN (u : Nat → Value) : Act := ⟨#[u 0, u 1, u 2, u 3, u 4, u 5, u 6, u 7, u 8, u 9, u 10, u 11, u 12, u 13, u 14, u 15, u 16, u 17, u 18, u 19, u 20, u 21, u 22, u 23, u 24, u 25, u 26, u 27, u 28, u 29, u 30, u 31, u 32, u 33, u 34, u 35, u 36, u 37, u 38, u 39, u 40, u 41, u 42, u 43, u 44, u 45, u 46, u 47, u 48, u 49, u 50, u 51, u 52, u 53, u 54, u 55, u 56, u 57, u 58, u 59], []⟩

theorem frN_ex {v0 v1 v2 v3 v4 v5 v6 v7 v8 v9 v10 v11 v12 v13 v14 v15 v16 v17 v18 v19 v20 v21 v22 v23 v24 v25 v26 v27 v28 v29 v30 v31 v32 v33 v34 v35 v36 v37 v38 v39 v40 v41 v42 v43 v44 v45 v46 v47 v48 v49 v50 v51 v52 v53 v54 v55 v56 v57 v58 v59 A B : Value} {C : Prop} (hC : C) (h0 : v0 = A) (h5 : v5 = B) : ∃ u, (⟨#[v0, v1, v2, v3, v4, v5, v6, v7, v8, v9, v10, v11, v12, v13, v14, v15, v16, v17, v18, v19, v20, v21, v22, v23, v24, v25, v26, v27, v28, v29, v30, v31, v32, v33, v34, v35, v36, v37, v38, v39, v40, v41, v42, v43, v44, v45, v46, v47, v48, v49, v50, v51, v52, v53, v54, v55, v56, v57, v58, v59], []⟩ : Act) = frN u ∧ u 0 = A ∧ u 5 = B ∧ C := ⟨fun k => #[v0, v1, v2, v3, v4, v5, v6, v7, v8, v9, v10, v11, v12, v13, v14, v15, v16, v17, v18, v19, v20, v21, v22, v23, v24, v25, v26, v27, v28, v29, v30, v31, v32, v33, v34, v35, v36, v37, v38, v39, v40, v41, v42, v43, v44, v45, v46, v47, v48, v49, v50, v51, v52, v53, v54, v55, v56, v57, v58, v59].getD k undef, rfl, h0, h5, hC⟩

theorem wraps_u64 (n : Int) (h₀ : 0 ≤ n) (h₁ : n < 2 ^ 64) : IntKind.u64.wrap n = n := IntWalk.u64_in n (by omega)

theorem or_sum (s c i : Nat) (hc : c < 256) (hi : i ≤ 8) (hs : s < 128 ^ i) : bits .or .u64 (s : Int) (IntKind.u64.wrap ((c : Int) % 128 * 2 ^ (7 * i))) = ((s + c % 128 * 128 ^ i : Nat) : Int) := by
  have h1 : (2 : Nat) ^ (7 * i) = 128 ^ i := by rw [Nat.pow_mul]
  have h2 : c % 128 * 128 ^ i ≤ 127 * 128 ^ i := Nat.mul_le_mul_right _ (by omega)
  have h3 := pow128 hi
  have e1 : ((c : Int) % 128 * 2 ^ (7 * i)) = ((c % 128 * 128 ^ i : Nat) : Int) := by
    rw [← h1]
    push_cast
    rfl
  rw [e1, IntWalk.u64_in _ (by omega)]
  have h4 := (bits_nat .u64 64 (by decide) wraps_u64 s (c % 128 * 128 ^ i) (by omega) (by omega)).2
  rw [h4]
  congr 1
  rw [← h1, ← Nat.shiftLeft_eq, Nat.or_comm, ← Nat.shiftLeft_add_eq_or_of_lt (by rw [h1]; exact hs), Nat.add_comm]

/-- what number answers -/
def rn0 (l : List Nat) (e : Int) : Int × Nat × Nat := if e ≠ 0 then (e, 0, 0) else tn l

theorem shl7 (c i : Nat) (hc : c < 256) (hi : i ≤ 8) : c % 128 * 128 ^ i < 9223372036854775808 := by
  have h1 : c % 128 * 128 ^ i ≤ 127 * 128 ^ i := Nat.mul_le_mul_right _ (by omega)
  have h2 := pow128 hi
  omega

set_option maxRecDepth 100000 in
set_option maxHeartbeats 2000000 in
theorem rnumber_in {w : World} {p : Nat} {v : Value} {l : List Nat} {e : Int} (h : Rd w p v l e) :
    Calls Tryz.prog 81 #[.pointer (some ⟨p, 0, none⟩)] w fun r W => r = .returned (.tuple #[.int .i64 ((rn0 l e).2.1 : Nat), .int .i64 ((rn0 l e).2.2 : Nat)]) ∧ Rd W p v l (rn0 l e).1 ∧ Kp (fun i => i = p) w W := by
  have HE := hide (rErr_in h)
  by_cases he : e = 0
  · subst he
    have hr : rn0 l 0 = tn l := by unfold rn0; simp
    rw [hr]
    clear hr
    obtain ⟨a, c, rfl⟩ := h.row.form
    have c0 := h.box.cell 0 _ rfl
    have f1 := h.box.frozen 1
    have c1 := h.box.cell 1 _ rfl
    have H := hide h
    have hsm := h.small
    clear h
    obtain ⟨E, V, Wd, hT⟩ : ∃ E V Wd, tn l = (E, V, Wd) := ⟨_, _, _, rfl⟩
    rw [hT]
    have HT := hide hT
    clear hT
    obtain ⟨n, hn⟩ : ∃ n, l.length = n := ⟨_, rfl⟩
    rw [hn] at hsm c0 H
    have Hn := hide hn
    rw [hn]
    clear hn
    go_enter Tryz.func81, Tryz.ntmps81
    go_wp2
    refine wp_scope_jumps 0 (fun a' w' => ∃ u : Nat → Value, a' = frN u ∧ u 0 = .pointer (some ⟨p, 0, none⟩) ∧ u 5 = .int .i64 E ∧ Hid (E ≠ 0 ∧ w' = w)) (fun _ _ => 0) rfl ?first ?pass
    case pass =>
      rintro a' w' ⟨u, rfl, h0, h5, H0⟩
      obtain ⟨hE, rfl⟩ := unhide H0
      have HV := hide (show V = 0 ∧ Wd = 0 by have := tnL_err l 0 0; rw [show tnL 0 0 l = _ from unhide HT] at this; exact this hE)
      have HR := hide ((unhide H).setE E)
      have HK := hide (Kp.set (N := fun i => i = p) w' ⟨p, 1, none⟩ (.int .i64 E) rfl)
      simp only [frN, h0, h5]
      go_wp2
      obtain ⟨rfl, rfl⟩ := unhide HV
      simp only [Exit.jump]
      refine bodyPost_ret (results_tmp2 rfl _ _ _) rfl ?_
      exact ⟨rfl, unhide HR, unhide HK⟩
    case first =>
      go_wp2_with (go_at_call 62; refine (unhide HE).mono ?_; rintro r W ⟨rfl, rfl⟩)
      go_loopw [4, 5, 17] (fun sv ev iv wr => ∃ (i s : Nat), sv = .int .u64 (s : Nat) ∧ ev = .int .i64 5 ∧ iv = .int .i64 (i : Nat) ∧ i ≤ n ∧ i ≤ 8 ∧ Hid (s < 128 ^ i) ∧ Hid (tnL i s (l.drop i) = (E, V, Wd)) ∧ wr = w) (fun _ _ iv _ => n - (Lib.intOf iv).toNat)
      case atStart => exact ⟨0, 0, rfl, rfl, rfl, by omega, by omega, hide (by simp), hide (unhide HT), rfl⟩
      case round =>
        obtain ⟨i, s, rfl, rfl, rfl, hin, hi8, Hs, Ht, rfl⟩ := hrel
        by_cases hlt : i < n
        · have hlt' : (i : Int) < (n : Int) := by omega
          obtain ⟨cb, hcb⟩ : ∃ cb, l[i]? = some cb := ⟨_, List.getElem?_eq_getElem (by have := unhide Hn; omega)⟩
          obtain ⟨b0, off, rfl, hcell⟩ : ∃ b0 off, a = some ⟨b0, off, none⟩ ∧ wr.cell? ⟨b0, off + i, none⟩ = some (.int .u8 (cb : Nat)) := by
            rcases (unhide H).row with ⟨h0, _⟩ | ⟨b, off, cap, e, h1, h2, h3⟩
            · have := unhide Hn; omega
            · simp at e
              obtain ⟨rfl, _⟩ := e
              exact ⟨b, off, rfl, h3 i _ (bC_get l i cb hcb)⟩
          have hc256 : cb < 256 := (unhide H).byte cb (List.mem_of_getElem? hcb)
          have hdr : l.drop i = cb :: l.drop (i + 1) := by
            have hil := (List.getElem?_eq_some_iff.1 hcb).1
            rw [List.drop_eq_getElem_cons hil]
            congr 1
            rw [List.getElem?_eq_getElem hil] at hcb
            simpa using hcb
          have Hd := hide hdr
          have Hcb := hide hcb
          clear hdr hcb
          obtain ⟨S, hS⟩ : ∃ S : Nat, s + cb % 128 * 128 ^ i = S := ⟨_, rfl⟩
          have hor := or_sum s cb i hc256 hi8 (unhide Hs)
          rw [hS] at hor
          have hSs : (S : Int) ≤ 9223372036854775807 := by
            have h1 := sum_lt (c := cb) (unhide Hs)
            have h2 := pow128 hi8
            have h3 := pow128s i
            rw [hS] at h1
            omega
          have HSl := hide (show S < 128 ^ (i + 1) by have h1 := sum_lt (c := cb) (unhide Hs); rw [hS] at h1; exact h1)
          have HS := hide hS
          clear hS
          by_cases hc : cb < 128
          · have hc' : (cb : Int) < 128 := by omega
            by_cases hz : cb = 0
            · have hz' : ((cb : Int) == 0) = true := by simp [hz]
              have Hz := hide hz
              clear hz
              by_cases hi0 : 0 < i
              · have hi0' : (0 : Int) < (i : Int) := by omega
                have hE : Hid (E = 6) := by
                  have h := unhide Ht
                  rw [unhide Hd, tnL, if_pos hc, if_pos ⟨unhide Hz, hi0⟩] at h
                  simp at h
                  exact h.1.symm
                go_wp2
                go_step3
                simp only [Exit.inBlock, Exit.then, Exit.jump]
                exact ⟨rfl, frN_ex (hide ⟨by rw [unhide hE]; decide, rfl⟩) rfl (by rw [unhide hE])⟩
              · have hi0' : ¬ (0 : Int) < (i : Int) := by omega
                have hE : Hid (E = 0 ∧ V = S ∧ Wd = i + 1) := by
                  have h := unhide Ht
                  rw [unhide Hd, tnL, if_pos hc, if_neg (fun h => hi0 h.2), unhide HS] at h
                  simp at h
                  exact ⟨h.1.symm, h.2.1.symm, h.2.2.symm⟩
                have hi00 : decide ((0 : Int) < (i : Int)) = false := by simp; omega
                have hie := hide (show i = 0 by omega)
                clear hi0 hi0'
                go_wp2
                simp only [Exit.jump]
                obtain rfl := unhide hie
                obtain ⟨rfl, rfl, rfl⟩ := unhide hE
                refine bodyPost_ret (results_tmp2 rfl _ _ _) rfl ?_
                exact ⟨rfl, unhide H, Kp.refl _ _⟩
            · have hz' : ((cb : Int) == 0) = false := by simp; omega
              have hE : Hid (E = 0 ∧ V = S ∧ Wd = i + 1) := by
                have h := unhide Ht
                rw [unhide Hd, tnL, if_pos hc, if_neg (fun h => hz h.1), unhide HS] at h
                simp at h
                exact ⟨h.1.symm, h.2.1.symm, h.2.2.symm⟩
              clear hz
              go_wp2
              simp only [Exit.jump]
              obtain ⟨rfl, rfl, rfl⟩ := unhide hE
              refine bodyPost_ret (results_tmp2 rfl _ _ _) rfl ?_
              exact ⟨rfl, unhide H, Kp.refl _ _⟩
          · have hc' : ¬ (cb : Int) < 128 := by omega
            by_cases h8 : i = 8
            · have h8' : ((i : Int) + 1 == 9) = true := by simp [h8]
              have hE : Hid (E = 6) := by
                have h := unhide Ht
                rw [unhide Hd, tnL, if_neg hc, if_pos h8] at h
                simp at h
                exact h.1.symm
              clear h8
              go_wp2
              go_step3
              simp only [Exit.inBlock, Exit.then, Exit.jump]
              exact ⟨rfl, frN_ex (hide ⟨by rw [unhide hE]; decide, rfl⟩) rfl (by rw [unhide hE])⟩
            · have h8' : ((i : Int) + 1 == 9) = false := by simp; omega
              have Ht2 : Hid (tnL (i + 1) S (l.drop (i + 1)) = (E, V, Wd)) := by
                have h := unhide Ht
                rw [unhide Hd, tnL, if_neg hc, if_neg h8, unhide HS] at h
                exact h
              go_wp2
              go_roundw
              case measure => show n - ((i : Int) + 1).toNat < n - ((i : Nat) : Int).toNat; omega
              case rel => exact ⟨i + 1, S, rfl, rfl, by go_num, by omega, by omega, HSl, Ht2, by trivial⟩
        · have hlt' : ¬ (i : Int) < (n : Int) := by omega
          have hE : Hid (E = 5) := by
            have h := unhide Ht
            rw [List.drop_eq_nil_of_le (by have := unhide Hn; omega), tnL] at h
            simp at h
            exact h.1.symm
          have HR := hide ((unhide H).setE 5)
          have HK := hide (Kp.set (N := fun i => i = p) wr ⟨p, 1, none⟩ (.int .i64 5) rfl)
          have HV := hide (show V = 0 ∧ Wd = 0 by have := tnL_err l 0 0; rw [show tnL 0 0 l = _ from unhide HT] at this; exact this (by show E ≠ 0; rw [unhide hE]; decide))
          go_wp2
          go_step3
          simp only [Exit.then]
          rename_i hKx
          refine hKx _ _ ?_
          go_wp2
          obtain ⟨rfl, rfl⟩ := unhide HV
          obtain rfl := unhide hE
          simp only [Exit.jump]
          refine bodyPost_ret (results_tmp2 rfl _ _ _) rfl ?_
          exact ⟨rfl, unhide HR, unhide HK⟩
  · have hr : rn0 l e = (e, 0, 0) := by unfold rn0; simp [he]
    rw [hr]
    have he' : (e == 0) = false := by simpa using he
    have H := hide h
    clear h
    go_enter Tryz.func81, Tryz.ntmps81
    go_wp2
    refine wp_scope_jumps 0 (fun _ _ => False) (fun _ _ => 0) rfl ?_ (fun _ _ h => h.elim)
    go_wp2_with (go_at_call 62; refine (unhide HE).mono ?_; rintro r W ⟨rfl, rfl⟩)
    simp only [Exit.jump]
    refine bodyPost_ret (results_tmp2 rfl _ _ _) rfl ?_
    exact ⟨rfl, unhide H, Kp.refl _ _⟩

set_option maxRecDepth 100000 in
theorem rnumber_nil (w : World) : Calls Tryz.prog 81 #[.pointer none] w fun r W => r = .returned (.tuple #[.int .i64 0, .int .i64 0]) ∧ w = W := by
  have HE := hide (rErr_nil w)
  go_enter Tryz.func81, Tryz.ntmps81
  go_wp2
  refine wp_scope_jumps 0 (fun _ _ => False) (fun _ _ => 0) rfl ?_ (fun _ _ h => h.elim)
  go_wp2_with (go_at_call 62; refine (unhide HE).mono ?_; rintro r W ⟨rfl, rfl⟩)
  simp only [Exit.jump]
  refine bodyPost_ret (results_tmp2 rfl _ _ _) rfl ?_
  exact ⟨rfl, rfl⟩

/-- a number is taken: it, what is left, the error -/
def rNum (l : List Nat) (e : Int) : Nat × List Nat × Int := ((rn0 l e).2.1, l.drop (rn0 l e).2.2, (rn0 l e).1)

theorem rn0_width (l : List Nat) (e : Int) : (rn0 l e).2.2 ≤ l.length := by
  unfold rn0
  split
  · simp
  · by_cases h : (tn l).1 = 0
    · exact tn_width h
    · have := (tnL_err l 0 0 h).2
      have h2 : (tn l).2.2 = 0 := this
      omega
theorem rn0_lt (l : List Nat) (e : Int) : (rn0 l e).2.1 < 9223372036854775808 := by
  unfold rn0
  split
  · simp
  · exact tn_lt l

set_option maxRecDepth 100000 in
set_option maxHeartbeats 1000000 in
theorem rNumber_in {w : World} {p : Nat} {v : Value} {l : List Nat} {e : Int} (h : Rd w p v l e) :
    Calls Tryz.prog 61 #[.pointer (some ⟨p, 0, none⟩)] w fun r W => r = .returned (.int .i64 ((rNum l e).1 : Nat)) ∧ ∃ v', Rd W p v' (rNum l e).2.1 (rNum l e).2.2 ∧ Kp (fun i => i = p) w W ∧ v'.ownBlock = v.ownBlock := by
  have HN := hide (rnumber_in h)
  have HW := hide (rn0_width l e)
  unfold rNum
  clear h
  generalize rn0 l e = X at *
  obtain ⟨E, V, Wd⟩ := X
  go_enter Tryz.func61, Tryz.ntmps61
  go_wp2_with fail
  refine (unhide HN).mono ?_
  rintro r W ⟨rfl, H, HK⟩
  have HT := hide (rTake_in Wd H (unhide HW))
  replace HK := hide HK
  clear H
  go_wp2_with fail
  refine (unhide HT).mono ?_
  rintro r W2 ⟨rfl, v', H2, HK2, hv⟩
  replace H2 := hide H2
  replace HK2 := hide HK2
  replace hv := hide hv
  go_wp2
  go_ret
  exact ⟨rfl, v', unhide H2, (unhide HK).trans (unhide HK2) (fun i h => .inl h), unhide hv⟩

set_option maxRecDepth 100000 in
theorem rNumber_nil (w : World) : Calls Tryz.prog 61 #[.pointer none] w fun r W => r = .returned (.int .i64 0) ∧ w = W := by
  have HN := hide (rnumber_nil w)
  have HT := hide (rTake_nil w 0)
  go_enter Tryz.func61, Tryz.ntmps61
  go_wp2_with fail
  refine (unhide HN).mono ?_
  rintro r W ⟨rfl, rfl⟩
  go_wp2_with fail
  refine (unhide HT).mono ?_
  rintro r W ⟨rfl, rfl⟩
  go_wp2
  go_ret
  exact ⟨rfl, rfl⟩

end Go.Proofs.YtkffonoifbaifaaGreat

/-
  Readers: Text, Read.
-/
set_option linter.unusedSimpArgs false
set_option linter.unusedVariables false
namespace Go.Proofs.YtkffonoifbaifaaGreat
open Go.RowKit Go.Lib

/-- bytes as a text -/
def txt (L : List Nat) : ByteArray := ⟨(L.map Nat.toUInt8).toArray⟩
theorem sB_txt (L : List Nat) (h : ∀ b ∈ L, b < 256) : sB (txt L) = L := by
  unfold sB txt
  show (L.map Nat.toUInt8).map (fun x => x.toNat) = L
  rw [List.map_map]
  refine (List.map_congr_left (g := id) fun b hb => ?_).trans (List.map_id L)
  show b.toUInt8.toNat = b
  have := h b hb
  simp [Nat.toUInt8, UInt8.toNat_ofNat']
  omega
theorem txt_size (L : List Nat) : (txt L).size = L.length := by
  show (L.map Nat.toUInt8).toArray.size = L.length
  simp
theorem txt_sB (s : ByteArray) : txt (sB s) = s := by
  unfold sB txt
  rw [List.map_map]
  have : (s.data.toList.map (Nat.toUInt8 ∘ fun x => x.toNat)) = s.data.toList := by
    refine (List.map_congr_left (g := id) fun b _ => ?_).trans (List.map_id _)
    simp [Nat.toUInt8]
  rw [this]

theorem conv_in (w : World) (v : Value) (L : List Nat) (h : RC w v L.length (bC L)) (hb : ∀ b ∈ L, b < 256) : (convert 22 9 v).run Tryz.prog w = .ok (.string (txt L)) w := by
  have back : ∀ (a : Addr) (c : Nat), v = .slice (some a) L.length c → (∀ j x, (bC L)[j]? = some x → w.cell? (a.add j) = some x) → (convert 22 9 v).run Tryz.prog w = .ok (.string (txt L)) w := by
    rintro a c rfl hc
    have := run_convert_bytes_back (P := Tryz.prog) w 22 9 5 a c (L.map Nat.toUInt8) Tryz.underlying22 Tryz.underlying5 Tryz.underlying9 (fun j hj => by
      simp at hj
      rw [hc j (.int .u8 ((L[j] : Nat) : Int)) (bC_get L j L[j] (List.getElem?_eq_getElem hj))]
      have := hb L[j] (List.getElem_mem hj)
      simp [Nat.toUInt8, UInt8.toNat_ofNat']
      omega)
    simp only [List.length_map] at this
    exact this
  rcases h with ⟨h0, a, cap, rfl⟩ | ⟨b, off, cap, rfl, h1, h2, h3⟩
  · have hl : L = [] := List.eq_nil_of_length_eq_zero h0
    subst hl
    cases a with
    | none => exact run_convert_bytes_nil (P := Tryz.prog) w 22 5 Tryz.underlying22 Tryz.underlying5 0 cap 9 Tryz.underlying9
    | some ad => exact back ad cap rfl (fun j x hx => by simp [bC] at hx)
  · exact back ⟨b, off, none⟩ cap rfl (fun j x hx => by rw [Addr.add_lit]; exact h3 j x hx)

theorem sl_mid (w : World) (a : Option Addr) (n c k m : Nat) (hk : k + m ≤ n) (hn : n ≤ c) :
    (Instr.sliceAt 22 (.slice a n c) (some (.int .i64 (k : Nat))) (some (.int .i64 ((k + m : Nat) : Int))) none).run Tryz.prog w = .ok (.slice (if c = k then a else a.map (·.add k)) m (c - k)) w := by
  obtain ⟨i0, hi, hz0, hz1, hz2⟩ := info_parts infoB
  have h1 : (k : Int) ≤ ((k + m : Nat) : Int) := by omega
  have h2 : ((k + m : Nat) : Int) ≤ (c : Int) := by omega
  have h3 : k ≤ c := by omega
  have h4 : k + m ≤ c := by omega
  have e : k + m - k = m := by omega
  have h5 : (0 : Int) ≤ (k : Int) + (m : Int) := by omega
  have h6 : (k : Int) + (m : Int) ≤ (c : Int) := by omega
  have h7 : ((k : Int) + (m : Int)).toNat - k = m := by omega
  simp [Instr.sliceAt, Instr.slice, run_underlying Tryz.underlying22, sizeOf, typeInfo, hi, hz1, go_sem, h1, h2, h3, h4, h5, h6, h7]
  intro h
  omega

theorem RC.mid {W : World} {a : Option Addr} {n c k m : Nat} {C : List Value} (h : RC W (.slice a n c) n C) (hk : k + m ≤ n) (hC : C.length = n) : RC W (.slice (if c = k then a else a.map (·.add k)) m (c - k)) m ((C.drop k).take m) := by
  by_cases h0 : m = 0
  · exact .inl ⟨h0, _, _, by rw [h0]⟩
  · rcases h with ⟨h1, _⟩ | ⟨b, off, cap, e, h1, hl, hc⟩
    · omega
    · simp at e
      obtain ⟨rfl, rfl⟩ := e
      rw [if_neg (by omega)]
      refine .inr ⟨b, off + k, c - k, by simp only [Option.map_some, Addr.add_lit], by omega, hl, fun j x hx => ?_⟩
      rw [List.getElem?_take] at hx
      split at hx
      · rw [List.getElem?_drop] at hx
        rw [Nat.add_assoc]
        exact hc (k + j) x hx
      · cases hx

/-- a text is taken: it, what is left, the error -/
def rTxt (l : List Nat) (e : Int) : ByteArray × List Nat × Int :=
  if (rn0 l e).1 ≠ 0 then (ByteArray.empty, l, (rn0 l e).1) else if l.length - (rn0 l e).2.2 < (rn0 l e).2.1 then (ByteArray.empty, l, 5) else (txt ((l.drop (rn0 l e).2.2).take (rn0 l e).2.1), l.drop ((rn0 l e).2.2 + (rn0 l e).2.1), 0)

set_option maxRecDepth 100000 in
set_option maxHeartbeats 2000000 in
theorem rText_in {w : World} {p : Nat} {v : Value} {l : List Nat} {e : Int} (h : Rd w p v l e) :
    Calls Tryz.prog 172 #[.pointer (some ⟨p, 0, none⟩)] w fun r W => r = .returned (.string (rTxt l e).1) ∧ ∃ v', Rd W p v' (rTxt l e).2.1 (rTxt l e).2.2 ∧ Kp (fun i => i = p) w W ∧ v'.ownBlock = v.ownBlock := by
  have HN := hide (rnumber_in h)
  have HW := hide (rn0_width l e)
  have HV := hide (rn0_lt l e)
  have hsm := h.small
  have hbyte := hide h.byte
  obtain ⟨R, hR⟩ : ∃ R, rTxt l e = R := ⟨_, rfl⟩
  rw [hR]
  unfold rTxt at hR
  clear h
  generalize rn0 l e = X at *
  obtain ⟨E, V, Wd⟩ := X
  simp only at HN HW HV hR
  obtain ⟨a, c, hv⟩ : ∃ a c, v = .slice a l.length c ∨ True := ⟨none, 0, .inr trivial⟩
  clear hv
  by_cases hE : E = 0
  · subst hE
    rw [if_neg (by simp)] at hR
    by_cases hlt : l.length - Wd < V
    · rw [if_pos hlt] at hR
      subst hR
      go_enter Tryz.func172, Tryz.ntmps172
      go_wp2_with fail
      refine (unhide HN).mono ?_
      rintro r W ⟨rfl, H, HK⟩
      have HE := hide (rErr_in H)
      have HL := hide (rLeft_in H)
      have c1 := H.box.cell 1 _ rfl
      have f1 := H.box.frozen 1
      have HS := hide (H.setE 5)
      replace HK := hide HK
      clear H
      have h1 := unhide HW
      have hlt' : (l.length : Int) - (Wd : Int) < (V : Int) := by omega
      have h1' : (Wd : Int) ≤ (l.length : Int) := by omega
      go_wp2_with (first | (go_at_call 62; refine (unhide HE).mono ?_; rintro r W ⟨rfl, rfl⟩) | (go_at_call 66; refine (unhide HL).mono ?_; rintro r W ⟨rfl, rfl⟩))
      go_ret
      exact ⟨rfl, v, unhide HS, (unhide HK).trans (Kp.set (N := fun i => i = p) _ _ _ rfl) (fun i h => .inl h), rfl⟩
    · rw [if_neg hlt] at hR
      subst hR
      go_enter Tryz.func172, Tryz.ntmps172
      go_wp2_with fail
      refine (unhide HN).mono ?_
      rintro r W ⟨rfl, H, HK⟩
      have HE := hide (rErr_in H)
      have HL := hide (rLeft_in H)
      have h1 := unhide HW
      have HT := hide (rTake_in (Wd + V) H (by omega))
      have c0 := H.box.cell 0 _ rfl
      obtain ⟨a, c, rfl⟩ := H.row.form
      have hc : l.length ≤ c := by
        rcases H.row with ⟨h0, _⟩ | ⟨b, off, cap, e, h1, _⟩
        · omega
        · simp at e; omega
      have hsl := fun W => sl_mid W a l.length c Wd V (by omega) hc
      have hrow := H.row.mid (k := Wd) (m := V) (by omega) (bC_len l)
      rw [bC_drop, bC_take] at hrow
      have hll : ((l.drop Wd).take V).length = V := by rw [List.length_take, List.length_drop]; omega
      have hcv := conv_in W _ ((l.drop Wd).take V) (by rw [hll]; exact hrow) (fun b hb => unhide hbyte b (List.mem_of_mem_drop (List.mem_of_mem_take hb)))
      generalize (if c = Wd then a else a.map (·.add Wd)) = a2 at hsl hcv
      obtain ⟨S, hS⟩ : ∃ S, txt ((l.drop Wd).take V) = S := ⟨_, rfl⟩
      rw [hS] at hcv
      replace hS := hide hS
      replace HK := hide HK
      have hlt' : ¬ ((l.length : Int) - (Wd : Int) < (V : Int)) := by omega
      have h1' : (Wd : Int) ≤ (l.length : Int) := by omega
      have h3' : (Wd : Int) + (V : Int) ≤ 140737488355328 := by omega
      clear H hrow hll hc
      push_cast at hsl
      go_wp2_with (first | (go_at_call 62; refine (unhide HE).mono ?_; rintro r W ⟨rfl, rfl⟩) | (go_at_call 66; refine (unhide HL).mono ?_; rintro r W ⟨rfl, rfl⟩) | (go_at_call 82; refine (unhide HT).mono ?_; rintro r W2 ⟨rfl, v', H2, HK2, hv⟩; replace H2 := hide H2; replace HK2 := hide HK2; replace hv := hide hv))
      go_ret
      rw [unhide hS]
      exact ⟨rfl, v', unhide H2, (unhide HK).trans (unhide HK2) (fun i h => .inl h), unhide hv⟩
  · rw [if_pos hE] at hR
    subst hR
    have hE' : (E == 0) = false := by simpa using hE
    go_enter Tryz.func172, Tryz.ntmps172
    go_wp2_with fail
    refine (unhide HN).mono ?_
    rintro r W ⟨rfl, H, HK⟩
    have HE := hide (rErr_in H)
    replace HK := hide HK
    replace H := hide H
    go_wp2_with (go_at_call 62; refine (unhide HE).mono ?_; rintro r W ⟨rfl, rfl⟩)
    go_ret
    exact ⟨rfl, v, unhide H, unhide HK, rfl⟩

set_option maxRecDepth 100000 in
theorem rText_nil (w : World) : Calls Tryz.prog 172 #[.pointer none] w fun r W => r = .returned (.string ByteArray.empty) ∧ w = W := by
  have HN := hide (rnumber_nil w)
  have HE := hide (rErr_nil w)
  go_enter Tryz.func172, Tryz.ntmps172
  go_wp2_with fail
  refine (unhide HN).mono ?_
  rintro r W ⟨rfl, rfl⟩
  go_wp2_with (go_at_call 62; refine (unhide HE).mono ?_; rintro r W ⟨rfl, rfl⟩)
  go_ret
  exact ⟨rfl, rfl⟩

set_option maxRecDepth 100000 in
theorem rRead_in (w : World) (v : Value) (l : List Nat) (h : RC w v l.length (bC l)) (hb : ∀ b ∈ l, b < 256) (hl : l.length ≤ 140737488355328) :
    Calls Tryz.prog 17 #[v] w fun r W => ∃ p v', r = .returned (.pointer (some ⟨p, 0, none⟩)) ∧ Rd W p v' l 0 ∧ Below w.heap.size w W ∧ w.heap.size ≤ p ∧ (∀ k, v'.ownBlock = some k → w.heap.size ≤ k) := by
  have HC := hide (bClone_in w v l h hl)
  have Hb := hide hb
  obtain ⟨a, c, rfl⟩ := h.form
  clear h hb
  go_enter Tryz.func17, Tryz.ntmps17
  go_wp2_with fail
  refine (unhide HC).mono ?_
  rintro r W ⟨v', rfl, hown, hB⟩
  replace hown := hide hown
  replace hB := hide hB
  obtain ⟨a', c', rfl⟩ := owns_form (unhide hown)
  go_wp2
  go_ret
  have o := unhide hown
  refine ⟨_, _, rfl, ⟨Bx.new _ _ _, RC.of_owns (o.alloc _), fun e => ?_, unhide Hb, hl⟩, ballc (unhide hB) _, (unhide hB).size, fun k hk => (o.lt k hk).1⟩
  have := (o.lt _ e).2
  omega

end Go.Proofs.YtkffonoifbaifaaGreat
