/-
  What a Writer's methods do.
-/
import Derived.Test.YtkkolefionbbcaaGreatZXV
import Derived.Test.YtkkolefionbbcaaGreatZShB
import Derived.ScopeJumps
import Derived.Laws.BytesArg
import Derived.Laws.IdiomStrings

set_option linter.unusedSimpArgs false
set_option linter.unusedVariables false
namespace Go.Proofs.YtkkolefionbbcaaGreat
open Go.RowKit Go.Lib

theorem or128 (m : Nat) : bits .or .u8 ((m : Int) % 256) 128 = ((m % 128 + 128 : Nat) : Int) := by
  rw [Lib.u8_or128_any _ (by omega) (by omega)]
  omega

theorem Wr.len {w : World} {p : Nat} {v : Value} {L : List Nat} {e : Int} (h : Wr w p v L e) : w.ownsRow (p + 1) 5 1 v L.length (bC L) := h.row

theorem bytes_of {W : World} {v : Value} {L : List Nat} (h : RC W v L.length (bC L)) : ∀ b off cap, v = .slice (some ⟨b, off, none⟩) L.length cap → ∀ i, i < L.length → W.cell? ((⟨b, off, none⟩ : Addr).add i) = some (.int .u8 ((L.map fun x : Nat => (x : Int)).getD i 0)) := by
  intro b off cap e i hi
  subst e
  rcases h with ⟨h0, _⟩ | ⟨b', off', cap', e', _, _, hc⟩
  · omega
  · simp at e'
    obtain ⟨⟨rfl, rfl⟩, rfl⟩ := e'
    rw [Addr.add_lit, hc i _ (bC_get L i L[i] (List.getElem?_eq_getElem hi))]
    simp [hi]

end Go.Proofs.YtkkolefionbbcaaGreat

/-
  Readers: what number, take, Left, Err, End do.
-/
set_option linter.unusedSimpArgs false
set_option linter.unusedVariables false
namespace Go.Proofs.YtkkolefionbbcaaGreat
open Go.RowKit Go.Lib

/-- the number that stands at a list's beginning: the error, the number, how many bytes it has -/
def tnL : Nat → Nat → List Nat → Int × Nat × Nat
  | _, _, [] => (5, 0, 0)
  | i, s, c :: l => if c < 128 then (if c = 0 ∧ 0 < i then (6, 0, 0) else (0, s + c % 128 * 128 ^ i, i + 1)) else if i = 8 then (6, 0, 0) else tnL (i + 1) (s + c % 128 * 128 ^ i) l
def tn (l : List Nat) : Int × Nat × Nat := tnL 0 0 l

theorem tnL_width : ∀ (l : List Nat) (i s : Nat), (tnL i s l).1 = 0 → (tnL i s l).2.2 ≤ i + l.length
  | [], i, s, h => by simp [tnL] at h
  | c :: l, i, s, h => by
    rw [tnL] at h ⊢
    split at h
    · rename_i h1
      split at h
      · simp at h
      · rename_i h2
        rw [if_pos h1, if_neg h2]; simp
    · rename_i h1
      split at h
      · simp at h
      · rename_i h2
        rw [if_neg h1, if_neg h2]
        have := tnL_width l (i + 1) _ h
        simp
        omega
theorem tn_width {l : List Nat} (h : (tn l).1 = 0) : (tn l).2.2 ≤ l.length := by have := tnL_width l 0 0 h; simpa [tn] using this
theorem tnL_err : ∀ (l : List Nat) (i s : Nat), (tnL i s l).1 ≠ 0 → (tnL i s l).2.1 = 0 ∧ (tnL i s l).2.2 = 0
  | [], i, s, h => by simp [tnL]
  | c :: l, i, s, h => by
    rw [tnL] at h ⊢
    split at h
    · rename_i h1
      split at h
      · rename_i h2
        rw [if_pos h1, if_pos h2]; simp
      · simp at h
    · rename_i h1
      split at h
      · rename_i h2
        rw [if_neg h1, if_pos h2]; simp
      · rename_i h2
        rw [if_neg h1, if_neg h2]
        exact tnL_err l (i + 1) _ h
theorem pow128 {i : Nat} (h : i ≤ 8) : 128 ^ i ≤ 72057594037927936 := Nat.le_trans (Nat.pow_le_pow_right (by decide) h) (by decide)
theorem pow128s (i : Nat) : 128 ^ (i + 1) = 128 ^ i * 128 := Nat.pow_succ 128 i
theorem sum_lt {i s c : Nat} (h : s < 128 ^ i) : s + c % 128 * 128 ^ i < 128 ^ (i + 1) := by
  rw [pow128s]
  have h1 : c % 128 * 128 ^ i ≤ 127 * 128 ^ i := Nat.mul_le_mul_right _ (by omega)
  omega
theorem tnL_lt : ∀ (l : List Nat) (i s : Nat), i ≤ 8 → s < 128 ^ i → (tnL i s l).2.1 < 9223372036854775808
  | [], i, s, hi, h => by simp [tnL]
  | c :: l, i, s, hi, h => by
    have h1 := sum_lt (c := c) h
    have h2 := pow128 hi
    have h3 := pow128s i
    rw [tnL]
    split
    · split
      · simp
      · show s + c % 128 * 128 ^ i < _
        omega
    · split
      · simp
      · exact tnL_lt l (i + 1) _ (by omega) h1
theorem tn_lt (l : List Nat) : (tn l).2.1 < 9223372036854775808 := tnL_lt l 0 0 (by omega) (by simp)

/-- a Reader in memory -/
structure Rd (W : World) (p : Nat) (v : Value) (l : List Nat) (e : Int) : Prop where
  box : Bx W p 200 #[v, .int .i64 e]
  row : RC W v l.length (bC l)
  ne : v.ownBlock ≠ some p
  byte : ∀ b ∈ l, b < 256
  small : l.length ≤ 140737488355328
theorem RC.kp {N : Nat → Prop} {W W' : World} {v : Value} {n : Nat} {C : List Value} (h : RC W v n C) (k : Kp N W W') (hn : ∀ i, v.ownBlock = some i → ¬ N i) : RC W' v n C := by
  rcases h with h | ⟨b, off, cap, rfl, h1, hl, hc⟩
  · exact .inl h
  · refine .inr ⟨b, off, cap, rfl, h1, Nat.lt_of_lt_of_le hl k.size, fun j x hx => ?_⟩
    rw [← hc j x hx]
    exact World.cell?_of_block (k.block b hl (hn b rfl))
theorem Rd.kp {N : Nat → Prop} {W W' : World} {p : Nat} {v : Value} {l : List Nat} {e : Int} (h : Rd W p v l e) (k : Kp N W W') (h1 : ¬ N p) (h2 : ∀ i, v.ownBlock = some i → ¬ N i) : Rd W' p v l e :=
  ⟨h.box.kp k h1, h.row.kp k h2, h.ne, h.byte, h.small⟩
theorem Rd.below {W W' : World} {p : Nat} {v : Value} {l : List Nat} {e : Int} (h : Rd W p v l e) (hb : Below W.heap.size W W') : Rd W' p v l e := h.kp (N := fun _ => False) (Kp.of_below hb) (fun h => h) (fun _ _ h => h)
theorem Rd.setE {W : World} {p : Nat} {v : Value} {l : List Nat} {e : Int} (h : Rd W p v l e) (e' : Int) : Rd (W.setCell ⟨p, 1, none⟩ (.int .i64 e')) p v l e' :=
  ⟨by simpa using h.box.set 1 (.int .i64 e'), h.row.kp (Kp.set (N := fun k => k = p) W ⟨p, 1, none⟩ _ rfl) (fun i hi e => h.ne (by rw [hi, e])), h.ne, h.byte, h.small⟩


def rEnd (l : List Nat) (e : Int) : Int := if e = 0 ∧ 0 < l.length then 6 else e

theorem sl_from (w : World) (a : Option Addr) (n c k : Nat) (hk : k ≤ n) (hn : n ≤ c) :
    (Instr.sliceAt 148 (.slice a n c) (some (.int .i64 (k : Nat))) none none).run Tryz.prog w = .ok (.slice (if c = k then a else a.map (·.add k)) (n - k) (c - k)) w := by
  obtain ⟨i0, hi, hz0, hz1, hz2⟩ := info_parts infoB
  have h1 : (k : Int) ≤ (n : Int) := by omega
  simp [Instr.sliceAt, Instr.slice, run_underlying Tryz.underlying148, sizeOf, typeInfo, hi, hz1, go_sem, h1, hk, hn]

end Go.Proofs.YtkkolefionbbcaaGreat

/-
  Readers: take and number.
-/
set_option linter.unusedSimpArgs false
set_option linter.unusedVariables false
namespace Go.Proofs.YtkkolefionbbcaaGreat
open Go.RowKit Go.Lib

theorem RC.drop {W : World} {a : Option Addr} {n c k : Nat} {C : List Value} (h : RC W (.slice a n c) n C) (hk : k ≤ n) (hC : C.length = n) : RC W (.slice (if c = k then a else a.map (·.add k)) (n - k) (c - k)) (n - k) (C.drop k) := by
  by_cases h0 : n - k = 0
  · exact .inl ⟨h0, _, _, by rw [h0]⟩
  · rcases h with ⟨h1, _⟩ | ⟨b, off, cap, e, h1, hl, hc⟩
    · omega
    · simp at e
      obtain ⟨rfl, rfl⟩ := e
      rw [if_neg (by omega)]
      refine .inr ⟨b, off + k, c - k, by simp only [Option.map_some, Addr.add_lit], by omega, hl, fun j x hx => ?_⟩
      rw [List.getElem?_drop] at hx
      rw [Nat.add_assoc]
      exact hc (k + j) x hx

theorem own_drop {a : Option Addr} {n c k m d : Nat} {p : Nat} (h : (Value.slice a n c).ownBlock ≠ some p) : (Value.slice (if c = k then a else a.map (·.add k)) m d).ownBlock ≠ some p := by
  split
  · cases a <;> exact h
  · cases a with
    | none => exact h
    | some ad =>
      have e : (ad.add k).block = ad.block := by unfold Addr.add; split <;> rfl
      intro e'
      simp only [Option.map_some, Value.ownBlock, e] at e'
      exact h e'

theorem bC_drop (l : List Nat) (k : Nat) : (bC l).drop k = bC (l.drop k) := by simp [bC]
theorem bC_take (l : List Nat) (k : Nat) : (bC l).take k = bC (l.take k) := by simp [bC]

theorem Rd.taken {W : World} {p : Nat} {a : Option Addr} {c : Nat} {l : List Nat} {e : Int} (h : Rd W p (.slice a l.length c) l e) (k : Nat) (hk : k ≤ l.length) :
    Rd (W.setCell ⟨p, 0, none⟩ (.slice (if c = k then a else a.map (·.add k)) (l.length - k) (c - k))) p (.slice (if c = k then a else a.map (·.add k)) (l.length - k) (c - k)) (l.drop k) e := by
  have hr := h.row.drop hk (bC_len l)
  rw [bC_drop] at hr
  have hne := own_drop (k := k) (m := l.length - k) (d := c - k) h.ne
  refine ⟨by simpa using h.box.set 0 (.slice (if c = k then a else a.map (·.add k)) (l.length - k) (c - k)), ?_, hne, fun b hb => h.byte b (List.mem_of_mem_drop hb), by have := h.small; simp; omega⟩
  rw [List.length_drop]
  exact hr.kp (Kp.set (N := fun k => k = p) W ⟨p, 0, none⟩ _ rfl) (fun i hi e => hne (by rw [hi, e]))

/-- a frame of sixty slots -/
def frN (u : Nat → Value) : Act := ⟨#[u 0, u 1, u 2, u 3, u 4, u 5, u 6, u 7, u 8, u 9, u 10, u 11, u 12, u 13, u 14, u 15, u 16, u 17, u 18, u 19, u 20, u 21, u 22, u 23, u 24, u 25, u 26, u 27, u 28, u 29, u 30, u 31, u 32, u 33, u 34, u 35, u 36, u 37, u 38, u 39, u 40, u 41, u 42, u 43, u 44, u 45, u 46, u 47, u 48, u 49, u 50, u 51, u 52, u 53, u 54, u 55, u 56, u 57, u 58, u 59], []⟩

theorem frN_ex {v0 v1 v2 v3 v4 v5 v6 v7 v8 v9 v10 v11 v12 v13 v14 v15 v16 v17 v18 v19 v20 v21 v22 v23 v24 v25 v26 v27 v28 v29 v30 v31 v32 v33 v34 v35 v36 v37 v38 v39 v40 v41 v42 v43 v44 v45 v46 v47 v48 v49 v50 v51 v52 v53 v54 v55 v56 v57 v58 v59 A B : Value} {C : Prop} (hC : C) (h0 : v0 = A) (h5 : v5 = B) : ∃ u, (⟨#[v0, v1, v2, v3, v4, v5, v6, v7, v8, v9, v10, v11, v12, v13, v14, v15, v16, v17, v18, v19, v20, v21, v22, v23, v24, v25, v26, v27, v28, v29, v30, v31, v32, v33, v34, v35, v36, v37, v38, v39, v40, v41, v42, v43, v44, v45, v46, v47, v48, v49, v50, v51, v52, v53, v54, v55, v56, v57, v58, v59], []⟩ : Act) = frN u ∧ u 0 = A ∧ u 5 = B ∧ C := ⟨fun k => #[v0, v1, v2, v3, v4, v5, v6, v7, v8, v9, v10, v11, v12, v13, v14, v15, v16, v17, v18, v19, v20, v21, v22, v23, v24, v25, v26, v27, v28, v29, v30, v31, v32, v33, v34, v35, v36, v37, v38, v39, v40, v41, v42, v43, v44, v45, v46, v47, v48, v49, v50, v51, v52, v53, v54, v55, v56, v57, v58, v59].getD k undef, rfl, h0, h5, hC⟩

theorem wraps_u64 (n : Int) (h₀ : 0 ≤ n) (h₁ : n < 2 ^ 64) : IntKind.u64.wrap n = n := IntWalk.u64_in n (by omega)

theorem or_sum (s c i : Nat) (hc : c < 256) (hi : i ≤ 8) (hs : s < 128 ^ i) : bits .or .u64 (s : Int) (IntKind.u64.wrap ((c : Int) % 128 * 2 ^ (7 * i))) = ((s + c % 128 * 128 ^ i : Nat) : Int) := by
  have h1 : (2 : Nat) ^ (7 * i) = 128 ^ i := by rw [Nat.pow_mul]
  have h2 : c % 128 * 128 ^ i ≤ 127 * 128 ^ i := Nat.mul_le_mul_right _ (by omega)
  have h3 := pow128 hi
  have e1 : ((c : Int) % 128 * 2 ^ (7 * i)) = ((c % 128 * 128 ^ i : Nat) : Int) := by
    rw [← h1]
    push_cast
    rfl
  rw [e1, IntWalk.u64_in _ (by omega)]
  have h4 := (bits_nat .u64 64 (by decide) wraps_u64 s (c % 128 * 128 ^ i) (by omega) (by omega)).2
  rw [h4]
  congr 1
  rw [← h1, ← Nat.shiftLeft_eq, Nat.or_comm, ← Nat.shiftLeft_add_eq_or_of_lt (by rw [h1]; exact hs), Nat.add_comm]

/-- what number answers -/
def rn0 (l : List Nat) (e : Int) : Int × Nat × Nat := if e ≠ 0 then (e, 0, 0) else tn l

theorem shl7 (c i : Nat) (hc : c < 256) (hi : i ≤ 8) : c % 128 * 128 ^ i < 9223372036854775808 := by
  have h1 : c % 128 * 128 ^ i ≤ 127 * 128 ^ i := Nat.mul_le_mul_right _ (by omega)
  have h2 := pow128 hi
  omega

/-- a number is taken: it, what is left, the error -/
def rNum (l : List Nat) (e : Int) : Nat × List Nat × Int := ((rn0 l e).2.1, l.drop (rn0 l e).2.2, (rn0 l e).1)

theorem rn0_width (l : List Nat) (e : Int) : (rn0 l e).2.2 ≤ l.length := by
  unfold rn0
  split
  · simp
  · by_cases h : (tn l).1 = 0
    · exact tn_width h
    · have := (tnL_err l 0 0 h).2
      have h2 : (tn l).2.2 = 0 := this
      omega
theorem rn0_lt (l : List Nat) (e : Int) : (rn0 l e).2.1 < 9223372036854775808 := by
  unfold rn0
  split
  · simp
  · exact tn_lt l

end Go.Proofs.YtkkolefionbbcaaGreat

/-
  Readers: Text, Read.
-/
set_option linter.unusedSimpArgs false
set_option linter.unusedVariables false
namespace Go.Proofs.YtkkolefionbbcaaGreat
open Go.RowKit Go.Lib

/-- bytes as a text -/
def txt (L : List Nat) : ByteArray := ⟨(L.map Nat.toUInt8).toArray⟩
theorem sB_txt (L : List Nat) (h : ∀ b ∈ L, b < 256) : sB (txt L) = L := by
  unfold sB txt
  show (L.map Nat.toUInt8).map (fun x => x.toNat) = L
  rw [List.map_map]
  refine (List.map_congr_left (g := id) fun b hb => ?_).trans (List.map_id L)
  show b.toUInt8.toNat = b
  have := h b hb
  simp [Nat.toUInt8, UInt8.toNat_ofNat']
  omega
theorem txt_size (L : List Nat) : (txt L).size = L.length := by
  show (L.map Nat.toUInt8).toArray.size = L.length
  simp
theorem txt_sB (s : ByteArray) : txt (sB s) = s := by
  unfold sB txt
  rw [List.map_map]
  have : (s.data.toList.map (Nat.toUInt8 ∘ fun x => x.toNat)) = s.data.toList := by
    refine (List.map_congr_left (g := id) fun b _ => ?_).trans (List.map_id _)
    simp [Nat.toUInt8]
  rw [this]

theorem conv_in (w : World) (v : Value) (L : List Nat) (h : RC w v L.length (bC L)) (hb : ∀ b ∈ L, b < 256) : (convert 148 9 v).run Tryz.prog w = .ok (.string (txt L)) w := by
  have back : ∀ (a : Addr) (c : Nat), v = .slice (some a) L.length c → (∀ j x, (bC L)[j]? = some x → w.cell? (a.add j) = some x) → (convert 148 9 v).run Tryz.prog w = .ok (.string (txt L)) w := by
    rintro a c rfl hc
    have := run_convert_bytes_back (P := Tryz.prog) w 148 9 5 a c (L.map Nat.toUInt8) Tryz.underlying148 Tryz.underlying5 Tryz.underlying9 (fun j hj => by
      simp at hj
      rw [hc j (.int .u8 ((L[j] : Nat) : Int)) (bC_get L j L[j] (List.getElem?_eq_getElem hj))]
      have := hb L[j] (List.getElem_mem hj)
      simp [Nat.toUInt8, UInt8.toNat_ofNat']
      omega)
    simp only [List.length_map] at this
    exact this
  rcases h with ⟨h0, a, cap, rfl⟩ | ⟨b, off, cap, rfl, h1, h2, h3⟩
  · have hl : L = [] := List.eq_nil_of_length_eq_zero h0
    subst hl
    cases a with
    | none => exact run_convert_bytes_nil (P := Tryz.prog) w 148 5 Tryz.underlying148 Tryz.underlying5 0 cap 9 Tryz.underlying9
    | some ad => exact back ad cap rfl (fun j x hx => by simp [bC] at hx)
  · exact back ⟨b, off, none⟩ cap rfl (fun j x hx => by rw [Addr.add_lit]; exact h3 j x hx)

theorem sl_mid (w : World) (a : Option Addr) (n c k m : Nat) (hk : k + m ≤ n) (hn : n ≤ c) :
    (Instr.sliceAt 148 (.slice a n c) (some (.int .i64 (k : Nat))) (some (.int .i64 ((k + m : Nat) : Int))) none).run Tryz.prog w = .ok (.slice (if c = k then a else a.map (·.add k)) m (c - k)) w := by
  obtain ⟨i0, hi, hz0, hz1, hz2⟩ := info_parts infoB
  have h1 : (k : Int) ≤ ((k + m : Nat) : Int) := by omega
  have h2 : ((k + m : Nat) : Int) ≤ (c : Int) := by omega
  have h3 : k ≤ c := by omega
  have h4 : k + m ≤ c := by omega
  have e : k + m - k = m := by omega
  have h5 : (0 : Int) ≤ (k : Int) + (m : Int) := by omega
  have h6 : (k : Int) + (m : Int) ≤ (c : Int) := by omega
  have h7 : ((k : Int) + (m : Int)).toNat - k = m := by omega
  simp [Instr.sliceAt, Instr.slice, run_underlying Tryz.underlying148, sizeOf, typeInfo, hi, hz1, go_sem, h1, h2, h3, h4, h5, h6, h7]
  intro h
  omega

theorem RC.mid {W : World} {a : Option Addr} {n c k m : Nat} {C : List Value} (h : RC W (.slice a n c) n C) (hk : k + m ≤ n) (hC : C.length = n) : RC W (.slice (if c = k then a else a.map (·.add k)) m (c - k)) m ((C.drop k).take m) := by
  by_cases h0 : m = 0
  · exact .inl ⟨h0, _, _, by rw [h0]⟩
  · rcases h with ⟨h1, _⟩ | ⟨b, off, cap, e, h1, hl, hc⟩
    · omega
    · simp at e
      obtain ⟨rfl, rfl⟩ := e
      rw [if_neg (by omega)]
      refine .inr ⟨b, off + k, c - k, by simp only [Option.map_some, Addr.add_lit], by omega, hl, fun j x hx => ?_⟩
      rw [List.getElem?_take] at hx
      split at hx
      · rw [List.getElem?_drop] at hx
        rw [Nat.add_assoc]
        exact hc (k + j) x hx
      · cases hx

/-- a text is taken: it, what is left, the error -/
def rTxt (l : List Nat) (e : Int) : ByteArray × List Nat × Int :=
  if (rn0 l e).1 ≠ 0 then (ByteArray.empty, l, (rn0 l e).1) else if l.length - (rn0 l e).2.2 < (rn0 l e).2.1 then (ByteArray.empty, l, 5) else (txt ((l.drop (rn0 l e).2.2).take (rn0 l e).2.1), l.drop ((rn0 l e).2.2 + (rn0 l e).2.1), 0)

end Go.Proofs.YtkkolefionbbcaaGreat
