/-
  Rows of numbers that begin later in their block: read, cut, cleared, gone on from.
-/
import Derived.Test.YtiekholaheddhaaZPA
import Derived.Laws.CopyRow
set_option linter.unusedSimpArgs false
set_option linter.unusedVariables false
namespace Go.Proofs.Ytiekholaheddhaa
open Go.RowKit Go.Lib

/-- a row of numbers of one's own, from its k0-th place on -/
def RdN (W : World) (v : Value) (l : List Int) : Prop :=
  (v = .slice none 0 0 ∧ l = []) ∨ ∃ g k0 cap cur, v = .slice (some ⟨g, k0, none⟩) l.length cap ∧ W.heap[g]? = some (.cells cur 3 (0, 0)) ∧ l.length ≤ cap ∧ k0 + cap ≤ maxLen ∧ k0 + cap ≤ cur.size ∧ (cur.toList.drop k0).take l.length = nC l
variable {W W' : World} {v : Value} {l : List Int}
theorem RdN.nil (W : World) : RdN W (.slice none 0 0) [] := .inl ⟨rfl, rfl⟩
theorem RdN.kp {N : Nat → Prop} (h : RdN W v l) (k : Kp N W W') (hn : ∀ i, v.ownBlock = some i → ¬ N i) : RdN W' v l := by
  obtain h | ⟨g, k0, cap, cur, rfl, hg, hr⟩ := h
  · exact .inl h
  · exact .inr ⟨g, k0, cap, cur, rfl, (k.block g (Array.getElem?_eq_some_iff.1 hg).1 (hn g rfl)).trans hg, hr⟩
theorem RdN.form (h : RdN W v l) : ∃ a c, v = .slice a l.length c ∧ l.length ≤ c := by
  obtain ⟨rfl, rfl⟩ | ⟨g, k0, cap, cur, rfl, _, hc, _⟩ := h
  · exact ⟨none, 0, rfl, Nat.le_refl _⟩
  · exact ⟨_, _, rfl, hc⟩
theorem RdN.lt (h : RdN W v l) : ∀ k, v.ownBlock = some k → k < W.heap.size := by
  intro k hk
  obtain ⟨rfl, rfl⟩ | ⟨g, k0, cap, cur, rfl, hg, _⟩ := h
  · cases hk
  · simp [Value.ownBlock] at hk
    subst hk
    exact (Array.getElem?_eq_some_iff.1 hg).1
theorem RdN.kind (h : RdN W v l) : ∀ k, v.ownBlock = some k → ∃ cur, Bx W k 3 cur := by
  intro k hk
  obtain ⟨rfl, rfl⟩ | ⟨g, k0, cap, cur, rfl, hg, _⟩ := h
  · cases hk
  · simp [Value.ownBlock] at hk
    subst hk
    exact ⟨cur, hg⟩
theorem RdN.rn (h : RdN W v l) : RN W v l := by
  obtain ⟨rfl, rfl⟩ | ⟨g, k0, cap, cur, rfl, hg, hc, hm, hs, ht⟩ := h
  · exact .inl ⟨rfl, _, _, rfl⟩
  · refine .inr ⟨g, k0, cap, rfl, hc, (Array.getElem?_eq_some_iff.1 hg).1, fun j x hx => ?_⟩
    have hj := (List.getElem?_eq_some_iff.1 hx).1
    rw [nC_len] at hj
    rw [cell_of_row W g _ cur _ _ hg, ← hx, ← ht, List.getElem?_take_of_lt (by omega), List.getElem?_drop]
    simp
theorem RdN.of {B : Nat} (h : OwN W B v l) : RdN W v l := by
  obtain ⟨h0, (⟨rfl, h1⟩ | ⟨g, cap, cur, rfl, hb, hg, hc, hm, hs, ht⟩)⟩ := h
  · exact .inl ⟨rfl, List.eq_nil_of_length_eq_zero h1⟩
  · refine .inr ⟨g, 0, cap, cur, rfl, hg, hc, by omega, by omega, ?_⟩
    rw [List.drop_zero]
    simpa using ht
theorem sl_toN (w : World) (a : Option Addr) (n c k : Nat) (hk : k ≤ c) :
    (Instr.sliceAt 37 (.slice a n c) none (some (.int .i64 (k : Nat))) none).run Try.prog w = .ok (.slice a k c) w := by
  obtain ⟨i0, hi, hz0, hz1, hz2⟩ := info_parts infoN
  have h1 : (k : Int) ≤ (c : Int) := by omega
  simp [Instr.sliceAt, Instr.slice, run_underlying Try.underlying37, sizeOf, typeInfo, hi, hz1, go_sem, h1, hk]
theorem sl_fromN (w : World) (a : Addr) (n c k : Nat) (hk : k ≤ n) (hn : n ≤ c) (hc : c ≠ k) :
    (Instr.sliceAt 37 (.slice (some a) n c) (some (.int .i64 (k : Nat))) none none).run Try.prog w = .ok (.slice (some (a.add k)) (n - k) (c - k)) w := by
  obtain ⟨i0, hi, hz0, hz1, hz2⟩ := info_parts infoN
  have h1 : (k : Int) ≤ (n : Int) := by omega
  simp [Instr.sliceAt, Instr.slice, run_underlying Try.underlying37, sizeOf, typeInfo, hi, hz1, go_sem, h1, hk, hn, hc]
theorem zeroN_one (n : Nat) : ∀ u ∈ (Builtin.zeroCells #[.int .i64 0] n).toList, u.oneCell' = true := by
  intro v hv
  simp only [Builtin.zeroCells, Array.toList_map, List.mem_map] at hv
  obtain ⟨i, _, rfl⟩ := hv
  have h : i % 1 = 0 := Nat.mod_one i
  show (#[Value.int .i64 0][i % 1]!).oneCell' = true
  rw [h]
  rfl
/-- clear(v[:i]) -/
theorem RdN.clr (ty : TypeId) {a : Option Addr} {c i : Nat} (h : RdN W (.slice a l.length c) l) (hi : i ≤ l.length) :
    ∃ W', (Builtin.clear_ #[37] ty #[.slice a i c]).run Try.prog W = .ok (.tuple #[]) W' ∧ Kp (fun k => (Value.slice a l.length c).ownBlock = some k) W W' ∧ RdN W' (.slice a 0 c) [] ∧ (i < l.length → ∃ g o, a = some ⟨g, o, none⟩ ∧ RdN W' (.slice (some ⟨g, o + i, none⟩) (l.length - i) (c - i)) (l.drop i)) := by
  obtain ⟨e, rfl⟩ | ⟨g, k0, cap, cur, e, hg, hc, hm, hs, ht⟩ := h
  · simp only [List.length_nil, Value.slice.injEq, true_and] at e
    obtain ⟨rfl, rfl⟩ := e
    obtain rfl : i = 0 := by simpa using hi
    refine ⟨W, ?_, Kp.refl _ _, RdN.nil _, fun h => absurd h (by simp)⟩
    simp [Builtin.clear_, run_underlying Try.underlying37]
  · simp only [Value.slice.injEq, true_and] at e
    obtain ⟨rfl, rfl⟩ := e
    by_cases h0 : i = 0
    · subst h0
      refine ⟨W, ?_, Kp.refl _ _, .inr ⟨g, k0, c, cur, rfl, hg, Nat.zero_le _, hm, hs, by simp [nC]⟩, fun _ => ⟨g, k0, rfl, .inr ⟨g, k0, c, cur, by simp, hg, by simpa using hc, hm, hs, by simpa using ht⟩⟩⟩
      simp [Builtin.clear_, run_underlying Try.underlying37]
    · obtain ⟨k, hk⟩ : ∃ k, i = k + 1 := ⟨i - 1, by omega⟩
      have hzl : (Builtin.zeroCells #[.int .i64 0] (k + 1)).toList.length = k + 1 := by simp [Builtin.zeroCells]
      have hone := zeroN_one (k + 1)
      obtain ⟨ZS, hZS⟩ : ∃ Z, Builtin.zeroCells #[.int .i64 0] (k + 1) = Z := ⟨_, rfl⟩
      rw [hZS] at hzl hone
      have hst := run_storeCells_at Try.prog g k0 3 ZS.toList 0 cur W hg (by rw [hzl]; omega) hone
      simp only [Nat.add_zero] at hst
      obtain ⟨A, hA⟩ : ∃ A, (cur.toList.take k0 ++ ZS.toList ++ cur.toList.drop (k0 + ZS.toList.length)).toArray = A := ⟨_, rfl⟩
      rw [hA] at hst
      have hcl : cur.toList.length = cur.size := Array.length_toList
      have hAs : A.size = cur.size := by
        rw [← hA]
        simp only [List.size_toArray, List.length_append, List.length_take, List.length_drop, hcl, hzl]
        omega
      refine ⟨W.setRow g A, ?_, ⟨rfl, rfl, rfl, by simp, fun k _ hk => setRow_other W g k _ (fun e => hk (by simp [Value.ownBlock, e]))⟩, .inr ⟨g, k0, c, A, rfl, setRow_heap W g cur _ _ _ hg, Nat.zero_le _, hm, by omega, by simp [nC]⟩, fun hlt => ⟨g, k0, rfl, .inr ⟨g, k0 + i, c - i, A, by rw [List.length_drop], setRow_heap W g cur _ _ _ hg, by rw [List.length_drop]; omega, by omega, by omega, ?_⟩⟩⟩
      · rw [hk]
        simp [Builtin.clear_, run_underlying Try.underlying37, Try.zeroValue3, Value.cells, hZS, hst]
      · rw [← hA]
        have e1 : (cur.toList.take k0 ++ ZS.toList).length = k0 + i := by rw [List.length_append, List.length_take, hzl]; omega
        simp only [hzl]
        rw [show k0 + (k + 1) = k0 + i by omega, List.drop_append_of_le_length (by rw [e1]; omega), List.drop_of_length_le (l := List.take k0 cur.toList ++ ZS.toList) (by rw [e1]; omega), List.nil_append, List.length_drop]
        have := congrArg (List.drop i) ht
        rw [List.drop_take, List.drop_drop] at this
        rw [this]
        unfold nC
        rw [List.map_drop]
/-- append(l, x) -/
theorem RdN.app (ty : TypeId) (x : Int) (nb : Nat) (h : RdN W v l) (hbx : Bx W nb 3 #[.int .i64 x]) (hl : l.length ≤ 1000000) :
    ∃ v' W', (Builtin.append_ #[37, 37] ty #[v, .slice (some ⟨nb, 0, none⟩) 1 1]).run Try.prog W = .ok v' W' ∧ RdN W' v' (l ++ [x]) ∧ W.grownBy W' v.ownBlock ∧ (v'.ownBlock = v.ownBlock ∨ v'.ownBlock = some W.heap.size) := by
  obtain ⟨i0, hi, hz0, hz1, hz2⟩ := info_parts infoN
  have hnews : ∀ j u, [Value.int .i64 x][j]? = some u → W.cell? ((⟨nb, 0, none⟩ : Addr).add j) = some u := fun j u hu => by
    rw [Addr.add_lit, Nat.zero_add]
    exact hbx.cell j u (by rw [← hu]; simp)
  have h1 : ∀ u ∈ [Value.int .i64 x], u.oneCell' = true := fun u hu => by simp at hu; subst hu; rfl
  have hll : (l ++ [x]).length = l.length + 1 := by simp
  have hlen : (nC l ++ [Value.int .i64 x]).length = l.length + 1 := by rw [List.length_append, nC_len]; rfl
  have happ : nC (l ++ [x]) = nC l ++ [Value.int .i64 x] := nC_app l [x]
  obtain ⟨rfl, rfl⟩ | ⟨g, k0, cap, cur, rfl, hg, hc, hm, hs, ht⟩ := h
  · obtain ⟨v', w', q1, q2, q3, _, q5⟩ := run_append_own_at (P := Try.prog) W 0 37 ty 3 i0 _ 1 8 Try.underlying37 hi hz0 hz1 hz2 rfl (by decide) (.slice none 0 0) 0 [] (World.ownsRow_nil _ _ _ _) ⟨nb, 0, none⟩ 1 1 [.int .i64 x] rfl hnews h1 (by unfold maxLen; omega) (by omega) (Nat.zero_le _)
    refine ⟨v', w', q1, ?_, q3, q5⟩
    obtain ⟨_, (⟨e1, e2⟩ | ⟨g, cp, cr, e1, _, hg, hc, hm, hs, ht⟩)⟩ := q2
    · omega
    · exact .inr ⟨g, 0, cp, cr, by rw [e1]; rfl, hg, hc, by omega, by rw [hs]; omega, by rw [List.drop_zero]; exact ht⟩
  · by_cases hroom : l.length + 1 ≤ cap
    · have hf := run_firstCells_some (P := Try.prog) W i0.size 1 ⟨nb, 0, none⟩ 1 1 [.int .i64 x] (by rw [hz1]; rfl) hnews
      have hst := run_storeCells_at Try.prog g (k0 + l.length) 3 [.int .i64 x] 0 cur W hg (by show k0 + l.length + 0 + 1 ≤ cur.size; omega) h1
      simp only [Nat.add_zero] at hst
      refine ⟨.slice (some ⟨g, k0, none⟩) (l.length + 1) cap, W.setRow g (cur.toList.take (k0 + l.length) ++ [Value.int .i64 x] ++ cur.toList.drop (k0 + l.length + [Value.int .i64 x].length)).toArray, ?_, .inr ⟨g, k0, cap, _, by rw [hll], setRow_heap W g cur _ _ _ hg, by rw [hll]; exact hroom, hm, ?_, ?_⟩, ⟨rfl, rfl, rfl, by simp, fun k _ hk => setRow_other W g k _ (fun e => hk (by simp [Value.ownBlock, e]))⟩, .inl rfl⟩
      · simp [Builtin.append_, run_underlying Try.underlying37, sizeOf, typeInfo, hi, hz1, Builtin.lenOf, hroom, Addr.add_lit]
        rw [hz1] at hf
        rw [hf]
        simp at hst
        simp [hst]
      · simp only [List.size_toArray, List.length_append, List.length_take, List.length_drop, Array.length_toList, List.length_cons, List.length_nil]
        omega
      · have hcl : k0 + cap ≤ cur.toList.length := by rw [Array.length_toList]; exact hs
        rw [hll, happ]
        show ((cur.toList.take (k0 + l.length) ++ [Value.int .i64 x] ++ cur.toList.drop (k0 + l.length + [Value.int .i64 x].length)).drop k0).take (l.length + 1) = _
        have ht' : (cur.toList.take (k0 + l.length)).drop k0 = nC l := by rw [List.drop_take, show k0 + l.length - k0 = l.length by omega]; exact ht
        rw [List.append_assoc, List.drop_append_of_le_length (by rw [List.length_take]; omega), ht', ← List.append_assoc]
        rw [List.take_append_of_le_length (by rw [hlen]; omega), List.take_of_length_le (by rw [hlen]; omega)]
    · have holds : ∀ j u, (nC l)[j]? = some u → W.cell? ((⟨g, k0, none⟩ : Addr).add j) = some u := fun j u hu => by
        have hj := (List.getElem?_eq_some_iff.1 hu).1
        rw [nC_len] at hj
        rw [Addr.add_lit, cell_of_row W g _ cur _ _ hg, ← hu, ← ht, List.getElem?_take_of_lt (by omega), List.getElem?_drop]
        simp
      have hr := run_append_grow (P := Try.prog) W 37 ty 3 i0 _ Try.underlying37 hi hz0 ⟨g, k0, none⟩ l.length cap (nC l) (by rw [hz1, nC_len]; omega) holds ⟨nb, 0, none⟩ 1 1 [.int .i64 x] (by rw [hz1]; rfl) hnews (by omega) (by omega) (growslice_fits (by omega) (by rw [hz2]; omega))
      have hge := grownCap_ge W (l.length + 1) cap 3
      have hcm : grownCap W (l.length + 1) cap 3 ≤ maxLen := grownCap_le_maxLen W (l.length + 1) cap _ (by unfold maxLen; omega)
      refine ⟨_, _, hr, .inr ⟨W.heap.size, 0, _, _, by rw [hll], heap_alloc_new W.drew _, by rw [hll]; exact hge, by omega, ?_, ?_⟩, ⟨rfl, rfl, rfl, by simp, fun k hk _ => (ballc (Below.refl _ W.drew) _).block k hk⟩, .inr rfl⟩
      · simp only [Array.size_append, List.size_toArray, size_zeroCells, nC_len, List.length_cons, List.length_nil]
        show 0 + grownCap W (l.length + 1) cap 3 ≤ l.length + (0 + 1) + (grownCap W (l.length + 1) cap 3 - (l.length + 1)) * 1
        omega
      · rw [List.drop_zero, hll, happ]
        simp only [Array.toList_append, List.append_assoc]
        rw [← List.append_assoc, List.take_append_of_le_length (by rw [hlen]; omega), List.take_of_length_le (by rw [hlen]; omega)]

end Go.Proofs.Ytiekholaheddhaa
