/-
  slices.SortFunc of arrivals by their ends.
-/
import Derived.Test.YtmglnaldpcmakaaZQA
import Derived.Test.YtmglnaldpcmakaaZShD
set_option linter.unusedSimpArgs false
set_option linter.unusedVariables false
namespace Go.Proofs.Ytmglnaldpcmakaa
open Go.RowKit Go.Lib Go.Sort

def cmpZ (x y : Int) : Int := if x < y then -1 else if x > y then 1 else 0
theorem cmpZ_neg (x y : Int) : cmpZ x y < 0 ↔ x < y := by
  unfold cmpZ
  split
  · simp_all
  · split <;> simp_all <;> omega
def cmpA (x y : Arr) : Int := cmpZ x.last y.last
theorem ltA (x y : Arr) : ltOf cmpA x y = decide (x.last < y.last) := by
  unfold ltOf cmpA
  simp only [cmpZ_neg]
theorem swoA : SWO (ltOf cmpA) where
  irrefl x := by rw [ltA]; simp
  trans x y z h1 h2 := by rw [ltA] at *; simp at *; omega
  ntrans x y z h1 h2 := by rw [ltA] at *; simp at *; omega

set_option maxRecDepth 100000 in
theorem compare_in (x y : Int) (w : World) : Calls Try.prog 28 #[.int .i64 x, .int .i64 y] w fun e W => e = .returned (.int .i64 (cmpZ x y)) ∧ W = w := by
  obtain ⟨R, hR⟩ : ∃ R, cmpZ x y = R := ⟨_, rfl⟩
  rw [hR]
  have HR := hide hR
  clear hR
  have HN : Hid (∀ (z : Int) (W : World), Calls Try.prog 40 #[.int .i64 z] W fun e W' => e = .returned (.bool false) ∧ W' = W) := by
    intro z W
    go_enter Try.func40, Try.ntmps40
    go_wp2
    go_ret
    exact ⟨by simp, rfl⟩
  go_enter Try.func28, Try.ntmps28
  go_wp2_with fail
  refine (unhide HN x w).mono ?_
  rintro e W ⟨rfl, rfl⟩
  go_wp2_with fail
  refine (unhide HN y _).mono ?_
  rintro e W ⟨rfl, rfl⟩
  by_cases h1 : x < y
  · obtain rfl : R = -1 := by rw [← unhide HR]; unfold cmpZ; rw [if_pos h1]
    go_wp2
    go_ret
    exact ⟨rfl, rfl⟩
  · by_cases h2 : x > y
    · obtain rfl : R = 1 := by rw [← unhide HR]; unfold cmpZ; rw [if_neg h1, if_pos h2]
      go_wp2
      go_ret
      exact ⟨rfl, rfl⟩
    · obtain rfl : R = 0 := by rw [← unhide HR]; unfold cmpZ; rw [if_neg h1, if_neg h2]
      go_wp2
      go_ret
      exact ⟨rfl, rfl⟩

set_option maxRecDepth 100000 in
theorem byLast_in (x y : Arr) (w : World) : Calls Try.prog 27 #[.agg (arC x).toArray, .agg (arC y).toArray] w fun e W => e = .returned (.int .i64 (cmpA x y)) ∧ ∃ os, W = grow w os := by
  have HC := hide (fun W => compare_in x.last y.last W)
  unfold arC cmpA
  generalize ((x.pair : Nat) : Int) = p
  generalize ((y.pair : Nat) : Int) = q
  generalize x.first = a
  generalize y.first = c
  generalize x.last = b at *
  generalize y.last = d at *
  go_enter Try.func27, Try.ntmps27
  go_wp2_with fail
  refine (unhide HC _).mono ?_
  rintro e W ⟨rfl, rfl⟩
  go_wp2
  go_ret
  exact ⟨rfl, _, by rw [alloc_eq_grow, alloc_eq_grow, grow_grow]⟩

section
variable [Inhabited Arr]
theorem flatK_eqA (l : List Arr) (j : Nat) (hj : j < l.length * 3) : (flat arC l)[j]? = some (flatK arC 3 l.toArray)[j]! := by
  rw [get_flatK arC 3 l.toArray j (by simpa using hj)]
  have h2 : j / 3 < l.length := by omega
  have e := flat_get arC_len l (j / 3) (j % 3) l[j / 3] (List.getElem?_eq_getElem h2) (by omega)
  rw [show j / 3 * 3 + j % 3 = j by omega] at e
  rw [e]
  have e2 : l.toArray[j / 3]! = l[j / 3] := by rw [getElem!_pos l.toArray (j / 3) (by simpa using h2)]; simp
  rw [e2]
  rcases (by omega : j % 3 = 0 ∨ j % 3 = 1 ∨ j % 3 = 2) with h | h | h <;> rw [h] <;> rfl

theorem sortA_ih (B : Nat) (v : Value) (l : List Arr) (w : World) (h : OwA w B v l) (hl : l.length ≤ 1000000) :
    Calls Try.prog 26 #[v, .func (.func 27) #[] #[]] w fun e W => e = .returned (.tuple #[]) ∧ ∃ l', OwA W B v l' ∧ (∀ x, x ∈ l' ↔ x ∈ l) ∧ l'.length = l.length ∧ l'.Pairwise (fun x y => x.last ≤ y.last) ∧ Below B w W := by
  obtain ⟨hC, (⟨rfl, hn⟩ | ⟨g, cap, cur, rfl, hB, hg, hnc, hcm, hcs, htk⟩)⟩ := h
  · have e0 : l = [] := List.eq_nil_of_length_eq_zero hn
    subst e0
    have := AnyF.slices_SortFunc_none shSortA none 0 (.func (.func 27) #[] #[]) w
    change Calls Try.prog 26 _ _ _ at this
    refine this.mono ?_
    rintro e W ⟨rfl, rfl⟩
    exact ⟨rfl, [], World.ownsRow_nil _ _ _ _, fun x => Iff.rfl, rfl, List.Pairwise.nil, Below.refl _ _⟩
  · have eg : ∀ args w, (callFunc 27 args).run Try.prog w = .ok (.enter 27 args) w := enters_of Try.func27 (by kernel_rfl) rfl
    have hcmp : CmpLays Try.prog 27 #[] arC 3 cmpA g 0 l.toArray.size w := fun m os dk _ x y => (byLast_in x y _).mono fun _ _ ⟨he, os', hq⟩ => ⟨he, 0, os', hq⟩
    have hgl : g < w.heap.size := (Array.getElem?_eq_some_iff.1 hg).1
    have hH : HoldsK arC 3 w g 0 l.toArray := by
      intro j hj
      simp at hj
      refine ⟨?_, by simp [World.frozen?, hg]⟩
      rw [Nat.zero_add, cell_of_row w g _ cur _ _ hg]
      show cur[j]? = some (flatK arC 3 l.toArray)[j]!
      rw [← flatK_eqA l j hj, ← htk, List.getElem?_take_of_lt (by omega)]
      simp
    have := AnyQ.slices_SortFunc shSortA 3 Try.isAgg53 Try.sizeOf53 arC arC_len (fun x u hu => by simp [arC] at hu; rcases hu with rfl | rfl | rfl <;> rfl) cmpA swoA 27 #[] g 0 cap l.toArray w eg hcmp hH hgl (by simp; omega)
    change Calls Try.prog 26 _ _ _ at this
    simp only [List.size_toArray] at this
    refine this.mono ?_
    rintro e W ⟨rfl, d', n, os, hp, hso, rfl⟩
    obtain ⟨l', rfl⟩ : ∃ l' : List Arr, d' = l'.toArray := ⟨d'.toList, by simp⟩
    have hsz : l'.length = l.length := by simpa using hp.1
    have hperm : l'.Perm l := by
      have h : (List.take l.length l').Perm l := by simpa [hsz] using hp.2.2
      rwa [List.take_of_length_le (by omega)] at h
    have hK := holdsK_sortWorldK arC 3 w g 0 n l.toArray l'.toArray os hgl hH (by simp [hsz])
    have hps : (putRowK arC 3 (Sort.ahead w n) g 0 l'.toArray).heap.size = w.heap.size := by rw [size_putRowK]; rfl
    obtain ⟨cur', hc', hcz⟩ : ∃ cur', (sortWorldK arC 3 w g 0 n l'.toArray os).heap[g]? = some (.cells cur' 53 (0, 0)) ∧ cur'.size = cur.size := by
      have hp : (putRowK arC 3 (Sort.ahead w n) g 0 l'.toArray).heap[g]? = some (.cells (putCells id 0 (flatK arC 3 l'.toArray) cur) 53 (0, 0)) := by
        show (w.heap.modify g _)[g]? = _
        rw [Array.getElem?_modify, if_pos rfl, hg]
        rfl
      refine ⟨putCells id 0 (flatK arC 3 l'.toArray) cur, ?_, by simp [putCells]⟩
      show ((putRowK arC 3 (Sort.ahead w n) g 0 l'.toArray).heap ++ os)[g]? = _
      rw [Array.getElem?_append_left (by omega), hp]
    refine ⟨rfl, l', ⟨by rw [flat_len arC_len], .inr ⟨g, cap, cur', by rw [hsz], hB, hc', by rw [hsz]; exact hnc, hcm, by rw [hcz, hcs], ?_⟩⟩, fun x => hperm.mem_iff, hsz, ?_, ⟨rfl, rfl, rfl, size_sortWorldK_c arC 3 w g 0 n _ os, fun k hk => ?_⟩⟩
    · apply List.ext_getElem?
      intro j
      rcases Nat.lt_or_ge j (l'.length * 3) with hj | hj
      · have := (hK j (by simp; omega)).1
        rw [Nat.zero_add, cell_of_row _ g _ cur' _ _ hc'] at this
        change cur'[j]? = some (flatK arC 3 l'.toArray)[j]! at this
        rw [← flatK_eqA l' j hj] at this
        rw [List.getElem?_take_of_lt hj, ← this]
        simp
      · rw [List.getElem?_eq_none (by rw [List.length_take]; omega), List.getElem?_eq_none (by rw [flat_len arC_len]; omega)]
    · rw [List.pairwise_iff_getElem]
      intro i j hi hj hij
      have := hso i j (Nat.zero_le _) hij (by omega)
      rw [ltA, getElem!_pos l'.toArray i (by simpa using hi), getElem!_pos l'.toArray j (by simpa using hj)] at this
      simpa using this
    · show ((putRowK arC 3 (Sort.ahead w n) g 0 l'.toArray).heap ++ os)[k]? = _
      rw [Array.getElem?_append_left (by omega)]
      show (w.heap.modify g _)[k]? = _
      rw [Array.getElem?_modify, if_neg (by omega)]
end

theorem sortA_in (B : Nat) (v : Value) (l : List Arr) (w : World) (h : OwA w B v l) (hl : l.length ≤ 1000000) :
    Calls Try.prog 26 #[v, .func (.func 27) #[] #[]] w fun e W => e = .returned (.tuple #[]) ∧ ∃ l', OwA W B v l' ∧ (∀ x, x ∈ l' ↔ x ∈ l) ∧ l'.length = l.length ∧ l'.Pairwise (fun x y => x.last ≤ y.last) ∧ RowKit.Below B w W := by
  haveI : Inhabited Arr := ⟨⟨0, 0, 0⟩⟩
  exact sortA_ih B v l w h hl

end Go.Proofs.Ytmglnaldpcmakaa
