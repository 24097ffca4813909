/-
  What the law's own same answers.
-/
import Derived.Test.YtcagfapdhopmjaaCutP
import Derived.Deep.QuietTactic
import Derived.BigQuiet
import Derived.Lib.Strings
set_option linter.unusedSimpArgs false
set_option linter.unusedVariables false
namespace Go.Proofs.Ytcagfapdhopmjaa
open Go.RowKit Go.Lib

/-- a row of texts -/
def RowS (W : World) (v : Value) (xs : List ByteArray) : Prop :=
  (xs = [] ∧ ∃ a cap, v = .slice a 0 cap) ∨ ∃ g off cap, v = .slice (some ⟨g, off, none⟩) xs.length cap ∧ ∀ (i : Nat) (x : ByteArray), xs[i]? = some x → W.cell? ⟨g, off + i, none⟩ = some (.string x)

theorem cell_lt {W : World} {p : Addr} {v : Value} (h : W.cell? p = some v) : p.block < W.heap.size := by
  by_cases hb : p.block < W.heap.size
  · exact hb
  · exfalso
    unfold World.cell? at h
    rw [Array.getElem?_eq_none (by omega)] at h
    simp at h

theorem RowS.below {W W' : World} {v : Value} {xs : List ByteArray} (h : RowS W v xs) (hb : Below W.heap.size W W') : RowS W' v xs := by
  rcases h with h | ⟨g, off, cap, e, hc⟩
  · exact .inl h
  · exact .inr ⟨g, off, cap, e, fun i x hx => by rw [hb.cell (cell_lt (hc i x hx))]; exact hc i x hx⟩

theorem RowS.form {W : World} {v : Value} {xs : List ByteArray} (h : RowS W v xs) : ∃ a cap, v = .slice a xs.length cap ∧ (0 < xs.length → ∃ g off, a = some ⟨g, off, none⟩ ∧ ∀ (i : Nat) (x : ByteArray), xs[i]? = some x → W.cell? ⟨g, off + i, none⟩ = some (.string x)) := by
  rcases h with ⟨rfl, a, cap, rfl⟩ | ⟨g, off, cap, rfl, hc⟩
  · exact ⟨a, cap, rfl, fun h => by simp at h⟩
  · exact ⟨_, cap, rfl, fun _ => ⟨g, off, rfl, hc⟩⟩

theorem rowS_owns {W : World} {B : Nat} {v : Value} {xs : List ByteArray} (h : W.ownsRow B 9 1 v xs.length (xs.map Value.string)) : RowS W v xs := by
  obtain ⟨a, c, rfl⟩ := owns_form h
  by_cases h0 : 0 < xs.length
  · obtain ⟨g, rfl⟩ := owns_some h h0
    refine .inr ⟨g, 0, c, rfl, fun i x hx => ?_⟩
    have hi := (List.getElem?_eq_some_iff.1 hx).1
    rw [Nat.zero_add, h.cellAt i (by omega), List.getElem?_map, hx]
    rfl
  · have : xs = [] := List.length_eq_zero_iff.1 (by omega)
    subst this
    exact .inl ⟨rfl, a, c, rfl⟩

set_option maxRecDepth 100000 in
set_option maxHeartbeats 4000000 in
theorem same_in (va vb : Value) (xs : List ByteArray) (hl : xs.length ≤ 1000000000) (w : World) (ha : RowS w va xs) (hb : RowS w vb xs) :
    Calls Try.prog 28 #[va, vb] w fun e W' => e = .returned (.bool true) ∧ Below w.heap.size w W' := by
  obtain ⟨a, ca, rfl, Ha⟩ := ha.form
  obtain ⟨b, cb, rfl, Hb⟩ := hb.form
  obtain ⟨ga, oa, hga⟩ : ∃ g off, 0 < xs.length → a = some ⟨g, off, none⟩ ∧ ∀ (i : Nat) (x : ByteArray), xs[i]? = some x → w.cell? ⟨g, off + i, none⟩ = some (.string x) := by
    by_cases h : 0 < xs.length
    · obtain ⟨g, off, h1, h2⟩ := Ha h; exact ⟨g, off, fun _ => ⟨h1, h2⟩⟩
    · exact ⟨0, 0, fun h' => absurd h' h⟩
  obtain ⟨gb, ob, hgb⟩ : ∃ g off, 0 < xs.length → b = some ⟨g, off, none⟩ ∧ ∀ (i : Nat) (x : ByteArray), xs[i]? = some x → w.cell? ⟨g, off + i, none⟩ = some (.string x) := by
    by_cases h : 0 < xs.length
    · obtain ⟨g, off, h1, h2⟩ := Hb h; exact ⟨g, off, fun _ => ⟨h1, h2⟩⟩
    · exact ⟨0, 0, fun h' => absurd h' h⟩
  have HA := hide hga
  have HB := hide hgb
  clear ha hb Ha Hb hga hgb
  obtain ⟨L, hL⟩ : ∃ L, xs.length = L := ⟨_, rfl⟩
  rw [hL] at hl ⊢
  have HL := hide hL
  clear hL
  have q1 : ∀ c : Int, (c != c) = false := fun c => by simp
  go_enter Try.func28, Try.ntmps28
  go_wp2
  go_loopw [5] (fun iv wr => ∃ i : Nat, i ≤ L ∧ iv = .int .i64 i ∧ Below w.heap.size w wr) (fun iv _ => L - (RowKit.intOf iv).toNat)
  case atStart => exact ⟨0, by omega, rfl, Below.refl _ _⟩
  case round =>
    obtain ⟨i, hiL, rfl, hBr⟩ := hrel
    by_cases hlt : i < L
    · have i1 : (i : Int) < (L : Int) := by omega
      have i2 : (0 : Int) ≤ (i : Int) := by omega
      have hxl : i < xs.length := by rw [unhide HL]; exact hlt
      obtain ⟨x, hx⟩ : ∃ x, xs[i]? = some x := ⟨_, List.getElem?_eq_getElem hxl⟩
      obtain ⟨rfl, hA⟩ := unhide HA (by omega)
      obtain ⟨rfl, hB⟩ := unhide HB (by omega)
      have c1 : wr.cell? ⟨ga, oa + i, none⟩ = some (.string x) := by rw [hBr.cell (cell_lt (hA i x hx))]; exact hA i x hx
      have c2 : wr.cell? ⟨gb, ob + i, none⟩ = some (.string x) := by rw [hBr.cell (cell_lt (hB i x hx))]; exact hB i x hx
      have q3 : (x.toList != x.toList) = false := by simp
      have q4 : (x.toList == x.toList) = true := by simp
      clear hx hA hB
      go_wp2
      go_quiet (fail)
      go_wp2
      go_roundw
      case rel => exact ⟨i + 1, by omega, by go_num, below_drewN hBr _⟩
      case measure => simp [RowKit.intOf]; omega
    · have i1 : ¬ (i : Int) < (L : Int) := by omega
      go_wp2
      go_ret
      exact ⟨rfl, hBr⟩

end Go.Proofs.Ytcagfapdhopmjaa
