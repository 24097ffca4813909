/-
  What a Writer's methods do.
-/
import Derived.Test.YtijjoikeceechaaGreatZW0
import Derived.Test.YtijjoikeceechaaGreatZShB
set_option linter.unusedSimpArgs false
set_option linter.unusedVariables false
namespace Go.Proofs.YtijjoikeceechaaGreat
open Go.RowKit Go.Lib

theorem or128 (m : Nat) : bits .or .u8 ((m : Int) % 256) 128 = ((m % 128 + 128 : Nat) : Int) := by
  rw [Lib.u8_or128_any _ (by omega) (by omega)]
  omega

theorem Wr.len {w : World} {p : Nat} {v : Value} {L : List Nat} {e : Int} (h : Wr w p v L e) : w.ownsRow (p + 1) 5 1 v L.length (bC L) := h.row

theorem bytes_of {W : World} {v : Value} {L : List Nat} (h : RC W v L.length (bC L)) : ∀ b off cap, v = .slice (some ⟨b, off, none⟩) L.length cap → ∀ i, i < L.length → W.cell? ((⟨b, off, none⟩ : Addr).add i) = some (.int .u8 ((L.map fun x : Nat => (x : Int)).getD i 0)) := by
  intro b off cap e i hi
  subst e
  rcases h with ⟨h0, _⟩ | ⟨b', off', cap', e', _, _, hc⟩
  · omega
  · simp at e'
    obtain ⟨⟨rfl, rfl⟩, rfl⟩ := e'
    rw [Addr.add_lit, hc i _ (bC_get L i L[i] (List.getElem?_eq_getElem hi))]
    simp [hi]

end Go.Proofs.YtijjoikeceechaaGreat
