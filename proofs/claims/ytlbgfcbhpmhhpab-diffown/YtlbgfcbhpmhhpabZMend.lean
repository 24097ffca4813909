/-
  What glyph.Mend answers: the text's runes encoded.
-/
import Derived.Test.YtlbgfcbhpmhhpabZUtf
import Derived.Test.YtlbgfcbhpmhhpabZBad
import Derived.Test.YtlbgfcbhpmhhpabZShelf
set_option linter.unusedSimpArgs false
set_option linter.unusedVariables false
namespace Go.Proofs.Ytlbgfcbhpmhhpab
open Go.RowKit Go.Lib Go.Shelf

attribute [local go_sem] Oper.semAt_some

theorem builderAtF_kept {T e : TypeId} {B b : Nat} {p : Value} {bs : List Value} {W W' : World} {row : Option Nat} (h : BuilderAtF T e B b p bs W) (hg : W.grownBy W' row)
    (hr : ∀ r, row = some r → ∃ o : Obj, W.heap[r]? = some o ∧ o.isCells = false) : BuilderAtF T e B b p bs W' := by
  obtain ⟨hB, v, hb, hown, hne⟩ := h
  have keep : ∀ {k : Nat} {c : Array Value} {t : TypeId} {fz : Nat × Nat}, W.heap[k]? = some (.cells c t fz) → W'.heap[k]? = some (.cells c t fz) := by
    intro k c t fz hk
    have hlt : k < W.heap.size := (Array.getElem?_eq_some_iff.1 hk).1
    refine (hg.block k hlt (fun e1 => ?_)).trans hk
    obtain ⟨o, ho, hc⟩ := hr k e1.symm
    rw [hk] at ho
    cases ho
    cases hc
  refine ⟨hB, v, keep hb, ⟨hown.1, ?_⟩, hne⟩
  rcases hown.2 with hn | ⟨g, cap, cur, fz, hv, hbg, hgg, rest⟩
  · exact .inl hn
  · exact .inr ⟨g, cap, cur, fz, hv, hbg, keep hgg, rest⟩

theorem isBuilderF_own {β : Type} (T e : TypeId) (B b : Nat) (f : β → List Value) : Own (fun s W => IsBuilderF T e B b (f s) W) := fun s W W' row hs hg hr =>
  hs.elim (fun x => .inl (builderAtF_kept x hg hr)) (fun x => .inr (builderAtF_kept x hg hr))

theorem others_keeps {e : TypeId} {b : Nat} {W W' : World} (h : OthersKept e (some b) W W') (hs : W.heap.size ≤ W'.heap.size) (hb : ∃ c t fz, W.heap[b]? = some (.cells c t fz)) : KeepsOthers W W' :=
  ⟨hs, fun k o hk ho => h k o hk (fun e1 => by
    obtain ⟨c, t, fz, hb⟩ := hb
    cases e1
    rw [hb] at hk
    cases hk
    cases ho) (fun c fz e1 => by subst e1; cases ho)⟩

theorem builder_block {T e : TypeId} {B b : Nat} {bs : List Value} {W : World} (h : IsBuilderF T e B b bs W) : ∃ c t fz, W.heap[b]? = some (.cells c t fz) := by
  rcases h with ⟨_, v, hb, _⟩ | ⟨_, v, hb, _⟩
  · exact ⟨_, _, _, hb⟩
  · exact ⟨_, _, _, hb⟩

theorem encL_le (r : Int) : (encL r).length ≤ 4 := by have := encode_size_le r; simpa [encL, bL] using this
theorem encP_le (s : ByteArray) (l : List Nat) : (encP s l).length ≤ 4 * l.length := by
  induction l with
  | nil => simp [encP]
  | cons i l ih =>
    have := encL_le (rn s i : Nat)
    simp [encP] at ih ⊢
    omega
theorem encP_snoc (s : ByteArray) (l : List Nat) (i : Nat) : encP s (l ++ [i]) = encP s l ++ encL (rn s i : Nat) := by simp [encP]

end Go.Proofs.Ytlbgfcbhpmhhpab
