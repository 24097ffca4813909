/-
  An operation whose text ends in the first byte of a rune that does not come (pure).
-/
import Derived.Test.YtmhiecifllgkcaaZEG1
set_option linter.unusedSimpArgs false
set_option linter.unusedVariables false
namespace Go.Proofs.Ytmhiecifllgkcaa
open Go.RowKit Go.Lib

theorem c3_size (t : ByteArray) : (t ++ ⟨#[195]⟩ : ByteArray).size = t.size + 1 := by
  rw [ByteArray.size_append]; rfl
theorem c3_by (t : ByteArray) : by_ (t ++ ⟨#[195]⟩) t.size = 195 := by
  unfold by_
  have h : (t ++ (⟨#[195]⟩ : ByteArray)).data = t.data ++ #[195] := by simp [ByteArray.data_append]
  have h2 : (t ++ (⟨#[195]⟩ : ByteArray)).get! t.size = (195 : UInt8) := by
    show (t ++ (⟨#[195]⟩ : ByteArray)).data[t.size]! = 195
    rw [h]
    have hs : t.size = t.data.size := rfl
    rw [hs, show t.data ++ #[195] = t.data.push 195 by simp]
    rw [getElem!_pos _ _ (by simp)]
    exact Array.getElem_push_eq
  rw [h2]
  rfl
theorem c3_sync (t : ByteArray) : Sync (t ++ ⟨#[195]⟩) t.size := fun j hj ho => by
  have h := c3_by t
  have hs := c3_size t
  generalize t ++ (⟨#[195]⟩ : ByteArray) = s at *
  generalize t.size = k at *
  rcases ok_cases s j (by omega) ho with ⟨_, _, hw⟩ | ⟨hc, _, hg, _, hw⟩ | ⟨hc, _, hg, hg2, _, hw⟩ | ⟨hc, _, hg, hg2, hg3, _, hw⟩
  · omega
  · have hb := hW2_range hc
    have hr := g1_range (by omega) hg
    rcases (by omega : k = j + 1 ∨ j + 2 ≤ k) with e | e
    · subst e; omega
    · omega
  · have hb := hW3_range hc
    have hr := g1_range (by omega) hg
    unfold g2 at hg2
    rcases (by omega : k = j + 1 ∨ k = j + 2 ∨ j + 3 ≤ k) with e | e | e
    · subst e; omega
    · subst e; omega
    · omega
  · have hb := hW4_range hc
    have hr := g1_range (by omega) hg
    unfold g2 at hg2
    unfold g3 at hg3
    rcases (by omega : k = j + 1 ∨ k = j + 2 ∨ k = j + 3 ∨ j + 4 ≤ k) with e | e | e | e
    · subst e; omega
    · subst e; omega
    · subst e; omega
    · omega
theorem c3_bad (t : ByteArray) : okR (t ++ ⟨#[195]⟩) t.size = false := by
  rw [Bool.eq_false_iff]
  intro ho
  have h := c3_by t
  have hs := c3_size t
  rcases ok_cases _ _ (by omega) ho with ⟨h1, _, _⟩ | ⟨hc, h1, _⟩ | ⟨hc, h1, _⟩ | ⟨hc, h1, _⟩ <;> omega
theorem bad_c3 (t : ByteArray) : ¬ badT (t ++ ⟨#[195]⟩) < 0 := by
  have hm : t.size ∈ allL (t ++ ⟨#[195]⟩) := by
    rw [show allL (t ++ ⟨#[195]⟩) = frm (t ++ ⟨#[195]⟩) 0 from rfl]
    exact mem_frm (by rw [c3_size]; omega) (c3_sync t) t.size 0 (by omega) (by omega)
  have hb := c3_bad t
  unfold badT firstBad
  split
  · rename_i i hi
    omega
  · rename_i hn
    rw [List.find?_eq_none] at hn
    have := hn _ hm
    rw [hb] at this
    simp at this
theorem edge_c3 (o : Opn) : okO { o with text := o.text ++ ⟨#[195]⟩ } = false := by
  rw [Bool.eq_false_iff]
  intro h2
  have k := okO_kind h2
  have hb := bad_c3 o.text
  have hs := c3_size o.text
  obtain ⟨ds, dq, deps, kind, it, is, rt, rs, text, gone, site⟩ := o
  simp only at k hb hs h2
  have hz : ¬ (text ++ (⟨#[195]⟩ : ByteArray)).size = 0 := by omega
  clear hs
  generalize text ++ (⟨#[195]⟩ : ByteArray) = u at *
  rcases k with rfl | rfl | rfl | rfl <;> simp [okO, kindO, folO, aloneO, holdO, bareO, insO, textO, hz, hb] at h2

end Go.Proofs.Ytmhiecifllgkcaa
