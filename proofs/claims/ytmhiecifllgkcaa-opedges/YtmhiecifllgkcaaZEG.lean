/-
  An operation with one field turned: when it is still one (pure).
-/
import Derived.Test.YtmhiecifllgkcaaZXN
set_option linter.unusedSimpArgs false
set_option linter.unusedVariables false
namespace Go.Proofs.Ytmhiecifllgkcaa
open Go.RowKit Go.Lib

theorem edge_kind {o : Opn} (h : okO o = true) (v : Int) : okO { o with kind := v } = decide (v = o.kind) := by
  have k := okO_kind h
  obtain ⟨ds, dq, deps, kind, it, is, rt, rs, text, gone, site⟩ := o
  simp only at k
  by_cases hv : v = kind
  · subst hv
    rw [h]
    simp
  · have : ¬ okO ⟨ds, dq, deps, v, it, is, rt, rs, text, gone, site⟩ = true := fun h2 => by
      have k2 := okO_kind h2
      simp only at k2
      rcases k with rfl | rfl | rfl | rfl <;> rcases k2 with rfl | rfl | rfl | rfl <;> first | exact absurd rfl hv | (simp [okO, kindO, folO, aloneO, holdO, bareO, insO, textO, delO, isT] at h h2; first | omega | (have h3 := congrArg List.length h2.1.2.1; simp at h3; omega) | (simp_all))
    simp [this, hv]
theorem edge_seq {o : Opn} (h : okO o = true) (v : Int) : okO { o with dq := v } = decide (v = o.dq) := by
  by_cases hv : v = o.dq
  · subst hv
    rw [h]
    simp
  · have : ¬ okO { o with dq := v } = true := fun h2 => by
      simp [okO, folO] at h h2
      omega
    simp [this, hv]
theorem edge_site {o : Opn} (h : okO o = true) (v : Int) : okO { o with site := v } = (decide (v = o.site) || (decide (o.kind = 3) && decide (1 ≤ v) && decide (v ≤ 16))) := by
  have k := okO_kind h
  obtain ⟨ds, dq, deps, kind, it, is, rt, rs, text, gone, site⟩ := o
  simp only at k
  rw [Bool.eq_iff_iff]
  rcases k with rfl | rfl | rfl | rfl <;> simp [okO, kindO, folO, aloneO, holdO, bareO, isT] at h ⊢ <;> simp [h] <;> omega
theorem edge_time {o : Opn} (h : okO o = true) (v : Int) : okO { o with it := v } = (decide (v = o.it) || (decide (o.kind = 1) && decide (o.rt < v) && decide (1 ≤ v) && decide (v ≤ 2147483647 - cntO o.text + 1))) := by
  have k := okO_kind h
  obtain ⟨ds, dq, deps, kind, it, is, rt, rs, text, gone, site⟩ := o
  simp only at k
  rw [Bool.eq_iff_iff]
  rcases k with rfl | rfl | rfl | rfl <;> simp [okO, kindO, folO, aloneO, holdO, bareO, isT, insO, refO, isR, isI] at h ⊢ <;> simp [h] <;> omega
theorem edge_isite {o : Opn} (h : okO o = true) (v : Int) : okO { o with is := v } = decide (v = o.is) := by
  have k := okO_kind h
  obtain ⟨ds, dq, deps, kind, it, is, rt, rs, text, gone, site⟩ := o
  simp only at k
  rw [Bool.eq_iff_iff]
  rcases k with rfl | rfl | rfl | rfl <;> simp [okO, kindO, folO, aloneO, holdO, bareO, isT, insO, refO, isR, isI] at h ⊢ <;> simp [h] <;> omega
theorem edge_rtime {o : Opn} (h : okO o = true) (v : Int) : okO { o with rt := v } = (decide (v = o.rt) || (decide (o.kind = 1) && decide (v < o.it) && ((decide (v = 0) && decide (o.rs = 0)) || (decide (1 ≤ v) && decide (1 ≤ o.rs))))) := by
  have k := okO_kind h
  obtain ⟨ds, dq, deps, kind, it, is, rt, rs, text, gone, site⟩ := o
  simp only at k
  rw [Bool.eq_iff_iff]
  rcases k with rfl | rfl | rfl | rfl <;> simp [okO, kindO, folO, aloneO, holdO, bareO, isT, insO, refO, isR, isI] at h ⊢ <;> simp [h] <;> omega
theorem edge_rsite {o : Opn} (h : okO o = true) (v : Int) : okO { o with rs := v } = (decide (v = o.rs) || (decide (o.kind = 1) && ((decide (v = 0) && decide (o.rt = 0)) || (decide (1 ≤ o.rt) && decide (1 ≤ v) && decide (v ≤ 16))))) := by
  have k := okO_kind h
  obtain ⟨ds, dq, deps, kind, it, is, rt, rs, text, gone, site⟩ := o
  simp only at k
  rw [Bool.eq_iff_iff]
  rcases k with rfl | rfl | rfl | rfl <;> simp [okO, kindO, folO, aloneO, holdO, bareO, isT, insO, refO, isR, isI] at h ⊢ <;> simp [h] <;> omega
theorem edge_empty {o : Opn} (h : okO o = true) : okO { o with text := ⟨#[]⟩ } = decide (o.text.size = 0) := by
  have k := okO_kind h
  by_cases hv : o.text.size = 0
  · have : o.text = ⟨#[]⟩ := by have q := text_empty o.text; rw [decide_eq_true hv] at q; exact of_decide_eq_true q
    rw [← this, h]
    simp [hv]
  · have : ¬ okO { o with text := ⟨#[]⟩ } = true := fun h2 => by
      obtain ⟨ds, dq, deps, kind, it, is, rt, rs, text, gone, site⟩ := o
      simp only at k hv
      rcases k with rfl | rfl | rfl | rfl <;> simp [okO, kindO, folO, aloneO, holdO, bareO, insO, textO, hv] at h h2
      exact absurd rfl h2.2.1.1.1.1.1
    simp [this, hv]
theorem edge_dsite {o : Opn} (h : okO o = true) (v : Int) : okO { o with ds := v } = (decide (v = o.ds) || (!decide (o.kind = 1) && decide (1 ≤ v) && decide (v ≤ 16) && decide (getV o.deps v = o.dq - 1))) := by
  have k := okO_kind h
  obtain ⟨ds, dq, deps, kind, it, is, rt, rs, text, gone, site⟩ := o
  simp only at k
  by_cases hv : v = ds
  · subst hv
    rw [h]
    simp
  rw [Bool.eq_iff_iff]
  rcases k with rfl | rfl | rfl | rfl <;> simp [okO, kindO, folO, aloneO, holdO, bareO, isT, insO, refO, isR, isI, hv] at h ⊢ <;> (try simp [h]) <;> omega
theorem edge_gone (o : Opn) (v : Int) : okO { o with gone := o.gone ++ [((v, 0), 1)] } = false := by
  rw [Bool.eq_false_iff]
  intro h2
  have k := OkN.of h2
  have hne : ¬ o.gone ++ [((v, 0), 1)] = [] := by simp
  rcases k.kind with e | e | e | e
  · exact hne (k.ins e).2.2.2.2.1
  · have q := isR_full ((k.del e).2.2.2.2.2.2.2 ((v, 0), 1) (by simp))
    simp at q
  · exact hne (k.join e).2.2.2.2.2.1
  · exact hne (k.leave e).2.2.2.2.2.1

end Go.Proofs.Ytmhiecifllgkcaa
