/-
  Pure: fair windows, as the document tells them.
-/
import Derived.Test.YtmglnaldpcmakaaZW0
set_option linter.unusedSimpArgs false
set_option linter.unusedVariables false
namespace Go.Proofs.Ytmglnaldpcmakaa
open Go.RowKit Go.Lib

structure Ev where
  step : Int
  kind : Int
  copy : Int
  frm : Int
  dst : Int
  sent : Int
  bad : Bool

/-- a clean copy came from a to b, from s on and below t -/
abbrev Wn (e : Ev) (a b s t : Int) : Prop := e.kind = 2 ∧ e.bad = false ∧ e.frm = a ∧ e.dst = b ∧ s ≤ e.step ∧ s ≤ e.sent ∧ e.step < t ∧ e.sent < t
abbrev FairP (es : List Ev) (lv : List Int) (s t : Int) : Prop := s < t ∧ ∀ a ∈ lv, ∀ b ∈ lv, a = b ∨ ∃ e ∈ es, Wn e a b s t
abbrev Sev (lv : List Int) : Prop := ∃ a ∈ lv, ∃ b ∈ lv, a ≠ b

theorem Wn.wide {e : Ev} {a b s t s' t' : Int} (h : Wn e a b s t) (hs : s' ≤ s) (ht : t ≤ t') : Wn e a b s' t' := by
  obtain ⟨h1, h2, h3, h4, h5, h6, h7, h8⟩ := h
  exact ⟨h1, h2, h3, h4, by omega, by omega, by omega, by omega⟩
theorem FairP.wide {es : List Ev} {lv : List Int} {s t s' t' : Int} (h : FairP es lv s t) (hs : s' ≤ s) (ht : t ≤ t') : FairP es lv s' t' :=
  ⟨by have := h.1; omega, fun a ha b hb => (h.2 a ha b hb).imp id fun ⟨e, he, hw⟩ => ⟨e, he, hw.wide hs ht⟩⟩

/-- the windows from a step on -/
def IsW (es : List Ev) (lv : List Int) (to : Int) : Int → List (Int × Int) → Prop
  | f, [] => ∀ t, t ≤ to → ¬ FairP es lv f t
  | f, w :: r => w.1 = f ∧ FairP es lv f w.2 ∧ w.2 ≤ to ∧ (∀ u, FairP es lv f u → w.2 ≤ u) ∧ IsW es lv to w.2 r
def WinP (es : List Ev) (lv : List Int) (frm to : Int) (l : List (Int × Int)) : Prop := if Sev lv then IsW es lv to (max frm 0) l else l = []

theorem IsW.uniq {es : List Ev} {lv : List Int} {to : Int} : ∀ {f : Int} {l m : List (Int × Int)}, IsW es lv to f l → IsW es lv to f m → l = m
  | _, [], [], _, _ => rfl
  | _, [], _ :: _, h, k => absurd k.2.1 (h _ k.2.2.1)
  | _, _ :: _, [], h, k => absurd h.2.1 (k _ h.2.2.1)
  | f, (a, b) :: l, (c, d) :: m, h, k => by
    obtain ⟨h1, h2, h3, h4, h5⟩ := h
    obtain ⟨k1, k2, k3, k4, k5⟩ := k
    simp only [] at h1 h2 h3 h4 h5 k1 k2 k3 k4 k5
    obtain rfl : b = d := Int.le_antisymm (h4 _ k2) (k4 _ h2)
    rw [IsW.uniq h5 k5, h1, k1]
theorem WinP.uniq {es : List Ev} {lv : List Int} {frm to : Int} {l m : List (Int × Int)} (h : WinP es lv frm to l) (k : WinP es lv frm to m) : l = m := by
  unfold WinP at h k
  split at h
  · rename_i hs; rw [if_pos hs] at k; exact h.uniq k
  · rename_i hs; rw [if_neg hs] at k; rw [h, k]
/-- whoever has fair stretches where another has, has as many windows -/
theorem IsW.more {es es' : List Ev} {lv lv' : List Int} {to to' : Int} (ht : to ≤ to') (hf : ∀ s t, FairP es lv s t → FairP es' lv' s t) :
    ∀ {l m : List (Int × Int)} {f f' : Int}, f' ≤ f → IsW es lv to f l → IsW es' lv' to' f' m → l.length ≤ m.length
  | [], _, _, _, _, _, _ => Nat.zero_le _
  | w :: l, [], f, f', hle, h, k => absurd ((hf _ _ h.2.1).wide hle (Int.le_refl _)) (k _ (by have := h.2.2.1; omega))
  | w :: l, x :: m, f, f', hle, h, k => by
    have := k.2.2.2.1 _ ((hf _ _ h.2.1).wide hle (Int.le_refl _))
    have := IsW.more ht hf this h.2.2.2.2 k.2.2.2.2
    simp; omega
theorem FairP.sub {es es' : List Ev} {lv lv' : List Int} (he : ∀ e ∈ es, e ∈ es') (hl : ∀ a ∈ lv', a ∈ lv) {s t : Int} (h : FairP es lv s t) : FairP es' lv' s t :=
  ⟨h.1, fun a ha b hb => (h.2 a (hl a ha) b (hl b hb)).imp id fun ⟨e, h1, h2⟩ => ⟨e, he e h1, h2⟩⟩
theorem Sev.sub {lv lv' : List Int} (hl : ∀ a ∈ lv', a ∈ lv) (h : Sev lv') : Sev lv := by
  obtain ⟨a, ha, b, hb, e⟩ := h
  exact ⟨a, hl a ha, b, hl b hb, e⟩
theorem WinP.more {es es' : List Ev} {lv lv' : List Int} {frm to to' : Int} {l m : List (Int × Int)} (ht : to ≤ to') (he : ∀ e ∈ es, e ∈ es') (hl : ∀ a ∈ lv', a ∈ lv) (hs : Sev lv → Sev lv')
    (h : WinP es lv frm to l) (k : WinP es' lv' frm to' m) : l.length ≤ m.length := by
  unfold WinP at h k
  by_cases s1 : Sev lv
  · rw [if_pos s1] at h; rw [if_pos (hs s1)] at k
    exact IsW.more ht (fun _ _ => FairP.sub he hl) (Int.le_refl _) h k
  · rw [if_neg s1] at h; subst h; simp
theorem WinP.same {es es' : List Ev} {lv lv' : List Int} {frm to : Int} {l m : List (Int × Int)} (he : ∀ e, e ∈ es ↔ e ∈ es') (hl : ∀ a, a ∈ lv ↔ a ∈ lv')
    (h : WinP es lv frm to l) (k : WinP es' lv' frm to m) : l = m := by
  have hf : ∀ s t, FairP es' lv' s t ↔ FairP es lv s t := fun s t => ⟨FairP.sub (fun e x => (he e).2 x) (fun a x => (hl a).1 x), FairP.sub (fun e x => (he e).1 x) (fun a x => (hl a).2 x)⟩
  have hs : Sev lv' ↔ Sev lv := ⟨Sev.sub fun a x => (hl a).2 x, Sev.sub fun a x => (hl a).1 x⟩
  have hw : ∀ (m : List (Int × Int)) (f : Int), IsW es' lv' to f m → IsW es lv to f m := by
    intro m
    induction m with
    | nil => intro f k t ht c; exact k t ht ((hf f t).2 c)
    | cons x r ih => intro f k; exact ⟨k.1, (hf _ _).1 k.2.1, k.2.2.1, fun u hu => k.2.2.2.1 u ((hf _ _).2 hu), ih _ k.2.2.2.2⟩
  refine h.uniq ?_
  unfold WinP at k ⊢
  by_cases s1 : Sev lv
  · rw [if_pos (hs.2 s1)] at k; rw [if_pos s1]; exact hw _ _ k
  · rw [if_neg (fun c => s1 (hs.1 c))] at k; rw [if_neg s1]; exact k

/-- where the windows end, and what is behind -/
def endW : Int → List (Int × Int) → Int
  | f, [] => f
  | _, w :: r => endW w.2 r
theorem endW_take {f : Int} : ∀ {l : List (Int × Int)} {i : Nat} {w : Int × Int}, l[i]? = some w → endW f (l.take (i + 1)) = w.2
  | [], i, w, h => by simp at h
  | x :: l, 0, w, h => by simp at h; subst h; rfl
  | x :: l, i + 1, w, h => by
    rw [List.getElem?_cons_succ] at h
    show endW x.2 (l.take (i + 1)) = _
    exact endW_take h
/-- each window as it stands in the row -/
theorem IsW.at {es : List Ev} {lv : List Int} {to : Int} : ∀ {l : List (Int × Int)} {f : Int} {i : Nat} {w : Int × Int}, IsW es lv to f l → l[i]? = some w →
    w.1 = endW f (l.take i) ∧ FairP es lv w.1 w.2 ∧ w.2 ≤ to ∧ ∀ u, FairP es lv w.1 u → w.2 ≤ u
  | [], f, i, w, _, h => by simp at h
  | x :: l, f, 0, w, k, h => by
    simp at h; subst h
    obtain ⟨k1, k2, k3, k4, _⟩ := k
    rw [← k1] at k2 k4
    exact ⟨k1, k2, k3, k4⟩
  | x :: l, f, i + 1, w, k, h => by
    rw [List.getElem?_cons_succ] at h
    exact IsW.at (l := l) (f := x.2) (i := i) k.2.2.2.2 h
theorem IsW.behind {es : List Ev} {lv : List Int} {to : Int} : ∀ {l : List (Int × Int)} {f : Int}, IsW es lv to f l → ∀ t, t ≤ to → ¬ FairP es lv (endW f l) t
  | [], f, k => k
  | x :: l, f, k => IsW.behind (l := l) k.2.2.2.2
/-- no stretches cut elsewhere are more -/
theorem IsW.most {es : List Ev} {lv : List Int} {to : Int} {l : List (Int × Int)} {f : Int} (h : IsW es lv to f l) {n : Nat} {at' c : Int} (hn : n ≤ l.length) (ha : endW f (l.take n) ≤ at') (hc : c ≤ to) (hf : FairP es lv at' c) :
    n + 1 ≤ l.length ∧ endW f (l.take (n + 1)) ≤ c := by
  have hf' := hf.wide ha (Int.le_refl _)
  by_cases e : n < l.length
  · have hw : l[n]? = some l[n] := List.getElem?_eq_getElem e
    obtain ⟨h1, h2, h3, h4⟩ := h.at hw
    refine ⟨e, ?_⟩
    rw [endW_take hw]
    exact h4 _ (by rw [h1]; exact hf')
  · obtain rfl : n = l.length := by omega
    rw [List.take_of_length_le (Nat.le_refl _)] at hf'
    exact absurd hf' (h.behind _ hc)

end Go.Proofs.Ytmglnaldpcmakaa
