/-
  What the laws' walks ask of windows; two unlike sites, counted on.
-/
import Derived.Test.YtmglnaldpcmakaaZDD
import Derived.Test.YtmglnaldpcmakaaZDF
set_option linter.unusedSimpArgs false
set_option linter.unusedVariables false
namespace Go.Proofs.Ytmglnaldpcmakaa
open Go.RowKit Go.Lib Go.Shelf

theorem isW_ge {es : List Ev} {lv : List Int} {to : Int} : ∀ {l : List (Int × Int)} {f : Int} {i : Nat} {x : Int × Int}, IsW es lv to f l → l[i]? = some x → f ≤ x.1
  | [], f, i, x, _, h => by simp at h
  | y :: l, f, 0, x, k, h => by
    simp at h; subst h
    rw [k.1]; exact Int.le_refl _
  | y :: l, f, i + 1, x, k, h => by
    rw [List.getElem?_cons_succ] at h
    have h1 := isW_ge k.2.2.2.2 h
    have h2 := k.2.1.1
    omega
theorem winP_ge {es : List Ev} {lv : List Int} {frm to : Int} {l : List (Int × Int)} (h : WinP es lv frm to l) {i : Nat} {x : Int × Int} (hx : l[i]? = some x) : 0 ≤ x.1 := by
  unfold WinP at h
  split at h
  · have := isW_ge h hx
    omega
  · subst h; simp at hx
theorem winP_at {es : List Ev} {lv : List Int} {frm to : Int} {l : List (Int × Int)} (h : WinP es lv frm to l) {i : Nat} {x : Int × Int} (hx : l[i]? = some x) :
    x.1 = endW (max frm 0) (l.take i) ∧ x.1 < x.2 ∧ x.2 ≤ to ∧ FairP es lv x.1 x.2 ∧ ¬ FairP es lv x.1 (x.2 - 1) := by
  unfold WinP at h
  split at h
  · obtain ⟨h1, h2, h3, h4⟩ := h.at hx
    exact ⟨h1, h2.1, h3, h2, fun c => by have := h4 _ c; omega⟩
  · subst h; simp at hx
theorem winP_behind {es : List Ev} {lv : List Int} {frm to : Int} {l : List (Int × Int)} (h : WinP es lv frm to l) (hs : Sev lv) : ¬ FairP es lv (endW (max frm 0) l) to := by
  unfold WinP at h
  rw [if_pos hs] at h
  exact h.behind to (Int.le_refl _)
theorem winP_none {es : List Ev} {lv : List Int} {frm to : Int} {l : List (Int × Int)} (h : WinP es lv frm to l) (hs : ¬ Sev lv) : l = [] := by
  unfold WinP at h
  rwa [if_neg hs] at h

theorem winP_most {es : List Ev} {lv : List Int} {frm to : Int} {l : List (Int × Int)} (h : WinP es lv frm to l) (hs : Sev lv) {n : Nat} {at' c : Int} (hn : n ≤ l.length) (ha : endW (max frm 0) (l.take n) ≤ at') (hc : c ≤ to) (hf : FairP es lv at' c) :
    n + 1 ≤ l.length ∧ endW (max frm 0) (l.take (n + 1)) ≤ c := by
  unfold WinP at h
  rw [if_pos hs] at h
  exact h.most hn ha hc hf

/-- of the first i one differs from the first -/
def TwoB (lv : List Int) (i : Nat) : Prop := ∃ (j : Nat) (y x : Int), j < i ∧ lv[j]? = some y ∧ lv[0]? = some x ∧ y ≠ x
theorem twoB_one (lv : List Int) : ¬ TwoB lv 1 := by
  rintro ⟨j, y, x, hj, hy, hx, e⟩
  have : j = 0 := by omega
  subst this
  rw [hy] at hx
  simp at hx
  exact e hx
theorem twoB_succ {lv : List Int} {i : Nat} {y x : Int} (hy : lv[i]? = some y) (hx : lv[0]? = some x) : TwoB lv (i + 1) ↔ TwoB lv i ∨ y ≠ x := by
  constructor
  · rintro ⟨j, y', x', hj, hy', hx', e⟩
    by_cases h : j = i
    · subst h
      rw [hy] at hy'; rw [hx] at hx'
      simp at hy' hx'
      subst hy' hx'
      exact .inr e
    · exact .inl ⟨j, y', x', by omega, hy', hx', e⟩
  · rintro (⟨j, y', x', hj, hy', hx', e⟩ | h)
    · exact ⟨j, y', x', by omega, hy', hx', e⟩
    · exact ⟨i, y, x, by omega, hy, hx, h⟩
theorem twoB_all {lv : List Int} {i : Nat} (hi : lv.length ≤ i) : TwoB lv i ↔ Sev lv := by
  constructor
  · rintro ⟨j, y, x, _, hy, hx, e⟩
    exact ⟨y, List.mem_of_getElem? hy, x, List.mem_of_getElem? hx, e⟩
  · intro h
    cases lv with
    | nil => exact absurd h sev_nil
    | cons x lv =>
      obtain ⟨y, hy, hne⟩ := (sev_first (x :: lv) x rfl).1 h
      obtain ⟨j, hj⟩ := List.mem_iff_getElem?.1 hy
      exact ⟨j, y, x, by have := (List.getElem?_eq_some_iff.1 hj).1; omega, hj, rfl, hne⟩
def TwI (lv : List Int) (f : Bool) (j : Nat) : Prop := f = true ↔ TwoB lv j
theorem twI_one (lv : List Int) : TwI lv false 1 := ⟨fun h => (by cases h), fun h => absurd h (twoB_one lv)⟩
theorem twI_keep {lv : List Int} {j : Nat} {y x : Int} (hy : lv[j]? = some y) (hx : lv[0]? = some x) (h : TwI lv true j) : TwI lv true (j + 1) := ⟨fun _ => (twoB_succ hy hx).2 (.inl (h.1 rfl)), fun _ => rfl⟩
theorem twI_new {lv : List Int} {f : Bool} {j : Nat} {y x : Int} (hy : lv[j]? = some y) (hx : lv[0]? = some x) (e : y ≠ x) : TwI lv true (j + 1) := ⟨fun _ => (twoB_succ hy hx).2 (.inr e), fun _ => rfl⟩
theorem twI_same {lv : List Int} {f : Bool} {j : Nat} {y : Int} (hy : lv[j]? = some y) (hx : lv[0]? = some y) (h : TwI lv f j) : TwI lv f (j + 1) := by
  unfold TwI at h ⊢
  rw [twoB_succ hy hx, h]
  simp
theorem twI_all {lv : List Int} {f : Bool} {j : Nat} (h : TwI lv f j) (hj : lv.length ≤ j) : f = true ↔ Sev lv := by
  rw [← twoB_all hj]
  exact h
/-- is a stretch fair? -/
def fitB (es : List Ev) (lv : List Int) (s t : Int) : Bool := decide (FairP es lv s t)
theorem fitB_in (w : World) (ev sv : Value) (es : List Ev) (lv : List Int) (s t : Int) (hev : RV w ev es) (hsv : RN w sv lv) (hl : es.length ≤ 100000) (hlv : lv.length ≤ 10000) :
    Calls Try.prog 15 #[ev, sv, .int .i64 s, .int .i64 t] w fun e W => e = .returned (.bool (fitB es lv s t)) ∧ Below w.heap.size w W := fits_in w ev sv es lv s t hev hsv hl hlv
theorem fitB_fair {es : List Ev} {lv : List Int} {s t : Int} (h : fitB es lv s t = true) : FairP es lv s t := of_decide_eq_true h
theorem fitB_yes {es : List Ev} {lv : List Int} {s t : Int} (h : FairP es lv s t) : fitB es lv s t = true := decide_eq_true h
theorem fitB_no {es : List Ev} {lv : List Int} {s t : Int} (h : ¬ FairP es lv s t) : fitB es lv s t = false := decide_eq_false h
theorem endW_nil (f : Int) : endW f [] = f := rfl

end Go.Proofs.Ytmglnaldpcmakaa
