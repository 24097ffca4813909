/-
  Identifiers packed into runs (pure).
-/
import Derived.Test.YtccggjhnjknblaaZK0
import Derived.Shelf.SlSortCmp.NoneTotal
set_option linter.unusedSimpArgs false
set_option linter.unusedVariables false
namespace Go.Proofs.Ytccggjhnjknblaa
open Go.RowKit Go.Lib Go.Sort

def lexLt (a b : Int × Int) : Prop := a.1 < b.1 ∨ (a.1 = b.1 ∧ a.2 < b.2)
theorem lex_irrefl (a : Int × Int) : ¬ lexLt a a := by unfold lexLt; omega
theorem lex_trans {a b c : Int × Int} (h : lexLt a b) (k : lexLt b c) : lexLt a c := by unfold lexLt at *; omega
theorem lex_tri (a b : Int × Int) : lexLt a b ∨ a = b ∨ lexLt b a := by
  obtain ⟨a1, a2⟩ := a
  obtain ⟨b1, b2⟩ := b
  unfold lexLt
  simp only [Prod.mk.injEq]
  omega
theorem ltOf_cmpI (x y : Int × Int) : ltOf cmpI x y = true ↔ lexLt x y := by
  unfold ltOf
  rw [decide_eq_true_iff]
  unfold lexLt
  have h := @cmpI_ge x y
  constructor
  · intro h1
    by_cases h2 : x.1 < y.1 ∨ (x.1 = y.1 ∧ x.2 < y.2)
    · exact h2
    · have := h.2 h2; omega
  · intro h1
    by_cases h2 : 0 ≤ cmpI x y
    · exact absurd h1 (h.1 h2)
    · omega
theorem swoI : SWO (ltOf cmpI) where
  irrefl x := by
    cases h : ltOf cmpI x x
    · rfl
    · exact absurd ((ltOf_cmpI x x).1 h) (lex_irrefl x)
  trans x y z h1 h2 := (ltOf_cmpI x z).2 (lex_trans ((ltOf_cmpI x y).1 h1) ((ltOf_cmpI y z).1 h2))
  ntrans x y z h1 h2 := by
    have n1 : ¬ lexLt x y := fun h => by rw [(ltOf_cmpI x y).2 h] at h1; cases h1
    have n2 : ¬ lexLt y z := fun h => by rw [(ltOf_cmpI y z).2 h] at h2; cases h2
    cases h : ltOf cmpI x z
    · rfl
    · have := (ltOf_cmpI x z).1 h
      unfold lexLt at *
      omega
theorem totI (x y : Int × Int) (h1 : ltOf cmpI x y = false) (h2 : ltOf cmpI y x = false) : x = y := by
  rcases lex_tri x y with h | h | h
  · rw [(ltOf_cmpI x y).2 h] at h1; cases h1
  · exact h
  · rw [(ltOf_cmpI y x).2 h] at h2; cases h2

def sortI (l : List (Int × Int)) : List (Int × Int) := l.mergeSort fun x y => !ltOf cmpI y x
theorem sortI_perm (l : List (Int × Int)) : (sortI l).Perm l := List.mergeSort_perm l _
theorem sortI_sorted (l : List (Int × Int)) : (sortI l).Pairwise fun x y => ¬ lexLt y x := by
  have h : (sortI l).Pairwise (fun x y => (!ltOf cmpI y x) = true) := List.pairwise_mergeSort (le := fun x y => !ltOf cmpI y x) (fun a b c h1 h2 => by
    simp only [Bool.not_eq_true'] at *
    exact swoI.ntrans c b a h2 h1) (fun a b => by
    cases h1 : ltOf cmpI b a
    · simp
    · cases h2 : ltOf cmpI a b
      · simp
      · have := swoI.trans a b a h2 h1
        rw [swoI.irrefl] at this
        cases this) l
  exact h.imp fun {x y} hxy e => by rw [(ltOf_cmpI y x).2 e] at hxy; cases hxy

/-- two rows that rise and have the same are the same -/
theorem strict_ext : ∀ (l m : List (Int × Int)), l.Pairwise lexLt → m.Pairwise lexLt → (∀ x, x ∈ l ↔ x ∈ m) → l = m
  | [], [], _, _, _ => rfl
  | [], y :: m, _, _, h => absurd ((h y).2 (by simp)) (by simp)
  | x :: l, [], _, _, h => absurd ((h x).1 (by simp)) (by simp)
  | x :: l, y :: m, hl, hm, h => by
    obtain ⟨hl1, hl2⟩ := List.pairwise_cons.1 hl
    obtain ⟨hm1, hm2⟩ := List.pairwise_cons.1 hm
    have e : x = y := by
      rcases List.mem_cons.1 ((h x).1 (by simp)) with e | hx
      · exact e
      · rcases List.mem_cons.1 ((h y).2 (by simp)) with e | hy
        · exact e.symm
        · exact absurd (lex_trans (hl1 y hy) (hm1 x hx)) (lex_irrefl x)
    subst e
    rw [strict_ext l m hl2 hm2 (fun z => ?_)]
    constructor
    · intro hz
      rcases List.mem_cons.1 ((h z).1 (by simp [hz])) with e | hz'
      · subst e; exact absurd (hl1 z hz) (lex_irrefl z)
      · exact hz'
    · intro hz
      rcases List.mem_cons.1 ((h z).2 (by simp [hz])) with e | hz'
      · subst e; exact absurd (hm1 z hz) (lex_irrefl z)
      · exact hz'

/-- the runs, when an identifier comes behind -/
def growI : List ((Int × Int) × Int) → Int × Int → List ((Int × Int) × Int)
  | [], x => [(x, 1)]
  | r :: l, x => if r.1.2 = x.2 ∧ r.1.1 + r.2 = x.1 then (r.1, r.2 + 1) :: l else r :: growI l x
/-- which run grows by it -/
def endF : List ((Int × Int) × Int) → Int × Int → Option Nat
  | [], _ => none
  | r :: l, x => if r.1.2 = x.2 ∧ r.1.1 + r.2 = x.1 then some 0 else (endF l x).map (· + 1)
theorem growI_none : ∀ {l : List ((Int × Int) × Int)} {x : Int × Int}, endF l x = none → growI l x = l ++ [(x, 1)]
  | [], x, h => rfl
  | r :: l, x, h => by
    rw [endF] at h
    split at h
    · cases h
    · rename_i h1
      rw [growI, if_neg h1, growI_none (by simpa using h)]
      rfl
theorem growI_some : ∀ {l : List ((Int × Int) × Int)} {x : Int × Int} {k : Nat}, endF l x = some k → ∃ r, l[k]? = some r ∧ r.1.2 = x.2 ∧ r.1.1 + r.2 = x.1 ∧ growI l x = l.set k (r.1, r.2 + 1)
  | [], x, k, h => by cases h
  | r :: l, x, k, h => by
    rw [endF] at h
    split at h
    · rename_i h1
      simp at h
      subst h
      exact ⟨r, rfl, h1.1, h1.2, by rw [growI, if_pos h1]; rfl⟩
    · rename_i h1
      rw [Option.map_eq_some_iff] at h
      obtain ⟨j, hj, rfl⟩ := h
      obtain ⟨q, h2, h3, h4, h5⟩ := growI_some hj
      exact ⟨q, by simpa using h2, h3, h4, by rw [growI, if_neg h1, h5]; rfl⟩
theorem endF_ex : ∀ {l : List ((Int × Int) × Int)} {x : Int × Int} {k : Nat} {r : (Int × Int) × Int}, l[k]? = some r → r.1.2 = x.2 → r.1.1 + r.2 = x.1 → ∃ j, endF l x = some j
  | [], x, k, r, h, _, _ => by simp at h
  | q :: l, x, k, r, h, h1, h2 => by
    rw [endF]
    by_cases hq : q.1.2 = x.2 ∧ q.1.1 + q.2 = x.1
    · exact ⟨0, by rw [if_pos hq]⟩
    · rw [if_neg hq]
      cases k with
      | zero => simp at h; subst h; exact absurd ⟨h1, h2⟩ hq
      | succ k =>
        obtain ⟨j, hj⟩ := endF_ex (l := l) (k := k) (by simpa using h) h1 h2
        exact ⟨j + 1, by rw [hj]; rfl⟩

def Dist (l : List ((Int × Int) × Int)) : Prop := ∀ (j k : Nat) (q r : (Int × Int) × Int), l[j]? = some q → l[k]? = some r → q.1.2 = r.1.2 → q.1.1 + q.2 = r.1.1 + r.2 → j = k
theorem endF_iff {l : List ((Int × Int) × Int)} (h : Dist l) {x : Int × Int} {k : Nat} : endF l x = some k ↔ ∃ r, l[k]? = some r ∧ r.1.2 = x.2 ∧ r.1.1 + r.2 = x.1 := by
  constructor
  · intro e
    obtain ⟨r, h1, h2, h3, _⟩ := growI_some e
    exact ⟨r, h1, h2, h3⟩
  · rintro ⟨r, h1, h2, h3⟩
    obtain ⟨j, hj⟩ := endF_ex h1 h2 h3
    obtain ⟨q, k1, k2, k3, _⟩ := growI_some hj
    rw [hj, h j k q r k1 h1 (by rw [k2, h2]) (by rw [k3, h3])]

/-- what holds of the runs when all up to 'last' have come -/
structure PInv (l : List ((Int × Int) × Int)) (last : Int × Int) (n : Nat) : Prop where
  dist : Dist l
  ends : ∀ r ∈ l, ¬ lexLt last (r.1.1 + r.2 - 1, r.1.2)
  pos : ∀ r ∈ l, 1 ≤ r.2 ∧ r.2 ≤ (n : Int)
  ids : ∀ r ∈ l, isI r.1 = true
  len : l.length ≤ n
theorem PInv.nil (last : Int × Int) : PInv [] last 0 := ⟨fun j k q r h => (by simp at h), fun r h => (by cases h), fun r h => (by cases h), fun r h => (by cases h), by simp⟩
theorem PInv.mono {l : List ((Int × Int) × Int)} {last : Int × Int} {n m : Nat} (h : PInv l last n) (hm : n ≤ m) : PInv l last m :=
  ⟨h.dist, h.ends, fun r hr => ⟨(h.pos r hr).1, by have := (h.pos r hr).2; omega⟩, h.ids, by have := h.len; omega⟩

theorem PInv.noEnd {l : List ((Int × Int) × Int)} {last x : Int × Int} {n : Nat} (h : PInv l last n) (hx : lexLt last x) : ∀ r ∈ l, ¬ (r.1.2 = x.2 ∧ r.1.1 + r.2 = x.1 + 1) := fun r hr e => by
  apply h.ends r hr
  have : (r.1.1 + r.2 - 1, r.1.2) = x := by
    obtain ⟨x1, x2⟩ := x
    simp only [Prod.mk.injEq]
    simp only at e
    omega
  rw [this]
  exact hx

theorem PInv.grown {l : List ((Int × Int) × Int)} {last x : Int × Int} {n : Nat} (h : PInv l last n) (hx : lexLt last x) (hi : isI x = true) : PInv (growI l x) x (n + 1) ∧ ∀ y, endF (growI l x) y = if y = (x.1 + 1, x.2) then some ((endF l x).getD l.length) else if y = x then none else endF l y := by
  have hno := h.noEnd hx
  have hle : ∀ r ∈ l, ¬ lexLt x (r.1.1 + r.2 - 1, r.1.2) := fun r hr e => h.ends r hr (lex_trans hx e)
  cases he : endF l x with
  | none =>
    have hg := growI_none he
    rw [hg]
    have get : ∀ (j : Nat) (q : (Int × Int) × Int), (l ++ [(x, 1)])[j]? = some q → (j < l.length ∧ l[j]? = some q) ∨ (j = l.length ∧ q = (x, 1)) := by
      intro j q hq
      rcases Nat.lt_trichotomy j l.length with hj | hj | hj
      · rw [List.getElem?_append_left hj] at hq; exact .inl ⟨hj, hq⟩
      · subst hj; simp at hq; exact .inr ⟨rfl, hq.symm⟩
      · rw [List.getElem?_eq_none (by simp; omega)] at hq; cases hq
    have hdist : Dist (l ++ [(x, 1)]) := by
      intro j k q r hj hk e1 e2
      rcases get j q hj with ⟨a1, a2⟩ | ⟨a1, rfl⟩
      · rcases get k r hk with ⟨b1, b2⟩ | ⟨b1, rfl⟩
        · exact h.dist j k q r a2 b2 e1 e2
        · exact absurd ⟨e1, e2⟩ (hno q (List.mem_of_getElem? a2))
      · rcases get k r hk with ⟨b1, b2⟩ | ⟨b1, rfl⟩
        · exact absurd ⟨e1.symm, e2.symm⟩ (hno r (List.mem_of_getElem? b2))
        · omega
    refine ⟨⟨hdist, fun r hr => ?_, fun r hr => ?_, fun r hr => ?_, ?_⟩, fun y => ?_⟩
    · rcases List.mem_append.1 hr with hr | hr
      · exact hle r hr
      · simp at hr; subst hr
        show ¬ lexLt x (x.1 + 1 - 1, x.2)
        rw [Int.add_sub_cancel]; exact lex_irrefl x
    · rcases List.mem_append.1 hr with hr | hr
      · have := h.pos r hr; omega
      · simp at hr; subst hr; simp; omega
    · rcases List.mem_append.1 hr with hr | hr
      · exact h.ids r hr
      · simp at hr; subst hr; exact hi
    · simp; exact h.len
    · by_cases hy : y = (x.1 + 1, x.2)
      · rw [if_pos hy]
        refine (endF_iff hdist).2 ⟨(x, 1), by simp, ?_⟩
        rw [hy]
        exact ⟨rfl, rfl⟩
      · rw [if_neg hy]
        cases hy2 : endF l y with
        | some k =>
          have hyx : y ≠ x := fun e => by rw [e, he] at hy2; cases hy2
          rw [if_neg hyx]
          obtain ⟨r, h1, h2, h3⟩ := (endF_iff h.dist).1 hy2
          exact (endF_iff hdist).2 ⟨r, by rw [List.getElem?_append_left (List.getElem?_eq_some_iff.1 h1).1]; exact h1, h2, h3⟩
        | none =>
          rw [ite_self]
          cases hy3 : endF (l ++ [(x, 1)]) y with
          | none => rfl
          | some k =>
            obtain ⟨r, h1, h2, h3⟩ := (endF_iff hdist).1 hy3
            rcases get k r h1 with ⟨b1, b2⟩ | ⟨b1, rfl⟩
            · rw [(endF_iff h.dist).2 ⟨r, b2, h2, h3⟩] at hy2; cases hy2
            · exfalso; apply hy
              obtain ⟨y1, y2⟩ := y
              simp only at h2 h3
              rw [← h2, ← h3]
  | some k =>
    obtain ⟨r, hr1, hr2, hr3, hg⟩ := growI_some he
    have hk := (List.getElem?_eq_some_iff.1 hr1).1
    rw [hg]
    have get : ∀ (j : Nat) (q : (Int × Int) × Int), (l.set k (r.1, r.2 + 1))[j]? = some q → (j ≠ k ∧ l[j]? = some q) ∨ (j = k ∧ q = (r.1, r.2 + 1)) := by
      intro j q hq
      by_cases hj : k = j
      · subst hj
        rw [List.getElem?_set_self hk] at hq
        simp at hq
        exact .inr ⟨rfl, hq.symm⟩
      · rw [List.getElem?_set_ne hj] at hq
        exact .inl ⟨Ne.symm hj, hq⟩
    have hdist : Dist (l.set k (r.1, r.2 + 1)) := by
      intro j k' q q' hj hk' e1 e2
      rcases get j q hj with ⟨a1, a2⟩ | ⟨a1, rfl⟩
      · rcases get k' q' hk' with ⟨b1, b2⟩ | ⟨b1, rfl⟩
        · exact h.dist j k' q q' a2 b2 e1 e2
        · exact absurd ⟨by rw [e1]; exact hr2, by rw [e2, ← Int.add_assoc]; show r.1.1 + r.2 + 1 = x.1 + 1; rw [hr3]⟩ (hno q (List.mem_of_getElem? a2))
      · rcases get k' q' hk' with ⟨b1, b2⟩ | ⟨b1, rfl⟩
        · exact absurd ⟨by rw [← e1]; exact hr2, by rw [← e2, ← Int.add_assoc]; show r.1.1 + r.2 + 1 = x.1 + 1; rw [hr3]⟩ (hno q' (List.mem_of_getElem? b2))
        · omega
    have mem : ∀ q ∈ l.set k (r.1, r.2 + 1), q ∈ l ∨ q = (r.1, r.2 + 1) := fun q hq => List.mem_or_eq_of_mem_set hq
    have hrm := List.mem_of_getElem? hr1
    refine ⟨⟨hdist, fun q hq => ?_, fun q hq => ?_, fun q hq => ?_, ?_⟩, fun y => ?_⟩
    · rcases mem q hq with hq | rfl
      · exact hle q hq
      · have : ((r.1, r.2 + 1) : (Int × Int) × Int).1.1 + ((r.1, r.2 + 1) : (Int × Int) × Int).2 - 1 = x.1 := by show r.1.1 + (r.2 + 1) - 1 = x.1; omega
        rw [this]
        show ¬ lexLt x (x.1, r.1.2)
        rw [hr2]
        exact lex_irrefl x
    · rcases mem q hq with hq | rfl
      · have := h.pos q hq; omega
      · have := h.pos r hrm
        show 1 ≤ r.2 + 1 ∧ r.2 + 1 ≤ _
        omega
    · rcases mem q hq with hq | rfl
      · exact h.ids q hq
      · exact h.ids r hrm
    · rw [List.length_set]; have := h.len; omega
    · by_cases hy : y = (x.1 + 1, x.2)
      · rw [if_pos hy]
        refine (endF_iff hdist).2 ⟨(r.1, r.2 + 1), List.getElem?_set_self hk, ?_⟩
        rw [hy]
        exact ⟨hr2, by show r.1.1 + (r.2 + 1) = x.1 + 1; omega⟩
      · rw [if_neg hy]
        by_cases hyx : y = x
        · rw [if_pos hyx]
          cases hy3 : endF (l.set k (r.1, r.2 + 1)) y with
          | none => rfl
          | some j =>
            exfalso
            obtain ⟨q, h1, h2, h3⟩ := (endF_iff hdist).1 hy3
            rcases get j q h1 with ⟨b1, b2⟩ | ⟨b1, rfl⟩
            · exact b1 (h.dist j k q r b2 hr1 (by rw [h2, hyx, hr2]) (by rw [h3, hyx, hr3]))
            · rw [hyx] at h3
              have : r.1.1 + (r.2 + 1) = x.1 := h3
              omega
        · rw [if_neg hyx]
          cases hy2 : endF l y with
          | some j =>
            obtain ⟨q, h1, h2, h3⟩ := (endF_iff h.dist).1 hy2
            have hjk : j ≠ k := fun e => by
              subst e
              rw [hr1] at h1
              simp at h1
              subst h1
              apply hyx
              obtain ⟨y1, y2⟩ := y
              obtain ⟨x1, x2⟩ := x
              simp only at h2 h3 hr2 hr3
              rw [← h2, ← h3, hr2, hr3]
            exact (endF_iff hdist).2 ⟨q, by rw [List.getElem?_set_ne (Ne.symm hjk)]; exact h1, h2, h3⟩
          | none =>
            cases hy3 : endF (l.set k (r.1, r.2 + 1)) y with
            | none => rfl
            | some j =>
              obtain ⟨q, h1, h2, h3⟩ := (endF_iff hdist).1 hy3
              rcases get j q h1 with ⟨b1, b2⟩ | ⟨b1, rfl⟩
              · rw [(endF_iff h.dist).2 ⟨q, b2, h2, h3⟩] at hy2; cases hy2
              · exfalso; apply hy
                obtain ⟨y1, y2⟩ := y
                have h3' : r.1.1 + (r.2 + 1) = y1 := h3
                have h2' : r.1.2 = y2 := h2
                rw [← h2', hr2, ← h3', ← Int.add_assoc, hr3]

/-- the program's step -/
def stepP (st : (Int × Int) × List ((Int × Int) × Int)) (x : Int × Int) : (Int × Int) × List ((Int × Int) × Int) := if x = st.1 ∨ isI x = false then st else (x, growI st.2 x)
def stP (m : List (Int × Int)) : (Int × Int) × List ((Int × Int) × Int) := m.foldl stepP ((0, 0), [])
theorem stP_snoc (m : List (Int × Int)) (x : Int × Int) : stP (m ++ [x]) = stepP (stP m) x := by simp [stP, List.foldl_append]

/-- those that are identifiers, each once -/
def dd : Int × Int → List (Int × Int) → List (Int × Int)
  | _, [] => []
  | last, x :: m => if x = last ∨ isI x = false then dd last m else x :: dd x m
def canS (l : List (Int × Int)) : List (Int × Int) := dd (0, 0) (sortI l)
/-- identifiers as runs -/
def packF (l : List (Int × Int)) : List ((Int × Int) × Int) := (canS l).foldl growI []

theorem stP_dd : ∀ (m : List (Int × Int)) (last : Int × Int) (acc : List ((Int × Int) × Int)), (m.foldl stepP (last, acc)).2 = (dd last m).foldl growI acc
  | [], _, _ => rfl
  | x :: m, last, acc => by
    rw [List.foldl_cons, dd]
    by_cases h : x = last ∨ isI x = false
    · rw [if_pos h, show stepP (last, acc) x = (last, acc) from if_pos h]
      exact stP_dd m last acc
    · rw [if_neg h, show stepP (last, acc) x = (x, growI acc x) from if_neg h, List.foldl_cons]
      exact stP_dd m x (growI acc x)
theorem packF_stP (l : List (Int × Int)) : (stP (sortI l)).2 = packF l := stP_dd _ _ _

/-- a row that does not fall: what comes next is not lower than the last -/
def Low (last : Int × Int) (m : List (Int × Int)) : Prop := ∀ x ∈ m, isI x = true → ¬ lexLt x last
theorem low_zero (m : List (Int × Int)) : Low (0, 0) m := fun x _ hi h => by
  have := isI_range (t := x.1) (s := x.2) hi
  unfold lexLt at h
  simp only at h
  omega
theorem dd_spec : ∀ (m : List (Int × Int)) (last : Int × Int), m.Pairwise (fun x y => ¬ lexLt y x) → Low last m → (dd last m).Pairwise lexLt ∧ (∀ x ∈ dd last m, lexLt last x) ∧ ∀ x, x ∈ dd last m ↔ x ∈ m ∧ isI x = true ∧ x ≠ last
  | [], last, _, _ => by simp [dd]
  | y :: m, last, hs, hl => by
    obtain ⟨h1, h2⟩ := List.pairwise_cons.1 hs
    have hl' : Low last m := fun x hx => hl x (by simp [hx])
    rw [dd]
    by_cases h : y = last ∨ isI y = false
    · rw [if_pos h]
      obtain ⟨a, b, c⟩ := dd_spec m last h2 hl'
      refine ⟨a, b, fun x => ?_⟩
      rw [c x]
      constructor
      · rintro ⟨k1, k2, k3⟩
        exact ⟨by simp [k1], k2, k3⟩
      · rintro ⟨k1, k2, k3⟩
        rcases List.mem_cons.1 k1 with rfl | k1
        · rcases h with h | h
          · exact absurd h k3
          · rw [h] at k2; cases k2
        · exact ⟨k1, k2, k3⟩
    · rw [if_neg h]
      have hy : isI y = true := by cases e : isI y; exact absurd (.inr e) h; rfl
      have hly : lexLt last y := by
        rcases lex_tri last y with k | k | k
        · exact k
        · exact absurd (.inl k.symm) h
        · exact absurd k (hl y (by simp) hy)
      obtain ⟨a, b, c⟩ := dd_spec m y h2 (fun x hx _ => h1 x hx)
      refine ⟨List.pairwise_cons.2 ⟨b, a⟩, fun x hx => ?_, fun x => ?_⟩
      · rcases List.mem_cons.1 hx with rfl | hx
        · exact hly
        · exact lex_trans hly (b x hx)
      · rw [List.mem_cons, c x, List.mem_cons]
        constructor
        · rintro (rfl | ⟨k1, k2, k3⟩)
          · exact ⟨.inl rfl, hy, fun e => by rw [e] at hly; exact lex_irrefl _ hly⟩
          · refine ⟨.inr k1, k2, fun e => ?_⟩
            subst e
            exact h1 x k1 hly
        · rintro ⟨k1, k2, k3⟩
          by_cases e : x = y
          · exact .inl e
          · rcases k1 with k1 | k1
            · exact absurd k1 e
            · exact .inr ⟨k1, k2, e⟩
theorem canS_spec (l : List (Int × Int)) : (canS l).Pairwise lexLt ∧ ∀ x, x ∈ canS l ↔ x ∈ l ∧ isI x = true := by
  obtain ⟨a, b, c⟩ := dd_spec (sortI l) (0, 0) (sortI_sorted l) (low_zero _)
  refine ⟨a, fun x => ?_⟩
  rw [show canS l = dd (0, 0) (sortI l) from rfl, c x, (sortI_perm l).mem_iff]
  constructor
  · rintro ⟨k1, k2, _⟩; exact ⟨k1, k2⟩
  · rintro ⟨k1, k2⟩
    refine ⟨k1, k2, fun e => ?_⟩
    rw [e] at k2
    exact absurd k2 (by decide)
theorem canS_eq {l m : List (Int × Int)} (hm : m.Pairwise lexLt) (h : ∀ x, x ∈ m ↔ x ∈ l ∧ isI x = true) : m = canS l :=
  strict_ext _ _ hm (canS_spec l).1 (fun x => by rw [h x, (canS_spec l).2 x])

/-- what holds when the program has come to a place of the sorted row -/
theorem stP_inv (m : List (Int × Int)) (hs : m.Pairwise fun x y => ¬ lexLt y x) : PInv (stP m).2 (stP m).1 m.length ∧ ((stP m).1 = (0, 0) ∨ (stP m).1 ∈ m) := by
  suffices h : ∀ n, n ≤ m.length → PInv (stP (m.take n)).2 (stP (m.take n)).1 n ∧ ((stP (m.take n)).1 = (0, 0) ∨ (stP (m.take n)).1 ∈ m.take n) by
    have := h m.length (Nat.le_refl _)
    rwa [List.take_length] at this
  intro n
  induction n with
  | zero => intro _; exact ⟨PInv.nil _, .inl rfl⟩
  | succ n ih =>
    intro hn
    obtain ⟨h1, h2⟩ := ih (by omega)
    have e : m.take (n + 1) = m.take n ++ [m[n]] := by rw [List.take_succ_eq_append_getElem (by omega)]
    rw [e, stP_snoc]
    unfold stepP
    split
    · exact ⟨h1.mono (by omega), h2.imp id fun h => List.mem_append_left _ h⟩
    · rename_i h
      have hi : isI m[n] = true := by cases e : isI m[n]; exact absurd (.inr e) h; rfl
      have hlt : lexLt (stP (m.take n)).1 m[n] := by
        rcases lex_tri (stP (m.take n)).1 m[n] with k | k | k
        · exact k
        · exact absurd (.inl k.symm) h
        · exfalso
          rcases h2 with h2 | h2
          · rw [h2] at k
            have := isI_range (t := m[n].1) (s := m[n].2) hi
            unfold lexLt at k
            simp only at k
            omega
          · have hp : (m.take n ++ [m[n]]).Pairwise (fun x y => ¬ lexLt y x) := by rw [← e]; exact hs.sublist (List.take_sublist _ _)
            exact (List.pairwise_append.1 hp).2.2 _ h2 _ (by simp) k
      exact ⟨(h1.grown hlt hi).1, .inr (List.mem_append.2 (.inr (List.mem_singleton.2 rfl)))⟩

end Go.Proofs.Ytccggjhnjknblaa
