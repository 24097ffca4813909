/-
  Runs that identifiers are packed into: they are in their form, and hold just these (pure).
-/
import Derived.Test.YtccggjhnjknblaaZPP
import Derived.Test.YtccggjhnjknblaaZEC
set_option linter.unusedSimpArgs false
set_option linter.unusedVariables false
namespace Go.Proofs.Ytccggjhnjknblaa
open Go.RowKit Go.Lib

def RunLt (q r : (Int × Int) × Int) : Prop := lexLt q.1 r.1 ∧ (q.1.2 = r.1.2 → q.1.1 + q.2 < r.1.1)
/-- the runs P hold just the identifiers C -/
structure PF (P : List ((Int × Int) × Int)) (C : List (Int × Int)) : Prop where
  perm : (idsR P).Perm C
  pos : ∀ r ∈ P, 1 ≤ r.2
  pw : P.Pairwise RunLt
theorem runI_grow (a : Int × Int) (c : Int) (h : 0 ≤ c) : runI (a, c + 1) = runI (a, c) ++ [(a.1 + c, a.2)] := by
  unfold runI
  simp only
  rw [show (c + 1).toNat = c.toNat + 1 by omega, List.range_succ, List.map_append]
  simp
  omega
theorem idsR_cons (r : (Int × Int) × Int) (l : List ((Int × Int) × Int)) : idsR (r :: l) = runI r ++ idsR l := by simp [idsR]
theorem grow_perm : ∀ (P : List ((Int × Int) × Int)) (x : Int × Int), (∀ r ∈ P, 1 ≤ r.2) → (idsR (growI P x)).Perm (x :: idsR P)
  | [], x, _ => by
    rw [growI, idsR_cons]
    simp [idsR, runI]
  | r :: P, x, h => by
    rw [growI]
    split
    · rename_i he
      rw [idsR_cons, idsR_cons]
      have h1 := h r (by simp)
      rw [show ((r.1, r.2 + 1) : (Int × Int) × Int) = (r.1, r.2 + 1) from rfl, runI_grow r.1 r.2 (by omega), he.2, he.1]
      rw [show (r.1, r.2) = r from rfl]
      have e : (x.1, x.2) = x := rfl
      rw [e, List.append_assoc]
      exact List.perm_middle
    · rw [idsR_cons, idsR_cons]
      refine ((grow_perm P x (fun q hq => h q (by simp [hq]))).append_left _).trans ?_
      exact List.perm_middle
theorem mem_first {P : List ((Int × Int) × Int)} {r : (Int × Int) × Int} (hr : r ∈ P) (h : 1 ≤ r.2) : r.1 ∈ idsR P := by
  unfold idsR
  refine List.mem_flatMap.2 ⟨r, hr, ?_⟩
  unfold runI
  refine List.mem_map.2 ⟨0, List.mem_range.2 (by omega), ?_⟩
  simp
theorem mem_last {P : List ((Int × Int) × Int)} {r : (Int × Int) × Int} (hr : r ∈ P) (h : 1 ≤ r.2) : (r.1.1 + r.2 - 1, r.1.2) ∈ idsR P := by
  unfold idsR
  refine List.mem_flatMap.2 ⟨r, hr, ?_⟩
  unfold runI
  refine List.mem_map.2 ⟨(r.2 - 1).toNat, List.mem_range.2 (by omega), ?_⟩
  simp
  omega
theorem endF_none {l : List ((Int × Int) × Int)} {x : Int × Int} (h : endF l x = none) : ∀ r ∈ l, ¬ (r.1.2 = x.2 ∧ r.1.1 + r.2 = x.1) := fun r hr e => by
  obtain ⟨k, hk⟩ := List.getElem?_of_mem hr
  obtain ⟨j, hj⟩ := endF_ex hk e.1 e.2
  rw [h] at hj
  cases hj
theorem PF.grow {P : List ((Int × Int) × Int)} {C : List (Int × Int)} (h : PF P C) {x : Int × Int} (hx : ∀ y ∈ C, lexLt y x) : PF (growI P x) (C ++ [x]) := by
  have hperm : (idsR (growI P x)).Perm (C ++ [x]) := (grow_perm P x h.pos).trans ((h.perm.cons x).trans (List.perm_append_singleton x C).symm)
  have m1 : ∀ r ∈ P, lexLt r.1 x := fun r hr => hx _ (h.perm.mem_iff.1 (mem_first hr (h.pos r hr)))
  have m2 : ∀ r ∈ P, lexLt (r.1.1 + r.2 - 1, r.1.2) x := fun r hr => hx _ (h.perm.mem_iff.1 (mem_last hr (h.pos r hr)))
  cases he : endF P x with
  | none =>
    rw [growI_none he] at hperm ⊢
    refine ⟨hperm, fun r hr => ?_, ?_⟩
    · rcases List.mem_append.1 hr with hr | hr
      · exact h.pos r hr
      · simp at hr; subst hr; simp
    · rw [List.pairwise_append]
      refine ⟨h.pw, by simp, fun q hq r hr => ?_⟩
      simp at hr
      subst hr
      refine ⟨m1 q hq, fun e => ?_⟩
      have h2 := m2 q hq
      have h3 := endF_none he q hq
      unfold lexLt at h2
      simp only at h2 e
      rw [e] at h3
      simp only [true_and] at h3
      show q.1.1 + q.2 < x.1
      omega
  | some k =>
    obtain ⟨r, hr1, hr2, hr3, hg⟩ := growI_some he
    have hk := (List.getElem?_eq_some_iff.1 hr1).1
    rw [hg] at hperm ⊢
    have hrm := List.mem_of_getElem? hr1
    refine ⟨hperm, fun q hq => ?_, ?_⟩
    · rcases List.mem_or_eq_of_mem_set hq with hq | rfl
      · exact h.pos q hq
      · have := h.pos r hrm
        show 1 ≤ r.2 + 1
        omega
    · rw [List.pairwise_iff_getElem]
      intro i j hi hj hij
      have hw := List.pairwise_iff_getElem.1 h.pw
      simp only [List.length_set] at hi hj
      have hrk : P[k] = r := by rw [List.getElem?_eq_getElem hk] at hr1; simpa using hr1
      rw [List.getElem_set, List.getElem_set]
      split
      · rename_i e1
        subst e1
        rw [if_neg (by omega)]
        have h0 := hw k j hk hj hij
        rw [hrk] at h0
        refine ⟨h0.1, fun e => ?_⟩
        exfalso
        have h1 := h0.2 e
        have h2 := m1 P[j] (List.getElem_mem hj)
        unfold lexLt at h2
        simp only at e
        omega
      · split
        · rename_i e1 e2
          subst e2
          have h0 := hw i k (by omega) hk hij
          rw [hrk] at h0
          exact h0
        · exact hw i j hi hj hij
theorem pf_fold : ∀ (D C : List (Int × Int)) (P : List ((Int × Int) × Int)), PF P C → (C ++ D).Pairwise lexLt → PF (D.foldl growI P) (C ++ D)
  | [], C, P, h, _ => by simpa using h
  | x :: D, C, P, h, hp => by
    rw [List.foldl_cons]
    have hx : ∀ y ∈ C, lexLt y x := fun y hy => (List.pairwise_append.1 hp).2.2 y hy x (by simp)
    have := pf_fold D (C ++ [x]) (growI P x) (h.grow hx) (by simpa using hp)
    simpa using this
theorem packF_pf (l : List (Int × Int)) : PF (packF l) (canS l) := by
  have := pf_fold (canS l) [] [] ⟨by simp [idsR], (fun r hr => by cases hr), .nil⟩ (by simpa using (canS_spec l).1)
  unfold packF
  simpa using this

theorem badO_no {done : List ((Int × Int) × Int)} {r : (Int × Int) × Int} (h : ∀ q ∈ done, lexLt q.1 r.1) : badO done r = false := by
  unfold badO
  split
  · rfl
  · rename_i q hq
    have := h q (List.mem_of_getLast? hq)
    rw [decide_eq_false_iff_not, cmpI_ge]
    exact fun hh => hh this
theorem badF_no {done : List ((Int × Int) × Int)} {r : (Int × Int) × Int} (h : ∀ q ∈ done, q.1.2 = r.1.2 → q.1.1 + q.2 < r.1.1) : badF done r = false := by
  unfold badF
  rw [List.any_eq_false]
  intro q hq e
  simp at e
  have := h q hq e.1
  omega
theorem chkA_of : ∀ (l done : List ((Int × Int) × Int)), (∀ r ∈ l, isR r = true) → (done ++ l).Pairwise RunLt → chkA done l = 0
  | [], done, _, _ => rfl
  | r :: l, done, h, hp => by
    have hd := fun q hq => (List.pairwise_append.1 hp).2.2 q hq r (by simp)
    have h1 := badO_no (done := done) (r := r) (fun q hq => (hd q hq).1)
    have h2 := badF_no (done := done) (r := r) (fun q hq => (hd q hq).2)
    have h3 := h r (by simp)
    rw [chkA, if_neg (by rw [h3]; decide), if_neg (by rw [h1]; decide), if_neg (by rw [h2]; decide)]
    exact chkA_of l (done ++ [r]) (fun q hq => h q (by simp [hq])) (by simpa using hp)
theorem packF_isR (l : List (Int × Int)) : ∀ r ∈ packF l, isR r = true := fun r hr => by
  have h := packF_pf l
  have hp := h.pos r hr
  have h1 := ((canS_spec l).2 _).1 (h.perm.mem_iff.1 (mem_first hr hp))
  have h2 := ((canS_spec l).2 _).1 (h.perm.mem_iff.1 (mem_last hr hp))
  unfold isR
  rw [h1.2]
  have := isI_range h2.2
  simp
  omega
theorem packF_chk (l : List (Int × Int)) : chk (packF l) = 0 := chkA_of (packF l) [] (packF_isR l) (by simpa using (packF_pf l).pw)
theorem packF_mem (l : List (Int × Int)) (x : Int × Int) : x ∈ idsR (packF l) ↔ x ∈ l ∧ isI x = true := by
  rw [(packF_pf l).perm.mem_iff]
  exact (canS_spec l).2 x
theorem lex_nodup {l : List (Int × Int)} (h : l.Pairwise lexLt) : l.Nodup := h.imp fun {a b} hab e => by rw [e] at hab; exact lex_irrefl _ hab
theorem packF_nodup (l : List (Int × Int)) : (idsR (packF l)).Nodup := (packF_pf l).perm.nodup_iff.2 (lex_nodup (canS_spec l).1)
theorem dd_len : ∀ (m : List (Int × Int)) (last : Int × Int), (dd last m).length ≤ m.length
  | [], _ => by simp [dd]
  | x :: m, last => by
    rw [dd]
    split
    · have := dd_len m last
      simp
      omega
    · have := dd_len m x
      simp
      omega
theorem packF_len (l : List (Int × Int)) : (idsR (packF l)).length ≤ l.length := by
  rw [(packF_pf l).perm.length_eq]
  exact Nat.le_trans (dd_len _ _) (Nat.le_of_eq (sortI_perm l).length_eq)
theorem packF_same {l m : List (Int × Int)} (h : ∀ x, x ∈ m ↔ x ∈ l) : packF m = packF l := by
  unfold packF
  rw [show canS m = canS l from strict_ext _ _ (canS_spec m).1 (canS_spec l).1 (fun x => by rw [(canS_spec m).2 x, (canS_spec l).2 x, h x])]
theorem packF_all (l : List (Int × Int)) : packF (idsR (packF l)) = packF l := by
  unfold packF
  rw [show canS (idsR ((canS l).foldl growI [])) = canS l from strict_ext _ _ (canS_spec _).1 (canS_spec l).1 (fun x => by
    rw [(canS_spec _).2 x, (canS_spec l).2 x]
    have := packF_mem l x
    unfold packF at this
    rw [this]
    exact ⟨fun h => h.1, fun h => ⟨h, h.2⟩⟩)]
theorem any_inR {P : List ((Int × Int) × Int)} {x : Int × Int} : P.any (inR x) = true ↔ x ∈ idsR P := by
  rw [List.any_eq_true]
  unfold idsR
  rw [List.mem_flatMap]
  constructor
  · rintro ⟨r, hr, h⟩
    refine ⟨r, hr, ?_⟩
    unfold inR at h
    simp at h
    unfold runI
    refine List.mem_map.2 ⟨(x.1 - r.1.1).toNat, List.mem_range.2 (by omega), ?_⟩
    obtain ⟨x1, x2⟩ := x
    simp only at h ⊢
    rw [h.1]
    simp
    omega
  · rintro ⟨r, hr, h⟩
    refine ⟨r, hr, ?_⟩
    unfold runI at h
    obtain ⟨n, hn, e⟩ := List.mem_map.1 h
    rw [List.mem_range] at hn
    subst e
    unfold inR
    simp
    omega
theorem packF_has {l : List (Int × Int)} {x : Int × Int} (hx : x ∈ l) : hasR (packF l) x = isI x := by
  unfold hasR
  rw [packF_chk]
  simp only [decide_true, Bool.true_and]
  rw [Bool.eq_iff_iff, any_inR, packF_mem]
  exact ⟨fun h => h.2, fun h => ⟨hx, h⟩⟩
theorem packF_rise {l : List (Int × Int)} {i : Nat} {q r : (Int × Int) × Int} (hq : (packF l)[i]? = some q) (hr : (packF l)[i + 1]? = some r) : cmpI q.1 r.1 < 0 := by
  have hj := (List.getElem?_eq_some_iff.1 hr).1
  have hw := List.pairwise_iff_getElem.1 (packF_pf l).pw i (i + 1) (by omega) hj (by omega)
  rw [List.getElem?_eq_getElem (by omega)] at hq hr
  simp at hq hr
  rw [hq, hr] at hw
  have := @cmpI_ge q.1 r.1
  by_cases h : 0 ≤ cmpI q.1 r.1
  · exact absurd hw.1 (this.1 h)
  · omega

end Go.Proofs.Ytccggjhnjknblaa
