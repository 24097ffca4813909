/-
  A region that draws its order, by an invariant; the slots that it does not write are told behind it too.
-/
import Derived.Test.YtkndjbmlkfpfoaaGreatDoorZRegToRegI

set_option linter.unusedSimpArgs false
set_option linter.unusedVariables false
namespace Go.Proofs.YtkndjbmlkfpfoaaGreatDoor
open Go

theorem region_invB {P : Program} {ops : Array Oper} {Q : Exit → Act → World → Prop} (N : Nat) (D : Nat → Nat) (base : List (Nat × Value)) (J : World → Prop) (V : Nat → World → Value → Prop) (G : World → World → Prop)
    (hfit : regionFits ops N D (base.map (·.1)) = true)
    (hJ : ∀ w w', J w → G w w' → J w') (hV : ∀ j w w' v, J w → V j w v → G w w' → V j w' v)
    (gs : List (Nat × Bool)) (hgs : ops.all (fun o => match o.guard with | none => true | some p => gs.contains p) = true) (hgv : ∀ p ∈ gs, ∀ w v, V p.1 w v → v = .bool p.2)
    (hstep : StepsAll (fun i o => ∀ ρ w, FrameLike ρ → J w → (∀ p ∈ base, ρ (.tmp p.1) = p.2) → (∀ (k : Nat) (e : Edge), o.after[k]? = some e → Region.binds .any e = true → V e.on w (ρ (.tmp (D e.on)))) → StepOK P o ρ w (fun v w' => G w w' ∧ V i w' v)) 0 ops.toList)
    (hfin : ∀ a w, a.tmps.size = N → a.defers = [] → (∀ p ∈ base, a.eval (.tmp p.1) = p.2) → J w → (∀ j, j < ops.size → V j w (a.eval (.tmp (D j)))) → Q .normal a w) :
    ∀ a w, a.tmps.size = N → a.defers = [] → (∀ p ∈ base, a.eval (.tmp p.1) = p.2) → J w → wpAny P .any ops Q ops.size (Array.replicate ops.size false) a w := by
  have hg : ∀ (i : Nat) (o : Oper), ops[i]? = some o → ∀ g b, o.guard = some (g, b) → ∀ w v, V g w v → v = .bool b := by
    intro i o ho g b hgb
    have h := Array.all_eq_true_iff_forall_mem.1 hgs o (Array.mem_of_getElem? ho)
    simp only [hgb] at h
    exact hgv (g, b) (by simpa using h)
  have fits : ∀ i o, ops[i]? = some o → o.dst = some (D i) ∧ D i < N ∧ (∀ p ∈ base, p.1 ≠ D i) ∧ (∀ j, j < ops.size → D j = D i → j = i) ∧ (∀ e ∈ o.after, e.on < i) ∧ ∀ g b, o.guard = some (g, b) → ∃ e ∈ o.after, e.on = g ∧ Region.binds .any e = true := by
    intro i o ho
    have hi := (Array.getElem?_eq_some_iff.1 ho).1
    have h := List.all_eq_true.1 hfit i (List.mem_range.2 hi)
    simp only [ho, Bool.and_eq_true] at h
    obtain ⟨⟨⟨⟨⟨h1, h2⟩, h3⟩, h4⟩, h5⟩, h6⟩ := h
    refine ⟨by simpa using h1, by simpa using h2, fun p hp e => ?_, fun j hj e => ?_, fun e he => ?_, fun g b hgb => ?_⟩
    · simp at h3
      exact h3 p.2 (by rw [← e]; exact hp)
    · have := List.all_eq_true.1 h4 j (List.mem_range.2 hj)
      simp [e] at this
      exact this
    · have := Array.all_eq_true_iff_forall_mem.1 h5 e he
      simpa using this
    · rw [hgb] at h6
      obtain ⟨e, he, hb⟩ := Array.any_eq_true'.1 h6
      simp at hb
      exact ⟨e, he, hb.1, hb.2⟩
  have main : ∀ fuel listed a w, unlisted listed ≤ fuel → RInv ops.size N D base J V listed a w → wpAny P .any ops Q fuel listed a w := by
    have hdone : ∀ listed a w, RInv ops.size N D base J V listed a w → Region.ready .any ops listed = [] → Q .normal a w := by
      intro listed a w hI hr
      refine hfin a w hI.size hI.defers hI.base hI.world fun j hj => hI.vals j ?_
      have all : ∀ m j, j < m → j < ops.size → listed.getD j false = true := by
        intro m
        induction m with
        | zero => intro j h; omega
        | succ m ih =>
          intro j _ hj
          by_cases hjm : j < m
          · exact ih j hjm hj
          · obtain ⟨o, ho⟩ : ∃ o, ops[j]? = some o := ⟨_, Array.getElem?_eq_getElem hj⟩
            by_cases hl : listed.getD j true = false
            · exfalso
              have : j ∈ Region.ready .any ops listed := by
                refine mem_ready.2 ⟨hl, o, ho, fun e he hb => ?_⟩
                have := (fits j o ho).2.2.2.2.1 e he
                exact ih e.on (by omega) (by omega)
              rw [hr] at this
              cases this
            · have hl2 : j < listed.size := by rw [hI.lsize]; exact hj
              simp [hl2] at hl ⊢
              exact hl
      exact all (j + 1) j (by omega) hj
    intro fuel
    induction fuel with
    | zero =>
      intro listed a w hf hI
      have hr : Region.ready .any ops listed = [] := by
        cases h : Region.ready .any ops listed with
        | nil => rfl
        | cons i rs =>
          exfalso
          obtain ⟨o, ho, h0, _⟩ := ready_lt (md := .any) (ops := ops) (listed := listed) (i := i) (by rw [h]; simp)
          have := unlisted_set h0
          omega
      exact ⟨hr, hdone listed a w hI hr⟩
    | succ fuel ih =>
      intro listed a w hf hI
      refine ⟨hdone listed a w hI, fun i hi => ?_⟩
      obtain ⟨o, ho, h0, hall⟩ := ready_lt hi
      obtain ⟨f1, f2, f3, f4, f5, f6⟩ := fits i o ho
      have hii := (Array.getElem?_eq_some_iff.1 ho).1
      have hS := hstep.get (j := i) (o := o) (by simpa using ho)
      rw [Nat.zero_add] at hS
      have hdep : ∀ (k : Nat) (e : Edge), o.after[k]? = some e → Region.binds .any e = true → V e.on w (a.eval (.tmp (D e.on))) := fun k e he hb => hI.vals e.on (hall e (Array.mem_of_getElem? he) hb)
      have hst := hS a.eval w ⟨fun _ => rfl, fun _ => rfl⟩ hI.world hI.base hdep
      have hw : Region.wanted o (yielded ops a.tmps) = true := by
        unfold Region.wanted
        cases hgd : o.guard with
        | none => rfl
        | some gb =>
          obtain ⟨g, b⟩ := gb
          obtain ⟨e, he, heg, hb⟩ := f6 g b hgd
          have hv := hI.vals e.on (hall e he hb)
          rw [heg] at hv
          have hb2 := hg i o ho g b hgd w _ hv
          have hgi : g < i := by rw [← heg]; exact f5 e he
          obtain ⟨og, hog⟩ : ∃ og, ops[g]? = some og := ⟨_, Array.getElem?_eq_getElem (by omega)⟩
          obtain ⟨g1, g2, _⟩ := fits g og hog
          have hlt : D g < a.tmps.size := by rw [hI.size]; exact g2
          have : yielded ops a.tmps g = some b := by
            unfold yielded
            simp only [hog, Option.bind_some, g1, eval_some hlt, hb2]
          simp [this]
      unfold wpOp
      simp only [ho, hw, if_true]
      refine .inl (hst.wp fun v w' hR => ?_)
      obtain ⟨hG, hVi⟩ := hR
      refine ih _ _ _ (by have := unlisted_set h0; omega) ?_
      have hDi : D i < a.tmps.size := by rw [hI.size]; exact f2
      rw [f1]
      refine ⟨by simpa using hI.lsize, by simpa [Act.put] using hI.size, by simpa [Act.put] using hI.defers, fun p hp => ?_, hJ w w' hI.world hG, fun j hj => ?_⟩
      · rw [Act.eval_put (fun d hd e => f3 p hp (by simp at hd e; rw [e, hd]))]
        exact hI.base p hp
      · by_cases hji : j = i
        · subst hji
          rw [eval_put_self hDi]
          exact hVi
        · rw [getD_set_ne false (Ne.symm hji)] at hj
          have hjl : j < ops.size := by
            rw [← hI.lsize]
            rcases Nat.lt_or_ge j listed.size with h' | h'
            · exact h'
            · simp [Array.getElem?_eq_none h'] at hj
          rw [Act.eval_put (fun d hd e => hji (f4 j hjl (by simp at hd e; rw [e, hd])))]
          exact hV j w w' _ hI.world (hI.vals j hj) hG
  intro a w h1 h2 h3 h4
  refine main ops.size _ a w ?_ ⟨by simp, h1, h2, h3, h4, fun j hj => ?_⟩
  · have : unlisted (Array.replicate ops.size false) ≤ ops.size := by
      unfold unlisted
      refine Nat.le_trans (List.countP_le_length) (by simp)
    exact this
  · exfalso
    by_cases h : j < ops.size
    · simp [h] at hj
    · simp [h] at hj


end Go.Proofs.YtkndjbmlkfpfoaaGreatDoor

/-
  A region that draws its order, by an invariant, where its last operation writes a slot that it reads ahead of that, and each is told what has been done.
-/
set_option linter.unusedSimpArgs false
set_option linter.unusedVariables false
namespace Go.Proofs.YtkndjbmlkfpfoaaGreatDoor
open Go

structure RInvL (ops : Array Oper) (N : Nat) (D : Nat → Nat) (base : List (Nat × Value)) (u : Value) (J : (Nat → Bool) → World → Prop) (V : Nat → World → Value → Prop) (listed : Array Bool) (a : Act) (w : World) : Prop where
  lsize : listed.size = ops.size
  size : a.tmps.size = N
  defers : a.defers = []
  base : ∀ p ∈ base, a.eval (.tmp p.1) = p.2
  old : listed.getD (ops.size - 1) false = false → a.eval (.tmp (D (ops.size - 1))) = u
  down : ∀ (i : Nat) (o : Oper), ops[i]? = some o → listed.getD i false = true → ∀ e ∈ o.after, Region.binds .any e = true → listed.getD e.on false = true
  world : J (fun q => listed.getD q false) w
  vals : ∀ j, listed.getD j false = true → V j w (a.eval (.tmp (D j)))

/-- whatever is done is done ahead of the last one -/
def lastLast (ops : Array Oper) : Bool :=
  (List.range (ops.size - 1)).all fun i => (List.range ops.size).any fun j => match ops[j]? with
    | none => false
    | some o => decide (i < j) && o.after.any fun e => e.on == i && Region.binds .any e

theorem last_all {ops : Array Oper} (hl : lastLast ops = true) {listed : Array Bool} (down : ∀ (i : Nat) (o : Oper), ops[i]? = some o → listed.getD i false = true → ∀ e ∈ o.after, Region.binds .any e = true → listed.getD e.on false = true) (h : listed.getD (ops.size - 1) false = true) : ∀ (k i : Nat), i + k = ops.size - 1 → listed.getD i false = true := by
  intro k
  induction k using Nat.strongRecOn with
  | _ k ih =>
    intro i hi
    by_cases hk : k = 0
    · subst hk; rw [show i = ops.size - 1 by omega]; exact h
    · have h1 := List.all_eq_true.1 hl i (List.mem_range.2 (by omega))
      obtain ⟨j, hj, h2⟩ := List.any_eq_true.1 h1
      have hj := List.mem_range.1 hj
      cases ho : ops[j]? with
      | none => simp [ho] at h2
      | some o =>
        simp only [ho, Bool.and_eq_true, decide_eq_true_eq] at h2
        obtain ⟨e, he, hb⟩ := Array.any_eq_true'.1 h2.2
        simp at hb
        have := down j o ho (ih (ops.size - 1 - j) (by omega) j (by omega)) e he hb.2
        rw [hb.1] at this
        exact this

theorem region_last {P : Program} {ops : Array Oper} {Q : Exit → Act → World → Prop} (N : Nat) (D : Nat → Nat) (base : List (Nat × Value)) (u : Value) (J : (Nat → Bool) → World → Prop) (V : Nat → World → Value → Prop) (G : World → World → Prop)
    (hfit : regionFits ops N D (base.map (·.1)) = true)
    (hlast : lastLast ops = true) (hV : ∀ j f w w' v, J f w → V j w v → G w w' → V j w' v)
    (gs : List (Nat × Bool)) (hgs : ops.all (fun o => match o.guard with | none => true | some p => gs.contains p) = true) (hgv : ∀ p ∈ gs, ∀ w v, V p.1 w v → v = .bool p.2)
    (hstep : StepsAll (fun i o => ∀ f ρ w, (∀ q, q = i ∨ depOn ops q i = true → f q = false) → (∀ (k : Nat) (e : Edge), o.after[k]? = some e → Region.binds .any e = true → f e.on = true) → FrameLike ρ → J f w → ρ (.tmp (D (ops.size - 1))) = u → (∀ p ∈ base, ρ (.tmp p.1) = p.2) → (∀ (k : Nat) (e : Edge), o.after[k]? = some e → Region.binds .any e = true → V e.on w (ρ (.tmp (D e.on)))) → StepOK P o ρ w (fun v w' => G w w' ∧ J (fun q => f q || q == i) w' ∧ V i w' v)) 0 ops.toList)
    (hfin : ∀ a w, a.tmps.size = N → a.defers = [] → (∀ p ∈ base, a.eval (.tmp p.1) = p.2) → (∃ f, (∀ q, q < ops.size → f q = true) ∧ J f w) → (∀ j, j < ops.size → V j w (a.eval (.tmp (D j)))) → Q .normal a w) :
    ∀ a w, a.tmps.size = N → a.defers = [] → (∀ p ∈ base, a.eval (.tmp p.1) = p.2) → a.eval (.tmp (D (ops.size - 1))) = u → J (fun _ => false) w → wpAny P .any ops Q ops.size (Array.replicate ops.size false) a w := by
  have hg : ∀ (i : Nat) (o : Oper), ops[i]? = some o → ∀ g b, o.guard = some (g, b) → ∀ w v, V g w v → v = .bool b := by
    intro i o ho g b hgb
    have h := Array.all_eq_true_iff_forall_mem.1 hgs o (Array.mem_of_getElem? ho)
    simp only [hgb] at h
    exact hgv (g, b) (by simpa using h)
  have fits : ∀ i o, ops[i]? = some o → o.dst = some (D i) ∧ D i < N ∧ (∀ p ∈ base, p.1 ≠ D i) ∧ (∀ j, j < ops.size → D j = D i → j = i) ∧ (∀ e ∈ o.after, e.on < i) ∧ ∀ g b, o.guard = some (g, b) → ∃ e ∈ o.after, e.on = g ∧ Region.binds .any e = true := by
    intro i o ho
    have hi := (Array.getElem?_eq_some_iff.1 ho).1
    have h := List.all_eq_true.1 hfit i (List.mem_range.2 hi)
    simp only [ho, Bool.and_eq_true] at h
    obtain ⟨⟨⟨⟨⟨h1, h2⟩, h3⟩, h4⟩, h5⟩, h6⟩ := h
    refine ⟨by simpa using h1, by simpa using h2, fun p hp e => ?_, fun j hj e => ?_, fun e he => ?_, fun g b hgb => ?_⟩
    · simp at h3
      exact h3 p.2 (by rw [← e]; exact hp)
    · have := List.all_eq_true.1 h4 j (List.mem_range.2 hj)
      simp [e] at this
      exact this
    · have := Array.all_eq_true_iff_forall_mem.1 h5 e he
      simpa using this
    · rw [hgb] at h6
      obtain ⟨e, he, hb⟩ := Array.any_eq_true'.1 h6
      simp at hb
      exact ⟨e, he, hb.1, hb.2⟩
  have main : ∀ fuel listed a w, unlisted listed ≤ fuel → RInvL ops N D base u J V listed a w → wpAny P .any ops Q fuel listed a w := by
    have hdone : ∀ listed a w, RInvL ops N D base u J V listed a w → Region.ready .any ops listed = [] → Q .normal a w := by
      intro listed a w hI hr
      have all : ∀ m j, j < m → j < ops.size → listed.getD j false = true := by
        intro m
        induction m with
        | zero => intro j h; omega
        | succ m ih =>
          intro j _ hj
          by_cases hjm : j < m
          · exact ih j hjm hj
          · obtain ⟨o, ho⟩ : ∃ o, ops[j]? = some o := ⟨_, Array.getElem?_eq_getElem hj⟩
            by_cases hl : listed.getD j true = false
            · exfalso
              have : j ∈ Region.ready .any ops listed := by
                refine mem_ready.2 ⟨hl, o, ho, fun e he hb => ?_⟩
                have := (fits j o ho).2.2.2.2.1 e he
                exact ih e.on (by omega) (by omega)
              rw [hr] at this
              cases this
            · have hl2 : j < listed.size := by rw [hI.lsize]; exact hj
              simp [hl2] at hl ⊢
              exact hl
      exact hfin a w hI.size hI.defers hI.base ⟨_, fun q hq => all (q + 1) q (by omega) hq, hI.world⟩ fun j hj => hI.vals j (all (j + 1) j (by omega) hj)
    intro fuel
    induction fuel with
    | zero =>
      intro listed a w hf hI
      have hr : Region.ready .any ops listed = [] := by
        cases h : Region.ready .any ops listed with
        | nil => rfl
        | cons i rs =>
          exfalso
          obtain ⟨o, ho, h0, _⟩ := ready_lt (md := .any) (ops := ops) (listed := listed) (i := i) (by rw [h]; simp)
          have := unlisted_set h0
          omega
      exact ⟨hr, hdone listed a w hI hr⟩
    | succ fuel ih =>
      intro listed a w hf hI
      refine ⟨hdone listed a w hI, fun i hi => ?_⟩
      obtain ⟨o, ho, h0, hall⟩ := ready_lt hi
      obtain ⟨f1, f2, f3, f4, f5, f6⟩ := fits i o ho
      have hii := (Array.getElem?_eq_some_iff.1 ho).1
      have hS := hstep.get (j := i) (o := o) (by simpa using ho)
      rw [Nat.zero_add] at hS
      have hdep : ∀ (k : Nat) (e : Edge), o.after[k]? = some e → Region.binds .any e = true → V e.on w (a.eval (.tmp (D e.on))) := fun k e he hb => hI.vals e.on (hall e (Array.mem_of_getElem? he) hb)
      have hil : listed.getD i false = false := by
        have hi3 : i < listed.size := by rw [hI.lsize]; exact hii
        simp [hi3] at h0 ⊢
        exact h0
      have hnl : listed.getD (ops.size - 1) false = false := by
        cases hx : listed.getD (ops.size - 1) false with
        | false => rfl
        | true =>
          have := last_all hlast hI.down hx (ops.size - 1 - i) i (by omega)
          rw [hil] at this; cases this
      have hmf : ∀ q, q = i ∨ depOn ops q i = true → listed.getD q false = false := by
        rintro q (e | hdp)
        · rw [e]; exact hil
        · unfold depOn at hdp
          cases hom : ops[q]? with
          | none => simp [hom] at hdp
          | some om =>
            simp only [hom] at hdp
            obtain ⟨e, he, hb⟩ := Array.any_eq_true'.1 hdp
            simp at hb
            cases hx : listed.getD q false with
            | false => rfl
            | true =>
              have := hI.down q om hom hx e he hb.1
              rw [hb.2, hil] at this
              cases this
      have hst := hS (fun q => listed.getD q false) a.eval w hmf (fun k e he hb => hall e (Array.mem_of_getElem? he) hb) ⟨fun _ => rfl, fun _ => rfl⟩ hI.world (hI.old hnl) hI.base hdep
      have hw : Region.wanted o (yielded ops a.tmps) = true := by
        unfold Region.wanted
        cases hgd : o.guard with
        | none => rfl
        | some gb =>
          obtain ⟨g, b⟩ := gb
          obtain ⟨e, he, heg, hb⟩ := f6 g b hgd
          have hv := hI.vals e.on (hall e he hb)
          rw [heg] at hv
          have hb2 := hg i o ho g b hgd w _ hv
          have hgi : g < i := by rw [← heg]; exact f5 e he
          obtain ⟨og, hog⟩ : ∃ og, ops[g]? = some og := ⟨_, Array.getElem?_eq_getElem (by omega)⟩
          obtain ⟨g1, g2, _⟩ := fits g og hog
          have hlt : D g < a.tmps.size := by rw [hI.size]; exact g2
          have : yielded ops a.tmps g = some b := by
            unfold yielded
            simp only [hog, Option.bind_some, g1, eval_some hlt, hb2]
          simp [this]
      unfold wpOp
      simp only [ho, hw, if_true]
      refine .inl (hst.wp fun v w' hR => ?_)
      obtain ⟨hG, hJi, hVi⟩ := hR
      refine ih _ _ _ (by have := unlisted_set h0; omega) ?_
      have hDi : D i < a.tmps.size := by rw [hI.size]; exact f2
      rw [f1]
      refine ⟨by simpa using hI.lsize, by simpa [Act.put] using hI.size, by simpa [Act.put] using hI.defers, fun p hp => ?_, fun hol => ?_, fun i' o' ho' hl' e he hb => ?_, ?_, fun j hj => ?_⟩
      · rw [Act.eval_put (fun d hd e => f3 p hp (by simp at hd e; rw [e, hd]))]
        exact hI.base p hp
      · by_cases hin : ops.size - 1 = i
        · exfalso
          rw [hin] at hol
          have hi3 : i < listed.size := by rw [hI.lsize]; exact hii
          simp [hi3] at hol
        · rw [Act.eval_put (fun d hd e => hin (f4 (ops.size - 1) (by omega) (by simp at hd e; rw [e, hd])))]
          rw [getD_set_ne false (Ne.symm hin)] at hol
          exact hI.old hol
      · have up : ∀ q, listed.getD q false = true → (listed.setIfInBounds i true).getD q false = true := fun q hq => by
          by_cases hqi : q = i
          · subst hqi; rw [hil] at hq; cases hq
          · rw [getD_set_ne false (Ne.symm hqi)]; exact hq
        by_cases hii' : i' = i
        · subst hii'
          rw [ho] at ho'; cases ho'
          exact up _ (hall e he hb)
        · rw [getD_set_ne false (Ne.symm hii')] at hl'
          exact up _ (hI.down i' o' ho' hl' e he hb)
      · have ef : (fun q => (listed.setIfInBounds i true).getD q false) = fun q => (fun q => listed.getD q false) q || q == i := by
          funext q
          by_cases hqi : q = i
          · subst hqi
            have hi3 : q < listed.size := by rw [hI.lsize]; exact hii
            simp [hi3]
          · rw [getD_set_ne false (Ne.symm hqi)]
            simp [hqi]
        rw [ef]; exact hJi
      · by_cases hji : j = i
        · subst hji
          rw [eval_put_self hDi]
          exact hVi
        · rw [getD_set_ne false (Ne.symm hji)] at hj
          have hjl : j < ops.size := by
            rw [← hI.lsize]
            rcases Nat.lt_or_ge j listed.size with h' | h'
            · exact h'
            · simp [Array.getElem?_eq_none h'] at hj
          rw [Act.eval_put (fun d hd e => hji (f4 j hjl (by simp at hd e; rw [e, hd])))]
          exact hV j _ w w' _ hI.world (hI.vals j hj) hG
  have none' : ∀ j, (Array.replicate ops.size false).getD j false = false := fun j => by
    by_cases h : j < ops.size
    · simp [h]
    · simp [h]
  intro a w h1 h2 h3 h5 h4
  refine main ops.size _ a w ?_ ⟨by simp, h1, h2, h3, fun _ => h5, fun i o _ hl => ?_, by rw [show (fun q => (Array.replicate ops.size false).getD q false) = fun _ => false from funext none']; exact h4, fun j hj => ?_⟩
  · have : unlisted (Array.replicate ops.size false) ≤ ops.size := by
      unfold unlisted
      refine Nat.le_trans (List.countP_le_length) (by simp)
    exact this
  · rw [none'] at hl; cases hl
  · rw [none'] at hj; cases hj


end Go.Proofs.YtkndjbmlkfpfoaaGreatDoor
