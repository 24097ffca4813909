/-
  A region that draws its order, by an invariant: what each operation leaves in its slot holds in whatever order they come.
-/
import Derived.Test.YteomalmflebkhaaRows
import Derived.Orders
import Derived.Below
set_option linter.unusedSimpArgs false
set_option linter.unusedVariables false
namespace Go.Proofs.Yteomalmflebkhaa
open Go

/-- what an operation does, over whatever frame: it yields, or it calls -/
def StepOK (P : Program) (o : Oper) (ρ : Operand → Value) (w : World) (R : Value → World → Prop) : Prop :=
  (∃ v w', (execOp ρ o).run P w = .ok (.value v) w' ∧ R v w') ∨ ∃ f args w', (execOp ρ o).run P w = .ok (.enter f args) w' ∧ Calls P f args w' fun e w'' => ∃ v, e = .returned v ∧ R v w''

theorem StepOK.wp {P : Program} {o : Oper} {a : Act} {w : World} {R : Value → World → Prop} {K : Act → World → Prop} {Q : Exit → Act → World → Prop} (h : StepOK P o a.eval w R) (hK : ∀ v w', R v w' → K (a.put o.dst v) w') : o.wp P a w K Q := by
  unfold Oper.wp
  rcases h with ⟨v, w', e, r⟩ | ⟨f, args, w', e, hc⟩
  · rw [e]; exact hK v w' r
  · rw [e]
    refine Calls.mono hc fun e' w'' he => ?_
    obtain ⟨v, rfl, r⟩ := he
    exact hK v w'' r

/-- a frame's reading of what is no slot -/
structure FrameLike (ρ : Operand → Value) : Prop where
  func : ∀ f, ρ (.func f) = .func (.func f) #[] #[]
  const : ∀ v, ρ (.const v) = v

def StepsAll (S : Nat → Oper → Prop) : Nat → List Oper → Prop
  | _, [] => True
  | i, o :: os => S i o ∧ StepsAll S (i + 1) os
theorem StepsAll.nil {S : Nat → Oper → Prop} (i : Nat) : StepsAll S i [] := trivial
theorem StepsAll.cons {S : Nat → Oper → Prop} {i : Nat} {o : Oper} {os : List Oper} (h : S i o) (hs : StepsAll S (i + 1) os) : StepsAll S i (o :: os) := ⟨h, hs⟩

theorem StepsAll.get {S : Nat → Oper → Prop} : ∀ {l : List Oper} {i : Nat} (h : StepsAll S i l) {j : Nat} {o : Oper}, l[j]? = some o → S (i + j) o
  | [], i, h, j, o, e => by simp at e
  | x :: l, i, h, 0, o, e => by simp at e; subst e; exact h.1
  | x :: l, i, h, j + 1, o, e => by
    have := StepsAll.get (l := l) h.2 (j := j) (o := o) (by simpa using e)
    rwa [Nat.add_assoc, Nat.add_comm 1 j] at this

/-- the region's own shape: slots apart, edges back, guards among the edges -/
def regionFits (ops : Array Oper) (N : Nat) (D : Nat → Nat) (slots : List Nat) : Bool :=
  (List.range ops.size).all fun i => match ops[i]? with
    | none => false
    | some o => o.dst == some (D i) && decide (D i < N) && !slots.contains (D i) && (List.range ops.size).all (fun j => j == i || D j != D i) && o.after.all (fun e => decide (e.on < i)) &&
      match o.guard with
      | none => true
      | some (g, _) => o.after.any fun e => e.on == g && Region.binds .any e

theorem eval_put_self {a : Act} {t : Nat} {v : Value} (h : t < a.tmps.size) : (a.put (some t) v).eval (.tmp t) = v := by
  simp [Act.put, Act.eval, h]

theorem eval_some {a : Act} {t : Nat} (h : t < a.tmps.size) : a.tmps[t]? = some (a.eval (.tmp t)) := by
  simp [Act.eval, h]

structure RInv (n N : Nat) (D : Nat → Nat) (base : List (Nat × Value)) (J : World → Prop) (V : Nat → World → Value → Prop) (listed : Array Bool) (a : Act) (w : World) : Prop where
  lsize : listed.size = n
  size : a.tmps.size = N
  defers : a.defers = []
  base : ∀ p ∈ base, a.eval (.tmp p.1) = p.2
  world : J w
  vals : ∀ j, listed.getD j false = true → V j w (a.eval (.tmp (D j)))

def unlisted (l : Array Bool) : Nat := l.toList.countP (fun b => !b)

theorem countP_set : ∀ (xs : List Bool) (i : Nat), xs[i]? = some false → (xs.set i true).countP (fun b => !b) + 1 = xs.countP (fun b => !b)
  | [], _, h => by simp at h
  | x :: xs, 0, h => by simp at h; subst h; simp
  | x :: xs, i + 1, h => by
    have := countP_set xs i (by simpa using h)
    rw [List.set_cons_succ, List.countP_cons, List.countP_cons]
    omega

theorem unlisted_set {l : Array Bool} {i : Nat} (h : l.getD i true = false) : unlisted (l.setIfInBounds i true) + 1 = unlisted l := by
  have hi : i < l.size := by
    rcases Nat.lt_or_ge i l.size with h' | h'
    · exact h'
    · simp [Array.getElem?_eq_none h'] at h
  have hv : l[i] = false := by simpa [hi] using h
  unfold unlisted
  rw [Array.toList_setIfInBounds]
  refine countP_set _ _ ?_
  simp [hi, hv]

theorem ready_lt {ops : Array Oper} {listed : Array Bool} {md : Region.Mode} {i : Nat} (h : i ∈ Region.ready md ops listed) : ∃ o, ops[i]? = some o ∧ listed.getD i true = false ∧ ∀ e ∈ o.after, Region.binds md e = true → listed.getD e.on false = true := by
  obtain ⟨h0, o, ho, hall⟩ := mem_ready.1 h
  exact ⟨o, ho, h0, hall⟩

theorem region_inv {P : Program} {ops : Array Oper} {Q : Exit → Act → World → Prop} (N : Nat) (D : Nat → Nat) (base : List (Nat × Value)) (J : World → Prop) (V : Nat → World → Value → Prop) (G : World → World → Prop)
    (hfit : regionFits ops N D (base.map (·.1)) = true)
    (hJ : ∀ w w', J w → G w w' → J w') (hV : ∀ j w w' v, J w → V j w v → G w w' → V j w' v)
    (gs : List (Nat × Bool)) (hgs : ops.all (fun o => match o.guard with | none => true | some p => gs.contains p) = true) (hgv : ∀ p ∈ gs, ∀ w v, V p.1 w v → v = .bool p.2)
    (hstep : StepsAll (fun i o => ∀ ρ w, FrameLike ρ → J w → (∀ p ∈ base, ρ (.tmp p.1) = p.2) → (∀ (k : Nat) (e : Edge), o.after[k]? = some e → Region.binds .any e = true → V e.on w (ρ (.tmp (D e.on)))) → StepOK P o ρ w (fun v w' => G w w' ∧ V i w' v)) 0 ops.toList)
    (hfin : ∀ a w, a.tmps.size = N → a.defers = [] → J w → (∀ j, j < ops.size → V j w (a.eval (.tmp (D j)))) → Q .normal a w) :
    ∀ a w, a.tmps.size = N → a.defers = [] → (∀ p ∈ base, a.eval (.tmp p.1) = p.2) → J w → wpAny P .any ops Q ops.size (Array.replicate ops.size false) a w := by
  have hg : ∀ (i : Nat) (o : Oper), ops[i]? = some o → ∀ g b, o.guard = some (g, b) → ∀ w v, V g w v → v = .bool b := by
    intro i o ho g b hgb
    have h := Array.all_eq_true_iff_forall_mem.1 hgs o (Array.mem_of_getElem? ho)
    simp only [hgb] at h
    exact hgv (g, b) (by simpa using h)
  have fits : ∀ i o, ops[i]? = some o → o.dst = some (D i) ∧ D i < N ∧ (∀ p ∈ base, p.1 ≠ D i) ∧ (∀ j, j < ops.size → D j = D i → j = i) ∧ (∀ e ∈ o.after, e.on < i) ∧ ∀ g b, o.guard = some (g, b) → ∃ e ∈ o.after, e.on = g ∧ Region.binds .any e = true := by
    intro i o ho
    have hi := (Array.getElem?_eq_some_iff.1 ho).1
    have h := List.all_eq_true.1 hfit i (List.mem_range.2 hi)
    simp only [ho, Bool.and_eq_true] at h
    obtain ⟨⟨⟨⟨⟨h1, h2⟩, h3⟩, h4⟩, h5⟩, h6⟩ := h
    refine ⟨by simpa using h1, by simpa using h2, fun p hp e => ?_, fun j hj e => ?_, fun e he => ?_, fun g b hgb => ?_⟩
    · simp at h3
      exact h3 p.2 (by rw [← e]; exact hp)
    · have := List.all_eq_true.1 h4 j (List.mem_range.2 hj)
      simp [e] at this
      exact this
    · have := Array.all_eq_true_iff_forall_mem.1 h5 e he
      simpa using this
    · rw [hgb] at h6
      obtain ⟨e, he, hb⟩ := Array.any_eq_true'.1 h6
      simp at hb
      exact ⟨e, he, hb.1, hb.2⟩
  have main : ∀ fuel listed a w, unlisted listed ≤ fuel → RInv ops.size N D base J V listed a w → wpAny P .any ops Q fuel listed a w := by
    have hdone : ∀ listed a w, RInv ops.size N D base J V listed a w → Region.ready .any ops listed = [] → Q .normal a w := by
      intro listed a w hI hr
      refine hfin a w hI.size hI.defers hI.world fun j hj => hI.vals j ?_
      have all : ∀ m j, j < m → j < ops.size → listed.getD j false = true := by
        intro m
        induction m with
        | zero => intro j h; omega
        | succ m ih =>
          intro j _ hj
          by_cases hjm : j < m
          · exact ih j hjm hj
          · obtain ⟨o, ho⟩ : ∃ o, ops[j]? = some o := ⟨_, Array.getElem?_eq_getElem hj⟩
            by_cases hl : listed.getD j true = false
            · exfalso
              have : j ∈ Region.ready .any ops listed := by
                refine mem_ready.2 ⟨hl, o, ho, fun e he hb => ?_⟩
                have := (fits j o ho).2.2.2.2.1 e he
                exact ih e.on (by omega) (by omega)
              rw [hr] at this
              cases this
            · have hl2 : j < listed.size := by rw [hI.lsize]; exact hj
              simp [hl2] at hl ⊢
              exact hl
      exact all (j + 1) j (by omega) hj
    intro fuel
    induction fuel with
    | zero =>
      intro listed a w hf hI
      have hr : Region.ready .any ops listed = [] := by
        cases h : Region.ready .any ops listed with
        | nil => rfl
        | cons i rs =>
          exfalso
          obtain ⟨o, ho, h0, _⟩ := ready_lt (md := .any) (ops := ops) (listed := listed) (i := i) (by rw [h]; simp)
          have := unlisted_set h0
          omega
      exact ⟨hr, hdone listed a w hI hr⟩
    | succ fuel ih =>
      intro listed a w hf hI
      refine ⟨hdone listed a w hI, fun i hi => ?_⟩
      obtain ⟨o, ho, h0, hall⟩ := ready_lt hi
      obtain ⟨f1, f2, f3, f4, f5, f6⟩ := fits i o ho
      have hii := (Array.getElem?_eq_some_iff.1 ho).1
      have hS := hstep.get (j := i) (o := o) (by simpa using ho)
      rw [Nat.zero_add] at hS
      have hdep : ∀ (k : Nat) (e : Edge), o.after[k]? = some e → Region.binds .any e = true → V e.on w (a.eval (.tmp (D e.on))) := fun k e he hb => hI.vals e.on (hall e (Array.mem_of_getElem? he) hb)
      have hst := hS a.eval w ⟨fun _ => rfl, fun _ => rfl⟩ hI.world hI.base hdep
      have hw : Region.wanted o (yielded ops a.tmps) = true := by
        unfold Region.wanted
        cases hgd : o.guard with
        | none => rfl
        | some gb =>
          obtain ⟨g, b⟩ := gb
          obtain ⟨e, he, heg, hb⟩ := f6 g b hgd
          have hv := hI.vals e.on (hall e he hb)
          rw [heg] at hv
          have hb2 := hg i o ho g b hgd w _ hv
          have hgi : g < i := by rw [← heg]; exact f5 e he
          obtain ⟨og, hog⟩ : ∃ og, ops[g]? = some og := ⟨_, Array.getElem?_eq_getElem (by omega)⟩
          obtain ⟨g1, g2, _⟩ := fits g og hog
          have hlt : D g < a.tmps.size := by rw [hI.size]; exact g2
          have : yielded ops a.tmps g = some b := by
            unfold yielded
            simp only [hog, Option.bind_some, g1, eval_some hlt, hb2]
          simp [this]
      unfold wpOp
      simp only [ho, hw, if_true]
      refine .inl (hst.wp fun v w' hR => ?_)
      obtain ⟨hG, hVi⟩ := hR
      refine ih _ _ _ (by have := unlisted_set h0; omega) ?_
      have hDi : D i < a.tmps.size := by rw [hI.size]; exact f2
      rw [f1]
      refine ⟨by simpa using hI.lsize, by simpa [Act.put] using hI.size, by simpa [Act.put] using hI.defers, fun p hp => ?_, hJ w w' hI.world hG, fun j hj => ?_⟩
      · rw [Act.eval_put (fun d hd e => f3 p hp (by simp at hd e; rw [e, hd]))]
        exact hI.base p hp
      · by_cases hji : j = i
        · subst hji
          rw [eval_put_self hDi]
          exact hVi
        · rw [getD_set_ne false (Ne.symm hji)] at hj
          have hjl : j < ops.size := by
            rw [← hI.lsize]
            rcases Nat.lt_or_ge j listed.size with h' | h'
            · exact h'
            · simp [Array.getElem?_eq_none h'] at hj
          rw [Act.eval_put (fun d hd e => hji (f4 j hjl (by simp at hd e; rw [e, hd])))]
          exact hV j w w' _ hI.world (hI.vals j hj) hG
  intro a w h1 h2 h3 h4
  refine main ops.size _ a w ?_ ⟨by simp, h1, h2, h3, h4, fun j hj => ?_⟩
  · have : unlisted (Array.replicate ops.size false) ≤ ops.size := by
      unfold unlisted
      refine Nat.le_trans (List.countP_le_length) (by simp)
    exact this
  · exfalso
    by_cases h : j < ops.size
    · simp [h] at hj
    · simp [h] at hj

/-- a list of what the slots hold -/
def valsOf (l : List (World → Value → Prop)) (j : Nat) : World → Value → Prop := l.getD j fun _ _ => True
def isV (x : Value) : World → Value → Prop := fun _ v => v = x

theorem valsOf_stable {l : List (World → Value → Prop)} {J : World → Prop} {G : World → World → Prop} (h : ∀ p ∈ l, ∀ w w' v, J w → p w v → G w w' → p w' v) : ∀ j w w' v, J w → valsOf l j w v → G w w' → valsOf l j w' v := by
  intro j w w' v hJ hp hG
  unfold valsOf at *
  rcases Nat.lt_or_ge j l.length with hj | hj
  · simp only [List.getD_eq_getElem?_getD, List.getElem?_eq_getElem hj, Option.getD_some] at *
    exact h _ (List.getElem_mem hj) w w' v hJ hp hG
  · simp only [List.getD_eq_getElem?_getD, List.getElem?_eq_none hj, Option.getD_none]

def Stables (J : World → Prop) (G : World → World → Prop) (l : List (World → Value → Prop)) : Prop := ∀ p ∈ l, ∀ w w' v, J w → p w v → G w w' → p w' v
theorem Stables.nil {J : World → Prop} {G : World → World → Prop} : Stables J G [] := fun p hp => by cases hp
theorem Stables.other {J : World → Prop} {G : World → World → Prop} {q : World → Value → Prop} {l : List (World → Value → Prop)} (hq : ∀ w w' v, J w → q w v → G w w' → q w' v) (h : Stables J G l) : Stables J G (q :: l) := fun p hp => by
  rcases List.mem_cons.1 hp with rfl | hp
  · exact hq
  · exact h p hp
theorem Stables.same {J : World → Prop} {G : World → World → Prop} {x : Value} {l : List (World → Value → Prop)} (h : Stables J G l) : Stables J G (isV x :: l) := Stables.other (fun _ _ _ _ hv _ => hv) h
theorem Stables.all {J : World → Prop} {G : World → World → Prop} {l : List (World → Value → Prop)} (h : Stables J G l) : ∀ p ∈ l, ∀ w w' v, J w → p w v → G w w' → p w' v := h

theorem step_val {P : Program} {o : Oper} {ρ : Operand → Value} {w w' : World} {R : Value → World → Prop} {v : Value} (h : (execOp ρ o).run P w = .ok (.value v) w') (hR : R v w') : StepOK P o ρ w R := .inl ⟨v, w', h, hR⟩
theorem step_call {P : Program} {o : Oper} {ρ : Operand → Value} {w w' : World} {R : Value → World → Prop} {f : FuncId} {args : Array Value} (h : (execOp ρ o).run P w = .ok (.enter f args) w') (hc : Calls P f args w' fun e w'' => ∃ v, e = .returned v ∧ R v w'') : StepOK P o ρ w R := .inr ⟨f, args, w', h, hc⟩
theorem run_call_func {P : Program} {ρ : Operand → Value} {o : Oper} {f : FuncId} {xs : Array Operand} {ts : Array TypeId} (hρ : FrameLike ρ) (hop : o.op = .call { callee := .value (.func f), args := xs, argTypes := ts }) (he : ∀ args w, (callFunc f args).run P w = .ok (.enter f args) w) (w : World) : (execOp ρ o).run P w = .ok (.enter f (xs.map ρ)) w := by
  unfold execOp
  rw [hop]
  simp [resolve, hρ.func, Deferred.ofValue, invoke, he]
theorem step_func {P : Program} {o : Oper} {ρ : Operand → Value} {w : World} {R : Value → World → Prop} (f : FuncId) (xs : Array Operand) (ts : Array TypeId) (args : Array Value) (hρ : FrameLike ρ) (hop : o.op = .call { callee := .value (.func f), args := xs, argTypes := ts }) (he : ∀ args w, (callFunc f args).run P w = .ok (.enter f args) w) (ha : xs.map ρ = args) (hc : Calls P f args w fun e w'' => ∃ v, e = .returned v ∧ R v w'') : StepOK P o ρ w R :=
  .inr ⟨f, args, w, ha ▸ run_call_func hρ hop he w, hc⟩
theorem step_move {P : Program} {o : Oper} {ρ : Operand → Value} {w : World} {R : Value → World → Prop} (x : Operand) (h : o.op = .move x) (hR : R (ρ x) w) : StepOK P o ρ w R := .inl ⟨_, w, by unfold execOp; rw [h]; rfl, hR⟩
theorem step_assign {P : Program} {o : Oper} {ρ : Operand → Value} {w : World} {R : Value → World → Prop} (x : Operand) (h : o.op = .assign x) (hR : R (ρ x) w) : StepOK P o ρ w R := .inl ⟨_, w, by unfold execOp; rw [h]; rfl, hR⟩

end Go.Proofs.Yteomalmflebkhaa
