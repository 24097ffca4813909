/-
  A region that draws its order, by an invariant: what each operation leaves in its slot holds in whatever order they come.
-/
import Derived.Test.YtkndjbmlkfpfoaaGreatDoorRows
import Derived.Orders
import Derived.Below
import Derived.OrdersIn
import Derived.CallsIn
import Derived.TacticsIn

set_option linter.unusedSimpArgs false
set_option linter.unusedVariables false
namespace Go.Proofs.YtkndjbmlkfpfoaaGreatDoor
open Go

/-- what an operation does, over whatever frame: it yields, or it calls -/
def StepOK (P : Program) (o : Oper) (ρ : Operand → Value) (w : World) (R : Value → World → Prop) : Prop :=
  (∃ v w', (execOp ρ o).run P w = .ok (.value v) w' ∧ R v w') ∨ ∃ f args w', (execOp ρ o).run P w = .ok (.enter f args) w' ∧ Calls P f args w' fun e w'' => ∃ v, e = .returned v ∧ R v w''

theorem StepOK.wp {P : Program} {o : Oper} {a : Act} {w : World} {R : Value → World → Prop} {K : Act → World → Prop} {Q : Exit → Act → World → Prop} (h : StepOK P o a.eval w R) (hK : ∀ v w', R v w' → K (a.put o.dst v) w') : o.wp P a w K Q := by
  unfold Oper.wp
  rcases h with ⟨v, w', e, r⟩ | ⟨f, args, w', e, hc⟩
  · rw [e]; exact hK v w' r
  · rw [e]
    refine Calls.mono hc fun e' w'' he => ?_
    obtain ⟨v, rfl, r⟩ := he
    exact hK v w'' r

/-- a frame's reading of what is no slot -/
structure FrameLike (ρ : Operand → Value) : Prop where
  func : ∀ f, ρ (.func f) = .func (.func f) #[] #[]
  const : ∀ v, ρ (.const v) = v

def StepsAll (S : Nat → Oper → Prop) : Nat → List Oper → Prop
  | _, [] => True
  | i, o :: os => S i o ∧ StepsAll S (i + 1) os
theorem StepsAll.nil {S : Nat → Oper → Prop} (i : Nat) : StepsAll S i [] := trivial
theorem StepsAll.cons {S : Nat → Oper → Prop} {i : Nat} {o : Oper} {os : List Oper} (h : S i o) (hs : StepsAll S (i + 1) os) : StepsAll S i (o :: os) := ⟨h, hs⟩

theorem StepsAll.get {S : Nat → Oper → Prop} : ∀ {l : List Oper} {i : Nat} (h : StepsAll S i l) {j : Nat} {o : Oper}, l[j]? = some o → S (i + j) o
  | [], i, h, j, o, e => by simp at e
  | x :: l, i, h, 0, o, e => by simp at e; subst e; exact h.1
  | x :: l, i, h, j + 1, o, e => by
    have := StepsAll.get (l := l) h.2 (j := j) (o := o) (by simpa using e)
    rwa [Nat.add_assoc, Nat.add_comm 1 j] at this

/-- the region's own shape: slots apart, edges back, guards among the edges -/
def regionFits (ops : Array Oper) (N : Nat) (D : Nat → Nat) (slots : List Nat) : Bool :=
  (List.range ops.size).all fun i => match ops[i]? with
    | none => false
    | some o => o.dst == some (D i) && decide (D i < N) && !slots.contains (D i) && (List.range ops.size).all (fun j => j == i || D j != D i) && o.after.all (fun e => decide (e.on < i)) &&
      match o.guard with
      | none => true
      | some (g, _) => o.after.any fun e => e.on == g && Region.binds .any e

theorem eval_put_self {a : Act} {t : Nat} {v : Value} (h : t < a.tmps.size) : (a.put (some t) v).eval (.tmp t) = v := by
  simp [Act.put, Act.eval, h]

theorem eval_some {a : Act} {t : Nat} (h : t < a.tmps.size) : a.tmps[t]? = some (a.eval (.tmp t)) := by
  simp [Act.eval, h]

structure RInv (n N : Nat) (D : Nat → Nat) (base : List (Nat × Value)) (J : World → Prop) (V : Nat → World → Value → Prop) (listed : Array Bool) (a : Act) (w : World) : Prop where
  lsize : listed.size = n
  size : a.tmps.size = N
  defers : a.defers = []
  base : ∀ p ∈ base, a.eval (.tmp p.1) = p.2
  world : J w
  vals : ∀ j, listed.getD j false = true → V j w (a.eval (.tmp (D j)))

def unlisted (l : Array Bool) : Nat := l.toList.countP (fun b => !b)

theorem countP_set : ∀ (xs : List Bool) (i : Nat), xs[i]? = some false → (xs.set i true).countP (fun b => !b) + 1 = xs.countP (fun b => !b)
  | [], _, h => by simp at h
  | x :: xs, 0, h => by simp at h; subst h; simp
  | x :: xs, i + 1, h => by
    have := countP_set xs i (by simpa using h)
    rw [List.set_cons_succ, List.countP_cons, List.countP_cons]
    omega

theorem unlisted_set {l : Array Bool} {i : Nat} (h : l.getD i true = false) : unlisted (l.setIfInBounds i true) + 1 = unlisted l := by
  have hi : i < l.size := by
    rcases Nat.lt_or_ge i l.size with h' | h'
    · exact h'
    · simp [Array.getElem?_eq_none h'] at h
  have hv : l[i] = false := by simpa [hi] using h
  unfold unlisted
  rw [Array.toList_setIfInBounds]
  refine countP_set _ _ ?_
  simp [hi, hv]

theorem ready_lt {ops : Array Oper} {listed : Array Bool} {md : Region.Mode} {i : Nat} (h : i ∈ Region.ready md ops listed) : ∃ o, ops[i]? = some o ∧ listed.getD i true = false ∧ ∀ e ∈ o.after, Region.binds md e = true → listed.getD e.on false = true := by
  obtain ⟨h0, o, ho, hall⟩ := mem_ready.1 h
  exact ⟨o, ho, h0, hall⟩

theorem region_inv {P : Program} {ops : Array Oper} {Q : Exit → Act → World → Prop} (N : Nat) (D : Nat → Nat) (base : List (Nat × Value)) (J : World → Prop) (V : Nat → World → Value → Prop) (G : World → World → Prop)
    (hfit : regionFits ops N D (base.map (·.1)) = true)
    (hJ : ∀ w w', J w → G w w' → J w') (hV : ∀ j w w' v, J w → V j w v → G w w' → V j w' v)
    (gs : List (Nat × Bool)) (hgs : ops.all (fun o => match o.guard with | none => true | some p => gs.contains p) = true) (hgv : ∀ p ∈ gs, ∀ w v, V p.1 w v → v = .bool p.2)
    (hstep : StepsAll (fun i o => ∀ ρ w, FrameLike ρ → J w → (∀ p ∈ base, ρ (.tmp p.1) = p.2) → (∀ (k : Nat) (e : Edge), o.after[k]? = some e → Region.binds .any e = true → V e.on w (ρ (.tmp (D e.on)))) → StepOK P o ρ w (fun v w' => G w w' ∧ V i w' v)) 0 ops.toList)
    (hfin : ∀ a w, a.tmps.size = N → a.defers = [] → J w → (∀ j, j < ops.size → V j w (a.eval (.tmp (D j)))) → Q .normal a w) :
    ∀ a w, a.tmps.size = N → a.defers = [] → (∀ p ∈ base, a.eval (.tmp p.1) = p.2) → J w → wpAny P .any ops Q ops.size (Array.replicate ops.size false) a w := by
  have hg : ∀ (i : Nat) (o : Oper), ops[i]? = some o → ∀ g b, o.guard = some (g, b) → ∀ w v, V g w v → v = .bool b := by
    intro i o ho g b hgb
    have h := Array.all_eq_true_iff_forall_mem.1 hgs o (Array.mem_of_getElem? ho)
    simp only [hgb] at h
    exact hgv (g, b) (by simpa using h)
  have fits : ∀ i o, ops[i]? = some o → o.dst = some (D i) ∧ D i < N ∧ (∀ p ∈ base, p.1 ≠ D i) ∧ (∀ j, j < ops.size → D j = D i → j = i) ∧ (∀ e ∈ o.after, e.on < i) ∧ ∀ g b, o.guard = some (g, b) → ∃ e ∈ o.after, e.on = g ∧ Region.binds .any e = true := by
    intro i o ho
    have hi := (Array.getElem?_eq_some_iff.1 ho).1
    have h := List.all_eq_true.1 hfit i (List.mem_range.2 hi)
    simp only [ho, Bool.and_eq_true] at h
    obtain ⟨⟨⟨⟨⟨h1, h2⟩, h3⟩, h4⟩, h5⟩, h6⟩ := h
    refine ⟨by simpa using h1, by simpa using h2, fun p hp e => ?_, fun j hj e => ?_, fun e he => ?_, fun g b hgb => ?_⟩
    · simp at h3
      exact h3 p.2 (by rw [← e]; exact hp)
    · have := List.all_eq_true.1 h4 j (List.mem_range.2 hj)
      simp [e] at this
      exact this
    · have := Array.all_eq_true_iff_forall_mem.1 h5 e he
      simpa using this
    · rw [hgb] at h6
      obtain ⟨e, he, hb⟩ := Array.any_eq_true'.1 h6
      simp at hb
      exact ⟨e, he, hb.1, hb.2⟩
  have main : ∀ fuel listed a w, unlisted listed ≤ fuel → RInv ops.size N D base J V listed a w → wpAny P .any ops Q fuel listed a w := by
    have hdone : ∀ listed a w, RInv ops.size N D base J V listed a w → Region.ready .any ops listed = [] → Q .normal a w := by
      intro listed a w hI hr
      refine hfin a w hI.size hI.defers hI.world fun j hj => hI.vals j ?_
      have all : ∀ m j, j < m → j < ops.size → listed.getD j false = true := by
        intro m
        induction m with
        | zero => intro j h; omega
        | succ m ih =>
          intro j _ hj
          by_cases hjm : j < m
          · exact ih j hjm hj
          · obtain ⟨o, ho⟩ : ∃ o, ops[j]? = some o := ⟨_, Array.getElem?_eq_getElem hj⟩
            by_cases hl : listed.getD j true = false
            · exfalso
              have : j ∈ Region.ready .any ops listed := by
                refine mem_ready.2 ⟨hl, o, ho, fun e he hb => ?_⟩
                have := (fits j o ho).2.2.2.2.1 e he
                exact ih e.on (by omega) (by omega)
              rw [hr] at this
              cases this
            · have hl2 : j < listed.size := by rw [hI.lsize]; exact hj
              simp [hl2] at hl ⊢
              exact hl
      exact all (j + 1) j (by omega) hj
    intro fuel
    induction fuel with
    | zero =>
      intro listed a w hf hI
      have hr : Region.ready .any ops listed = [] := by
        cases h : Region.ready .any ops listed with
        | nil => rfl
        | cons i rs =>
          exfalso
          obtain ⟨o, ho, h0, _⟩ := ready_lt (md := .any) (ops := ops) (listed := listed) (i := i) (by rw [h]; simp)
          have := unlisted_set h0
          omega
      exact ⟨hr, hdone listed a w hI hr⟩
    | succ fuel ih =>
      intro listed a w hf hI
      refine ⟨hdone listed a w hI, fun i hi => ?_⟩
      obtain ⟨o, ho, h0, hall⟩ := ready_lt hi
      obtain ⟨f1, f2, f3, f4, f5, f6⟩ := fits i o ho
      have hii := (Array.getElem?_eq_some_iff.1 ho).1
      have hS := hstep.get (j := i) (o := o) (by simpa using ho)
      rw [Nat.zero_add] at hS
      have hdep : ∀ (k : Nat) (e : Edge), o.after[k]? = some e → Region.binds .any e = true → V e.on w (a.eval (.tmp (D e.on))) := fun k e he hb => hI.vals e.on (hall e (Array.mem_of_getElem? he) hb)
      have hst := hS a.eval w ⟨fun _ => rfl, fun _ => rfl⟩ hI.world hI.base hdep
      have hw : Region.wanted o (yielded ops a.tmps) = true := by
        unfold Region.wanted
        cases hgd : o.guard with
        | none => rfl
        | some gb =>
          obtain ⟨g, b⟩ := gb
          obtain ⟨e, he, heg, hb⟩ := f6 g b hgd
          have hv := hI.vals e.on (hall e he hb)
          rw [heg] at hv
          have hb2 := hg i o ho g b hgd w _ hv
          have hgi : g < i := by rw [← heg]; exact f5 e he
          obtain ⟨og, hog⟩ : ∃ og, ops[g]? = some og := ⟨_, Array.getElem?_eq_getElem (by omega)⟩
          obtain ⟨g1, g2, _⟩ := fits g og hog
          have hlt : D g < a.tmps.size := by rw [hI.size]; exact g2
          have : yielded ops a.tmps g = some b := by
            unfold yielded
            simp only [hog, Option.bind_some, g1, eval_some hlt, hb2]
          simp [this]
      unfold wpOp
      simp only [ho, hw, if_true]
      refine .inl (hst.wp fun v w' hR => ?_)
      obtain ⟨hG, hVi⟩ := hR
      refine ih _ _ _ (by have := unlisted_set h0; omega) ?_
      have hDi : D i < a.tmps.size := by rw [hI.size]; exact f2
      rw [f1]
      refine ⟨by simpa using hI.lsize, by simpa [Act.put] using hI.size, by simpa [Act.put] using hI.defers, fun p hp => ?_, hJ w w' hI.world hG, fun j hj => ?_⟩
      · rw [Act.eval_put (fun d hd e => f3 p hp (by simp at hd e; rw [e, hd]))]
        exact hI.base p hp
      · by_cases hji : j = i
        · subst hji
          rw [eval_put_self hDi]
          exact hVi
        · rw [getD_set_ne false (Ne.symm hji)] at hj
          have hjl : j < ops.size := by
            rw [← hI.lsize]
            rcases Nat.lt_or_ge j listed.size with h' | h'
            · exact h'
            · simp [Array.getElem?_eq_none h'] at hj
          rw [Act.eval_put (fun d hd e => hji (f4 j hjl (by simp at hd e; rw [e, hd])))]
          exact hV j w w' _ hI.world (hI.vals j hj) hG
  intro a w h1 h2 h3 h4
  refine main ops.size _ a w ?_ ⟨by simp, h1, h2, h3, h4, fun j hj => ?_⟩
  · have : unlisted (Array.replicate ops.size false) ≤ ops.size := by
      unfold unlisted
      refine Nat.le_trans (List.countP_le_length) (by simp)
    exact this
  · exfalso
    by_cases h : j < ops.size
    · simp [h] at hj
    · simp [h] at hj

/-- a list of what the slots hold -/
def valsOf (l : List (World → Value → Prop)) (j : Nat) : World → Value → Prop := l.getD j fun _ _ => True
def isV (x : Value) : World → Value → Prop := fun _ v => v = x

theorem valsOf_stable {l : List (World → Value → Prop)} {J : World → Prop} {G : World → World → Prop} (h : ∀ p ∈ l, ∀ w w' v, J w → p w v → G w w' → p w' v) : ∀ j w w' v, J w → valsOf l j w v → G w w' → valsOf l j w' v := by
  intro j w w' v hJ hp hG
  unfold valsOf at *
  rcases Nat.lt_or_ge j l.length with hj | hj
  · simp only [List.getD_eq_getElem?_getD, List.getElem?_eq_getElem hj, Option.getD_some] at *
    exact h _ (List.getElem_mem hj) w w' v hJ hp hG
  · simp only [List.getD_eq_getElem?_getD, List.getElem?_eq_none hj, Option.getD_none]

def Stables (J : World → Prop) (G : World → World → Prop) (l : List (World → Value → Prop)) : Prop := ∀ p ∈ l, ∀ w w' v, J w → p w v → G w w' → p w' v
theorem Stables.nil {J : World → Prop} {G : World → World → Prop} : Stables J G [] := fun p hp => by cases hp
theorem Stables.other {J : World → Prop} {G : World → World → Prop} {q : World → Value → Prop} {l : List (World → Value → Prop)} (hq : ∀ w w' v, J w → q w v → G w w' → q w' v) (h : Stables J G l) : Stables J G (q :: l) := fun p hp => by
  rcases List.mem_cons.1 hp with rfl | hp
  · exact hq
  · exact h p hp
theorem Stables.same {J : World → Prop} {G : World → World → Prop} {x : Value} {l : List (World → Value → Prop)} (h : Stables J G l) : Stables J G (isV x :: l) := Stables.other (fun _ _ _ _ hv _ => hv) h
theorem Stables.all {J : World → Prop} {G : World → World → Prop} {l : List (World → Value → Prop)} (h : Stables J G l) : ∀ p ∈ l, ∀ w w' v, J w → p w v → G w w' → p w' v := h

theorem step_val {P : Program} {o : Oper} {ρ : Operand → Value} {w w' : World} {R : Value → World → Prop} {v : Value} (h : (execOp ρ o).run P w = .ok (.value v) w') (hR : R v w') : StepOK P o ρ w R := .inl ⟨v, w', h, hR⟩
theorem step_call {P : Program} {o : Oper} {ρ : Operand → Value} {w w' : World} {R : Value → World → Prop} {f : FuncId} {args : Array Value} (h : (execOp ρ o).run P w = .ok (.enter f args) w') (hc : Calls P f args w' fun e w'' => ∃ v, e = .returned v ∧ R v w'') : StepOK P o ρ w R := .inr ⟨f, args, w', h, hc⟩
theorem run_call_func {P : Program} {ρ : Operand → Value} {o : Oper} {f : FuncId} {xs : Array Operand} {ts : Array TypeId} (hρ : FrameLike ρ) (hop : o.op = .call { callee := .value (.func f), args := xs, argTypes := ts }) (he : ∀ args w, (callFunc f args).run P w = .ok (.enter f args) w) (w : World) : (execOp ρ o).run P w = .ok (.enter f (xs.map ρ)) w := by
  unfold execOp
  rw [hop]
  simp [resolve, hρ.func, Deferred.ofValue, invoke, he]
theorem step_func {P : Program} {o : Oper} {ρ : Operand → Value} {w : World} {R : Value → World → Prop} (f : FuncId) (xs : Array Operand) (ts : Array TypeId) (args : Array Value) (hρ : FrameLike ρ) (hop : o.op = .call { callee := .value (.func f), args := xs, argTypes := ts }) (he : ∀ args w, (callFunc f args).run P w = .ok (.enter f args) w) (ha : xs.map ρ = args) (hc : Calls P f args w fun e w'' => ∃ v, e = .returned v ∧ R v w'') : StepOK P o ρ w R :=
  .inr ⟨f, args, w, ha ▸ run_call_func hρ hop he w, hc⟩
theorem step_move {P : Program} {o : Oper} {ρ : Operand → Value} {w : World} {R : Value → World → Prop} (x : Operand) (h : o.op = .move x) (hR : R (ρ x) w) : StepOK P o ρ w R := .inl ⟨_, w, by unfold execOp; rw [h]; rfl, hR⟩
theorem step_assign {P : Program} {o : Oper} {ρ : Operand → Value} {w : World} {R : Value → World → Prop} (x : Operand) (h : o.op = .assign x) (hR : R (ρ x) w) : StepOK P o ρ w R := .inl ⟨_, w, by unfold execOp; rw [h]; rfl, hR⟩

end Go.Proofs.YtkndjbmlkfpfoaaGreatDoor

/-
  A region that draws its order, within a fence, by an invariant: what each operation leaves in its slot holds in whatever order they come; an operation may call yield.
-/
set_option linter.unusedSimpArgs false
set_option linter.unusedVariables false
namespace Go.Proofs.YtkndjbmlkfpfoaaGreatDoor
open Go

/-- what an operation does in a fence, over whatever frame: it yields, it calls, or it goes into a round -/
def StepIn (F : Fence) (n : Nat) (P : Program) (o : Oper) (ρ : Operand → Value) (w : World) (R : Value → World → Prop) : Prop :=
  (∀ c, o.op ≠ .defer c) ∧ ((∃ v w', (execOp ρ o).run P w = .ok (.value v) w' ∧ R v w') ∨ (∃ f args w', (execOp ρ o).run P w = .ok (.enter f args) w' ∧ CallsIn F (n - 1) P f args w' fun e w'' => ∃ v, e = .returned v ∧ R v w'') ∨
    ∃ l f tmps assign body w', (execOp ρ o).run P w = .ok (.round l f tmps assign body) w' ∧ RoundIn F (n - 1) P l f tmps assign body w' fun e w'' => ∃ v, e = .returned v ∧ R v w'')

theorem StepIn.wp {F : Fence} {n : Nat} (hF : ∀ f, F.fn f) (hd : F.depth = none) {P : Program} {o : Oper} {a : Act} {w : World} {R : Value → World → Prop} {K : Act → World → Prop} {Q : Exit → Act → World → Prop} (h : StepIn F n P o a.eval w R) (hK : ∀ v w', R v w' → K (a.put o.dst v) w') : o.wpIn F n P a w K Q := by
  obtain ⟨hnd, h⟩ := h
  have hsem : o.semAt F.round a.eval = execOp a.eval o := by
    cases F.round with
    | none => rfl
    | some l => exact Oper.semAt_some l _ _ hnd
  refine ⟨fun f _ => hF f, ?_⟩
  rw [hsem]
  have hdp : F.depth.isSome = true → 1 ≤ n := fun h => by rw [hd] at h; cases h
  rcases h with ⟨v, w', e, r⟩ | ⟨f, args, w', e, hc⟩ | ⟨l, f, tmps, assign, body, w', e, hc⟩
  · rw [e]; exact hK v w' r
  · rw [e]
    refine ⟨hdp, CallsIn.mono hc fun e' w'' he => ?_⟩
    obtain ⟨v, rfl, r⟩ := he
    exact hK v w'' r
  · rw [e]
    refine ⟨hdp, RoundIn.mono hc fun e' w'' he => ?_⟩
    obtain ⟨v, rfl, r⟩ := he
    exact hK v w'' r

structure RInvI (ops : Array Oper) (m n N : Nat) (D : Nat → Nat) (base : List (Nat × Value)) (ds : List Deferred) (J : Bool → World → Prop) (V : Nat → World → Value → Prop) (listed : Array Bool) (a : Act) (w : World) : Prop where
  lsize : listed.size = n
  size : a.tmps.size = N
  defers : a.defers = ds
  base : ∀ p ∈ base, a.eval (.tmp p.1) = p.2
  world : J (listed.getD m false) w
  vals : ∀ j, listed.getD j false = true → V j w (a.eval (.tmp (D j)))
  closed : ∀ j o, listed.getD j false = true → ops[j]? = some o → ∀ e ∈ o.after, Region.binds .any e = true → listed.getD e.on false = true

/-- an operation waits for another one -/
def depOn (ops : Array Oper) (j i : Nat) : Bool := match ops[j]? with
  | some o => o.after.any fun e => Region.binds .any e && e.on == i
  | none => false

theorem region_in {F : Fence} {n : Nat} (hF : ∀ f, F.fn f) (hd : F.depth = none) {P : Program} {ops : Array Oper} {Q : Exit → Act → World → Prop} (want : Bool) (m : Nat) (hm : want = true ∨ ops.size ≤ m) (N : Nat) (D : Nat → Nat) (base : List (Nat × Value)) (J : Bool → World → Prop) (V : Nat → World → Value → Prop) (G : Nat → World → World → Prop) (ds : List Deferred)
    (hfit : regionFits ops N D (base.map (·.1)) = true)
    (hV : ∀ i j b w w' v, i ≠ j → depOn ops j i = false → J b w → V j w v → G i w w' → V j w' v)
    (gs : List (Nat × Bool)) (hgs : ops.all (fun o => match o.guard with | none => true | some p => gs.contains p) = true) (hgv : ∀ p ∈ gs, ∀ w v, V p.1 w v → v = .bool (if want then p.2 else !p.2))
    (hstep : StepsAll (fun i o => ∀ b ρ w, (i = m → b = false) → FrameLike ρ → J b w → (∀ p ∈ base, ρ (.tmp p.1) = p.2) → (∀ (k : Nat) (e : Edge), o.after[k]? = some e → Region.binds .any e = true → V e.on w (ρ (.tmp (D e.on)))) → if o.guard.isSome && !want then V i w undef else StepIn F n P o ρ w (fun v w' => G i w w' ∧ J (b || i == m) w' ∧ V i w' v)) 0 ops.toList)
    (hfin : ∀ a w, a.tmps.size = N → a.defers = ds → (∀ p ∈ base, a.eval (.tmp p.1) = p.2) → J (decide (m < ops.size)) w → (∀ j, j < ops.size → V j w (a.eval (.tmp (D j)))) → Q .normal a w) :
    ∀ a w, a.tmps.size = N → a.defers = ds → (∀ p ∈ base, a.eval (.tmp p.1) = p.2) → J false w → wpAnyIn F n P .any ops Q ops.size (Array.replicate ops.size false) a w := by
  have hg : ∀ (i : Nat) (o : Oper), ops[i]? = some o → ∀ g b, o.guard = some (g, b) → ∀ w v, V g w v → v = .bool (if want then b else !b) := by
    intro i o ho g b hgb
    have h := Array.all_eq_true_iff_forall_mem.1 hgs o (Array.mem_of_getElem? ho)
    simp only [hgb] at h
    exact hgv (g, b) (by simpa using h)
  have fits : ∀ i o, ops[i]? = some o → o.dst = some (D i) ∧ D i < N ∧ (∀ p ∈ base, p.1 ≠ D i) ∧ (∀ j, j < ops.size → D j = D i → j = i) ∧ (∀ e ∈ o.after, e.on < i) ∧ ∀ g b, o.guard = some (g, b) → ∃ e ∈ o.after, e.on = g ∧ Region.binds .any e = true := by
    intro i o ho
    have hi := (Array.getElem?_eq_some_iff.1 ho).1
    have h := List.all_eq_true.1 hfit i (List.mem_range.2 hi)
    simp only [ho, Bool.and_eq_true] at h
    obtain ⟨⟨⟨⟨⟨h1, h2⟩, h3⟩, h4⟩, h5⟩, h6⟩ := h
    refine ⟨by simpa using h1, by simpa using h2, fun p hp e => ?_, fun j hj e => ?_, fun e he => ?_, fun g b hgb => ?_⟩
    · simp at h3
      exact h3 p.2 (by rw [← e]; exact hp)
    · have := List.all_eq_true.1 h4 j (List.mem_range.2 hj)
      simp [e] at this
      exact this
    · have := Array.all_eq_true_iff_forall_mem.1 h5 e he
      simpa using this
    · rw [hgb] at h6
      obtain ⟨e, he, hb⟩ := Array.any_eq_true'.1 h6
      simp at hb
      exact ⟨e, he, hb.1, hb.2⟩
  have main : ∀ fuel listed a w, unlisted listed ≤ fuel → RInvI ops m ops.size N D base ds J V listed a w → wpAnyIn F n P .any ops Q fuel listed a w := by
    have alll : ∀ listed a w, RInvI ops m ops.size N D base ds J V listed a w → Region.ready .any ops listed = [] → ∀ j, j < ops.size → listed.getD j false = true := by
      intro listed a w hI hr j hj
      have all : ∀ q j, j < q → j < ops.size → listed.getD j false = true := by
        intro q
        induction q with
        | zero => intro j h; omega
        | succ q ih =>
          intro j _ hj
          by_cases hjm : j < q
          · exact ih j hjm hj
          · obtain ⟨o, ho⟩ : ∃ o, ops[j]? = some o := ⟨_, Array.getElem?_eq_getElem hj⟩
            by_cases hl : listed.getD j true = false
            · exfalso
              have : j ∈ Region.ready .any ops listed := by
                refine mem_ready.2 ⟨hl, o, ho, fun e he hb => ?_⟩
                have := (fits j o ho).2.2.2.2.1 e he
                exact ih e.on (by omega) (by omega)
              rw [hr] at this
              cases this
            · have hl2 : j < listed.size := by rw [hI.lsize]; exact hj
              simp [hl2] at hl ⊢
              exact hl
      exact all (j + 1) j (by omega) hj
    have hdone : ∀ listed a w, RInvI ops m ops.size N D base ds J V listed a w → Region.ready .any ops listed = [] → Q .normal a w := by
      intro listed a w hI hr
      have allin := alll listed a w hI hr
      refine hfin a w hI.size hI.defers hI.base ?_ fun j hj => hI.vals j (allin j hj)
      have hw := hI.world
      by_cases hmo : m < ops.size
      · rw [allin m hmo] at hw; rw [decide_eq_true hmo]; exact hw
      · have : listed.getD m false = false := by simp [hI.lsize, hmo]
        rw [this] at hw; rw [decide_eq_false hmo]; exact hw
    intro fuel
    induction fuel with
    | zero =>
      intro listed a w hf hI
      have hr : Region.ready .any ops listed = [] := by
        cases h : Region.ready .any ops listed with
        | nil => rfl
        | cons i rs =>
          exfalso
          obtain ⟨o, ho, h0, _⟩ := ready_lt (md := .any) (ops := ops) (listed := listed) (i := i) (by rw [h]; simp)
          have := unlisted_set h0
          omega
      exact ⟨hr, hdone listed a w hI hr⟩
    | succ fuel ih =>
      intro listed a w hf hI
      refine ⟨hdone listed a w hI, fun i hi => ?_⟩
      obtain ⟨o, ho, h0, hall⟩ := ready_lt hi
      obtain ⟨f1, f2, f3, f4, f5, f6⟩ := fits i o ho
      have hii := (Array.getElem?_eq_some_iff.1 ho).1
      have hS := hstep.get (j := i) (o := o) (by simpa using ho)
      rw [Nat.zero_add] at hS
      have hdep : ∀ (k : Nat) (e : Edge), o.after[k]? = some e → Region.binds .any e = true → V e.on w (a.eval (.tmp (D e.on))) := fun k e he hb => hI.vals e.on (hall e (Array.mem_of_getElem? he) hb)
      have hmi : i = m → listed.getD m false = false := fun e => by
        have hil : i < listed.size := by rw [hI.lsize]; exact hii
        subst e
        simp [hil] at h0 ⊢
        exact h0
      have hst := hS _ a.eval w hmi ⟨fun _ => rfl, fun _ => rfl⟩ hI.world hI.base hdep
      have hlm : (listed.setIfInBounds i true).getD m false = (listed.getD m false || i == m) := by
        by_cases e : i = m
        · have hil : i < listed.size := by rw [hI.lsize]; exact hii
          subst e; simp [hil]
        · rw [getD_set_ne false e]; simp [e]
      have hDi : D i < a.tmps.size := by rw [hI.size]; exact f2
      have next : ∀ v w', (∀ j, i ≠ j → listed.getD j false = true → V j w' (a.eval (.tmp (D j)))) → J (listed.getD m false || i == m) w' → V i w' v → wpAnyIn F n P .any ops Q fuel (listed.setIfInBounds i true) (a.put o.dst v) w' := by
        intro v w' hold hJw hVi
        refine ih _ _ _ (by have := unlisted_set h0; omega) ?_
        rw [f1]
        refine ⟨by simpa using hI.lsize, by simpa [Act.put] using hI.size, by simpa [Act.put] using hI.defers, fun p hp => ?_, (by rw [hlm]; exact hJw), fun j hj => ?_, fun j oj hj hoj e he hbe => ?_⟩
        · rw [Act.eval_put (fun d hd e => f3 p hp (by simp at hd e; rw [e, hd]))]
          exact hI.base p hp
        · by_cases hji : j = i
          · subst hji
            rw [eval_put_self hDi]
            exact hVi
          · rw [getD_set_ne false (Ne.symm hji)] at hj
            have hjl : j < ops.size := by
              rw [← hI.lsize]
              rcases Nat.lt_or_ge j listed.size with h' | h'
              · exact h'
              · simp [Array.getElem?_eq_none h'] at hj
            rw [Act.eval_put (fun d hd e => hji (f4 j hjl (by simp at hd e; rw [e, hd])))]
            exact hold j (Ne.symm hji) hj
        · have old : listed.getD e.on false = true → (listed.setIfInBounds i true).getD e.on false = true := fun h => by
            by_cases hei : e.on = i
            · have : i < listed.size := by rw [hI.lsize]; exact hii
              simp [hei, this]
            · rw [getD_set_ne false (Ne.symm hei)]; exact h
          by_cases hji : j = i
          · subst hji
            rw [ho] at hoj; cases hoj
            exact old (hall e he hbe)
          · rw [getD_set_ne false (Ne.symm hji)] at hj
            exact old (hI.closed j oj hj hoj e he hbe)
      have hnodep : ∀ j, listed.getD j false = true → depOn ops j i = false := by
        intro j hj
        unfold depOn
        cases hoj : ops[j]? with
        | none => rfl
        | some oj =>
          rw [Bool.eq_false_iff]
          intro hany
          obtain ⟨e, he, hb⟩ := Array.any_eq_true'.1 hany
          simp only [Bool.and_eq_true, beq_iff_eq] at hb
          have := hI.closed j oj hj hoj e he hb.1
          rw [hb.2] at this
          have hil : i < listed.size := by rw [hI.lsize]; exact hii
          simp [hil] at this h0
          rw [this] at h0; cases h0
      have hyield : ∀ g b, o.guard = some (g, b) → yielded ops a.tmps g = some (if want then b else !b) := by
        intro g b hgd
        obtain ⟨e, he, heg, hb⟩ := f6 g b hgd
        have hv := hI.vals e.on (hall e he hb)
        rw [heg] at hv
        have hb2 := hg i o ho g b hgd w _ hv
        have hgi : g < i := by rw [← heg]; exact f5 e he
        obtain ⟨og, hog⟩ : ∃ og, ops[g]? = some og := ⟨_, Array.getElem?_eq_getElem (by omega)⟩
        obtain ⟨g1, g2, _⟩ := fits g og hog
        have hlt : D g < a.tmps.size := by rw [hI.size]; exact g2
        unfold yielded
        simp only [hog, Option.bind_some, g1, eval_some hlt, hb2]
      unfold wpOpIn
      simp only [ho]
      by_cases hgw : (o.guard.isSome && !want) = true
      · rw [if_pos hgw] at hst
        simp only [Bool.and_eq_true, Bool.not_eq_true'] at hgw
        obtain ⟨hg1, hw1⟩ := hgw
        obtain ⟨⟨g, b⟩, hgd⟩ := Option.isSome_iff_exists.1 hg1
        have hw : Region.wanted o (yielded ops a.tmps) = false := by
          unfold Region.wanted
          rw [hgd]
          have := hyield g b hgd
          rw [hw1] at this
          simp [this]
        simp only [hw]
        have hne : ¬ i = m := by
          rcases hm with h | h
          · rw [hw1] at h; cases h
          · omega
        refine ⟨fun f _ => hF f, next undef w (fun j _ hj => hI.vals j hj) (by rw [show (i == m) = false by simpa using hne, Bool.or_false]; exact hI.world) hst⟩
      · rw [if_neg hgw] at hst
        have hw : Region.wanted o (yielded ops a.tmps) = true := by
          unfold Region.wanted
          cases hgd : o.guard with
          | none => rfl
          | some gb =>
            obtain ⟨g, b⟩ := gb
            have hwt : want = true := by
              rw [hgd] at hgw
              simpa using hgw
            have := hyield g b hgd
            rw [hwt] at this
            simp [this]
        simp only [hw, if_true]
        refine hst.wp hF hd fun v w' hR => ?_
        obtain ⟨hG, hJw, hVi⟩ := hR
        exact next v w' (fun j hij hj => hV i j _ w w' _ hij (hnodep j hj) hI.world (hI.vals j hj) hG) hJw hVi
  intro a w h1 h2 h3 h4
  refine main ops.size _ a w ?_ ⟨by simp, h1, h2, h3, (by rw [show (Array.replicate ops.size false).getD m false = false by by_cases h : m < ops.size <;> simp [h]]; exact h4), fun j hj => ?_, fun j o hj => ?_⟩
  · have : unlisted (Array.replicate ops.size false) ≤ ops.size := by
      unfold unlisted
      refine Nat.le_trans (List.countP_le_length) (by simp)
    exact this
  · exfalso
    by_cases h : j < ops.size
    · simp [h] at hj
    · simp [h] at hj
  · exfalso
    by_cases h : j < ops.size
    · simp [h] at hj
    · simp [h] at hj


/-- what a slot holds, by a list -/
def look (l : List (Nat × Value)) (k : Nat) : Option Value := (l.find? (fun p => p.1 == k)).map (·.2)
theorem frame_of {a : Act} {N : Nat} {ds : List Deferred} (l : List (Nat × Value)) (vs : List Value) (hs : a.tmps.size = N) (hd : a.defers = ds) (hl : ∀ p ∈ l, a.eval (.tmp p.1) = p.2) (hv : (List.range N).map (look l) = vs.map some) : a = { tmps := vs.toArray, defers := ds } := by
  have hlen : vs.length = N := by have := congrArg List.length hv; simpa using this.symm
  have ht : a.tmps = vs.toArray := by
    apply Array.ext
    · simp [hs, hlen]
    · intro k h1 h2
      have hk : k < N := by omega
      have h3 := congrArg (fun x => x[k]?) hv
      simp only [List.getElem?_map, List.getElem?_range hk, Option.map_some] at h3
      have hk2 : k < vs.length := by omega
      rw [List.getElem?_eq_getElem hk2] at h3
      simp only [Option.map_some, Option.some.injEq] at h3
      unfold look at h3
      cases hf : l.find? (fun p => p.1 == k) with
      | none => rw [hf] at h3; cases h3
      | some p =>
        rw [hf] at h3
        simp at h3
        have hp := hl p (List.mem_of_find?_eq_some hf)
        have hpk : p.1 = k := by have := List.find?_some hf; simpa using this
        rw [hpk] at hp
        simp [Act.eval, h1] at hp
        simp [hp, h3]
  cases a
  simp at ht hd
  rw [ht, hd]

theorem stepIn_val {F : Fence} {n : Nat} {P : Program} {o : Oper} {ρ : Operand → Value} {w w' : World} {R : Value → World → Prop} {v : Value} (hnd : ∀ c, o.op ≠ .defer c) (h : (execOp ρ o).run P w = .ok (.value v) w') (hR : R v w') : StepIn F n P o ρ w R := ⟨hnd, .inl ⟨v, w', h, hR⟩⟩
theorem stepIn_move {F : Fence} {n : Nat} {P : Program} {o : Oper} {ρ : Operand → Value} {w : World} {R : Value → World → Prop} (x : Operand) (h : o.op = .move x) (hR : R (ρ x) w) : StepIn F n P o ρ w R := ⟨fun c e => (by rw [h] at e; cases e), .inl ⟨_, w, by unfold execOp; rw [h]; rfl, hR⟩⟩
theorem stepIn_func {F : Fence} {n : Nat} {P : Program} {o : Oper} {ρ : Operand → Value} {w : World} {R : Value → World → Prop} (f : FuncId) (xs : Array Operand) (ts : Array TypeId) (args : Array Value) (hρ : FrameLike ρ) (hop : o.op = .call { callee := .value (.func f), args := xs, argTypes := ts }) (he : ∀ args w, (callFunc f args).run P w = .ok (.enter f args) w) (ha : xs.map ρ = args) (hc : CallsIn F (n - 1) P f args w fun e w'' => ∃ v, e = .returned v ∧ R v w'') : StepIn F n P o ρ w R :=
  ⟨fun c e => (by rw [hop] at e; cases e), .inr (.inl ⟨f, args, w, by rw [run_call_func hρ hop he, ha], hc⟩)⟩

end Go.Proofs.YtkndjbmlkfpfoaaGreatDoor
