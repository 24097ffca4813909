/-
  A region that draws its order, by an invariant: what each operation leaves in its slot holds in whatever order they come.
-/
import Derived.Test.YtkndjbmlkfpfoaaGreatDoorRows
import Derived.Orders
import Derived.Below
import Derived.OrdersIn
import Derived.CallsIn
import Derived.TacticsIn

set_option linter.unusedSimpArgs false
set_option linter.unusedVariables false
namespace Go.Proofs.YtkndjbmlkfpfoaaGreatDoor
open Go

/-- what an operation does, over whatever frame: it yields, or it calls -/
def StepOK (P : Program) (o : Oper) (ρ : Operand → Value) (w : World) (R : Value → World → Prop) : Prop :=
  (∃ v w', (execOp ρ o).run P w = .ok (.value v) w' ∧ R v w') ∨ ∃ f args w', (execOp ρ o).run P w = .ok (.enter f args) w' ∧ Calls P f args w' fun e w'' => ∃ v, e = .returned v ∧ R v w''

theorem StepOK.wp {P : Program} {o : Oper} {a : Act} {w : World} {R : Value → World → Prop} {K : Act → World → Prop} {Q : Exit → Act → World → Prop} (h : StepOK P o a.eval w R) (hK : ∀ v w', R v w' → K (a.put o.dst v) w') : o.wp P a w K Q := by
  unfold Oper.wp
  rcases h with ⟨v, w', e, r⟩ | ⟨f, args, w', e, hc⟩
  · rw [e]; exact hK v w' r
  · rw [e]
    refine Calls.mono hc fun e' w'' he => ?_
    obtain ⟨v, rfl, r⟩ := he
    exact hK v w'' r

/-- a frame's reading of what is no slot -/
structure FrameLike (ρ : Operand → Value) : Prop where
  func : ∀ f, ρ (.func f) = .func (.func f) #[] #[]
  const : ∀ v, ρ (.const v) = v

def StepsAll (S : Nat → Oper → Prop) : Nat → List Oper → Prop
  | _, [] => True
  | i, o :: os => S i o ∧ StepsAll S (i + 1) os
theorem StepsAll.nil {S : Nat → Oper → Prop} (i : Nat) : StepsAll S i [] := trivial
theorem StepsAll.cons {S : Nat → Oper → Prop} {i : Nat} {o : Oper} {os : List Oper} (h : S i o) (hs : StepsAll S (i + 1) os) : StepsAll S i (o :: os) := ⟨h, hs⟩

theorem StepsAll.get {S : Nat → Oper → Prop} : ∀ {l : List Oper} {i : Nat} (h : StepsAll S i l) {j : Nat} {o : Oper}, l[j]? = some o → S (i + j) o
  | [], i, h, j, o, e => by simp at e
  | x :: l, i, h, 0, o, e => by simp at e; subst e; exact h.1
  | x :: l, i, h, j + 1, o, e => by
    have := StepsAll.get (l := l) h.2 (j := j) (o := o) (by simpa using e)
    rwa [Nat.add_assoc, Nat.add_comm 1 j] at this

theorem eval_put_self {a : Act} {t : Nat} {v : Value} (h : t < a.tmps.size) : (a.put (some t) v).eval (.tmp t) = v := by
  simp [Act.put, Act.eval, h]

def unlisted (l : Array Bool) : Nat := l.toList.countP (fun b => !b)

theorem countP_set : ∀ (xs : List Bool) (i : Nat), xs[i]? = some false → (xs.set i true).countP (fun b => !b) + 1 = xs.countP (fun b => !b)
  | [], _, h => by simp at h
  | x :: xs, 0, h => by simp at h; subst h; simp
  | x :: xs, i + 1, h => by
    have := countP_set xs i (by simpa using h)
    rw [List.set_cons_succ, List.countP_cons, List.countP_cons]
    omega

theorem unlisted_set {l : Array Bool} {i : Nat} (h : l.getD i true = false) : unlisted (l.setIfInBounds i true) + 1 = unlisted l := by
  have hi : i < l.size := by
    rcases Nat.lt_or_ge i l.size with h' | h'
    · exact h'
    · simp [Array.getElem?_eq_none h'] at h
  have hv : l[i] = false := by simpa [hi] using h
  unfold unlisted
  rw [Array.toList_setIfInBounds]
  refine countP_set _ _ ?_
  simp [hi, hv]

theorem ready_lt {ops : Array Oper} {listed : Array Bool} {md : Region.Mode} {i : Nat} (h : i ∈ Region.ready md ops listed) : ∃ o, ops[i]? = some o ∧ listed.getD i true = false ∧ ∀ e ∈ o.after, Region.binds md e = true → listed.getD e.on false = true := by
  obtain ⟨h0, o, ho, hall⟩ := mem_ready.1 h
  exact ⟨o, ho, h0, hall⟩

/-- a list of what the slots hold -/
def valsOf (l : List (World → Value → Prop)) (j : Nat) : World → Value → Prop := l.getD j fun _ _ => True
def isV (x : Value) : World → Value → Prop := fun _ v => v = x

theorem valsOf_stable {l : List (World → Value → Prop)} {J : World → Prop} {G : World → World → Prop} (h : ∀ p ∈ l, ∀ w w' v, J w → p w v → G w w' → p w' v) : ∀ j w w' v, J w → valsOf l j w v → G w w' → valsOf l j w' v := by
  intro j w w' v hJ hp hG
  unfold valsOf at *
  rcases Nat.lt_or_ge j l.length with hj | hj
  · simp only [List.getD_eq_getElem?_getD, List.getElem?_eq_getElem hj, Option.getD_some] at *
    exact h _ (List.getElem_mem hj) w w' v hJ hp hG
  · simp only [List.getD_eq_getElem?_getD, List.getElem?_eq_none hj, Option.getD_none]

def Stables (J : World → Prop) (G : World → World → Prop) (l : List (World → Value → Prop)) : Prop := ∀ p ∈ l, ∀ w w' v, J w → p w v → G w w' → p w' v
theorem Stables.nil {J : World → Prop} {G : World → World → Prop} : Stables J G [] := fun p hp => by cases hp
theorem Stables.other {J : World → Prop} {G : World → World → Prop} {q : World → Value → Prop} {l : List (World → Value → Prop)} (hq : ∀ w w' v, J w → q w v → G w w' → q w' v) (h : Stables J G l) : Stables J G (q :: l) := fun p hp => by
  rcases List.mem_cons.1 hp with rfl | hp
  · exact hq
  · exact h p hp
theorem Stables.same {J : World → Prop} {G : World → World → Prop} {x : Value} {l : List (World → Value → Prop)} (h : Stables J G l) : Stables J G (isV x :: l) := Stables.other (fun _ _ _ _ hv _ => hv) h
theorem Stables.all {J : World → Prop} {G : World → World → Prop} {l : List (World → Value → Prop)} (h : Stables J G l) : ∀ p ∈ l, ∀ w w' v, J w → p w v → G w w' → p w' v := h

theorem step_val {P : Program} {o : Oper} {ρ : Operand → Value} {w w' : World} {R : Value → World → Prop} {v : Value} (h : (execOp ρ o).run P w = .ok (.value v) w') (hR : R v w') : StepOK P o ρ w R := .inl ⟨v, w', h, hR⟩
theorem run_call_func {P : Program} {ρ : Operand → Value} {o : Oper} {f : FuncId} {xs : Array Operand} {ts : Array TypeId} (hρ : FrameLike ρ) (hop : o.op = .call { callee := .value (.func f), args := xs, argTypes := ts }) (he : ∀ args w, (callFunc f args).run P w = .ok (.enter f args) w) (w : World) : (execOp ρ o).run P w = .ok (.enter f (xs.map ρ)) w := by
  unfold execOp
  rw [hop]
  simp [resolve, hρ.func, Deferred.ofValue, invoke, he]
theorem step_func {P : Program} {o : Oper} {ρ : Operand → Value} {w : World} {R : Value → World → Prop} (f : FuncId) (xs : Array Operand) (ts : Array TypeId) (args : Array Value) (hρ : FrameLike ρ) (hop : o.op = .call { callee := .value (.func f), args := xs, argTypes := ts }) (he : ∀ args w, (callFunc f args).run P w = .ok (.enter f args) w) (ha : xs.map ρ = args) (hc : Calls P f args w fun e w'' => ∃ v, e = .returned v ∧ R v w'') : StepOK P o ρ w R :=
  .inr ⟨f, args, w, ha ▸ run_call_func hρ hop he w, hc⟩
theorem step_move {P : Program} {o : Oper} {ρ : Operand → Value} {w : World} {R : Value → World → Prop} (x : Operand) (h : o.op = .move x) (hR : R (ρ x) w) : StepOK P o ρ w R := .inl ⟨_, w, by unfold execOp; rw [h]; rfl, hR⟩
end Go.Proofs.YtkndjbmlkfpfoaaGreatDoor

/-
  A region that draws its order, within a fence, by an invariant: what each operation leaves in its slot holds in whatever order they come; an operation may call yield.
-/
set_option linter.unusedSimpArgs false
set_option linter.unusedVariables false
namespace Go.Proofs.YtkndjbmlkfpfoaaGreatDoor
open Go

/-- what an operation does in a fence, over whatever frame: it yields, it calls, or it goes into a round -/
def StepIn (F : Fence) (n : Nat) (P : Program) (o : Oper) (ρ : Operand → Value) (w : World) (R : Value → World → Prop) : Prop :=
  (∀ c, o.op ≠ .defer c) ∧ ((∃ v w', (execOp ρ o).run P w = .ok (.value v) w' ∧ R v w') ∨ (∃ f args w', (execOp ρ o).run P w = .ok (.enter f args) w' ∧ CallsIn F (n - 1) P f args w' fun e w'' => ∃ v, e = .returned v ∧ R v w'') ∨
    ∃ l f tmps assign body w', (execOp ρ o).run P w = .ok (.round l f tmps assign body) w' ∧ RoundIn F (n - 1) P l f tmps assign body w' fun e w'' => ∃ v, e = .returned v ∧ R v w'')

theorem StepIn.wp {F : Fence} {n : Nat} (hF : ∀ f, F.fn f) (hd : F.depth = none) {P : Program} {o : Oper} {a : Act} {w : World} {R : Value → World → Prop} {K : Act → World → Prop} {Q : Exit → Act → World → Prop} (h : StepIn F n P o a.eval w R) (hK : ∀ v w', R v w' → K (a.put o.dst v) w') : o.wpIn F n P a w K Q := by
  obtain ⟨hnd, h⟩ := h
  have hsem : o.semAt F.round a.eval = execOp a.eval o := by
    cases F.round with
    | none => rfl
    | some l => exact Oper.semAt_some l _ _ hnd
  refine ⟨fun f _ => hF f, ?_⟩
  rw [hsem]
  have hdp : F.depth.isSome = true → 1 ≤ n := fun h => by rw [hd] at h; cases h
  rcases h with ⟨v, w', e, r⟩ | ⟨f, args, w', e, hc⟩ | ⟨l, f, tmps, assign, body, w', e, hc⟩
  · rw [e]; exact hK v w' r
  · rw [e]
    refine ⟨hdp, CallsIn.mono hc fun e' w'' he => ?_⟩
    obtain ⟨v, rfl, r⟩ := he
    exact hK v w'' r
  · rw [e]
    refine ⟨hdp, RoundIn.mono hc fun e' w'' he => ?_⟩
    obtain ⟨v, rfl, r⟩ := he
    exact hK v w'' r

/-- an operation waits for another one -/
def depOn (ops : Array Oper) (j i : Nat) : Bool := match ops[j]? with
  | some o => o.after.any fun e => Region.binds .any e && e.on == i
  | none => false

end Go.Proofs.YtkndjbmlkfpfoaaGreatDoor

/-
  A region that draws its order, by an invariant, where its last operation writes a slot that it reads ahead of that, and each is told what has been done.
-/
set_option linter.unusedSimpArgs false
set_option linter.unusedVariables false
namespace Go.Proofs.YtkndjbmlkfpfoaaGreatDoor
open Go

/-- whatever is done is done ahead of the last one -/
def lastLast (ops : Array Oper) : Bool :=
  (List.range (ops.size - 1)).all fun i => (List.range ops.size).any fun j => match ops[j]? with
    | none => false
    | some o => decide (i < j) && o.after.any fun e => e.on == i && Region.binds .any e

theorem last_all {ops : Array Oper} (hl : lastLast ops = true) {listed : Array Bool} (down : ∀ (i : Nat) (o : Oper), ops[i]? = some o → listed.getD i false = true → ∀ e ∈ o.after, Region.binds .any e = true → listed.getD e.on false = true) (h : listed.getD (ops.size - 1) false = true) : ∀ (k i : Nat), i + k = ops.size - 1 → listed.getD i false = true := by
  intro k
  induction k using Nat.strongRecOn with
  | _ k ih =>
    intro i hi
    by_cases hk : k = 0
    · subst hk; rw [show i = ops.size - 1 by omega]; exact h
    · have h1 := List.all_eq_true.1 hl i (List.mem_range.2 (by omega))
      obtain ⟨j, hj, h2⟩ := List.any_eq_true.1 h1
      have hj := List.mem_range.1 hj
      cases ho : ops[j]? with
      | none => simp [ho] at h2
      | some o =>
        simp only [ho, Bool.and_eq_true, decide_eq_true_eq] at h2
        obtain ⟨e, he, hb⟩ := Array.any_eq_true'.1 h2.2
        simp at hb
        have := down j o ho (ih (ops.size - 1 - j) (by omega) j (by omega)) e he hb.2
        rw [hb.1] at this
        exact this

end Go.Proofs.YtkndjbmlkfpfoaaGreatDoor

/-
  A region that draws its order, within a fence, by an invariant over what has been done; its last operation, behind all others, is walked by itself.
-/
set_option linter.unusedSimpArgs false
set_option linter.unusedVariables false
namespace Go.Proofs.YtkndjbmlkfpfoaaGreatDoor
open Go

/-- the region's own shape: slots apart (the last one's aside), edges back, no guards -/
def fitsS (ops : Array Oper) (N : Nat) (D : Nat → Nat) (slots : List Nat) : Bool :=
  (List.range ops.size).all fun i => match ops[i]? with
    | none => false
    | some o => o.guard.isNone && o.after.all (fun e => decide (e.on < i)) && (i == ops.size - 1 || (o.dst == some (D i) && decide (D i < N) && !slots.contains (D i) && (List.range (ops.size - 1)).all (fun j => j == i || D j != D i)))

structure RInvS (ops : Array Oper) (N : Nat) (D : Nat → Nat) (base : List (Nat × Value)) (ds : List Deferred) (J : (Nat → Bool) → World → Prop) (V : Nat → World → Value → Prop) (listed : Array Bool) (a : Act) (w : World) : Prop where
  lsize : listed.size = ops.size
  size : a.tmps.size = N
  defers : a.defers = ds
  base : ∀ p ∈ base, a.eval (.tmp p.1) = p.2
  open_ : listed.getD (ops.size - 1) false = false
  down : ∀ (i : Nat) (o : Oper), ops[i]? = some o → listed.getD i false = true → ∀ e ∈ o.after, Region.binds .any e = true → listed.getD e.on false = true
  world : J (fun q => listed.getD q false) w
  vals : ∀ j, j < ops.size - 1 → listed.getD j false = true → V j w (a.eval (.tmp (D j)))

end Go.Proofs.YtkndjbmlkfpfoaaGreatDoor

/-
  A region that draws its order, by an invariant over what has been done; its last operation, a store behind all others, is walked by itself (no fence).
-/
set_option linter.unusedSimpArgs false
set_option linter.unusedVariables false
namespace Go.Proofs.YtkndjbmlkfpfoaaGreatDoor
open Go

/-- a store -/
theorem wp_store {P : Program} {o : Oper} {a : Act} {w w' : World} {K : Act → World → Prop} {Q : Exit → Act → World → Prop} {t : TypeId} {x y : Operand} (hop : o.op = Op.store t x y) (h : (Instr.storeAt t (a.eval x) (a.eval y)).run P w = .ok () w') (hK : K (a.put o.dst undef) w') : o.wp P a w K Q := by
  have hrun : (execOp a.eval o).run P w = .ok .skip w' := by
    unfold execOp
    simp [hop, h]
  unfold Oper.wp
  rw [hrun]
  exact hK

end Go.Proofs.YtkndjbmlkfpfoaaGreatDoor

/-
  A region that draws its order, by an invariant over what has been done; stores anywhere.
-/
set_option linter.unusedSimpArgs false
set_option linter.unusedVariables false
namespace Go.Proofs.YtkndjbmlkfpfoaaGreatDoor
open Go

/-- the region's own shape: slots apart, edges back, no guards; a store has none -/
def fitsU (ops : Array Oper) (N : Nat) (D : Nat → Nat) (slots : List Nat) : Bool :=
  (List.range ops.size).all fun i => match ops[i]? with
    | none => false
    | some o => o.guard.isNone && o.after.all (fun e => decide (e.on < i)) && (o.dst == none || (o.dst == some (D i) && decide (D i < N) && !slots.contains (D i) && (List.range ops.size).all (fun j => j == i || D j != D i)))

structure RInvU (ops : Array Oper) (N : Nat) (D : Nat → Nat) (base : List (Nat × Value)) (ds : List Deferred) (J : (Nat → Bool) → World → Prop) (V : Nat → World → Value → Prop) (listed : Array Bool) (a : Act) (w : World) : Prop where
  lsize : listed.size = ops.size
  size : a.tmps.size = N
  defers : a.defers = ds
  base : ∀ p ∈ base, a.eval (.tmp p.1) = p.2
  down : ∀ (i : Nat) (o : Oper), ops[i]? = some o → listed.getD i false = true → ∀ e ∈ o.after, Region.binds .any e = true → listed.getD e.on false = true
  world : J (fun q => listed.getD q false) w
  vals : ∀ j, j < ops.size → listed.getD j false = true → V j w (a.eval (.tmp (D j)))

/-- an operation that yields or calls, or a store -/
def StepU (P : Program) (o : Oper) (ρ : Operand → Value) (w : World) (R : Value → World → Prop) : Prop :=
  (o.dst ≠ none ∧ StepOK P o ρ w R) ∨ ∃ t x y w', o.dst = none ∧ o.op = Op.store t x y ∧ (Instr.storeAt t (ρ x) (ρ y)).run P w = .ok () w' ∧ R undef w'
theorem StepU.ok {P : Program} {o : Oper} {ρ : Operand → Value} {w : World} {R : Value → World → Prop} (hd : o.dst ≠ none) (h : StepOK P o ρ w R) : StepU P o ρ w R := .inl ⟨hd, h⟩
theorem StepU.st {P : Program} {o : Oper} {ρ : Operand → Value} {w w' : World} {R : Value → World → Prop} (t : TypeId) (x y : Operand) (hd : o.dst = none) (hop : o.op = Op.store t x y) (h : (Instr.storeAt t (ρ x) (ρ y)).run P w = .ok () w') (hR : R undef w') : StepU P o ρ w R := .inr ⟨t, x, y, w', hd, hop, h, hR⟩

theorem region_ss {P : Program} {ops : Array Oper} {Q : Exit → Act → World → Prop} (N : Nat) (D : Nat → Nat) (base : List (Nat × Value)) (J : (Nat → Bool) → World → Prop) (V : Nat → World → Value → Prop) (G : Nat → World → World → Prop) (ds : List Deferred)
    (hfit : fitsU ops N D (base.map (·.1)) = true) (hV : ∀ j i f w w' v, f j = true → f i = false → J f w → V j w v → G i w w' → V j w' v) (hVn : ∀ j o, ops[j]? = some o → o.dst = none → ∀ w v, V j w v)
    (hstep : StepsAll (fun i o => ∀ f ρ w, (∀ q, q = i ∨ depOn ops q i = true → f q = false) → (∀ (k : Nat) (e : Edge), o.after[k]? = some e → Region.binds .any e = true → f e.on = true) → FrameLike ρ → J f w → (∀ p ∈ base, ρ (.tmp p.1) = p.2) → (∀ (k : Nat) (e : Edge), o.after[k]? = some e → Region.binds .any e = true → V e.on w (ρ (.tmp (D e.on)))) → StepU P o ρ w (fun v w' => G i w w' ∧ J (fun q => f q || q == i) w' ∧ V i w' v)) 0 ops.toList)
    (hfin : ∀ (a : Act) (w : World), a.tmps.size = N → a.defers = ds → (∀ p ∈ base, a.eval (.tmp p.1) = p.2) → (∃ f, (∀ q, q < ops.size → f q = true) ∧ J f w) → (∀ j, j < ops.size → V j w (a.eval (.tmp (D j)))) → Q .normal a w) :
    ∀ a w, a.tmps.size = N → a.defers = ds → (∀ p ∈ base, a.eval (.tmp p.1) = p.2) → J (fun _ => false) w → wpAny P .any ops Q ops.size (Array.replicate ops.size false) a w := by
  have fits0 : ∀ (i : Nat) (o : Oper), ops[i]? = some o → o.guard = none ∧ ∀ e ∈ o.after, e.on < i := by
    intro i o ho
    have hi := (Array.getElem?_eq_some_iff.1 ho).1
    have h := List.all_eq_true.1 hfit i (List.mem_range.2 hi)
    simp only [ho, Bool.and_eq_true] at h
    refine ⟨by simpa using h.1.1, fun e he => ?_⟩
    have := Array.all_eq_true_iff_forall_mem.1 h.1.2 e he
    simpa using this
  have fits : ∀ (i : Nat) (o : Oper), o.dst ≠ none → ops[i]? = some o → o.dst = some (D i) ∧ D i < N ∧ (∀ p ∈ base, p.1 ≠ D i) ∧ (∀ j, j < ops.size → D j = D i → j = i) := by
    intro i o hne ho
    have hi := (Array.getElem?_eq_some_iff.1 ho).1
    have h := List.all_eq_true.1 hfit i (List.mem_range.2 hi)
    simp only [ho, Bool.and_eq_true] at h
    have h2 := h.2
    rw [show (o.dst == none) = false by cases h : o.dst with | none => exact absurd h hne | some d => rfl, Bool.false_or] at h2
    simp only [Bool.and_eq_true] at h2
    obtain ⟨⟨⟨h1, h2⟩, h3⟩, h4⟩ := h2
    refine ⟨by simpa using h1, by simpa using h2, fun p hp e => ?_, fun j hj e => ?_⟩
    · simp at h3
      exact h3 p.2 (by rw [← e]; exact hp)
    · have := List.all_eq_true.1 h4 j (List.mem_range.2 hj)
      simp [e] at this
      exact this
  have ready_none : ∀ (listed : Array Bool), listed.size = ops.size → Region.ready .any ops listed = [] → ∀ j, j < ops.size → listed.getD j false = true := by
    intro listed hls hr j hj
    have all : ∀ q j, j < q → j < ops.size → listed.getD j false = true := by
      intro q
      induction q with
      | zero => intro j h; omega
      | succ q ih =>
        intro j _ hj
        by_cases hjm : j < q
        · exact ih j hjm hj
        · obtain ⟨o, ho⟩ : ∃ o, ops[j]? = some o := ⟨_, Array.getElem?_eq_getElem hj⟩
          by_cases hl : listed.getD j true = false
          · exfalso
            have : j ∈ Region.ready .any ops listed := by
              refine mem_ready.2 ⟨hl, o, ho, fun e he hb => ?_⟩
              have := (fits0 j o ho).2 e he
              exact ih e.on (by omega) (by omega)
            rw [hr] at this
            cases this
          · have hl2 : j < listed.size := by rw [hls]; exact hj
            simp [hl2] at hl ⊢
            exact hl
    exact all (j + 1) j (by omega) hj
  have none_ready : ∀ (listed : Array Bool), listed.size = ops.size → (∀ j, j < ops.size → listed.getD j false = true) → Region.ready .any ops listed = [] := by
    intro listed hls hall
    cases h : Region.ready .any ops listed with
    | nil => rfl
    | cons i rs =>
      exfalso
      obtain ⟨o, ho, h0, _⟩ := ready_lt (md := .any) (ops := ops) (listed := listed) (i := i) (by rw [h]; simp)
      have hi := (Array.getElem?_eq_some_iff.1 ho).1
      have := hall i hi
      have hi3 : i < listed.size := by rw [hls]; exact hi
      simp [hi3] at h0 this
      rw [this] at h0; cases h0
  have fin : ∀ fuel (listed : Array Bool) a w, listed.size = ops.size → (∀ j, j < ops.size → listed.getD j false = true) → Q .normal a w → wpAny P .any ops Q fuel listed a w := by
    intro fuel listed a w hls hall hq
    have hr := none_ready listed hls hall
    cases fuel with
    | zero => exact ⟨hr, hq⟩
    | succ fuel => exact ⟨fun _ => hq, fun i hi => by rw [hr] at hi; cases hi⟩
  have main : ∀ fuel listed a w, unlisted listed ≤ fuel → RInvU ops N D base ds J V listed a w → wpAny P .any ops Q fuel listed a w := by
    have hdone : ∀ listed a w, RInvU ops N D base ds J V listed a w → Region.ready .any ops listed = [] → Q .normal a w := by
      intro listed a w hI hr
      have all := ready_none listed hI.lsize hr
      exact hfin a w hI.size hI.defers hI.base ⟨_, all, hI.world⟩ (fun j hj => hI.vals j hj (all j hj))
    intro fuel
    induction fuel with
    | zero =>
      intro listed a w hf hI
      have hr : Region.ready .any ops listed = [] := by
        cases h : Region.ready .any ops listed with
        | nil => rfl
        | cons i rs =>
          exfalso
          obtain ⟨o, ho, h0, _⟩ := ready_lt (md := .any) (ops := ops) (listed := listed) (i := i) (by rw [h]; simp)
          have := unlisted_set h0
          omega
      exact ⟨hr, hdone listed a w hI hr⟩
    | succ fuel ih =>
      intro listed a w hf hI
      refine ⟨fun hr => hdone listed a w hI hr, fun i hi => ?_⟩
      obtain ⟨o, ho, h0, hall⟩ := ready_lt hi
      obtain ⟨f0, f5⟩ := fits0 i o ho
      have hii := (Array.getElem?_eq_some_iff.1 ho).1
      have hi3 : i < listed.size := by rw [hI.lsize]; exact hii
      have hil : listed.getD i false = false := by
        simp [hi3] at h0 ⊢
        exact h0
      have hw : Region.wanted o (yielded ops a.tmps) = true := by
        unfold Region.wanted
        rw [f0]
      unfold wpOp
      simp only [ho, hw, if_true]
      have up : ∀ q, listed.getD q false = true → (listed.setIfInBounds i true).getD q false = true := fun q hq => by
        by_cases hqi : q = i
        · subst hqi; rw [hil] at hq; cases hq
        · rw [getD_set_ne false (Ne.symm hqi)]; exact hq
      have hdown : ∀ (i' : Nat) (o' : Oper), ops[i']? = some o' → (listed.setIfInBounds i true).getD i' false = true → ∀ e ∈ o'.after, Region.binds .any e = true → (listed.setIfInBounds i true).getD e.on false = true := by
        intro i' o' ho' hl' e he hb
        by_cases hii' : i' = i
        · subst hii'
          rw [ho] at ho'; cases ho'
          exact up _ (hall e he hb)
        · rw [getD_set_ne false (Ne.symm hii')] at hl'
          exact up _ (hI.down i' o' ho' hl' e he hb)
      have ef : (fun q => (listed.setIfInBounds i true).getD q false) = fun q => (fun q => listed.getD q false) q || q == i := by
        funext q
        by_cases hqi : q = i
        · subst hqi
          simp [hi3]
        · rw [getD_set_ne false (Ne.symm hqi)]
          simp [hqi]
      have hS := hstep.get (j := i) (o := o) (by simpa using ho)
      rw [Nat.zero_add] at hS
      have hdep : ∀ (k : Nat) (e : Edge), o.after[k]? = some e → Region.binds .any e = true → V e.on w (a.eval (.tmp (D e.on))) := fun k e he hb => hI.vals e.on (by have := f5 e (Array.mem_of_getElem? he); omega) (hall e (Array.mem_of_getElem? he) hb)
      have hmf : ∀ q, q = i ∨ depOn ops q i = true → listed.getD q false = false := by
        rintro q (e | hdp)
        · rw [e]; exact hil
        · unfold depOn at hdp
          cases hom : ops[q]? with
          | none => simp [hom] at hdp
          | some om =>
            simp only [hom] at hdp
            obtain ⟨e, he, hb⟩ := Array.any_eq_true'.1 hdp
            simp at hb
            cases hx : listed.getD q false with
            | false => rfl
            | true =>
              have := hI.down q om hom hx e he hb.1
              rw [hb.2, hil] at this
              cases this
      have hst := hS (fun q => listed.getD q false) a.eval w hmf (fun k e he hb => hall e (Array.mem_of_getElem? he) hb) ⟨fun _ => rfl, fun _ => rfl⟩ hI.world hI.base hdep
      rcases hst with ⟨hdn, hst⟩ | ⟨t, x, y, w', hdn, hop, hrun, hG, hJi, hVi⟩
      · obtain ⟨f1, f2, f3, f4⟩ := fits i o hdn ho
        refine .inl (StepOK.wp hst fun v w' hR => ?_)
        obtain ⟨hG, hJi, hVi⟩ := hR
        refine ih _ _ _ (by have := unlisted_set h0; omega) ?_
        have hDi : D i < a.tmps.size := by rw [hI.size]; exact f2
        rw [f1]
        refine ⟨by simpa using hI.lsize, by simpa [Act.put] using hI.size, by simpa [Act.put] using hI.defers, fun p hp => ?_, hdown, by rw [ef]; exact hJi, fun j hjn hj => ?_⟩
        · rw [Act.eval_put (fun d hd e => f3 p hp (by simp at hd e; rw [e, hd]))]
          exact hI.base p hp
        · by_cases hji : j = i
          · subst hji
            rw [eval_put_self hDi]
            exact hVi
          · rw [getD_set_ne false (Ne.symm hji)] at hj
            rw [Act.eval_put (fun d hd e => hji (f4 j hjn (by simp at hd e; rw [e, hd])))]
            exact hV j i _ w w' _ hj hil hI.world (hI.vals j hjn hj) hG
      · refine .inl (wp_store hop hrun ?_)
        rw [hdn]
        refine ih _ _ _ (by have := unlisted_set h0; omega) ?_
        refine ⟨by simpa using hI.lsize, hI.size, hI.defers, hI.base, hdown, by rw [ef]; exact hJi, fun j hjn hj => ?_⟩
        by_cases hji : j = i
        · subst hji
          exact hVn j o ho hdn _ _
        · rw [getD_set_ne false (Ne.symm hji)] at hj
          exact hV j i _ w w' _ hj hil hI.world (hI.vals j hjn hj) hG
  have none' : ∀ j, (Array.replicate ops.size false).getD j false = false := fun j => by
    by_cases h : j < ops.size
    · simp [h]
    · simp [h]
  intro a w h1 h2 h3 h4
  refine main ops.size _ a w ?_ ⟨by simp, h1, h2, h3, fun i o _ hl => ?_, by rw [show (fun q => (Array.replicate ops.size false).getD q false) = fun _ => false from funext none']; exact h4, fun j _ hj => ?_⟩
  · have : unlisted (Array.replicate ops.size false) ≤ ops.size := by
      unfold unlisted
      refine Nat.le_trans (List.countP_le_length) (by simp)
    exact this
  · rw [none'] at hl; cases hl
  · rw [none'] at hj; cases hj

end Go.Proofs.YtkndjbmlkfpfoaaGreatDoor

/-
  A region that draws its order, by an invariant over what has been done; its last operation, behind all others, is walked by itself, whatever it is (no fence).
-/
set_option linter.unusedSimpArgs false
set_option linter.unusedVariables false
namespace Go.Proofs.YtkndjbmlkfpfoaaGreatDoor
open Go

theorem region_cl {P : Program} {ops : Array Oper} {Q : Exit → Act → World → Prop} (N : Nat) (D : Nat → Nat) (base : List (Nat × Value)) (J : (Nat → Bool) → World → Prop) (V : Nat → World → Value → Prop) (G : World → World → Prop) (ds : List Deferred) (hpos : 0 < ops.size)
    (hfit : fitsS ops N D (base.map (·.1)) = true)
    (hlast : lastLast ops = true) (hV : ∀ j f w w' v, J f w → V j w v → G w w' → V j w' v)
    (hstep : StepsAll (fun i o => i < ops.size - 1 → ∀ f ρ w, (∀ q, q = i ∨ depOn ops q i = true → f q = false) → (∀ (k : Nat) (e : Edge), o.after[k]? = some e → Region.binds .any e = true → f e.on = true) → FrameLike ρ → J f w → (∀ p ∈ base, ρ (.tmp p.1) = p.2) → (∀ (k : Nat) (e : Edge), o.after[k]? = some e → Region.binds .any e = true → V e.on w (ρ (.tmp (D e.on)))) → StepOK P o ρ w (fun v w' => G w w' ∧ J (fun q => f q || q == i) w' ∧ V i w' v)) 0 ops.toList)
    (hfin : ∀ (a : Act) (w : World) (o : Oper), ops[ops.size - 1]? = some o → a.tmps.size = N → a.defers = ds → (∀ p ∈ base, a.eval (.tmp p.1) = p.2) → (∃ f, (∀ q, q < ops.size - 1 → f q = true) ∧ f (ops.size - 1) = false ∧ J f w) → (∀ j, j < ops.size - 1 → V j w (a.eval (.tmp (D j)))) → StepOK P o a.eval w (fun v w' => Q .normal (a.put o.dst v) w')) :
    ∀ a w, a.tmps.size = N → a.defers = ds → (∀ p ∈ base, a.eval (.tmp p.1) = p.2) → J (fun _ => false) w → wpAny P .any ops Q ops.size (Array.replicate ops.size false) a w := by
  have fits0 : ∀ (i : Nat) (o : Oper), ops[i]? = some o → o.guard = none ∧ ∀ e ∈ o.after, e.on < i := by
    intro i o ho
    have hi := (Array.getElem?_eq_some_iff.1 ho).1
    have h := List.all_eq_true.1 hfit i (List.mem_range.2 hi)
    simp only [ho, Bool.and_eq_true] at h
    refine ⟨by simpa using h.1.1, fun e he => ?_⟩
    have := Array.all_eq_true_iff_forall_mem.1 h.1.2 e he
    simpa using this
  have fits : ∀ (i : Nat) (o : Oper), i ≠ ops.size - 1 → ops[i]? = some o → o.dst = some (D i) ∧ D i < N ∧ (∀ p ∈ base, p.1 ≠ D i) ∧ (∀ j, j < ops.size - 1 → D j = D i → j = i) := by
    intro i o hne ho
    have hi := (Array.getElem?_eq_some_iff.1 ho).1
    have h := List.all_eq_true.1 hfit i (List.mem_range.2 hi)
    simp only [ho, Bool.and_eq_true] at h
    have h2 := h.2
    rw [show (i == ops.size - 1) = false by simpa using hne, Bool.false_or] at h2
    simp only [Bool.and_eq_true] at h2
    obtain ⟨⟨⟨h1, h2⟩, h3⟩, h4⟩ := h2
    refine ⟨by simpa using h1, by simpa using h2, fun p hp e => ?_, fun j hj e => ?_⟩
    · simp at h3
      exact h3 p.2 (by rw [← e]; exact hp)
    · have := List.all_eq_true.1 h4 j (List.mem_range.2 hj)
      simp [e] at this
      exact this
  have ready_none : ∀ (listed : Array Bool), listed.size = ops.size → Region.ready .any ops listed = [] → ∀ j, j < ops.size → listed.getD j false = true := by
    intro listed hls hr j hj
    have all : ∀ q j, j < q → j < ops.size → listed.getD j false = true := by
      intro q
      induction q with
      | zero => intro j h; omega
      | succ q ih =>
        intro j _ hj
        by_cases hjm : j < q
        · exact ih j hjm hj
        · obtain ⟨o, ho⟩ : ∃ o, ops[j]? = some o := ⟨_, Array.getElem?_eq_getElem hj⟩
          by_cases hl : listed.getD j true = false
          · exfalso
            have : j ∈ Region.ready .any ops listed := by
              refine mem_ready.2 ⟨hl, o, ho, fun e he hb => ?_⟩
              have := (fits0 j o ho).2 e he
              exact ih e.on (by omega) (by omega)
            rw [hr] at this
            cases this
          · have hl2 : j < listed.size := by rw [hls]; exact hj
            simp [hl2] at hl ⊢
            exact hl
    exact all (j + 1) j (by omega) hj
  have none_ready : ∀ (listed : Array Bool), listed.size = ops.size → (∀ j, j < ops.size → listed.getD j false = true) → Region.ready .any ops listed = [] := by
    intro listed hls hall
    cases h : Region.ready .any ops listed with
    | nil => rfl
    | cons i rs =>
      exfalso
      obtain ⟨o, ho, h0, _⟩ := ready_lt (md := .any) (ops := ops) (listed := listed) (i := i) (by rw [h]; simp)
      have hi := (Array.getElem?_eq_some_iff.1 ho).1
      have := hall i hi
      have hi3 : i < listed.size := by rw [hls]; exact hi
      simp [hi3] at h0 this
      rw [this] at h0; cases h0
  have fin : ∀ fuel (listed : Array Bool) a w, listed.size = ops.size → (∀ j, j < ops.size → listed.getD j false = true) → Q .normal a w → wpAny P .any ops Q fuel listed a w := by
    intro fuel listed a w hls hall hq
    have hr := none_ready listed hls hall
    cases fuel with
    | zero => exact ⟨hr, hq⟩
    | succ fuel => exact ⟨fun _ => hq, fun i hi => by rw [hr] at hi; cases hi⟩
  have main : ∀ fuel listed a w, unlisted listed ≤ fuel → RInvS ops N D base ds J V listed a w → wpAny P .any ops Q fuel listed a w := by
    intro fuel
    induction fuel with
    | zero =>
      intro listed a w hf hI
      exfalso
      have hl3 : ops.size - 1 < listed.size := by rw [hI.lsize]; omega
      have h0 : listed.getD (ops.size - 1) true = false := by
        have := hI.open_
        simp [hl3] at this ⊢
        exact this
      have := unlisted_set h0
      omega
    | succ fuel ih =>
      intro listed a w hf hI
      refine ⟨fun hr => ?_, fun i hi => ?_⟩
      · exfalso
        have := ready_none listed hI.lsize hr (ops.size - 1) (by omega)
        rw [hI.open_] at this; cases this
      obtain ⟨o, ho, h0, hall⟩ := ready_lt hi
      obtain ⟨f0, f5⟩ := fits0 i o ho
      have hii := (Array.getElem?_eq_some_iff.1 ho).1
      have hi3 : i < listed.size := by rw [hI.lsize]; exact hii
      have hil : listed.getD i false = false := by
        simp [hi3] at h0 ⊢
        exact h0
      have hw : Region.wanted o (yielded ops a.tmps) = true := by
        unfold Region.wanted
        rw [f0]
      unfold wpOp
      simp only [ho, hw, if_true]
      have up : ∀ q, listed.getD q false = true → (listed.setIfInBounds i true).getD q false = true := fun q hq => by
        by_cases hqi : q = i
        · subst hqi; rw [hil] at hq; cases hq
        · rw [getD_set_ne false (Ne.symm hqi)]; exact hq
      have hdown : ∀ (i' : Nat) (o' : Oper), ops[i']? = some o' → (listed.setIfInBounds i true).getD i' false = true → ∀ e ∈ o'.after, Region.binds .any e = true → (listed.setIfInBounds i true).getD e.on false = true := by
        intro i' o' ho' hl' e he hb
        by_cases hii' : i' = i
        · subst hii'
          rw [ho] at ho'; cases ho'
          exact up _ (hall e he hb)
        · rw [getD_set_ne false (Ne.symm hii')] at hl'
          exact up _ (hI.down i' o' ho' hl' e he hb)
      by_cases hil2 : i = ops.size - 1
      · have hself : (listed.setIfInBounds i true).getD (ops.size - 1) false = true := by rw [← hil2]; simp [hi3]
        have hall2 : ∀ q, q < ops.size → (listed.setIfInBounds i true).getD q false = true := fun q hq => last_all hlast hdown hself (ops.size - 1 - q) q (by omega)
        have hall3 : ∀ q, q < ops.size - 1 → listed.getD q false = true := fun q hq => by
          have := hall2 q (by omega)
          rwa [getD_set_ne false (by omega)] at this
        have hso := hfin a w o (by rw [← hil2]; exact ho) hI.size hI.defers hI.base ⟨_, hall3, hI.open_, hI.world⟩ (fun j hj => hI.vals j hj (hall3 j hj))
        refine .inl (StepOK.wp hso fun v w' hq => ?_)
        exact fin _ _ _ _ (by simpa using hI.lsize) hall2 hq
      · obtain ⟨f1, f2, f3, f4⟩ := fits i o hil2 ho
        have hS := hstep.get (j := i) (o := o) (by simpa using ho)
        rw [Nat.zero_add] at hS
        have hlast2 : ∀ e ∈ o.after, e.on < ops.size - 1 := fun e he => by have := f5 e he; omega
        have hdep : ∀ (k : Nat) (e : Edge), o.after[k]? = some e → Region.binds .any e = true → V e.on w (a.eval (.tmp (D e.on))) := fun k e he hb => hI.vals e.on (hlast2 e (Array.mem_of_getElem? he)) (hall e (Array.mem_of_getElem? he) hb)
        have hmf : ∀ q, q = i ∨ depOn ops q i = true → listed.getD q false = false := by
          rintro q (e | hdp)
          · rw [e]; exact hil
          · unfold depOn at hdp
            cases hom : ops[q]? with
            | none => simp [hom] at hdp
            | some om =>
              simp only [hom] at hdp
              obtain ⟨e, he, hb⟩ := Array.any_eq_true'.1 hdp
              simp at hb
              cases hx : listed.getD q false with
              | false => rfl
              | true =>
                have := hI.down q om hom hx e he hb.1
                rw [hb.2, hil] at this
                cases this
        have hst := hS (by omega) (fun q => listed.getD q false) a.eval w hmf (fun k e he hb => hall e (Array.mem_of_getElem? he) hb) ⟨fun _ => rfl, fun _ => rfl⟩ hI.world hI.base hdep
        refine .inl (StepOK.wp hst fun v w' hR => ?_)
        obtain ⟨hG, hJi, hVi⟩ := hR
        refine ih _ _ _ (by have := unlisted_set h0; omega) ?_
        have hDi : D i < a.tmps.size := by rw [hI.size]; exact f2
        rw [f1]
        refine ⟨by simpa using hI.lsize, by simpa [Act.put] using hI.size, by simpa [Act.put] using hI.defers, fun p hp => ?_, ?_, hdown, ?_, fun j hjn hj => ?_⟩
        · rw [Act.eval_put (fun d hd e => f3 p hp (by simp at hd e; rw [e, hd]))]
          exact hI.base p hp
        · rw [getD_set_ne false hil2]; exact hI.open_
        · have ef : (fun q => (listed.setIfInBounds i true).getD q false) = fun q => (fun q => listed.getD q false) q || q == i := by
            funext q
            by_cases hqi : q = i
            · subst hqi
              simp [hi3]
            · rw [getD_set_ne false (Ne.symm hqi)]
              simp [hqi]
          rw [ef]; exact hJi
        · by_cases hji : j = i
          · subst hji
            rw [eval_put_self hDi]
            exact hVi
          · rw [getD_set_ne false (Ne.symm hji)] at hj
            rw [Act.eval_put (fun d hd e => hji (f4 j hjn (by simp at hd e; rw [e, hd])))]
            exact hV j _ w w' _ hI.world (hI.vals j hjn hj) hG
  have none' : ∀ j, (Array.replicate ops.size false).getD j false = false := fun j => by
    by_cases h : j < ops.size
    · simp [h]
    · simp [h]
  intro a w h1 h2 h3 h4
  refine main ops.size _ a w ?_ ⟨by simp, h1, h2, h3, none' _, fun i o _ hl => ?_, by rw [show (fun q => (Array.replicate ops.size false).getD q false) = fun _ => false from funext none']; exact h4, fun j _ hj => ?_⟩
  · have : unlisted (Array.replicate ops.size false) ≤ ops.size := by
      unfold unlisted
      refine Nat.le_trans (List.countP_le_length) (by simp)
    exact this
  · rw [none'] at hl; cases hl
  · rw [none'] at hj; cases hj

end Go.Proofs.YtkndjbmlkfpfoaaGreatDoor
