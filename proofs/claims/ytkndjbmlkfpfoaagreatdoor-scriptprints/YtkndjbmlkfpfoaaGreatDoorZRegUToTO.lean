/-
  A region that draws its order, by an invariant over what has been done; stores anywhere.
-/
import Derived.Test.YtkndjbmlkfpfoaaGreatDoorZLN0ToRegT
import Derived.Test.YtkndjbmlkfpfoaaGreatDoorZDNcToTN

set_option linter.unusedSimpArgs false
set_option linter.unusedVariables false
namespace Go.Proofs.YtkndjbmlkfpfoaaGreatDoor
open Go

/-- the region's own shape: slots apart, edges back, no guards; a store has none -/
def fitsU (ops : Array Oper) (N : Nat) (D : Nat → Nat) (slots : List Nat) : Bool :=
  (List.range ops.size).all fun i => match ops[i]? with
    | none => false
    | some o => o.guard.isNone && o.after.all (fun e => decide (e.on < i)) && (o.dst == none || (o.dst == some (D i) && decide (D i < N) && !slots.contains (D i) && (List.range ops.size).all (fun j => j == i || D j != D i)))

structure RInvU (ops : Array Oper) (N : Nat) (D : Nat → Nat) (base : List (Nat × Value)) (ds : List Deferred) (J : (Nat → Bool) → World → Prop) (V : Nat → World → Value → Prop) (listed : Array Bool) (a : Act) (w : World) : Prop where
  lsize : listed.size = ops.size
  size : a.tmps.size = N
  defers : a.defers = ds
  base : ∀ p ∈ base, a.eval (.tmp p.1) = p.2
  down : ∀ (i : Nat) (o : Oper), ops[i]? = some o → listed.getD i false = true → ∀ e ∈ o.after, Region.binds .any e = true → listed.getD e.on false = true
  world : J (fun q => listed.getD q false) w
  vals : ∀ j, j < ops.size → listed.getD j false = true → V j w (a.eval (.tmp (D j)))

/-- an operation that yields or calls, or a store -/
def StepU (P : Program) (o : Oper) (ρ : Operand → Value) (w : World) (R : Value → World → Prop) : Prop :=
  (o.dst ≠ none ∧ StepOK P o ρ w R) ∨ ∃ t x y w', o.dst = none ∧ o.op = Op.store t x y ∧ (Instr.storeAt t (ρ x) (ρ y)).run P w = .ok () w' ∧ R undef w'
theorem StepU.ok {P : Program} {o : Oper} {ρ : Operand → Value} {w : World} {R : Value → World → Prop} (hd : o.dst ≠ none) (h : StepOK P o ρ w R) : StepU P o ρ w R := .inl ⟨hd, h⟩
theorem StepU.st {P : Program} {o : Oper} {ρ : Operand → Value} {w w' : World} {R : Value → World → Prop} (t : TypeId) (x y : Operand) (hd : o.dst = none) (hop : o.op = Op.store t x y) (h : (Instr.storeAt t (ρ x) (ρ y)).run P w = .ok () w') (hR : R undef w') : StepU P o ρ w R := .inr ⟨t, x, y, w', hd, hop, h, hR⟩

theorem region_ss {P : Program} {ops : Array Oper} {Q : Exit → Act → World → Prop} (N : Nat) (D : Nat → Nat) (base : List (Nat × Value)) (J : (Nat → Bool) → World → Prop) (V : Nat → World → Value → Prop) (G : Nat → World → World → Prop) (ds : List Deferred)
    (hfit : fitsU ops N D (base.map (·.1)) = true) (hV : ∀ j i f w w' v, f j = true → f i = false → J f w → V j w v → G i w w' → V j w' v) (hVn : ∀ j o, ops[j]? = some o → o.dst = none → ∀ w v, V j w v)
    (hstep : StepsAll (fun i o => ∀ f ρ w, (∀ q, q = i ∨ depOn ops q i = true → f q = false) → (∀ (k : Nat) (e : Edge), o.after[k]? = some e → Region.binds .any e = true → f e.on = true) → FrameLike ρ → J f w → (∀ p ∈ base, ρ (.tmp p.1) = p.2) → (∀ (k : Nat) (e : Edge), o.after[k]? = some e → Region.binds .any e = true → V e.on w (ρ (.tmp (D e.on)))) → StepU P o ρ w (fun v w' => G i w w' ∧ J (fun q => f q || q == i) w' ∧ V i w' v)) 0 ops.toList)
    (hfin : ∀ (a : Act) (w : World), a.tmps.size = N → a.defers = ds → (∀ p ∈ base, a.eval (.tmp p.1) = p.2) → (∃ f, (∀ q, q < ops.size → f q = true) ∧ J f w) → (∀ j, j < ops.size → V j w (a.eval (.tmp (D j)))) → Q .normal a w) :
    ∀ a w, a.tmps.size = N → a.defers = ds → (∀ p ∈ base, a.eval (.tmp p.1) = p.2) → J (fun _ => false) w → wpAny P .any ops Q ops.size (Array.replicate ops.size false) a w := by
  have fits0 : ∀ (i : Nat) (o : Oper), ops[i]? = some o → o.guard = none ∧ ∀ e ∈ o.after, e.on < i := by
    intro i o ho
    have hi := (Array.getElem?_eq_some_iff.1 ho).1
    have h := List.all_eq_true.1 hfit i (List.mem_range.2 hi)
    simp only [ho, Bool.and_eq_true] at h
    refine ⟨by simpa using h.1.1, fun e he => ?_⟩
    have := Array.all_eq_true_iff_forall_mem.1 h.1.2 e he
    simpa using this
  have fits : ∀ (i : Nat) (o : Oper), o.dst ≠ none → ops[i]? = some o → o.dst = some (D i) ∧ D i < N ∧ (∀ p ∈ base, p.1 ≠ D i) ∧ (∀ j, j < ops.size → D j = D i → j = i) := by
    intro i o hne ho
    have hi := (Array.getElem?_eq_some_iff.1 ho).1
    have h := List.all_eq_true.1 hfit i (List.mem_range.2 hi)
    simp only [ho, Bool.and_eq_true] at h
    have h2 := h.2
    rw [show (o.dst == none) = false by cases h : o.dst with | none => exact absurd h hne | some d => rfl, Bool.false_or] at h2
    simp only [Bool.and_eq_true] at h2
    obtain ⟨⟨⟨h1, h2⟩, h3⟩, h4⟩ := h2
    refine ⟨by simpa using h1, by simpa using h2, fun p hp e => ?_, fun j hj e => ?_⟩
    · simp at h3
      exact h3 p.2 (by rw [← e]; exact hp)
    · have := List.all_eq_true.1 h4 j (List.mem_range.2 hj)
      simp [e] at this
      exact this
  have ready_none : ∀ (listed : Array Bool), listed.size = ops.size → Region.ready .any ops listed = [] → ∀ j, j < ops.size → listed.getD j false = true := by
    intro listed hls hr j hj
    have all : ∀ q j, j < q → j < ops.size → listed.getD j false = true := by
      intro q
      induction q with
      | zero => intro j h; omega
      | succ q ih =>
        intro j _ hj
        by_cases hjm : j < q
        · exact ih j hjm hj
        · obtain ⟨o, ho⟩ : ∃ o, ops[j]? = some o := ⟨_, Array.getElem?_eq_getElem hj⟩
          by_cases hl : listed.getD j true = false
          · exfalso
            have : j ∈ Region.ready .any ops listed := by
              refine mem_ready.2 ⟨hl, o, ho, fun e he hb => ?_⟩
              have := (fits0 j o ho).2 e he
              exact ih e.on (by omega) (by omega)
            rw [hr] at this
            cases this
          · have hl2 : j < listed.size := by rw [hls]; exact hj
            simp [hl2] at hl ⊢
            exact hl
    exact all (j + 1) j (by omega) hj
  have none_ready : ∀ (listed : Array Bool), listed.size = ops.size → (∀ j, j < ops.size → listed.getD j false = true) → Region.ready .any ops listed = [] := by
    intro listed hls hall
    cases h : Region.ready .any ops listed with
    | nil => rfl
    | cons i rs =>
      exfalso
      obtain ⟨o, ho, h0, _⟩ := ready_lt (md := .any) (ops := ops) (listed := listed) (i := i) (by rw [h]; simp)
      have hi := (Array.getElem?_eq_some_iff.1 ho).1
      have := hall i hi
      have hi3 : i < listed.size := by rw [hls]; exact hi
      simp [hi3] at h0 this
      rw [this] at h0; cases h0
  have fin : ∀ fuel (listed : Array Bool) a w, listed.size = ops.size → (∀ j, j < ops.size → listed.getD j false = true) → Q .normal a w → wpAny P .any ops Q fuel listed a w := by
    intro fuel listed a w hls hall hq
    have hr := none_ready listed hls hall
    cases fuel with
    | zero => exact ⟨hr, hq⟩
    | succ fuel => exact ⟨fun _ => hq, fun i hi => by rw [hr] at hi; cases hi⟩
  have main : ∀ fuel listed a w, unlisted listed ≤ fuel → RInvU ops N D base ds J V listed a w → wpAny P .any ops Q fuel listed a w := by
    have hdone : ∀ listed a w, RInvU ops N D base ds J V listed a w → Region.ready .any ops listed = [] → Q .normal a w := by
      intro listed a w hI hr
      have all := ready_none listed hI.lsize hr
      exact hfin a w hI.size hI.defers hI.base ⟨_, all, hI.world⟩ (fun j hj => hI.vals j hj (all j hj))
    intro fuel
    induction fuel with
    | zero =>
      intro listed a w hf hI
      have hr : Region.ready .any ops listed = [] := by
        cases h : Region.ready .any ops listed with
        | nil => rfl
        | cons i rs =>
          exfalso
          obtain ⟨o, ho, h0, _⟩ := ready_lt (md := .any) (ops := ops) (listed := listed) (i := i) (by rw [h]; simp)
          have := unlisted_set h0
          omega
      exact ⟨hr, hdone listed a w hI hr⟩
    | succ fuel ih =>
      intro listed a w hf hI
      refine ⟨fun hr => hdone listed a w hI hr, fun i hi => ?_⟩
      obtain ⟨o, ho, h0, hall⟩ := ready_lt hi
      obtain ⟨f0, f5⟩ := fits0 i o ho
      have hii := (Array.getElem?_eq_some_iff.1 ho).1
      have hi3 : i < listed.size := by rw [hI.lsize]; exact hii
      have hil : listed.getD i false = false := by
        simp [hi3] at h0 ⊢
        exact h0
      have hw : Region.wanted o (yielded ops a.tmps) = true := by
        unfold Region.wanted
        rw [f0]
      unfold wpOp
      simp only [ho, hw, if_true]
      have up : ∀ q, listed.getD q false = true → (listed.setIfInBounds i true).getD q false = true := fun q hq => by
        by_cases hqi : q = i
        · subst hqi; rw [hil] at hq; cases hq
        · rw [getD_set_ne false (Ne.symm hqi)]; exact hq
      have hdown : ∀ (i' : Nat) (o' : Oper), ops[i']? = some o' → (listed.setIfInBounds i true).getD i' false = true → ∀ e ∈ o'.after, Region.binds .any e = true → (listed.setIfInBounds i true).getD e.on false = true := by
        intro i' o' ho' hl' e he hb
        by_cases hii' : i' = i
        · subst hii'
          rw [ho] at ho'; cases ho'
          exact up _ (hall e he hb)
        · rw [getD_set_ne false (Ne.symm hii')] at hl'
          exact up _ (hI.down i' o' ho' hl' e he hb)
      have ef : (fun q => (listed.setIfInBounds i true).getD q false) = fun q => (fun q => listed.getD q false) q || q == i := by
        funext q
        by_cases hqi : q = i
        · subst hqi
          simp [hi3]
        · rw [getD_set_ne false (Ne.symm hqi)]
          simp [hqi]
      have hS := hstep.get (j := i) (o := o) (by simpa using ho)
      rw [Nat.zero_add] at hS
      have hdep : ∀ (k : Nat) (e : Edge), o.after[k]? = some e → Region.binds .any e = true → V e.on w (a.eval (.tmp (D e.on))) := fun k e he hb => hI.vals e.on (by have := f5 e (Array.mem_of_getElem? he); omega) (hall e (Array.mem_of_getElem? he) hb)
      have hmf : ∀ q, q = i ∨ depOn ops q i = true → listed.getD q false = false := by
        rintro q (e | hdp)
        · rw [e]; exact hil
        · unfold depOn at hdp
          cases hom : ops[q]? with
          | none => simp [hom] at hdp
          | some om =>
            simp only [hom] at hdp
            obtain ⟨e, he, hb⟩ := Array.any_eq_true'.1 hdp
            simp at hb
            cases hx : listed.getD q false with
            | false => rfl
            | true =>
              have := hI.down q om hom hx e he hb.1
              rw [hb.2, hil] at this
              cases this
      have hst := hS (fun q => listed.getD q false) a.eval w hmf (fun k e he hb => hall e (Array.mem_of_getElem? he) hb) ⟨fun _ => rfl, fun _ => rfl⟩ hI.world hI.base hdep
      rcases hst with ⟨hdn, hst⟩ | ⟨t, x, y, w', hdn, hop, hrun, hG, hJi, hVi⟩
      · obtain ⟨f1, f2, f3, f4⟩ := fits i o hdn ho
        refine .inl (StepOK.wp hst fun v w' hR => ?_)
        obtain ⟨hG, hJi, hVi⟩ := hR
        refine ih _ _ _ (by have := unlisted_set h0; omega) ?_
        have hDi : D i < a.tmps.size := by rw [hI.size]; exact f2
        rw [f1]
        refine ⟨by simpa using hI.lsize, by simpa [Act.put] using hI.size, by simpa [Act.put] using hI.defers, fun p hp => ?_, hdown, by rw [ef]; exact hJi, fun j hjn hj => ?_⟩
        · rw [Act.eval_put (fun d hd e => f3 p hp (by simp at hd e; rw [e, hd]))]
          exact hI.base p hp
        · by_cases hji : j = i
          · subst hji
            rw [eval_put_self hDi]
            exact hVi
          · rw [getD_set_ne false (Ne.symm hji)] at hj
            rw [Act.eval_put (fun d hd e => hji (f4 j hjn (by simp at hd e; rw [e, hd])))]
            exact hV j i _ w w' _ hj hil hI.world (hI.vals j hjn hj) hG
      · refine .inl (wp_store hop hrun ?_)
        rw [hdn]
        refine ih _ _ _ (by have := unlisted_set h0; omega) ?_
        refine ⟨by simpa using hI.lsize, hI.size, hI.defers, hI.base, hdown, by rw [ef]; exact hJi, fun j hjn hj => ?_⟩
        by_cases hji : j = i
        · subst hji
          exact hVn j o ho hdn _ _
        · rw [getD_set_ne false (Ne.symm hji)] at hj
          exact hV j i _ w w' _ hj hil hI.world (hI.vals j hjn hj) hG
  have none' : ∀ j, (Array.replicate ops.size false).getD j false = false := fun j => by
    by_cases h : j < ops.size
    · simp [h]
    · simp [h]
  intro a w h1 h2 h3 h4
  refine main ops.size _ a w ?_ ⟨by simp, h1, h2, h3, fun i o _ hl => ?_, by rw [show (fun q => (Array.replicate ops.size false).getD q false) = fun _ => false from funext none']; exact h4, fun j _ hj => ?_⟩
  · have : unlisted (Array.replicate ops.size false) ≤ ops.size := by
      unfold unlisted
      refine Nat.le_trans (List.countP_le_length) (by simp)
    exact this
  · rw [none'] at hl; cases hl
  · rw [none'] at hj; cases hj

end Go.Proofs.YtkndjbmlkfpfoaaGreatDoor

/-
  What stays in the drawn region append(append([]T{}, l...), m)[:len(l)].
-/
set_option linter.unusedSimpArgs false
set_option linter.unusedVariables false
namespace Go.Proofs.YtkndjbmlkfpfoaaGreatDoor
open Go Go.RowKit Go.Lib

theorem run_appendO {P : Program} {o : Oper} {ρ : Operand → Value} {w : World} {v' : Value} {w' : World} (s x : Operand) (t : TypeId)
    (ho : o.op = .call { callee := .builtin .append, args := #[s, x], argTypes := #[t, t] }) {v u : Value} (hs : ρ s = v) (hx : ρ x = u) (hr : (Builtin.append_ #[t, t] o.type #[v, u]).run P w = .ok v' w') : (execOp ρ o).run P w = .ok (.value v') w' := by
  unfold execOp
  simp only [ho, resolve, invoke, builtin, Sem.run_bind, Sem.run_pure, Result.andThen_ok, List.map_toArray, List.map_cons, List.map_nil, hs, hx, hr]
def trueV : World → Value → Prop := fun _ _ => True
def Em0 : World → Value → Prop := fun _ v => ∃ b, v = .slice (some ⟨b, 0, none⟩) 0 0
def Row5 (N : Nat) (E : TypeId) (n : Nat) (C : List Value) (W : World) (v : Value) : Prop := W.ownsRow N E 1 v (n + 1) C
def Row9 (N : Nat) (E : TypeId) (n : Nat) (C : List Value) (W : World) (v : Value) : Prop := ∃ g c, v = .slice (some ⟨g, 0, none⟩) n c ∧ W.ownsRow N E 1 (.slice (some ⟨g, 0, none⟩) (n + 1) c) (n + 1) C
theorem own_gq {N : Nat} {E : TypeId} {k n : Nat} {C : List Value} {W W' : World} {v : Value} (h : W.ownsRow N E k v n C) (hg : ∀ i, N ≤ i → i < W.heap.size → W'.heap[i]? = W.heap[i]?) : W'.ownsRow N E k v n C := by
  obtain ⟨h1, h2⟩ := h
  refine ⟨h1, ?_⟩
  rcases h2 with h2 | ⟨g, cap, cur, e, hbg, hh, hc⟩
  · exact .inl h2
  · exact .inr ⟨g, cap, cur, e, hbg, (hg g hbg (Array.getElem?_eq_some_iff.1 hh).1).trans hh, hc⟩
structure Gs6 (N : Nat) (E : TypeId) (n : Nat) (C : List Value) (y : Value) (i : Nat) (W W' : World) : Prop where
  ow : ∀ v, Ow3 N E n C W v → Ow3 N E n C W' v
  mkd : ∀ v, Mk4 N E y W v → Mk4 N E y W' v
  r : i ≠ 5 → ∀ k, N ≤ k → k < W.heap.size → W'.heap[k]? = W.heap[k]?
theorem Gs6.of_r {N : Nat} {E : TypeId} {n : Nat} {C : List Value} {y : Value} {i : Nat} {W W' : World} (h : ∀ k, N ≤ k → k < W.heap.size → W'.heap[k]? = W.heap[k]?) : Gs6 N E n C y i W W' := by
  refine ⟨fun v hv => ?_, fun v hv => ?_, fun _ => h⟩
  · rcases hv with hv | ⟨h0, hv⟩
    · exact .inl hv
    · exact .inr ⟨h0, own_gq hv h⟩
  · obtain ⟨b, e, h1, h2⟩ := hv
    exact ⟨b, e, h1, (h b h1 (Array.getElem?_eq_some_iff.1 h2).1).trans h2⟩
theorem Gs6.refl {N : Nat} {E : TypeId} {n : Nat} {C : List Value} {y : Value} {i : Nat} (W : World) : Gs6 N E n C y i W W := .of_r fun _ _ _ => rfl
theorem Gs6.below {N : Nat} {E : TypeId} {n : Nat} {C : List Value} {y : Value} {i : Nat} {W W' : World} (h : Below W.heap.size W W') : Gs6 N E n C y i W W' := .of_r fun k _ hk => h.block k hk
theorem Gs6.r5 {N : Nat} {E : TypeId} {n : Nat} {C D : List Value} {y : Value} {i : Nat} {W W' : World} {v : Value} (h : Gs6 N E n C y i W W') (hi : i ≠ 5) (hv : Row5 N E n D W v) : Row5 N E n D W' v := own_gq hv (h.r hi)
theorem Gs6.r9 {N : Nat} {E : TypeId} {n : Nat} {C D : List Value} {y : Value} {i : Nat} {W W' : World} {v : Value} (h : Gs6 N E n C y i W W') (hi : i ≠ 5) (hv : Row9 N E n D W v) : Row9 N E n D W' v := by
  obtain ⟨g, c, e, ho⟩ := hv
  exact ⟨g, c, e, own_gq ho (h.r hi)⟩

/-- what the region knows of the world -/
structure Lj6 (N b off : Nat) (E : TypeId) (n : Nat) (D : List Value) (X : World) (f : Nat → Bool) (W : World) : Prop where
  o : f 9 = true → f 5 = true
  w : (f 11 = false ∧ Below N X W ∧ N ≤ W.heap.size) ∨ (f 11 = true ∧ ∃ U g c, Below N X U ∧ N ≤ U.heap.size ∧ W = U.setCell ⟨b, off, none⟩ (.slice (some ⟨g, 0, none⟩) n c) ∧ U.ownsRow N E 1 (.slice (some ⟨g, 0, none⟩) (n + 1) c) (n + 1) D)
theorem Lj6.nop {N b off : Nat} {E : TypeId} {n : Nat} {D : List Value} {X W : World} {f : Nat → Bool} (h : Lj6 N b off E n D X f W) (i : Nat) (hi : i ≠ 11) (h9 : i = 9 → f 5 = true) : Lj6 N b off E n D X (fun q => f q || q == i) W := by
  refine ⟨fun e => ?_, ?_⟩
  · simp only [Bool.or_eq_true, beq_iff_eq] at e ⊢
    rcases e with e | e
    · exact .inl (h.o e)
    · exact .inl (h9 e.symm)
  · have e : (f 11 || 11 == i) = f 11 := by
      have : (11 == i) = false := by rw [beq_eq_false_iff_ne]; exact fun e => hi e.symm
      rw [this, Bool.or_false]
    rw [e]
    exact h.w
theorem Lj6.grow {N b off : Nat} {E : TypeId} {n : Nat} {D : List Value} {X W W' : World} {f : Nat → Bool} (h : Lj6 N b off E n D X f W) (i : Nat) (hi : i ≠ 11) (h9 : i ≠ 9) (h11 : f 11 = false) (hb : Below N W W') : Lj6 N b off E n D X (fun q => f q || q == i) W' := by
  have h0 := h.nop i hi (fun e => absurd e h9)
  refine ⟨h0.o, ?_⟩
  rcases h0.w with ⟨e, k1, k2⟩ | ⟨e, _⟩
  · exact .inl ⟨e, k1.trans hb, Nat.le_trans k2 hb.size⟩
  · exfalso
    simp only [h11, Bool.false_or, beq_iff_eq] at e
    exact hi e.symm
theorem Lj6.base {N b off : Nat} {E : TypeId} {n : Nat} {D : List Value} {X W : World} {f : Nat → Bool} (h : Lj6 N b off E n D X f W) (h11 : f 11 = false) : Below N X W ∧ N ≤ W.heap.size := by
  rcases h.w with ⟨_, k⟩ | ⟨e, _⟩
  · exact k
  · rw [h11] at e; cases e
theorem Lj6.store {N b off : Nat} {E : TypeId} {n : Nat} {D : List Value} {X W : World} {f : Nat → Bool} (h : Lj6 N b off E n D X f W) (h11 : f 11 = false) {g c : Nat} (ho : W.ownsRow N E 1 (.slice (some ⟨g, 0, none⟩) (n + 1) c) (n + 1) D) : Lj6 N b off E n D X (fun q => f q || q == 11) (W.setCell ⟨b, off, none⟩ (.slice (some ⟨g, 0, none⟩) n c)) := by
  refine ⟨fun e => ?_, .inr ⟨by simp, W, g, c, (h.base h11).1, (h.base h11).2, rfl, ho⟩⟩
  simp at e ⊢
  exact h.o e
theorem Lj6.fin {N b off : Nat} {E : TypeId} {n : Nat} {D : List Value} {X W : World} {f : Nat → Bool} (h : Lj6 N b off E n D X f W) (h11 : f 11 = true) : ∃ U g c, Below N X U ∧ N ≤ U.heap.size ∧ W = U.setCell ⟨b, off, none⟩ (.slice (some ⟨g, 0, none⟩) n c) ∧ U.ownsRow N E 1 (.slice (some ⟨g, 0, none⟩) (n + 1) c) (n + 1) D := by
  rcases h.w with ⟨e, _⟩ | ⟨_, k⟩
  · rw [h11] at e; cases e
  · exact k
/-- x[:n] of a slice with room -/
theorem slice_to (TS E : TypeId) (ht : Tryz.prog.underlying TS = some (.slice E)) {z : Value} {bytes : Nat} (hinf : (Tryz.prog.info? E).map (fun i => (i.zero, i.size, i.bytes)) = some (some z, 1, bytes)) (w : World) (a : Option Addr) (n c k : Nat) (hk : k ≤ c) :
    (Instr.sliceAt TS (.slice a n c) none (some (.int .i64 (k : Nat))) none).run Tryz.prog w = .ok (.slice a k c) w := by
  obtain ⟨i0, hi, hz0, hz1, hz2⟩ := info_parts5 hinf
  have h1 : (k : Int) ≤ (c : Int) := by omega
  simp [Instr.sliceAt, Instr.slice, run_underlying ht, sizeOf, typeInfo, hi, hz1, go_sem, h1, hk]
theorem own_cap' {W : World} {B E k n : Nat} {v : Value} {C : List Value} (h : W.ownsRow B E k v (n + 1) C) : ∃ g c, v = .slice (some ⟨g, 0, none⟩) (n + 1) c ∧ n + 1 ≤ c := by
  obtain ⟨_, (⟨_, h0⟩ | ⟨g, cap, cur, e, _, _, h1, _⟩)⟩ := h
  · omega
  · exact ⟨g, cap, e, h1⟩
theorem frame_fn {a : Act} (N : Nat) (hs : a.tmps.size = N) (hd : a.defers = []) : a = { tmps := ((List.range N).map fun k => a.eval (.tmp k)).toArray, defers := [] } := by
  obtain ⟨t, d⟩ := a
  simp only at hs hd
  subst hd
  congr 1
  apply Array.ext
  · simp [hs]
  · intro i h1 h2
    simp [Act.eval, h1]

end Go.Proofs.YtkndjbmlkfpfoaaGreatDoor

/-
  What script.takeAll does: numbers behind a step's Draws.
-/
set_option linter.unusedSimpArgs false
set_option linter.unusedVariables false
namespace Go.Proofs.YtkndjbmlkfpfoaaGreatDoor
open Go.RowKit Go.Lib

def Sp.dr (s : Sp) (ds : List Int) : Sp := { s with draws := ds }
theorem spC_dr (s : Sp) (ds : List Int) (dv bv u : Value) : (spC s dv bv).setIfInBounds 7 u = spC (s.dr ds) u bv := rfl
theorem allN_take {l : List It} {j : Nat} {x : It} (h : l[j]? = some x) (hx : x.w.k = 3) (ha : allN (l.take j) = true) : allN (l.take (j + 1)) = true := by
  unfold allN at ha ⊢
  rw [List.take_add_one, h, List.all_append, ha]
  simp [hx]
theorem allN_not {l : List It} {j : Nat} {x : It} (h : l[j]? = some x) (hx : x.w.k ≠ 3) : allN l = false := by
  unfold allN
  rw [List.all_eq_false]
  exact ⟨x, List.mem_of_getElem? h, by simp [hx]⟩
theorem nums_take {l : List It} {j : Nat} {x : It} (h : l[j]? = some x) : (l.take (j + 1)).map (fun x => x.w.n) = (l.take j).map (fun x => x.w.n) ++ [x.w.n] := by
  rw [List.take_add_one, h]; simp

/-- what takeAll answers and leaves -/
def TkA (N : Nat) (W : World) (b : Nat) (s : Sp) (dv bv : Value) (l : List It) (e : Ending) (W' : World) : Prop :=
  ∃ dv' ds, e = .returned (.bool (allN l)) ∧ (allN l = true → ds = s.draws ++ l.map fun x => x.w.n) ∧ StO N W' b (s.dr ds) dv' bv ∧ Kp (fun i => i = b ∨ dv.ownBlock = some i) W W'

set_option maxRecDepth 100000 in
set_option maxHeartbeats 4000000 in
theorem takeAll_in {W0 W : World} {b : Nat} {s : Sp} {dv bv wv : Value} {l : List It} (hb0 : Below W0.heap.size W0 W) (h : StO W0.heap.size W b s dv bv) (hNb : W0.heap.size ≤ b) (hr : RW W0 wv l) (hl : l.length ≤ 1000000) (hd : s.draws.length ≤ 1000000) :
    Calls Tryz.prog 87 #[.pointer (some ⟨b, 7, none⟩), wv] W (TkA W0.heap.size W b s dv bv l) := by
  obtain ⟨a0, c0, rfl⟩ := hr.form
  obtain ⟨N, hN⟩ : ∃ N, l.length = N := ⟨_, rfl⟩
  have hat := fun i x hx => RW.at hr (i := i) (x := x) hx
  rw [hN] at hl ⊢
  have HAT := hide hat
  have HN := hide hN
  have HB0 := hide hb0
  have HP : Hid (∀ i, (i = b ∨ dv.ownBlock = some i) → W0.heap.size ≤ i) := fun i hi => by
    rcases hi with rfl | hi
    · exact hNb
    · exact (World.ownsRow.lt h.dr i hi).1
  have H0 := hide (show ∃ dvj, StO W0.heap.size W b (s.dr (s.draws ++ (l.take 0).map fun x => x.w.n)) dvj bv ∧ Kp (fun i => i = b ∨ dv.ownBlock = some i) W W ∧ (∀ i, dvj.ownBlock = some i → dv.ownBlock = some i ∨ W.heap.size ≤ i) ∧ allN (l.take 0) = true from ⟨dv, by simpa [Sp.dr] using h, Kp.refl _ _, fun i hi => .inl hi, rfl⟩)
  clear hat hN hr h hb0
  go_enter Tryz.func87, Tryz.ntmps87
  go_wp2_with fail
  go_loopw [6, 9] (fun v6 v9 wr => ∃ (j : Nat), v9 = .int .i64 (j : Int) ∧ j ≤ N ∧ Hid (∃ dvj, StO W0.heap.size wr b (s.dr (s.draws ++ (l.take j).map fun x => x.w.n)) dvj bv ∧ Kp (fun i => i = b ∨ dv.ownBlock = some i) W wr ∧ (∀ i, dvj.ownBlock = some i → dv.ownBlock = some i ∨ W.heap.size ≤ i) ∧ allN (l.take j) = true)) (fun _ v9 _ => N - (RowKit.intOf v9).toNat)
  case atStart => exact ⟨0, rfl, Nat.zero_le _, H0⟩
  case round =>
    clear H0
    obtain ⟨j, rfl, hj, H⟩ := hrel
    by_cases hjl : j < N
    · obtain ⟨dvj, hs, hk, hdo, hall⟩ := unhide H
      obtain ⟨x, hx⟩ : ∃ x, l[j]? = some x := ⟨_, List.getElem?_eq_getElem (by rw [unhide HN]; exact hjl)⟩
      obtain ⟨g, off, rfl, hglt, q0, q1, q2, q3, q4⟩ := unhide HAT j x hx
      have hbw := hk.below (unhide HB0) (unhide HP)
      have d0 := cell_below q0 hbw
      have d1 := cell_below q1 hbw
      have d2 := cell_below q2 hbw
      have d3 := cell_below q3 hbw
      have d4 := cell_below q4 hbw
      obtain ⟨a, c, ef⟩ := owns_form hs.dr
      obtain ⟨m, hm⟩ : ∃ m, (s.dr (s.draws ++ (l.take j).map fun x => x.w.n)).draws.length = m := ⟨_, rfl⟩
      rw [hm] at ef
      subst ef
      have hml : m ≤ 100000000 := by rw [← hm]; show (s.draws ++ (l.take j).map fun x => x.w.n).length ≤ _; simp; omega
      have k5 : (j : Int) < (N : Int) := by omega
      have k6 : (0 : Int) ≤ (j : Int) := by omega
      have hbx := Bq.new wr 73 (encW x).toArray
      have hb1 := ballc (Below.refl _ wr) (.cells (encW x).toArray 73)
      have hs1 := hs.below hb1
      have e0 := hbx.cell 0 (.int .i64 (x.w.k : Int)) rfl
      have e2 := hbx.cell 2 (.int .i64 x.w.n) rfl
      have cb := hs1.bx.cell 7 (.slice a m c) rfl
      by_cases h3 : x.w.k = 3
      · have kx : ((x.w.k : Int) != 3) = false := by rw [h3]; rfl
        have hbx2 := Bq.new (wr.alloc (.cells (encW x).toArray 73)) 3 #[.int .i64 x.w.n]
        have hb2 := ballc hb1 (.cells #[.int .i64 x.w.n] 3)
        have hs2 := hs.below hb2
        obtain ⟨V, hV⟩ : ∃ V, ((wr.alloc (.cells (encW x).toArray 73)).alloc (.cells #[.int .i64 x.w.n] 3)).drew = V := ⟨_, rfl⟩
        have hbV : Below wr.heap.size wr V := by rw [← hV]; exact hb2.drew
        have hsV : StO W0.heap.size V b (s.dr (s.draws ++ (l.take j).map fun x => x.w.n)) (.slice a m c) bv := by rw [← hV]; exact ⟨hs2.bx, hs2.dr, hs2.by_⟩
        have hxV : Bq V (wr.alloc (.cells (encW x).toArray 73)).heap.size 3 #[.int .i64 x.w.n] := by rw [← hV]; exact hbx2
        obtain ⟨v', w', p1, p2, p3, p4⟩ := append_num V 37 W0.heap.size (.slice a m c) _ x.w.n _ hsV.dr hxV (Nat.le_trans hbw.size hbV.size) (by omega)
        obtain ⟨a', c', ef'⟩ := owns_form p2
        have hm' : ((s.dr (s.draws ++ (l.take j).map fun x => x.w.n)).draws ++ [x.w.n]).length = m + 1 := by rw [List.length_append, hm]; rfl
        rw [hm'] at p2 ef'
        subst ef'
        have kg := Kp.of_grown (N := fun k => (Value.slice a m c).ownBlock = some k) p3 (fun k hk => hk)
        have hnb : (Value.slice a m c).ownBlock ≠ some b := owns_ty hsV.dr hsV.bx (by decide)
        have hbw' := hsV.bx.kp kg hnb
        have hnb' : (Value.slice a' (m + 1) c').ownBlock ≠ some b := owns_ty p2 hbw' (by decide)
        have cb' := hbw'.cell 7 (.slice a m c) rfl
        have fb' := hbw'.frozen 7
        have hne : ∀ i, bv.ownBlock = some i → (Value.slice a m c).ownBlock ≠ some i := fun i hi e => by
          rcases hsV.by_ with ⟨e1, _⟩ | ⟨g1, _, _, _, e1, _, hg1, _⟩
          · rw [e1] at hi; cases hi
          · obtain ⟨_, (⟨e2, _⟩ | ⟨g2, _, _, e2, _, hg2, _⟩)⟩ := hsV.dr
            · rw [e2] at e; cases e
            · rw [e1] at hi; rw [e2] at e; cases hi; cases e; rw [hg1] at hg2; cases hg2
        have hset : StO W0.heap.size (w'.setCell ⟨b, 7, none⟩ (.slice a' (m + 1) c')) b (s.dr (s.draws ++ (l.take (j + 1)).map fun x => x.w.n)) (.slice a' (m + 1) c') bv := by
          have kset := Kp.set (N := fun i => i = b) w' ⟨b, 7, none⟩ (.slice a' (m + 1) c') rfl
          refine ⟨?_, ?_, ?_⟩
          · have := hbw'.sets 7 (.slice a' (m + 1) c')
            exact this
          · rw [nums_take hx, ← List.append_assoc]
            refine owns_kp (C := flat enN ((s.draws ++ (l.take j).map fun x => x.w.n) ++ [x.w.n])) ?_ kset (fun i hi e => hnb' (by rw [hi, e]))
            have := p2
            rw [← hm'] at this
            rw [hm'] at this
            rw [show (s.dr ((s.draws ++ (l.take j).map fun x => x.w.n) ++ [x.w.n])).draws.length = m + 1 from hm']
            exact this
          · exact ownsF_kp (ownsF_kp hsV.by_ kg (fun i hi e => hne i hi e)) kset (fun i hi e => ownsF_ty hsV.by_ hsV.bx (by decide) (by rw [hi, e]))
        have hkk : Kp (fun i => i = b ∨ dv.ownBlock = some i) W (w'.setCell ⟨b, 7, none⟩ (.slice a' (m + 1) c')) := by
          refine (hk.trans (Kp.of_below (N := fun _ => False) hbV) (fun _ e => e.elim)).trans ((kg.wk (N' := fun k => (Value.slice a m c).ownBlock = some k ∨ k = b) (fun i h => .inl h)).trans (Kp.set (N := fun i => i = b) w' ⟨b, 7, none⟩ (.slice a' (m + 1) c') rfl) (fun i hi => .inl (.inr hi))) (fun i hi => ?_)
          rcases hi with hi | rfl
          · rcases hdo i hi with e | e
            · exact .inl (.inr e)
            · exact .inr e
          · exact .inl (.inl rfl)
        have hown : ∀ i, (Value.slice a' (m + 1) c').ownBlock = some i → dv.ownBlock = some i ∨ W.heap.size ≤ i := fun i hi => by
          rcases p4 with e | e
          · exact hdo i (by rw [← e]; exact hi)
          · rw [hi] at e; cases e; exact .inr (Nat.le_trans hk.size hbV.size)
        have HN2 := hide (show ∃ dvj, StO W0.heap.size (w'.setCell ⟨b, 7, none⟩ (.slice a' (m + 1) c')) b (s.dr (s.draws ++ (l.take (j + 1)).map fun x => x.w.n)) dvj bv ∧ Kp (fun i => i = b ∨ dv.ownBlock = some i) W (w'.setCell ⟨b, 7, none⟩ (.slice a' (m + 1) c')) ∧ (∀ i, dvj.ownBlock = some i → dv.ownBlock = some i ∨ W.heap.size ≤ i) ∧ allN (l.take (j + 1)) = true from ⟨_, hset, hkk, hown, allN_take hx h3 hall⟩)
        rw [← hV] at p1
        have cb2 := cell_below cb (ballc (Below.refl _ (wr.alloc (.cells (encW x).toArray 73))) (.cells #[.int .i64 x.w.n] 3))
        have e22 := cell_below e2 (ballc (Below.refl _ (wr.alloc (.cells (encW x).toArray 73))) (.cells #[.int .i64 x.w.n] 3))
        rw [World.size_alloc] at p1
        unfold encW at p1 e0 e2 cb cb2 e22
        have HA := hide p1
        clear hs hk hdo hall hx q0 q1 q2 q3 q4 hbw hm hbx hb1 hs1 h3 H hglt p1 p2 p3 p4 hm' kg hnb hbw' hnb' hne hset hkk hown hbx2 hb2 hs2 hbV hsV hxV hV hml
        go_upto_region 6 with fail
        go_region_law (refine step_append_eq rfl (.tmp 19) (.tmp 22) 37 rfl _ _ _ (by simp [Act.eval, Act.put]) (by simp [Act.eval, Act.put]) (unhide HA) ?_)
        all_goals (
          go_wp2
          go_roundw
          case rel => exact ⟨j + 1, by go_num, by omega, HN2⟩
          case measure => simp [RowKit.intOf]; omega)
      · have kx : ((x.w.k : Int) != 3) = true := by rw [bne_iff_ne]; omega
        have HF := hide (show TkA W0.heap.size W b s dv bv l (.returned (.bool false)) (wr.alloc (.cells (encW x).toArray 73)) from ⟨_, _, by rw [allN_not hx h3], (fun e => by rw [allN_not hx h3] at e; cases e), hs1, hk.trans (Kp.of_below (N := fun _ => False) hb1) (fun _ e => e.elim)⟩)
        unfold encW at HF e0 e2 cb
        clear hs hk hdo hall hx q0 q1 q2 q3 q4 hbw hm hbx hb1 hs1 h3 H hglt e2 cb
        go_wp2
        go_ret
        exact unhide HF
    · obtain rfl : j = N := by omega
      obtain ⟨dvj, hs, hk, hdo, hall⟩ := unhide H
      have kd : decide ((j : Int) < (j : Int)) = false := by simp
      have e1 : l.take j = l := List.take_of_length_le (by rw [unhide HN]; exact Nat.le_refl _)
      rw [e1] at hs hall
      have HF := hide (show TkA W0.heap.size W b s dv bv l (.returned (.bool true)) wr from ⟨_, _, by rw [hall], fun _ => rfl, hs, hk⟩)
      clear hs hk hdo hall H e1
      go_wp2
      go_ret
      exact unhide HF
end Go.Proofs.YtkndjbmlkfpfoaaGreatDoor
