/-
  A region that is carried out in the order of the text and only reads: what each operation leaves, its guard decided by what stands ahead of it; no walk over the frame.
-/
import Derived.Test.YtiakhpfljjfaeaaZXReg
set_option linter.unusedSimpArgs false
set_option linter.unusedVariables false
namespace Go.Proofs.Ytiakhpfljjfaeaa
open Go

/-- is an operation wanted, by the list of what those ahead of it left? -/
def wantV (vals : List Value) (o : Oper) : Bool := match o.guard with
  | none => true
  | some (g, b) => match vals[g]? with
    | some (.bool c) => c == b
    | _ => false

theorem iteSkip {c : Bool} {A B : Prop} [Decidable (c = true)] (h : c = false) (b : B) : (if c = true then A else B) := by
  subst h
  rw [if_neg Bool.false_ne_true]
  exact b

def seqFits (ops : Array Oper) (N : Nat) (D : Nat → Nat) (slots : List Nat) (n : Nat) : Bool :=
  ops.size == n && (List.range ops.size).all fun i => match ops[i]? with
    | none => false
    | some o => o.dst == some (D i) && decide (D i < N) && !slots.contains (D i) && (List.range ops.size).all (fun j => j == i || D j != D i) && match o.guard with
      | none => true
      | some (g, _) => decide (g < i)

theorem region_seq {P : Program} {id : Nat} {ops : Array Oper} {Q : Exit → Act → World → Prop} (N : Nat) (D : Nat → Nat) (base : List (Nat × Value)) (vals : List Value) (w : World)
    (hfit : seqFits ops N D (base.map (·.1)) vals.length = true)
    (hstep : StepsAll (fun i o => if wantV vals o = true then ∀ ρ, FrameLike ρ → (∀ p ∈ base, ρ (.tmp p.1) = p.2) → (∀ j v, j < i → vals[j]? = some v → ρ (.tmp (D j)) = v) → ∃ v, vals[i]? = some v ∧ (execOp ρ o).run P w = .ok (.value v) w else vals[i]? = some undef) 0 ops.toList)
    (hfin : ∀ a : Act, a.tmps.size = N → a.defers = [] → (∀ p ∈ base, a.eval (.tmp p.1) = p.2) → (∀ j v, vals[j]? = some v → a.eval (.tmp (D j)) = v) → Q .normal a w) :
    ∀ a : Act, a.tmps.size = N → a.defers = [] → (∀ p ∈ base, a.eval (.tmp p.1) = p.2) → (Code.region id ops false).wp P Q a w := by
  simp only [seqFits, Bool.and_eq_true, beq_iff_eq] at hfit
  obtain ⟨hlen, hfit⟩ := hfit
  have fits : ∀ (i : Nat) (o : Oper), ops[i]? = some o → o.dst = some (D i) ∧ D i < N ∧ (∀ p ∈ base, p.1 ≠ D i) ∧ (∀ j, j < ops.size → D j = D i → j = i) ∧ ∀ g b, o.guard = some (g, b) → g < i := by
    intro i o ho
    have hi := (Array.getElem?_eq_some_iff.1 ho).1
    have h := List.all_eq_true.1 hfit i (List.mem_range.2 hi)
    simp only [ho, Bool.and_eq_true] at h
    obtain ⟨⟨⟨⟨h1, h2⟩, h3⟩, h4⟩, h5⟩ := h
    refine ⟨by simpa using h1, by simpa using h2, fun p hp e => ?_, fun j hj e => ?_, fun g b hgb => ?_⟩
    · simp at h3
      exact h3 p.2 (by rw [← e]; exact hp)
    · have := List.all_eq_true.1 h4 j (List.mem_range.2 hj)
      simp [e] at this
      exact this
    · rw [hgb] at h5
      simpa using h5
  have main : ∀ (rest : List Oper) (i : Nat) (a : Act), ops.toList.drop i = rest → i ≤ ops.size → a.tmps.size = N → a.defers = [] → (∀ p ∈ base, a.eval (.tmp p.1) = p.2) → (∀ j v, j < i → vals[j]? = some v → a.eval (.tmp (D j)) = v) → wpList P ops Q rest a w := by
    intro rest
    induction rest with
    | nil =>
      intro i a hd hi h1 h2 h3 h4
      have hie : i = ops.size := by
        have := congrArg List.length hd
        simp at this
        omega
      exact hfin a h1 h2 h3 (fun j v hv => h4 j v (by have := (List.getElem?_eq_some_iff.1 hv).1; omega) hv)
    | cons o rest ih =>
      intro i a hd hi h1 h2 h3 h4
      have ho : ops[i]? = some o := by
        have := congrArg List.head? hd
        rw [List.head?_drop] at this
        simpa using this
      have hilt := (Array.getElem?_eq_some_iff.1 ho).1
      obtain ⟨f1, f2, f3, f4, f5⟩ := fits i o ho
      have hS := hstep.get (j := i) (o := o) (by simpa using ho)
      rw [Nat.zero_add] at hS
      have hw : Region.wanted o (yielded ops a.tmps) = wantV vals o := by
        unfold Region.wanted wantV
        cases hg : o.guard with
        | none => rfl
        | some gb =>
          obtain ⟨g, b⟩ := gb
          have hgi := f5 g b hg
          obtain ⟨og, hog⟩ : ∃ og, ops[g]? = some og := ⟨_, Array.getElem?_eq_getElem (by omega)⟩
          obtain ⟨g1, g2, _⟩ := fits g og hog
          obtain ⟨v, hv⟩ : ∃ v, vals[g]? = some v := ⟨_, List.getElem?_eq_getElem (by omega)⟩
          have hev := h4 g v hgi hv
          have hlt : D g < a.tmps.size := by rw [h1]; exact g2
          have e0 : ((ops[g]?).bind (·.dst)).bind (a.tmps[·]?) = some v := by simp only [hog, Option.bind_some, g1, eval_some hlt, hev]
          simp only [yielded, e0, hv]
          cases v with
          | bool c => cases c <;> cases b <;> rfl
          | _ => rfl
      have next : ∀ v, vals[i]? = some v → wpList P ops Q rest (a.put o.dst v) w := by
        intro v hv
        refine ih (i + 1) _ ?_ (by omega) (by rw [f1]; simpa [Act.put] using h1) (by rw [f1]; simpa [Act.put] using h2) (fun p hp => ?_) (fun j u hj hu => ?_)
        · rw [← List.drop_drop, hd]; rfl
        · rw [f1, Act.eval_put (fun d hd e => f3 p hp (by simp at hd e; rw [e, hd]))]
          exact h3 p hp
        · by_cases hji : j = i
          · subst hji
            rw [hv] at hu
            cases hu
            rw [f1]
            exact eval_put_self (by rw [h1]; exact f2)
          · rw [f1, Act.eval_put (fun d hd e => hji (f4 j (by omega) (by simp at hd e; rw [e, hd])))]
            exact h4 j u (by omega) hu
      unfold wpList
      rw [hw]
      by_cases hwv : wantV vals o = true
      · rw [if_pos hwv] at hS
        rw [if_pos hwv]
        obtain ⟨v, hv, hrun⟩ := hS a.eval ⟨fun _ => rfl, fun _ => rfl⟩ h3 h4
        refine .inl ?_
        unfold Oper.wp
        rw [hrun]
        exact next v hv
      · rw [if_neg hwv] at hS
        rw [if_neg hwv]
        exact next undef hS
  intro a h1 h2 h3
  refine wp_region ?_
  have e := wpOps_eq_wpList (P := P) (ops := ops) (Q := Q) ops.toList 0 (fun j => by simp)
  rw [show List.range ops.size = List.range' 0 ops.toList.length by rw [List.range_eq_range']; simp, e]
  exact main ops.toList 0 a (by simp) (Nat.zero_le _) h1 h2 h3 (fun j v hj => by omega)

/-- a frame's slots, told at once -/
theorem base_all {a : Act} : ∀ {l : List (Nat × Value)}, l.map (fun p => a.eval (.tmp p.1)) = l.map Prod.snd → ∀ p ∈ l, a.eval (.tmp p.1) = p.2
  | [], _, p, hp => by cases hp
  | x :: l, h, p, hp => by
    simp only [List.map_cons, List.cons.injEq] at h
    rcases List.mem_cons.1 hp with rfl | hp
    · exact h.1
    · exact base_all h.2 p hp
/-- what a region leaves, told at once -/
theorem vals_all {a : Act} {D : Nat → Nat} {vals : List Value} (hv : ∀ j v, vals[j]? = some v → a.eval (.tmp (D j)) = v) {l : List (Nat × Value)} (hl : l = (List.range vals.length).map (fun j => (D j, vals.getD j undef))) : ∀ p ∈ l, a.eval (.tmp p.1) = p.2 := by
  intro p hp
  rw [hl] at hp
  obtain ⟨j, hj, rfl⟩ := List.mem_map.1 hp
  have hj' := List.mem_range.1 hj
  exact hv j _ (by rw [List.getD_eq_getElem?_getD, List.getElem?_eq_getElem hj']; rfl)

end Go.Proofs.Ytiakhpfljjfaeaa
