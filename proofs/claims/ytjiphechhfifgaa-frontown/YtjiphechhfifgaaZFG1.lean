/-
  Two Fronts, side by side; what is heard in another order. 
-/
import Derived.Test.YtjiphechhfifgaaZXK
set_option linter.unusedSimpArgs false
set_option linter.unusedVariables false
namespace Go.Proofs.Ytjiphechhfifgaa
open Go.RowKit Go.Lib

/-- all that was heard -/
def hrAll (ls : List (Int × List (Int × Int))) (S : StF) : StF := ls.foldl (fun S s => hearS S s.1 s.2) S
theorem hrAll_snoc (ls : List (Int × List (Int × Int))) (s : Int × List (Int × Int)) (S : StF) : hrAll (ls ++ [s]) S = hearS (hrAll ls S) s.1 s.2 := by simp [hrAll]
/-- what a row of rows, heard, means -/
structure HM (ls : List (Int × List (Int × Int))) (S : StF) : Prop where
  some : ∀ k, (S k).isSome = true ↔ ∃ s ∈ ls, s.1 = k ∧ hearE s.1 s.2 = 0
  le : ∀ k i x, hdR S k i ≤ x ↔ 0 ≤ x ∧ ∀ s ∈ ls, s.1 = k → hearE s.1 s.2 = 0 → sy s.2 i ≤ x
  us : ∀ k, usR S k = fun _ => 0
theorem hdR_putS (S : StF) (k : Int) (p : (Nat → Int) × (Nat → Int)) (j : Int) : hdR (putS S k p) j = if j = k then p.1 else hdR S j := by
  unfold hdR putS
  by_cases e : j = k
  · rw [if_pos e, if_pos e]; rfl
  · rw [if_neg e, if_neg e]
theorem usR_putS (S : StF) (k : Int) (p : (Nat → Int) × (Nat → Int)) (j : Int) : usR (putS S k p) j = if j = k then p.2 else usR S j := by
  unfold usR putS
  by_cases e : j = k
  · rw [if_pos e, if_pos e]; rfl
  · rw [if_neg e, if_neg e]
theorem HM.none : HM [] (fun _ => none) := ⟨fun k => by simp, fun k i x => by simp [hdR], fun k => rfl⟩
theorem HM.step {ls : List (Int × List (Int × Int))} {S : StF} (h : HM ls S) (s : Int × List (Int × Int)) : HM (ls ++ [s]) (hearS S s.1 s.2) := by
  by_cases h0 : hearE s.1 s.2 = 0
  · rw [hearS_is h0]
    refine ⟨fun k => ?_, fun k i x => ?_, fun k => ?_⟩
    · by_cases e : k = s.1
      · subst e
        simp only [putS, if_true, Option.isSome_some, true_iff]
        exact ⟨s, by simp, rfl, h0⟩
      · simp only [putS, if_neg e]
        rw [h.some k]
        constructor
        · rintro ⟨t, ht, h1, h2⟩; exact ⟨t, by simp [ht], h1, h2⟩
        · rintro ⟨t, ht, h1, h2⟩
          rcases List.mem_append.1 ht with ht | ht
          · exact ⟨t, ht, h1, h2⟩
          · simp at ht; subst ht; exact absurd h1.symm e
    · rw [hdR_putS]
      by_cases e : k = s.1
      · subst e
        rw [if_pos rfl]
        have := h.le s.1 i x
        show max (hdR S s.1 i) (sy s.2 i) ≤ x ↔ _
        constructor
        · intro hm
          obtain ⟨q1, q2⟩ := this.1 (by omega)
          refine ⟨q1, fun t ht e1 e2 => ?_⟩
          rcases List.mem_append.1 ht with ht | ht
          · exact q2 t ht e1 e2
          · simp at ht; subst ht; omega
        · rintro ⟨q1, q2⟩
          have a := this.2 ⟨q1, fun t ht e1 e2 => q2 t (by simp [ht]) e1 e2⟩
          have b := q2 s (by simp) rfl h0
          omega
      · rw [if_neg e, h.le k i x]
        constructor
        · rintro ⟨q1, q2⟩
          refine ⟨q1, fun t ht e1 e2 => ?_⟩
          rcases List.mem_append.1 ht with ht | ht
          · exact q2 t ht e1 e2
          · simp at ht; subst ht; exact absurd e1.symm e
        · rintro ⟨q1, q2⟩; exact ⟨q1, fun t ht e1 e2 => q2 t (by simp [ht]) e1 e2⟩
    · rw [usR_putS]
      split
      · exact h.us s.1
      · exact h.us k
  · rw [hearS_no h0]
    refine ⟨fun k => ?_, fun k i x => ?_, h.us⟩
    · rw [h.some k]
      constructor
      · rintro ⟨t, ht, h1, h2⟩; exact ⟨t, by simp [ht], h1, h2⟩
      · rintro ⟨t, ht, h1, h2⟩
        rcases List.mem_append.1 ht with ht | ht
        · exact ⟨t, ht, h1, h2⟩
        · simp at ht; subst ht; exact absurd h2 h0
    · rw [h.le k i x]
      constructor
      · rintro ⟨q1, q2⟩
        refine ⟨q1, fun t ht e1 e2 => ?_⟩
        rcases List.mem_append.1 ht with ht | ht
        · exact q2 t ht e1 e2
        · simp at ht; subst ht; exact absurd e2 h0
      · rintro ⟨q1, q2⟩; exact ⟨q1, fun t ht e1 e2 => q2 t (by simp [ht]) e1 e2⟩
/-- just which were heard counts -/
theorem HM.same {ls ms : List (Int × List (Int × Int))} {S T : StF} (h : HM ls S) (k : HM ms T) (he : ∀ s, s ∈ ls ↔ s ∈ ms) : S = T := by
  funext j
  have hd : hdR S j = hdR T j := by
    funext i
    have a := (h.le j i (hdR S j i)).1 (Int.le_refl _)
    have b := (k.le j i (hdR T j i)).1 (Int.le_refl _)
    have a' := (k.le j i (hdR S j i)).2 ⟨a.1, fun s hs => a.2 s ((he s).2 hs)⟩
    have b' := (h.le j i (hdR T j i)).2 ⟨b.1, fun s hs => b.2 s ((he s).1 hs)⟩
    omega
  have hs : (S j).isSome = (T j).isSome := by
    rw [Bool.eq_iff_iff, h.some j, k.some j]
    constructor
    · rintro ⟨s, q1, q2⟩; exact ⟨s, (he s).1 q1, q2⟩
    · rintro ⟨s, q1, q2⟩; exact ⟨s, (he s).2 q1, q2⟩
  have hu : usR S j = usR T j := by rw [h.us j, k.us j]
  unfold hdR at hd
  unfold usR at hu
  cases e1 : S j with
  | none => rw [e1] at hs; cases e2 : T j with
    | none => rfl
    | some q => rw [e2] at hs; cases hs
  | some p => rw [e1] at hs hd hu; cases e2 : T j with
    | none => rw [e2] at hs; cases hs
    | some q =>
      rw [e2] at hd hu
      simp only [Option.getD_some] at hd hu
      rw [Prod.ext hd hu]

/-- two Fronts in new memory, apart from each other and from Q -/
def KG (Q : Nat → Prop) (w W : World) (b1 n1 : Nat) (S1 : StF) (b2 n2 : Nat) (S2 : StF) : Prop :=
  ∃ P1 P2, FR P1 W b1 n1 S1 ∧ FR P2 W b2 n2 S2 ∧ (∀ i, P1 i → w.heap.size ≤ i ∧ i < W.heap.size ∧ ¬ P2 i ∧ ¬ Q i) ∧ (∀ i, P2 i → w.heap.size ≤ i ∧ i < W.heap.size ∧ ¬ P1 i ∧ ¬ Q i) ∧ (∀ i, Q i → i < W.heap.size) ∧ Below w.heap.size w W
variable {Q : Nat → Prop} {w W W' : World} {b1 n1 : Nat} {S1 : StF} {b2 n2 : Nat} {S2 : StF}
theorem KG.swap (h : KG Q w W b1 n1 S1 b2 n2 S2) : KG Q w W b2 n2 S2 b1 n1 S1 := by
  obtain ⟨P1, P2, h1, h2, h3, h4, h5, h6⟩ := h
  exact ⟨P2, P1, h2, h1, h4, h3, h5, h6⟩
theorem KG.bel (h : KG Q w W b1 n1 S1 b2 n2 S2) : Below w.heap.size w W := by
  obtain ⟨_, _, _, _, _, _, _, h⟩ := h; exact h
theorem KG.one (h : KG Q w W b1 n1 S1 b2 n2 S2) : KF Q w W b1 n1 S1 := by
  obtain ⟨P1, P2, h1, h2, h3, h4, h5, h6⟩ := h
  exact ⟨P1, h1, fun i hi => ⟨(h3 i hi).1, (h3 i hi).2.1, (h3 i hi).2.2.2⟩, h5, h6⟩
/-- what else there is has gone on -/
theorem KG.kp {Q' N : Nat → Prop} (h : KG Q w W b1 n1 S1 b2 n2 S2) (k : Kp N W W') (hn : ∀ i, N i → Q i) (hw : ∀ i, N i → w.heap.size ≤ i) (hq : ∀ i, Q' i → Q i ∨ (W.heap.size ≤ i ∧ i < W'.heap.size)) : KG Q' w W' b1 n1 S1 b2 n2 S2 := by
  obtain ⟨P1, P2, h1, h2, h3, h4, h5, h6⟩ := h
  have hz := k.size
  refine ⟨P1, P2, h1.kp k (fun i hi e => (h3 i e).2.2.2 (hn i hi)), h2.kp k (fun i hi e => (h4 i e).2.2.2 (hn i hi)), fun i hi => ?_, fun i hi => ?_, fun i hi => ?_, k.below h6 hw⟩
  · obtain ⟨k1, k2, k3, k4⟩ := h3 i hi
    exact ⟨k1, by omega, k3, fun e => by rcases hq i e with e | e; exact k4 e; omega⟩
  · obtain ⟨k1, k2, k3, k4⟩ := h4 i hi
    exact ⟨k1, by omega, k3, fun e => by rcases hq i e with e | e; exact k4 e; omega⟩
  · rcases hq i hi with e | e
    · have := h5 i e; omega
    · omega
theorem KG.below (h : KG Q w W b1 n1 S1 b2 n2 S2) (hb : Below W.heap.size W W') : KG Q w W' b1 n1 S1 b2 n2 S2 := h.kp (N := fun _ => False) (Kp.of_below hb) (fun _ h => h.elim) (fun _ h => h.elim) (fun i h => .inl h)
theorem KG.grow (h : KG Q w W b1 n1 S1 b2 n2 S2) (hb : Below W.heap.size W W') : KG (fun i => Q i ∨ (W.heap.size ≤ i ∧ i < W'.heap.size)) w W' b1 n1 S1 b2 n2 S2 := h.kp (N := fun _ => False) (Kp.of_below hb) (fun _ h => h.elim) (fun _ h => h.elim) (fun i h => h)
theorem KG.step {n1' : Nat} {S1' : StF} {P1 P2 P1' : Nat → Prop} (h2 : FR P2 W b2 n2 S2) (h3 : ∀ i, P1 i → w.heap.size ≤ i ∧ i < W.heap.size ∧ ¬ P2 i ∧ ¬ Q i) (h4 : ∀ i, P2 i → w.heap.size ≤ i ∧ i < W.heap.size ∧ ¬ P1 i ∧ ¬ Q i) (h5 : ∀ i, Q i → i < W.heap.size) (h6 : Below w.heap.size w W) (h1 : FR P1' W' b1 n1' S1') (hp : ∀ i, P1' i → P1 i ∨ W.heap.size ≤ i) (k : Kp P1 W W') : KG Q w W' b1 n1' S1' b2 n2 S2 ∧ Kp (fun i => ¬ Q i) W W' := by
  have hz := k.size
  have hz6 := h6.size
  refine ⟨⟨_, P2, h1.lt, h2.kp k (fun i hi => (h3 i hi).2.2.1), fun i hi => ?_, fun i hi => ?_, fun i hi => by have := h5 i hi; omega, k.below h6 (fun i hi => (h3 i hi).1)⟩, ⟨k.os, k.tape, k.output, k.size, fun i hi hn => k.block i hi (fun e => hn (h3 i e).2.2.2)⟩⟩
  · rcases hp i hi.1 with h | h
    · obtain ⟨q1, q2, q3, q4⟩ := h3 i h
      exact ⟨q1, hi.2, q3, q4⟩
    · exact ⟨by omega, hi.2, fun e => by have := (h4 i e).2.1; omega, fun e => by have := h5 i e; omega⟩
  · obtain ⟨q1, q2, q3, q4⟩ := h4 i hi
    refine ⟨q1, by omega, fun e => ?_, q4⟩
    rcases hp i e.1 with h | h
    · exact q3 h
    · omega
theorem KG.new {b n : Nat} {S : StF} (h : KF Q w W b n S) : Calls Try.prog 11 #[] W fun e W' => e = .returned (.pointer (some ⟨W.heap.size, 0, none⟩)) ∧ KG Q w W' b n S W.heap.size 0 (fun _ => none) := by
  obtain ⟨P, h1, h2, h3, h4⟩ := h
  refine (New_in W).mono ?_
  rintro e W' ⟨rfl, hn, hb⟩
  have hz := hb.size
  have hz4 := h4.size
  refine ⟨rfl, P, _, h1.below hb, hn.lt, fun i hi => ⟨(h2 i hi).1, by have := (h2 i hi).2.1; omega, fun e => by have := (h2 i hi).2.1; have := e.1; omega, (h2 i hi).2.2⟩, fun i hi => ⟨by have := hi.1; omega, hi.2, fun e => by have := (h2 i e).2.1; have := hi.1; omega, fun e => by have := h3 i e; have := hi.1; omega⟩, fun i hi => by have := h3 i hi; omega, bnext h4 hb⟩
theorem hear1_in (h : KG Q w W b1 n1 S1 b2 n2 S2) (hn : n1 ≤ 999999) (k : Int) (hk : in64 k) (v : Value) (l : List (Int × Int)) (hv : RI W v l) (hl : l.length ≤ 1000000) (hap : ∀ i, rb v l.length i → Q i ∨ i < w.heap.size) :
    Calls Try.prog 17 #[.pointer (some ⟨b1, 0, none⟩), .int .i64 k, v] W fun e W' => e = .returned (.int .i64 (hearE k l)) ∧ KG Q w W' b1 (n1 + 1) (hearS S1 k l) b2 n2 S2 ∧ Kp (fun i => ¬ Q i) W W' := by
  obtain ⟨P1, P2, h1, h2, h3, h4, h5, h6⟩ := h
  refine (Hear_in h1 (fun i hi => (h3 i hi).2.1) hn k hk v l hv hl (fun i hi e => ?_)).mono ?_
  · rcases hap i hi with q | q
    · exact (h3 i e).2.2.2 q
    · have := (h3 i e).1; omega
  · rintro e W' ⟨rfl, hf, kk⟩
    exact ⟨rfl, KG.step h2 h3 h4 h5 h6 hf (fun i h => h) kk⟩
theorem settle1_in (h : KG Q w W b1 n1 S1 b2 n2 S2) (v : Value) (l : List (Int × Int)) (hv : RI W v l) (hl : l.length ≤ 1000000) :
    Calls Try.prog 15 #[.pointer (some ⟨b1, 0, none⟩), v] W fun e W' => e = .returned (.tuple #[]) ∧ KG Q w W' b1 n1 (setS S1 l) b2 n2 S2 ∧ Kp (fun i => ¬ Q i) W W' := by
  obtain ⟨P1, P2, h1, h2, h3, h4, h5, h6⟩ := h
  refine (Settle_in h1 (fun i hi => (h3 i hi).2.1) v l hv hl).mono ?_
  rintro e W' ⟨rfl, hf, kk⟩
  exact ⟨rfl, KG.step h2 h3 h4 h5 h6 hf (fun i h => .inl h) kk⟩

end Go.Proofs.Ytjiphechhfifgaa
