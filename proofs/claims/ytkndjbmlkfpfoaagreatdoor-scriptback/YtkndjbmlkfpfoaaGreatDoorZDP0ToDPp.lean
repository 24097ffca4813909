/-
  The document's field: a step with a word in the place of a field.
-/
import Derived.Test.YtkndjbmlkfpfoaaGreatDoorZTOToTQ
import Derived.Test.YtkndjbmlkfpfoaaGreatDoorZDNaToDNb
import Derived.Test.YtkndjbmlkfpfoaaGreatDoorZTR0

set_option linter.unusedSimpArgs false
set_option linter.unusedVariables false
namespace Go.Proofs.YtkndjbmlkfpfoaaGreatDoor
open Go.RowKit Go.Lib

theorem spC_one (s : Sp) (a1 : Option Addr) (n1 c1 : Nat) (a2 : Option Addr) (n2 c2 : Nat) : (spC s (.slice a1 n1 c1) (.slice a2 n2 c2)).all (·.oneCell') = true := by simp [spC, Value.oneCell']
end Go.Proofs.YtkndjbmlkfpfoaaGreatDoor

/-
  How the document reads a line's words, and how the program does. Pure.
-/
set_option linter.unusedSimpArgs false
set_option linter.unusedVariables false
namespace Go.Proofs.YtkndjbmlkfpfoaaGreatDoor
open Go.RowKit Go.Lib

/-- a line's first word is a kind's name -/
def hitN (x : It) (j : Nat) : Prop := x.w.k = 1 ∧ x.w.t = ofL (tnm.getD j [])
theorem fs_one {β : Type} {f : Nat → Option β} : ∀ (L : List Nat) (i : Nat), i ∈ L → (∀ j ∈ L, j ≠ i → f j = none) → L.findSome? f = f i
  | [], _, h, _ => by cases h
  | j :: L, i, h, hn => by
    by_cases e : j = i
    · subst e
      rw [List.findSome?_cons]
      cases hf : f j with
      | some b => rfl
      | none =>
        by_cases hm : j ∈ L
        · have := fs_one (f := f) L j hm (fun q hq hne => hn q (List.mem_cons_of_mem _ hq) hne)
          rw [hf] at this
          exact this
        · show L.findSome? f = none
          rw [List.findSome?_eq_none_iff]
          intro q hq
          exact hn q (List.mem_cons_of_mem _ hq) (fun e => hm (e ▸ hq))
    · rw [List.findSome?_cons, hn j (List.mem_cons_self ..) e]
      rcases List.mem_cons.1 h with h | h
      · exact absurd h.symm e
      · exact fs_one L i h (fun q hq hne => hn q (List.mem_cons_of_mem _ hq) hne)
theorem ofL_inj2 {a b : List UInt8} (h : ofL a = ofL b) : a = b := by
  have := congrArg (fun s : ByteArray => s.data.toList) h
  simpa [ofL] using this
theorem tnm_inj : ∀ i, i < 14 → ∀ j, j < 14 → tnm.getD i [] = tnm.getD j [] → i = j := by decide +kernel
theorem hitN_one {x : It} {i j : Nat} (hi : i < 14) (hj : j < 14) (h1 : hitN x i) (h2 : hitN x j) : i = j := tnm_inj i hi j hj (ofL_inj2 (h1.2.symm.trans h2.2))
theorem rdRw_miss {x : It} {j : Nat} (l : List It) (h : ¬ hitN x j) : rdRw j (x :: l) = none := by
  show (if x.w.k = 1 ∧ x.w.t = ofL (tnm.getD j []) then _ else none) = none
  exact if_neg h
/-- what a row says of the words behind its name -/
def endR (r : Option (Sp × List It)) : Option Sp := match r with
  | some (s, []) => some s
  | _ => none
theorem rdRw_hit {x : It} {i : Nat} (l : List It) (h : hitN x i) : rdRw i (x :: l) = endR (rdFs (tfl.getD i []) (sp0 ((i : Int) + 1)) l) := by
  show (if x.w.k = 1 ∧ x.w.t = ofL (tnm.getD i []) then _ else none) = _
  rw [if_pos (show x.w.k = 1 ∧ x.w.t = ofL (tnm.getD i []) from h)]
  rfl
theorem fstR_hit {x : It} {i : Nat} (l : List It) (hi : i < 14) (h : hitN x i) : fstR (x :: l) = endR (rdFs (tfl.getD i []) (sp0 ((i : Int) + 1)) l) := by
  rw [← rdRw_hit l h]
  exact fs_one (f := fun i => rdRw i (x :: l)) (List.range 14) i (List.mem_range.2 hi) (fun j hj hne => rdRw_miss l (fun q => hne (hitN_one (List.mem_range.1 hj) hi q h)))
theorem rd_tick (l : List It) : endR (rdFs (tfl.getD 5 []) (sp0 6) l) = if allN l = true then some ((sp0 6).dr (l.map fun x => x.w.n)) else none := by
  show endR (match tkF (sp0 6) 4 l with | none => none | some (s', n) => rdFs [] s' (l.drop n)) = _
  unfold tkF
  rw [if_pos rfl]
  cases h : allN l with
  | true =>
    simp only [if_true, rdFs]
    rw [List.drop_length]
    rfl
  | false => rfl
theorem tkF_one {s : Sp} {f : Nat} {x : It} {l : List It} (hf : f ≠ 4) : tkF s f (x :: l) = tkF s f [x] := by
  unfold tkF
  rw [if_neg hf, if_neg hf]
theorem tkF_n1 {s s' : Sp} {f n : Nat} {x : It} (hf : f ≠ 4) (h : tkF s f [x] = some (s', n)) : n = 1 := by
  unfold tkF at h
  rw [if_neg hf] at h
  simp only at h
  split at h
  · split at h
    · simp at h; exact h.2.symm
    · cases h
  · split at h
    · simp at h; exact h.2.symm
    · cases h
theorem tkF_nil {s : Sp} {f : Nat} (hf : f ≠ 4) : tkF s f [] = none := by
  unfold tkF
  rw [if_neg hf]
theorem rdFs_len : ∀ (fl : List Nat) (s : Sp) (l : List It) (s' : Sp) (r : List It), (∀ f ∈ fl, f ≠ 4) → rdFs fl s l = some (s', r) → l.length = fl.length + r.length
  | [], s, l, s', r, _, h => by cases h; simp
  | f :: fl, s, l, s', r, hf, h => by
    have hf4 := hf f (List.mem_cons_self ..)
    cases l with
    | nil =>
      have h' : (match tkF s f [] with | none => none | some (s', n) => rdFs fl s' (([] : List It).drop n)) = some (s', r) := h
      rw [tkF_nil hf4] at h'
      cases h'
    | cons x l =>
      have h' : (match tkF s f (x :: l) with | none => none | some (s', n) => rdFs fl s' ((x :: l).drop n)) = some (s', r) := h
      rw [tkF_one hf4] at h'
      cases hq : tkF s f [x] with
      | none => rw [hq] at h'; cases h'
      | some p =>
        obtain ⟨s2, n⟩ := p
        obtain rfl := tkF_n1 hf4 hq
        rw [hq] at h'
        have := rdFs_len fl s2 l s' r (fun g hg => hf g (List.mem_cons_of_mem _ hg)) h'
        simp only [List.length_cons]
        omega
theorem tfl_ne4 : ∀ i, i < 14 → i ≠ 5 → ∀ f ∈ tfl.getD i [], f ≠ 4 := by decide +kernel
end Go.Proofs.YtkndjbmlkfpfoaaGreatDoor
