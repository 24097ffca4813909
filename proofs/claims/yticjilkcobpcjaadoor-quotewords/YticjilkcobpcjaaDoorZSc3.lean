/-
  The scanner's numbers: does a word begin like one?
-/
import Derived.Test.YticjilkcobpcjaaDoorZSc2
set_option linter.unusedSimpArgs false
set_option linter.unusedVariables false
namespace Go.Proofs.YticjilkcobpcjaaDoor
open Go.RowKit Go.Lib

/-- where a word's digits begin -/
def dgA (t : ByteArray) : Nat := if 0 < t.size ∧ by_ t 0 = 45 then 1 else 0
/-- does a word have to be a number? -/
def bgN (t : ByteArray) : Bool := decide (dgA t < t.size ∧ 48 ≤ by_ t (dgA t) ∧ by_ t (dgA t) ≤ 57)

theorem trim_dash (t : ByteArray) : (⟨(Lib.trimPrefix t.data.toList [45]).toArray⟩ : ByteArray) = t.extract (dgA t) t.size := by
  have h1 := pre_one t 45
  have e : (t.extract (dgA t) t.size) = ofL (t.data.toList.drop (dgA t)) := (ofL_drop t (dgA t)).symm
  rw [e]
  unfold Lib.trimPrefix dgA
  rw [h1]
  by_cases h : 0 < t.size ∧ by_ t 0 = 45
  · rw [if_pos h, if_pos (by rw [decide_eq_true_eq]; exact h)]; rfl
  · rw [if_neg h, if_neg (by rw [decide_eq_true_eq]; exact h)]; simp [ofL]

set_option maxRecDepth 100000 in
set_option maxHeartbeats 1000000 in
theorem beginsNumber_in (t : ByteArray) (ht : t.size ≤ 1000000000) (w : World) :
    Calls Tryd.prog 46 #[.string t] w fun e w' => e = .returned (.bool (bgN t)) ∧ w = w' := by
  have hp := fun W => trimPrefix_q t ⟨#[45]⟩ W
  rw [show (⟨#[45]⟩ : ByteArray).data.toList = [45] from rfl, trim_dash] at hp
  have hp := fun W => hide (hp W)
  have hz := size_ext t (dgA t) t.size (Nat.le_refl _)
  obtain ⟨R, hR⟩ : ∃ R, bgN t = R := ⟨_, rfl⟩
  rw [hR]
  unfold bgN at hR
  obtain ⟨a, ha⟩ : ∃ a, dgA t = a := ⟨_, rfl⟩
  rw [ha] at hp hz hR
  obtain ⟨d, hd⟩ : ∃ d, t.extract a t.size = d := ⟨_, rfl⟩
  have hby : a < t.size → by_ d 0 = by_ t a := fun h => by rw [← hd, by_ext t a t.size 0 (Nat.le_refl _) (by omega)]; rfl
  rw [hd] at hp hz
  clear ha hd
  by_cases h0 : a < t.size
  · have hds : 0 < d.size := by omega
    have hgi := by_get d 0 hds
    rw [hby h0] at hgi
    have n1 : (d.toList == []) = false := by
      rw [beq_eq_false_iff_ne, ByteArray.toList_eq]
      intro e
      have := congrArg List.length e
      have h2 : d.data.toList.length = d.size := by rw [Array.length_toList]; rfl
      rw [h2, List.length_nil] at this
      omega
    have n2 : d.toList.isEmpty = false := by
      cases hl : d.toList with
      | nil => rw [hl] at n1; simp at n1
      | cons x l => rfl
    have n3 : (0 : Int) < (d.size : Int) := by omega
    by_cases c1 : 48 ≤ by_ t a
    · have j1 : (48 : Int) ≤ ((by_ t a : Nat) : Int) := by omega
      by_cases c2 : by_ t a ≤ 57
      · have j2 : ((by_ t a : Nat) : Int) ≤ 57 := by omega
        rw [decide_eq_true ⟨h0, c1, c2⟩] at hR
        subst hR
        clear hz hby h0 c1 c2
        go_enter Tryd.func46, Tryd.ntmps46
        go_wp2_with fail
        refine (unhide (hp _)).mono ?_
        rintro e w' ⟨rfl, rfl⟩
        go_wp2
        go_ret
        exact ⟨rfl, rfl⟩
      · have j2 : ¬ ((by_ t a : Nat) : Int) ≤ 57 := by omega
        rw [decide_eq_false (fun h => c2 h.2.2)] at hR
        subst hR
        clear hz hby h0 c1 c2
        go_enter Tryd.func46, Tryd.ntmps46
        go_wp2_with fail
        refine (unhide (hp _)).mono ?_
        rintro e w' ⟨rfl, rfl⟩
        go_wp2
        go_ret
        exact ⟨by show Ending.returned (.bool (decide (((by_ t a : Nat) : Int) ≤ 57))) = _; rw [decide_eq_false (by omega)], rfl⟩
    · have j1 : ¬ (48 : Int) ≤ ((by_ t a : Nat) : Int) := by omega
      rw [decide_eq_false (fun h => c1 h.2.1)] at hR
      subst hR
      clear hz hby h0 c1
      go_enter Tryd.func46, Tryd.ntmps46
      go_wp2_with fail
      refine (unhide (hp _)).mono ?_
      rintro e w' ⟨rfl, rfl⟩
      go_wp2
      go_ret
      exact ⟨rfl, rfl⟩
  · have hde : d = ⟨#[]⟩ := by
      have h2 : d.data.toList.length = d.size := by rw [Array.length_toList]; rfl
      rw [← ofL_of d, List.length_eq_zero_iff.1 (by omega : d.data.toList.length = 0)]; rfl
    subst hde
    rw [decide_eq_false (fun h => h0 h.1)] at hR
    subst hR
    clear hz hby h0
    go_enter Tryd.func46, Tryd.ntmps46
    go_wp2_with fail
    refine (unhide (hp _)).mono ?_
    rintro e w' ⟨rfl, rfl⟩
    go_wp2
    go_ret
    exact ⟨rfl, rfl⟩

end Go.Proofs.YticjilkcobpcjaaDoor
