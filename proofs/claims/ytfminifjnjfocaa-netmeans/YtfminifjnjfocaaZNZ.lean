/-
  What one copy goes through makes no difference to another one: pure.
-/
import Derived.Test.YtfminifjnjfocaaZNY
set_option linter.unusedSimpArgs false
set_option linter.unusedVariables false
namespace Go.Proofs.Ytfminifjnjfocaa
open Go.RowKit Go.Lib

variable {P N S S' : Nat → Prop} {w W W' V V' Y : World} {b p f m B q : Nat} {c : Cp} {s s' : Stn} {v u : Value} {e : Ending} {L : List (Cp × Value)} {x x' : Stp}
/-- the step's box is written -/
theorem RJ.setb (h : RJ w q x S V b s) (hq : w.heap.size ≤ q) {j : Nat} {v : Value} (hY : V.setCell ⟨q, j, none⟩ v = Y) (hx : (stC x).setIfInBounds j v = stC x') : RJ w q x' S Y b s ∧ Kp (fun i => i = q) V Y := by
  have k : Kp (fun i => i = q) V Y := by rw [← hY]; exact Kp.set _ ⟨q, j, none⟩ _ rfl
  have hns := h.ns
  refine ⟨⟨⟨h.kn.nl.kp k (fun i e hi => hns (e ▸ hi)), fun i hi => ⟨(h.kn.lo i hi).1, by have := (h.kn.lo i hi).2; have := k.size; omega⟩, k.below h.kn.bel (fun i e => by omega)⟩, ?_, hns⟩, k⟩
  rw [← hx, ← hY]
  exact h.bo.set j v
/-- what becomes of each copy -/
structure ApO (k : Int) (l l' : List Cp) (g : Cp → Option Cp) : Prop where
  eq : l' = l.filterMap g
  ne : ∀ c, c.num ≠ k → g c = some c
  nm : ∀ c c', g c = some c' → c'.num = c.num
theorem ApO.id (k : Int) (l : List Cp) : ApO k l l some := ⟨(List.filterMap_some).symm, fun _ _ => rfl, fun c c' h => by cases h; rfl⟩
theorem ApO.upd (k : Int) (s : Stn) {f : Cp → Cp} (hf : ∀ c, (f c).num = c.num) : ApO k s.ls (updS s k f).ls (fun c => some (if c.num = k then f c else c)) := by
  refine ⟨?_, fun c hc => by simp [hc], fun c c' h => ?_⟩
  · show _ = List.filterMap (some ∘ fun c => if c.num = k then f c else c) s.ls
    rw [List.filterMap_eq_map]
    rfl
  · simp only [Option.some.injEq] at h
    rw [← h]
    split
    · exact hf c
    · rfl
theorem ApO.tk (k : Int) (s : Stn) : ApO k s.ls (tkS s k).ls (fun c => if c.num = k then none else some c) := by
  refine ⟨?_, fun c hc => by simp [hc], fun c c' h => ?_⟩
  · unfold tkS
    simp only
    rw [← List.filterMap_eq_filter]
    congr 1
    funext c
    by_cases hc : c.num = k
    · simp [hc, Option.guard]
    · simp [hc, Option.guard]
  · split at h
    · cases h
    · cases h; rfl
theorem ApO.do (s : Stn) (x : Stp) (h1 : x.kind ≠ 1) (h4 : x.kind ≠ 4) : ∃ g, ApO x.num s.ls (doS s x).ls g := by
  unfold doS
  rw [if_neg h1]
  split
  · exact ⟨_, ApO.tk _ _⟩
  split
  · exact ⟨_, ApO.tk _ _⟩
  try rw [if_neg h4]
  split
  · unfold altS
    split
    · exact ⟨_, ApO.upd _ _ (fun _ => rfl)⟩
    · exact ⟨_, ApO.id _ _⟩
  split
  · unfold cutS
    split
    · exact ⟨_, ApO.upd _ _ (fun _ => rfl)⟩
    · exact ⟨_, ApO.id _ _⟩
  exact ⟨_, ApO.id _ _⟩
/-- how many are there so far -/
def cnt (l : List Cp) (g : Cp → Option Cp) (i : Nat) : Nat := ((l.take i).filterMap g).length
theorem cnt_next {l : List Cp} {g : Cp → Option Cp} {i : Nat} {c : Cp} (h : l[i]? = some c) : cnt l g (i + 1) = cnt l g i + (g c).toList.length := by
  unfold cnt
  rw [List.take_add_one, h, List.filterMap_append, List.length_append]
  have e : (List.filterMap g (some c).toList).length = (g c).toList.length := by
    show (List.filterMap g [c]).length = _
    rw [List.filterMap_cons]
    cases g c with
    | none => rfl
    | some d => rfl
  rw [e]
theorem ApO.at {k : Int} {l l' : List Cp} {g : Cp → Option Cp} (h : ApO k l l' g) {i : Nat} {c c' : Cp} (hi : l[i]? = some c) (hg : g c = some c') : l'[cnt l g i]? = some c' := by
  have hl := (List.getElem?_eq_some_iff.1 hi)
  have e : l' = (l.take i).filterMap g ++ (l.drop i).filterMap g := by rw [← List.filterMap_append, List.take_append_drop, h.eq]
  rw [e, List.getElem?_append_right (by unfold cnt; exact Nat.le_refl _)]
  unfold cnt
  rw [Nat.sub_self, List.drop_eq_getElem_cons hl.1, hl.2, List.filterMap_cons, hg]
  rfl
theorem ApO.full {k : Int} {l l' : List Cp} {g : Cp → Option Cp} (h : ApO k l l' g) : cnt l g l.length = l'.length := by
  unfold cnt
  rw [List.take_of_length_le (Nat.le_refl _), h.eq]
theorem ApO.le {k : Int} {l l' : List Cp} {g : Cp → Option Cp} (h : ApO k l l' g) (i : Nat) : cnt l g i ≤ l'.length := by
  have e : l' = (l.take i).filterMap g ++ (l.drop i).filterMap g := by rw [← List.filterMap_append, List.take_append_drop, h.eq]
  unfold cnt
  rw [e, List.length_append]
  omega
/-- the one that is gone is not there -/
theorem ApO.gone {k : Int} {l l' : List Cp} {g : Cp → Option Cp} (h : ApO k l l' g) (hp : l.Pairwise (fun a b => a.num < b.num)) {i : Nat} {c d : Cp} (hi : l[i]? = some c) (hc : c.num = k) (hg : g c = none) {j : Nat} (hd : l'[j]? = some d) : d.num ≠ k := by
  intro e
  have hm := List.mem_of_getElem? hd
  rw [h.eq, List.mem_filterMap] at hm
  obtain ⟨c2, hc2, hg2⟩ := hm
  have e2 := h.nm c2 d hg2
  have e3 := rise_inj hp c2 hc2 c (List.mem_of_getElem? hi) (by rw [hc, ← e, e2])
  rw [e3, hg] at hg2
  cases hg2
/-- the double is there still, as it was sent -/
theorem ApO.keep {k : Int} {l l' : List Cp} {g : Cp → Option Cp} (h : ApO k l l' g) (hp : l'.Pairwise (fun a b => a.num < b.num)) {c : Cp} (hc : c ∈ l) (hn : c.num ≠ k) : fnd l' c.num = some c := by
  refine fnd_of hp ?_
  rw [h.eq, List.mem_filterMap]
  exact ⟨c, hc, h.ne c hn⟩
theorem dbl_no {k : Int} (h : dblE s k ≠ 0) : dblN s k = 0 := by
  unfold dblE at h
  unfold dblN
  split at h
  · rename_i hf
    rw [if_pos hf]
    unfold layE at h
    unfold layN
    split at h
    · rename_i hl; rw [if_pos hl]
    · exact absurd rfl h
  · rename_i hf; rw [if_neg hf]
theorem dbl_ok {k : Int} (gd : Gd s) (h : dblE s k = 0) : ∃ c, dblN s k = s.la + 1 ∧ c ∈ (dblS s k).ls ∧ c.num = s.la + 1 ∧ c.bad = false ∧ k ≠ s.la + 1 := by
  unfold dblE at h
  split at h
  · rename_i hf
    obtain ⟨c, hc⟩ := Option.isSome_iff_exists.1 hf
    have hl : s.la ≠ 2147483647 := fun e => by unfold layE at h; rw [if_pos e] at h; cases h
    refine ⟨⟨s.la + 1, c.frm, c.to, c.cl, c.sent, false, []⟩, ?_, ?_, rfl, rfl, ?_⟩
    · unfold dblN layN; rw [if_pos hf, if_neg hl]
    · unfold dblS
      rw [hc]
      unfold layS
      simp only
      rw [if_neg hl]
      simp
    · have := (gd.le c (fnd_mem hc)).2
      have := fnd_num hc
      omega
  · cases h

end Go.Proofs.Ytfminifjnjfocaa
