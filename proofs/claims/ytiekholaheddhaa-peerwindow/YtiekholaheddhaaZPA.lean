/-
  A Peer, pure: what Send, Heard and Clear answer and leave.
-/
import Derived.Test.YtiekholaheddhaaZW0
set_option linter.unusedSimpArgs false
set_option linter.unusedVariables false
namespace Go.Proofs.Ytiekholaheddhaa
open Go.RowKit Go.Lib

structure St where
  wd : Int
  ps : Int
  la : Int
  fl : List Int
  gt : Int
  cr : Int
structure Gd (s : St) : Prop where
  w0 : 0 ≤ s.wd
  w1 : s.wd ≤ 64
  p0 : 0 ≤ s.ps
  p1 : s.ps ≤ 256
  l0 : 0 ≤ s.la
  l1 : s.la ≤ 2147483647
  ln : (s.fl.length : Int) ≤ s.wd
  ris : s.fl.Pairwise (· < ·)
  le : ∀ x ∈ s.fl, 1 ≤ x ∧ x ≤ s.la
  g0 : 0 ≤ s.gt
  g1 : s.gt ≤ 2147483647
  c0 : 0 ≤ s.cr
  c1 : s.cr ≤ 256
/-- how many go out -/
def cntS (s : St) (k : Int) : Int := min k (min s.ps (max s.cr 1))
/-- the next number -/
def nxtS (s : St) : Int := min (s.la + 1) 2147483647
def numS (s : St) : Int := if (s.fl.length : Int) = s.wd then s.fl.headD 0 else nxtS s
def offB (s : St) (k : Int) : Bool := decide (k < 1 ∨ s.wd = 0)
def sndN (s : St) (k : Int) : Int := if offB s k = true then 0 else numS s
def sndC (s : St) (k : Int) : Int := if offB s k = true then 0 else cntS s k
/-- a number is given -/
def givS (s : St) : St := { s with la := nxtS s, fl := if s.fl.getLastD 0 < nxtS s then s.fl ++ [nxtS s] else s.fl }
def sndS (s : St) (k : Int) : St := if offB s k = true ∨ (s.fl.length : Int) = s.wd then s else givS s
/-- what an acknowledgement leaves -/
def lft (l : List Int) (g : Int) : List Int := l.filter (fun x => decide (g < x))
def gotS (s : St) (n : Int) : Int := if n ≤ 2147483647 then max s.gt n else s.gt
def crdS (c : Int) : Int := min (max c 0) 256
def hrdS (s : St) (n g c : Int) : St := { s with gt := gotS s n, cr := crdS c, fl := lft s.fl g }
def hrdB (s : St) (g : Int) : Bool := decide ((lft s.fl g).length < s.fl.length)
def clrS (s : St) : St := { s with fl := [] }
def newS (x y : Int) : St := ⟨x, y, 0, [], 0, y⟩
def newB (x y : Int) : Bool := decide (1 ≤ x ∧ x ≤ 64 ∧ 1 ≤ y ∧ y ≤ 256)
def zerS : St := ⟨0, 0, 0, [], 0, 0⟩

theorem Gd.zer : Gd zerS := ⟨by decide, by decide, by decide, by decide, by decide, by decide, by decide, List.Pairwise.nil, fun x hx => (by cases hx), by decide, by decide, by decide, by decide⟩
theorem Gd.new {x y : Int} (h : newB x y = true) : Gd (newS x y) := by
  unfold newB at h
  have h := of_decide_eq_true h
  exact ⟨by show 0 ≤ x; omega, by show x ≤ 64; omega, by show 0 ≤ y; omega, by show y ≤ 256; omega, by show (0 : Int) ≤ 0; decide, by show (0 : Int) ≤ 2147483647; decide, by show (0 : Int) ≤ x; omega, List.Pairwise.nil, fun x hx => (by cases hx), by show (0 : Int) ≤ 0; decide, by show (0 : Int) ≤ 2147483647; decide, by show 0 ≤ y; omega, by show y ≤ 256; omega⟩
theorem lft_mem {l : List Int} {g x : Int} : x ∈ lft l g ↔ x ∈ l ∧ g < x := by unfold lft; simp
theorem lft_le (l : List Int) (g : Int) : (lft l g).length ≤ l.length := List.length_filter_le _ _
theorem Gd.hrd {s : St} (h : Gd s) (n g c : Int) : Gd (hrdS s n g c) := by
  refine ⟨h.w0, h.w1, h.p0, h.p1, h.l0, h.l1, ?_, List.Pairwise.filter _ h.ris, fun x hx => h.le x (lft_mem.1 hx).1, ?_, ?_, ?_, ?_⟩
  · have := lft_le s.fl g
    have := h.ln
    show ((lft s.fl g).length : Int) ≤ s.wd
    omega
  · show 0 ≤ gotS s n
    have := h.g0
    unfold gotS
    split <;> omega
  · show gotS s n ≤ 2147483647
    have := h.g1
    unfold gotS
    split <;> omega
  · show 0 ≤ crdS c
    unfold crdS; omega
  · show crdS c ≤ 256
    unfold crdS; omega
theorem Gd.clr {s : St} (h : Gd s) : Gd (clrS s) := ⟨h.w0, h.w1, h.p0, h.p1, h.l0, h.l1, by show (0 : Int) ≤ s.wd; exact h.w0, List.Pairwise.nil, fun x hx => (by cases hx), h.g0, h.g1, h.c0, h.c1⟩
theorem lft_all {s : St} (h : Gd s) : lft s.fl 2147483647 = [] := by
  unfold lft
  rw [List.filter_eq_nil_iff]
  intro x hx
  have := (h.le x hx).2
  have := h.l1
  simp
  omega
theorem Gd.nxt {s : St} (h : Gd s) : 1 ≤ nxtS s ∧ nxtS s ≤ 2147483647 ∧ s.la ≤ nxtS s := by
  have := h.l0
  have := h.l1
  unfold nxtS
  omega
theorem last_mem {l : List Int} (h : l ≠ []) : l.getLastD 0 ∈ l := by
  rw [List.getLastD_eq_getLast?, List.getLast?_eq_some_getLast h]
  exact List.getLast_mem h
theorem last_le {l : List Int} (hr : l.Pairwise (· < ·)) : ∀ x ∈ l, x ≤ l.getLastD 0 := by
  intro x hx
  have hne : l ≠ [] := fun e => by rw [e] at hx; cases hx
  rw [List.getLastD_eq_getLast?, List.getLast?_eq_some_getLast hne]
  simp only [Option.getD_some]
  have e := List.dropLast_concat_getLast hne
  rw [← e] at hr hx
  rcases List.mem_append.1 hx with h | h
  · exact Int.le_of_lt ((List.pairwise_append.1 hr).2.2 x h _ (by simp))
  · simp at h; omega
theorem Gd.giv {s : St} (h : Gd s) (hw : (s.fl.length : Int) ≠ s.wd) : Gd (givS s) := by
  obtain ⟨h1, h2, h3⟩ := h.nxt
  have hl := h.ln
  refine ⟨h.w0, h.w1, h.p0, h.p1, by show 0 ≤ nxtS s; omega, by show nxtS s ≤ 2147483647; omega, ?_, ?_, ?_, h.g0, h.g1, h.c0, h.c1⟩
  · show (((if s.fl.getLastD 0 < nxtS s then s.fl ++ [nxtS s] else s.fl).length : Nat) : Int) ≤ s.wd
    split
    · simp; omega
    · exact hl
  · show (if s.fl.getLastD 0 < nxtS s then s.fl ++ [nxtS s] else s.fl).Pairwise (· < ·)
    split
    · rename_i hlt
      refine List.pairwise_append.2 ⟨h.ris, by simp, fun a ha b hb => ?_⟩
      simp at hb
      subst hb
      have := last_le h.ris a ha
      omega
    · exact h.ris
  · show ∀ x ∈ (if s.fl.getLastD 0 < nxtS s then s.fl ++ [nxtS s] else s.fl), 1 ≤ x ∧ x ≤ nxtS s
    intro x hx
    split at hx
    · rcases List.mem_append.1 hx with hx | hx
      · have := h.le x hx; omega
      · simp at hx; omega
    · have := h.le x hx; omega
theorem Gd.snd {s : St} (h : Gd s) (k : Int) : Gd (sndS s k) := by
  unfold sndS
  split
  · exact h
  · rename_i hc
    exact h.giv (fun e => hc (.inr e))
/-- those that are left are the last ones -/
theorem lft_drop {l : List Int} (hr : l.Pairwise (· < ·)) {g : Int} {i : Nat} (h1 : ∀ j x, j < i → l[j]? = some x → x ≤ g) (h2 : ∀ x, l[i]? = some x → g < x) : lft l g = l.drop i := by
  unfold lft
  conv => lhs; rw [← List.take_append_drop i l]
  rw [List.filter_append, List.filter_eq_nil_iff.2, List.nil_append, List.filter_eq_self.2]
  · intro x hx
    cases e : l.drop i with
    | nil => rw [e] at hx; cases hx
    | cons y t =>
      have hy : l[i]? = some y := by
        have : (l.drop i)[0]? = some y := by rw [e]; rfl
        rwa [List.getElem?_drop, Nat.add_zero] at this
      have := h2 y hy
      have hp : (l.drop i).Pairwise (· < ·) := List.Pairwise.sublist (List.drop_sublist i l) hr
      rw [e] at hp hx
      rcases List.mem_cons.1 hx with rfl | hx
      · simpa using this
      · have := List.rel_of_pairwise_cons hp hx
        simp
        omega
  · intro x hx
    obtain ⟨j, hj, rfl⟩ := List.getElem_of_mem hx
    have hj' : j < i ∧ j < l.length := by rw [List.length_take] at hj; omega
    have := h1 j _ hj'.1 (List.getElem?_eq_getElem hj'.2)
    rw [List.getElem_take]
    simp
    omega

end Go.Proofs.Ytiekholaheddhaa
