/-
  What the numbers of copies mean: pure.
-/
import Derived.Test.YtfminifjnjfocaaZNZ
set_option linter.unusedSimpArgs false
set_option linter.unusedVariables false
namespace Go.Proofs.Ytfminifjnjfocaa
open Go.RowKit Go.Lib

variable {s : Stn} {x : Stp} {c d : Cp}
/-- how many have numbers up to j -/
def cN (l : List Cp) (j : Int) : Nat := l.countP fun c => decide (c.num ≤ j)
theorem cN_zero : ∀ {l : List Cp} {j : Int}, (∀ c ∈ l, j < c.num) → cN l j = 0 := fun {l j} h => by
  unfold cN
  rw [List.countP_eq_zero]
  intro c hc
  have := h c hc
  simp
  omega
theorem cN_all : ∀ {l : List Cp} {j : Int}, (∀ c ∈ l, c.num ≤ j) → cN l j = l.length := fun {l j} h => by
  unfold cN
  rw [List.countP_eq_length]
  intro c hc
  simpa using h c hc
theorem cN_at : ∀ {l : List Cp}, l.Pairwise (fun a b => a.num < b.num) → ∀ {j : Int} {d : Cp}, d ∈ l → d.num = j + 1 → l[cN l j]? = some d ∧ cN l (j + 1) = cN l j + 1
  | [], _, j, d, hd, _ => by cases hd
  | c :: l, hp, j, d, hd, hn => by
    rw [List.pairwise_cons] at hp
    rcases List.mem_cons.1 hd with e | hd
    · have e' : c = d := e.symm
      subst e'
      have h0 : cN l j = 0 := cN_zero (fun a ha => by have := hp.1 a ha; omega)
      have h1 : cN l (j + 1) = 0 := cN_zero (fun a ha => by have := hp.1 a ha; omega)
      unfold cN at h0 h1 ⊢
      rw [List.countP_cons, List.countP_cons, h0, h1]
      have q1 : ¬ c.num ≤ j := by omega
      have q2 : c.num ≤ j + 1 := by omega
      simp [q1, q2]
    · have hlt := hp.1 d hd
      have ih := cN_at hp.2 hd hn
      unfold cN at ih ⊢
      rw [List.countP_cons, List.countP_cons]
      have q1 : c.num ≤ j := by omega
      have q2 : c.num ≤ j + 1 := by omega
      simp only [q1, q2, decide_true, if_true]
      exact ⟨by simpa using ih.1, by rw [ih.2]⟩
theorem cN_none : ∀ {l : List Cp} {j : Int}, (∀ c ∈ l, c.num ≠ j + 1) → cN l (j + 1) = cN l j := fun {l j} h => by
  unfold cN
  refine List.countP_congr fun c hc => ?_
  have := h c hc
  simp
  omega
/-- how bytes may differ -/
def apB (now was : List Int) : Prop := (now.length < was.length ∧ now = was.take now.length) ∨ (now.length = was.length ∧ ∃ i j, i ≤ j ∧ j < i + 4 ∧ now[i]? ≠ was[i]? ∧ now[j]? ≠ was[j]? ∧ ∀ q, now[q]? ≠ was[q]? → i ≤ q ∧ q ≤ j)
def okC (c : Cp) : Prop := c.bad = true → apB c.sp c.cl
theorem alt_apB {a : Int} {y : List Int} (hb : c.bad = false) (hf : fitA c a y = true) : apB (altC a y c).sp c.cl := by
  have hl := alt_len hb hf
  unfold fitA at hf
  rw [dat_ok hb, Bool.and_eq_true] at hf
  have h1 := of_decide_eq_true hf.1
  have h2 := hf.2
  obtain ⟨z, rfl⟩ : ∃ z : Nat, a = (z : Nat) := ⟨a.toNat, by omega⟩
  unfold chgB at h2
  rw [Bool.not_eq_true', decide_eq_false_iff_not, Int.toNat_natCast] at h2
  refine .inr ⟨hl, ?_⟩
  have hsp : (altC (z : Nat) y c).sp = c.cl.take z ++ y ++ c.cl.drop (z + y.length) := by unfold altC; simp
  rw [hsp]
  have e0 : (c.cl.take z).length = z := by rw [List.length_take]; omega
  have low : ∀ q, q < z → (c.cl.take z ++ y ++ c.cl.drop (z + y.length))[q]? = c.cl[q]? := fun q hq => by
    rw [List.append_assoc, List.getElem?_append_left (by omega), List.getElem?_take_of_lt hq]
  have mid : ∀ q, q < y.length → (c.cl.take z ++ y ++ c.cl.drop (z + y.length))[z + q]? = y[q]? := fun q hq => by
    rw [List.append_assoc, List.getElem?_append_right (by omega), e0, Nat.add_sub_cancel_left, List.getElem?_append_left hq]
  have high : ∀ q, z + y.length ≤ q → (c.cl.take z ++ y ++ c.cl.drop (z + y.length))[q]? = c.cl[q]? := fun q hq => by
    rw [List.getElem?_append_right (by rw [List.length_append, e0]; exact hq), List.length_append, e0, List.getElem?_drop]
    congr 1
    omega
  -- the first and the last that differ
  have hex : ∃ q, q < y.length ∧ y[q]? ≠ c.cl[z + q]? := by
    apply Classical.byContradiction
    intro hno
    apply h2
    apply List.ext_getElem?
    intro q
    rw [List.getElem?_take]
    split
    · rename_i hq
      rw [List.getElem?_drop]
      exact (Classical.byContradiction fun e => hno ⟨q, hq, fun h => e h.symm⟩)
    · rename_i hq
      rw [List.getElem?_eq_none (by omega)]
  have first : ∀ (n : Nat) (p : Nat → Prop), (∃ q, q < n ∧ p q) → ∃ i, i < n ∧ p i ∧ ∀ q, q < i → ¬ p q := by
    intro n p
    induction n with
    | zero => rintro ⟨q, hq, _⟩; omega
    | succ n ih =>
      rintro ⟨q, hq, hp⟩
      by_cases h : ∃ q, q < n ∧ p q
      · obtain ⟨i, h1, h2, h3⟩ := ih h
        exact ⟨i, by omega, h2, h3⟩
      · have e : q = n := by
          apply Classical.byContradiction
          intro hne
          exact h ⟨q, by omega, hp⟩
        subst e
        exact ⟨q, by omega, hp, fun r hr hpr => h ⟨r, hr, hpr⟩⟩
  have last : ∀ (n : Nat) (p : Nat → Prop), (∃ q, q < n ∧ p q) → ∃ i, i < n ∧ p i ∧ ∀ q, i < q → q < n → ¬ p q := by
    intro n p
    induction n with
    | zero => rintro ⟨q, hq, _⟩; omega
    | succ n ih =>
      rintro ⟨q, hq, hp⟩
      by_cases h : p n
      · exact ⟨n, by omega, h, fun r h1 h2 => by omega⟩
      · obtain ⟨i, h1, h2, h3⟩ := ih ⟨q, by
          apply Classical.byContradiction
          intro hne
          have : q = n := by omega
          subst this
          exact h hp, hp⟩
        exact ⟨i, by omega, h2, fun r hr hr2 hp2 => by
          by_cases e : r = n
          · subst e; exact h hp2
          · exact h3 r hr (by omega) hp2⟩
  obtain ⟨i, hi1, hi2, hi3⟩ := first _ _ hex
  obtain ⟨j, hj1, hj2, hj3⟩ := last _ _ hex
  have hij : i ≤ j := by
    apply Classical.byContradiction
    intro hne
    exact hi3 j (by omega) hj2
  refine ⟨z + i, z + j, by omega, by omega, ?_, ?_, fun q hq => ?_⟩
  · rw [mid i hi1]; exact hi2
  · rw [mid j hj1]; exact hj2
  · by_cases c1 : q < z
    · exact absurd (low q c1) hq
    by_cases c2 : z + y.length ≤ q
    · exact absurd (high q c2) hq
    obtain ⟨r, rfl⟩ : ∃ r, q = z + r := ⟨q - z, by omega⟩
    rw [mid r (by omega)] at hq
    constructor
    · apply Classical.byContradiction
      intro hne
      exact hi3 r (by omega) hq
    · apply Classical.byContradiction
      intro hne
      exact hj3 r (by omega) (by omega) hq
theorem cut_apB {n : Int} (hb : c.bad = false) (hf : fitC c n = true) : apB (cutC n c).sp c.cl := by
  unfold fitC at hf
  rw [dat_ok hb] at hf
  have h1 := of_decide_eq_true hf
  have e : (cutC n c).sp = c.cl.take n.toNat := rfl
  refine .inl ⟨?_, ?_⟩
  · rw [e, List.length_take]; omega
  · rw [e, List.length_take, Nat.min_eq_left (by omega)]
/-- what the law keeps beside the network -/
structure MI (s : Stn) (Bk : List Cp) (Th : List Bool) : Prop where
  la : s.la = (Bk.length : Nat)
  tl : Th.length = Bk.length
  th : ∀ j, j < Bk.length → Th[j]? = some (fnd s.ls ((j : Int) + 1)).isSome
  bk : ∀ d ∈ s.ls, ∃ c, Bk[(d.num - 1).toNat]? = some c ∧ c.frm = d.frm ∧ c.to = d.to ∧ c.cl = d.cl ∧ c.sent = d.sent
  ok : ∀ d ∈ s.ls, okC d
  nb : ∀ c ∈ Bk, c.bad = false
theorem MI.zer : MI zerS [] [] := ⟨rfl, rfl, fun j hj => by simp at hj, fun d hd => (by cases hd), fun d hd => (by cases hd), fun c hc => (by cases hc)⟩
theorem fnd_app {l : List Cp} {c : Cp} {k : Int} (h : c.num ≠ k) : fnd (l ++ [c]) k = fnd l k := by
  unfold fnd
  rw [List.find?_append]
  have : List.find? (fun c => c.num == k) [c] = none := by simp [h]
  rw [this]
  cases List.find? (fun c => c.num == k) l <;> rfl
/-- a copy more -/
theorem MI.lay {Bk : List Cp} {Th : List Bool} (h : MI s Bk Th) (gd : Gd s) (hl : s.la ≠ 2147483647) {f t sent : Int} {cl : List Int} {b : Cp} (hb : b.frm = f ∧ b.to = t ∧ b.cl = cl ∧ b.sent = sent ∧ b.bad = false) : MI (layS s f t cl sent) (Bk ++ [b]) (Th ++ [true]) := by
  have hla := h.la
  unfold layS
  rw [if_neg hl]
  have hnew : ∀ c ∈ s.ls, c.num ≠ s.la + 1 := fun c hc e => by have := (gd.le c hc).2; omega
  refine ⟨by simp only [List.length_append, List.length_cons, List.length_nil]; omega, by simp [h.tl], fun j hj => ?_, fun d hd => ?_, fun d hd => ?_, fun c hc => ?_⟩
  · by_cases hj2 : j < Bk.length
    · rw [List.getElem?_append_left (by rw [h.tl]; exact hj2), h.th j hj2, fnd_app (by simp only; omega)]
    · have e : j = Bk.length := by simp at hj; omega
      subst e
      rw [List.getElem?_append_right (by rw [h.tl]; exact Nat.le_refl _), h.tl, Nat.sub_self]
      unfold fnd
      rw [List.find?_append, ← hla]
      have : List.find? (fun c => c.num == s.la + 1) [(⟨s.la + 1, f, t, cl, sent, false, []⟩ : Cp)] = some ⟨s.la + 1, f, t, cl, sent, false, []⟩ := by simp
      rw [this]
      cases List.find? (fun c => c.num == s.la + 1) s.ls <;> rfl
  · rcases List.mem_append.1 hd with hd | hd
    · obtain ⟨c, hc, r⟩ := h.bk d hd
      have := (List.getElem?_eq_some_iff.1 hc).1
      exact ⟨c, by rw [List.getElem?_append_left this]; exact hc, r⟩
    · obtain rfl : d = _ := by simpa using hd
      refine ⟨b, ?_, hb.1, hb.2.1, hb.2.2.1, hb.2.2.2.1⟩
      simp only
      rw [show (s.la + 1 - 1).toNat = Bk.length by omega, List.getElem?_append_right (Nat.le_refl _), Nat.sub_self]
      rfl
  · rcases List.mem_append.1 hd with hd | hd
    · exact h.ok d hd
    · obtain rfl : d = _ := by simpa using hd
      intro e; cases e
  · rcases List.mem_append.1 hc with hc | hc
    · exact h.nb c hc
    · obtain rfl : c = b := by simpa using hc
      exact hb.2.2.2.2
/-- a copy less -/
theorem MI.tk {Bk : List Cp} {Th : List Bool} (h : MI s Bk Th) (gd : Gd s) (k : Int) {Th' : List Bool} (hT : ∀ j : Nat, Th'[j]? = if (j : Int) + 1 = k then (Th[j]?).map (fun _ => false) else Th[j]?) : MI (tkS s k) Bk Th' := by
  refine ⟨h.la, ?_, fun j hj => ?_, fun d hd => h.bk d (List.mem_filter.1 hd).1, fun d hd => h.ok d (List.mem_filter.1 hd).1, h.nb⟩
  · rw [← h.tl]
    apply Nat.le_antisymm
    · apply Classical.byContradiction
      intro hne
      have h1 := hT Th.length
      rw [List.getElem?_eq_none (Nat.le_refl _)] at h1
      have h2 : Th'[Th.length]? = none := by rw [h1]; split <;> rfl
      rw [List.getElem?_eq_none_iff] at h2
      omega
    · apply Classical.byContradiction
      intro hne
      have h1 := hT Th'.length
      rw [List.getElem?_eq_none (Nat.le_refl _), List.getElem?_eq_getElem (by omega : Th'.length < Th.length)] at h1
      split at h1 <;> cases h1
  · rw [hT j, h.th j hj]
    show _ = some (fnd (s.ls.filter fun c => !(c.num == k)) ((j : Int) + 1)).isSome
    rw [fnd_filter]
    by_cases e : (j : Int) + 1 = k
    · rw [if_pos e, if_pos e]; rfl
    · rw [if_neg e, if_neg e]
theorem MI.upd {Bk : List Cp} {Th : List Bool} (h : MI s Bk Th) {k : Int} {g : Cp → Cp} (hg : ∀ c, (g c).num = c.num ∧ (g c).frm = c.frm ∧ (g c).to = c.to ∧ (g c).cl = c.cl ∧ (g c).sent = c.sent) (hok : ∀ d ∈ s.ls, d.num = k → okC (g d)) : MI (updS s k g) Bk Th := by
  refine ⟨h.la, h.tl, fun j hj => ?_, fun d hd => ?_, fun d hd => ?_, h.nb⟩
  · rw [h.th j hj, fnd_upd s k (fun c => (hg c).1)]
  · rcases upd_mem hd with ⟨hd, _⟩ | ⟨d', hd', hk, rfl⟩
    · exact h.bk d hd
    · obtain ⟨c, hc, h1, h2, h3, h4⟩ := h.bk d' hd'
      obtain ⟨g1, g2, g3, g4, g5⟩ := hg d'
      exact ⟨c, by rw [g1]; exact hc, by rw [g2]; exact h1, by rw [g3]; exact h2, by rw [g4]; exact h3, by rw [g5]; exact h4⟩
  · rcases upd_mem hd with ⟨hd, _⟩ | ⟨d', hd', hk, rfl⟩
    · exact h.ok d hd
    · exact hok d' hd' hk
theorem MI.alt {Bk : List Cp} {Th : List Bool} (h : MI s Bk Th) (gd : Gd s) (k a : Int) (y : List Int) : MI (altS s k a y) Bk Th := by
  unfold altS
  split
  · rename_i he
    obtain ⟨c, hc, hf, hb⟩ := alt_ok he
    refine h.upd (fun c => ⟨rfl, rfl, rfl, rfl, rfl⟩) (fun d hd hk => ?_)
    have e : d = c := rise_inj gd.ris d hd c (fnd_mem hc) (by rw [hk, fnd_num hc])
    subst e
    exact fun _ => alt_apB hb hf
  · exact h
theorem MI.cut {Bk : List Cp} {Th : List Bool} (h : MI s Bk Th) (gd : Gd s) (k n : Int) : MI (cutS s k n) Bk Th := by
  unfold cutS
  split
  · rename_i he
    obtain ⟨c, hc, hf, hb⟩ := cut_ok he
    refine h.upd (fun c => ⟨rfl, rfl, rfl, rfl, rfl⟩) (fun d hd hk => ?_)
    have e : d = c := rise_inj gd.ris d hd c (fnd_mem hc) (by rw [hk, fnd_num hc])
    subst e
    exact fun _ => cut_apB hb hf
  · exact h

end Go.Proofs.Ytfminifjnjfocaa
