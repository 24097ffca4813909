/-
  Cuts: twice, and once by both. Pure; and what is told, apart from the logs.
-/
import Derived.Test.YtehmbbnmjiojgaaZLC2
set_option linter.unusedSimpArgs false
set_option linter.unusedVariables false
namespace Go.Proofs.Ytehmbbnmjiojgaa
open Go.RowKit Go.Lib

theorem has_nil (d : Int × Int) : hasV [] d = false := by
  unfold hasV getV
  rw [decide_eq_false_iff_not]
  intro h
  have h2 := h.2
  split at h2
  · rw [sy_nil] at h2
    have h3 : d.2 ≤ 0 := h2
    omega
  · omega
theorem bynd_nil (os : List Opn) : bynd [] os = os := by
  unfold bynd prL
  rw [if_pos (show chk [] = 0 from rfl), List.filter_eq_self]
  intro o _
  rw [has_nil]
  rfl
theorem pr_both (p q r : Opn → Bool) (os : List Opn) (h : ∀ o ∈ os, r o = (p o || q o)) : (os.filter fun o => p o == false).filter (fun o => q o == false) = os.filter (fun o => r o == false) ∧ (os.filter fun o => p o == true).length + ((os.filter fun o => p o == false).filter (fun o => q o == true)).length = (os.filter fun o => r o == true).length ∧ (os.filter fun o => r o == true).length + (os.filter fun o => r o == false).length = os.length := by
  induction os with
  | nil => exact ⟨rfl, rfl, rfl⟩
  | cons o os ih =>
    obtain ⟨i1, i2, i3⟩ := ih (fun x hx => h x (by simp [hx]))
    have ho := h o (by simp)
    cases hp : p o <;> cases hq : q o <;> rw [hp, hq] at ho <;> simp only [List.filter_cons, hp, hq, ho] <;> simp only [Bool.or_self, Bool.or_true, Bool.true_or, Bool.or_false, beq_self_eq_true, if_true, Bool.false_eq_true, if_false, show (true == false) = false from rfl, show (false == true) = false from rfl, List.filter_cons, hq, List.length_cons] <;> refine ⟨?_, ?_, ?_⟩ <;> first | exact i1 | omega | (rw [i1])
theorem has_both {a b both : List (Int × Int)} (e : sy both = mrg (sy a) (sy b)) {d : Int × Int} (h : 1 ≤ d.1 ∧ d.1 ≤ 16) (h2 : 1 ≤ d.2) : hasV both d = (hasV a d || hasV b d) := by
  obtain ⟨x, y⟩ := d
  simp only at h h2
  rw [has_site h h2, has_site h h2, has_site h h2, e]
  unfold mrg
  by_cases h3 : y ≤ sy a x.toNat <;> by_cases h4 : y ≤ sy b x.toNat <;> simp only [h3, h4, decide_true, decide_false, Bool.or_true, Bool.true_or, Bool.or_false] <;> first | (rw [decide_eq_true_iff]; omega) | (rw [decide_eq_false_iff_not]; omega)
theorem cut_ways (hv l : List (Int × Int)) : (chk l ≠ 0 ∧ cutE hv l ≠ 0) ∨ (chk l = 0 ∧ cov (sy hv) (sy l) = false ∧ cutE hv l ≠ 0) ∨ (chk l = 0 ∧ cov (sy hv) (sy l) = true ∧ cutE hv l = 0) := by
  by_cases h : chk l = 0
  · cases hc : cov (sy hv) (sy l)
    · exact .inr (.inl ⟨h, rfl, by rw [cutE_cov h hc]; decide⟩)
    · exact .inr (.inr ⟨h, rfl, cutE_ok h hc⟩)
  · exact .inl ⟨h, by rw [cutE_chk h]; exact h⟩
/-- all that the law asks of the two ways -/
theorem cut_both {B H a b both : List (Int × Int)} {O : List Opn} (h : ST B H O) (e : vec (mrg (sy a) (sy b)) = both) (ca : cov (sy H) (sy a) = true) (cb : cov (sy H) (sy b) = true) :
    chk both = 0 ∧ cutE H both = 0 ∧ vec (mrg (sy (vec (mrg (sy B) (sy a)))) (sy b)) = vec (mrg (sy B) (sy both)) ∧ prL b false (prL a false O) = prL both false O ∧ (prL a true O).length + (prL b true (prL a false O)).length = (prL both true O).length ∧ (prL both true O).length + (prL both false O).length = O.length := by
  subst e
  have g := (sy_good a).mrg (sy_good b)
  have gB := (sy_good B).mrg (sy_good a)
  have hs := sy_vec g
  have hk := chk_vec g
  have hc : cov (sy H) (sy (vec (mrg (sy a) (sy b)))) = true := by
    rw [hs]
    rw [cov_iff (sy_good H) (sy_good a)] at ca
    rw [cov_iff (sy_good H) (sy_good b)] at cb
    rw [cov_iff (sy_good H) g]
    intro i
    have := ca i
    have := cb i
    unfold mrg
    omega
  refine ⟨hk, cutE_ok hk hc, ?_, ?_⟩
  · rw [sy_vec gB, hs]
    congr 1
    funext i
    unfold mrg
    omega
  · exact pr_both (fun o => hasV a (o.ds, o.dq)) (fun o => hasV b (o.ds, o.dq)) (fun o => hasV (vec (mrg (sy a) (sy b))) (o.ds, o.dq)) O (fun o ho => by
      obtain ⟨h1, h2, h3⟩ := h.sq.mem o ho
      have := (sy_good B).lo o.ds.toNat
      exact has_both hs h1 (by show 1 ≤ o.dq; omega))
theorem filter_at {α : Type} (p : α → Bool) (l : List α) (i : Nat) (x : α) (h : l[i]? = some x) (hp : p x = true) : (l.filter p)[((l.take i).filter p).length]? = some x ∧ ((l.take i).filter p).length < (l.filter p).length ∧ ((l.take (i + 1)).filter p).length = ((l.take i).filter p).length + 1 := by
  have hi := (List.getElem?_eq_some_iff.1 h).1
  have e1 : l.filter p = (l.take i).filter p ++ (x :: (l.drop (i + 1)).filter p) := by
    conv => lhs; rw [← List.take_append_drop i l, List.filter_append, drop_at h, List.filter_cons, if_pos hp]
  refine ⟨by rw [e1, List.getElem?_append_right (Nat.le_refl _)]; simp, by rw [e1]; simp, ?_⟩
  rw [List.take_add_one, h, List.filter_append]
  simp [hp]
theorem filter_not {α : Type} (p : α → Bool) (l : List α) (i : Nat) (x : α) (h : l[i]? = some x) (hp : p x = false) : ((l.take (i + 1)).filter p).length = ((l.take i).filter p).length := by
  rw [List.take_add_one, h, List.filter_append]
  simp [hp]
theorem prL_at {l : List (Int × Int)} {x : Bool} {os : List Opn} {i : Nat} {o : Opn} (h : os[i]? = some o) (hp : hasV l (o.ds, o.dq) = x) : (prL l x os)[(prL l x (os.take i)).length]? = some o ∧ (prL l x (os.take i)).length < (prL l x os).length ∧ (prL l x (os.take (i + 1))).length = (prL l x (os.take i)).length + 1 ∧ (prL l (!x) (os.take (i + 1))).length = (prL l (!x) (os.take i)).length := by
  obtain ⟨h1, h2, h3⟩ := filter_at (fun o => hasV l (o.ds, o.dq) == x) os i o h (by simp [hp])
  have h4 := filter_not (fun o : Opn => hasV l (o.ds, o.dq) == !x) os i o h (by simp [hp])
  exact ⟨h1, h2, h3, h4⟩
theorem RL.lt {P : Nat → Prop} {W : World} {v : Value} {os : List Opn} (h : RL P W v os) : RL (fun i => P i ∧ i < W.heap.size) W v os := by
  obtain ⟨ops, h1, h2, h3, h4⟩ := h
  exact ⟨ops, h1, fun e he => (h2 e he).lt, fun k hk => ⟨h3 k hk, (h1.lt k hk).2⟩, h4⟩
theorem own_rb {W : World} {N : Nat} {v : Value} {l : List (Int × Int)} (h : OwD W N v l) {k : Nat} (hk : rb v l.length k) : N ≤ k ∧ k < W.heap.size := h.lt k hk.2
theorem KVectorQ_in {w W : World} {b : Nat} {base hv : List (Int × Int)} {os : List Opn} (h : KS w W b base hv os) :
    Calls Try.prog 10 #[.pointer (some ⟨b, 0, none⟩)] W fun e W' => ∃ a c, e = .returned (.slice a hv.length c) ∧ OwD W' W.heap.size (.slice a hv.length c) hv ∧ Below W.heap.size W W' := by
  obtain ⟨P, hL, hP, hb⟩ := h
  refine (Vector_in hL).mono ?_
  rintro e W' ⟨v', rfl, ho, hb'⟩
  obtain ⟨a, c, rfl⟩ := ho.form
  exact ⟨a, c, rfl, ho, hb'⟩
theorem KT.new {w W1 W2 W3 : World} {b m : Nat} {base : List (Int × Int)} (h0 : Below w.heap.size w W1) (h1 : LL (fun i => W1.heap.size ≤ i) W2 b base base []) (hb1 : Below W1.heap.size W1 W2) (h2 : LL (fun i => W2.heap.size ≤ i) W3 m base base []) (hb2 : Below W2.heap.size W2 W3) : KT (fun _ => False) w W3 b base base [] m base base [] := by
  have z0 := h0.size
  have z1 := hb1.size
  have z2 := hb2.size
  exact ⟨_, _, h1.lt.below hb2, h2.lt, fun i hi => ⟨by have := hi.1; omega, by have := hi.2; omega, fun e => by have := hi.2; have := e.1; omega, fun e => e⟩, fun i hi => ⟨by have := hi.1; omega, hi.2, fun e => by have := e.2; have := hi.1; omega, fun e => e⟩, fun i hi => hi.elim, bnext (bnext h0 hb1) hb2⟩

end Go.Proofs.Ytehmbbnmjiojgaa
