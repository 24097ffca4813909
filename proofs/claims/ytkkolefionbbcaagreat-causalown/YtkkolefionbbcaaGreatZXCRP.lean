/-
  The farthest of a list, whichever way it is sought. Pure.
-/
import Derived.Test.YtkkolefionbbcaaGreatZCP

set_option linter.unusedSimpArgs false
set_option linter.unusedVariables false
namespace Go.Proofs.YtkkolefionbbcaaGreat

theorem farO_tot {a b : Opn} (h : dotO a ≠ dotO b) (hn : farO a b = false) : farO b a = true := by
  have h1 : ¬ farO a b = true := by rw [hn]; simp
  rw [farO_iff] at h1
  rw [farO_iff]
  have h2 : a.ds ≠ b.ds ∨ a.dq ≠ b.dq := by
    by_cases e : a.ds = b.ds
    · exact .inr (fun e2 => h (by unfold dotO; rw [e, e2]))
    · exact .inl e
  generalize sum (sy a.deps) = x at *
  generalize sum (sy b.deps) = y at *
  omega
theorem farO_trans {a b c : Opn} (h : farO a b = true) (k : farO b c = true) : farO a c = true := by
  rw [farO_iff] at *
  generalize sum (sy a.deps) = x at *
  generalize sum (sy b.deps) = y at *
  generalize sum (sy c.deps) = z at *
  omega
theorem farO_asym {a b : Opn} (h : farO a b = true) : farO b a = false := by
  cases e : farO b a with
  | false => rfl
  | true =>
    rw [farO_iff] at h e
    generalize sum (sy a.deps) = x at *
    generalize sum (sy b.deps) = y at *
    omega
theorem farO_irr (a : Opn) : farO a a = false := by
  cases e : farO a a with
  | false => rfl
  | true => exact (farO_asym e).symm.trans e |>.symm ▸ rfl
/-- no two of one Dot -/
def DD (l : List Opn) : Prop := (l.map dotO).Nodup
theorem DD.ne {l : List Opn} (h : DD l) {i j : Nat} {x y : Opn} (hx : l[i]? = some x) (hy : l[j]? = some y) (hn : i ≠ j) : dotO x ≠ dotO y := fun e => by
  unfold DD at h
  have hi := (List.getElem?_eq_some_iff.1 hx).1
  have hj := (List.getElem?_eq_some_iff.1 hy).1
  have e1 : (l.map dotO)[i]? = (l.map dotO)[j]? := by rw [List.getElem?_map, List.getElem?_map, hx, hy]; simp [e]
  rw [List.getElem?_eq_getElem (by simpa using hi), List.getElem?_eq_getElem (by simpa using hj)] at e1
  exact hn ((List.getElem_inj h).1 (Option.some.inj e1))
/-- the farthest stands at r -/
def MaxAt (l : List Opn) (n r : Nat) : Prop := ∀ j x y, l[r]? = some x → l[j]? = some y → j < n → j ≠ r → farO x y = true
theorem farF_max {l : List Opn} (hd : DD l) : ∀ f i t, i + f = l.length → t < l.length → (t < i ∨ (i = 0 ∧ t = 0)) → MaxAt l i t → farF l f i t < l.length ∧ MaxAt l l.length (farF l f i t)
  | 0, i, t, h1, h2, h3, h4 => by
    unfold farF
    rw [Nat.add_zero] at h1
    rw [h1] at h4
    exact ⟨h2, h4⟩
  | f + 1, i, t, h1, h2, h3, h4 => by
    have hi : i < l.length := by omega
    obtain ⟨a, ha⟩ : ∃ a, l[i]? = some a := ⟨_, List.getElem?_eq_getElem hi⟩
    obtain ⟨b, hb⟩ : ∃ b, l[t]? = some b := ⟨_, List.getElem?_eq_getElem h2⟩
    unfold farF
    rw [ha, hb]
    simp only
    by_cases hf : farO a b = true
    · rw [if_pos hf]
      refine farF_max hd f (i + 1) i (by omega) hi (.inl (by omega)) (fun j x y hx hy hj hn => ?_)
      rw [ha] at hx
      cases hx
      by_cases e : j = t
      · subst e; rw [hb] at hy; cases hy; exact hf
      · exact farO_trans hf (h4 j b y hb hy (by omega) e)
    · rw [if_neg hf]
      have hf' : farO a b = false := by simpa using hf
      refine farF_max hd f (i + 1) t (by omega) h2 (.inl (by omega)) (fun j x y hx hy hj hn => ?_)
      rw [hb] at hx
      cases hx
      by_cases e : j = i
      · subst e
        rw [ha] at hy
        cases hy
        exact farO_tot (hd.ne ha hb hn) hf'
      · exact h4 j b y hb hy (by omega) hn
theorem farI_eq {l : List Opn} (hd : DD l) {r : Nat} (hr : r < l.length) (hm : MaxAt l l.length r) : farI l = r := by
  unfold farI
  obtain ⟨h1, h2⟩ := farF_max hd l.length 0 0 (by omega) (by omega) (.inr ⟨rfl, rfl⟩) (fun j x y _ _ hj => by omega)
  by_cases e : farF l l.length 0 0 = r
  · exact e
  · exfalso
    obtain ⟨a, ha⟩ : ∃ a, l[r]? = some a := ⟨_, List.getElem?_eq_getElem hr⟩
    obtain ⟨b, hb⟩ : ∃ b, l[farF l l.length 0 0]? = some b := ⟨_, List.getElem?_eq_getElem h1⟩
    have q1 := hm _ a b ha hb h1 e
    have q2 := h2 _ b a hb ha hr (Ne.symm e)
    rw [farO_asym q1] at q2
    cases q2
/-- how the document seeks it -/
structure FarR (ws : List Opn) (o : Opn) (i : Nat) (k : Int) (f : Opn) : Prop where
  at_ : (k = -1 ∧ f = o) ∨ ∃ q : Nat, k = (q : Int) ∧ q < i ∧ ws[q]? = some f ∧ farO f o = true
  mx : ∀ (j : Nat) y, j < i → (j : Int) ≠ k → ws[j]? = some y → farO f y = true
theorem FarR.start (ws : List Opn) (o : Opn) : FarR ws o 0 (-1) o := ⟨.inl ⟨rfl, rfl⟩, fun j y hj => by omega⟩
theorem FarR.step {ws : List Opn} {o f x : Opn} {i : Nat} {k : Int} (h : FarR ws o i k f) (hd : DD (ws ++ [o])) (hx : ws[i]? = some x) : FarR ws o (i + 1) (if farO x f = true then (i : Int) else k) (if farO x f = true then x else f) := by
  have hi := (List.getElem?_eq_some_iff.1 hx).1
  have hx' : (ws ++ [o])[i]? = some x := by rw [List.getElem?_append_left hi]; exact hx
  by_cases hf : farO x f = true
  · rw [if_pos hf, if_pos hf]
    have hxo : farO x o = true := by
      rcases h.at_ with ⟨_, e⟩ | ⟨q, _, _, _, e⟩
      · rw [← e]; exact hf
      · exact farO_trans hf e
    refine ⟨.inr ⟨i, rfl, by omega, hx, hxo⟩, fun j y hj hn hy => ?_⟩
    by_cases ek : (j : Int) = k
    · rcases h.at_ with ⟨e, _⟩ | ⟨q, e1, e2, e3, _⟩
      · omega
      · have : j = q := by omega
        subst this
        rw [e3] at hy; cases hy; exact hf
    · exact farO_trans hf (h.mx j y (by omega) ek hy)
  · rw [if_neg hf, if_neg hf]
    have hf' : farO x f = false := by simpa using hf
    refine ⟨?_, fun j y hj hn hy => ?_⟩
    · rcases h.at_ with e | ⟨q, e1, e2, e3, e4⟩
      · exact .inl e
      · exact .inr ⟨q, e1, by omega, e3, e4⟩
    · by_cases ej : j = i
      · subst ej
        rw [hx] at hy
        cases hy
        refine farO_tot ?_ hf'
        rcases h.at_ with ⟨_, e⟩ | ⟨q, e1, e2, e3, _⟩
        · rw [e]
          exact hd.ne hx' (show (ws ++ [o])[ws.length]? = some o by simp) (by omega)
        · have hq := (List.getElem?_eq_some_iff.1 e3).1
          exact hd.ne hx' (show (ws ++ [o])[q]? = some f by rw [List.getElem?_append_left hq]; exact e3) (by omega)
      · exact h.mx j y (by omega) hn hy
theorem FarR.fin {ws : List Opn} {o f : Opn} {k : Int} (h : FarR ws o ws.length k f) (hd : DD (ws ++ [o])) : (k = -1 ∧ farI (ws ++ [o]) = ws.length) ∨ ∃ q : Nat, k = (q : Int) ∧ q < ws.length ∧ farI (ws ++ [o]) = q := by
  have hl : (ws ++ [o]).length = ws.length + 1 := by simp
  rcases h.at_ with ⟨e1, e2⟩ | ⟨q, e1, e2, e3, e4⟩
  · refine .inl ⟨e1, farI_eq hd (by omega) (fun j x y hx hy hj hn => ?_)⟩
    rw [List.getElem?_append_right (by omega)] at hx
    simp at hx
    subst hx
    have hj' : j < ws.length := by omega
    rw [List.getElem?_append_left hj'] at hy
    rw [← e2]
    exact h.mx j y hj' (by omega) hy
  · refine .inr ⟨q, e1, e2, farI_eq hd (by omega) (fun j x y hx hy hj hn => ?_)⟩
    rw [List.getElem?_append_left e2, e3] at hx
    cases hx
    by_cases hj' : j < ws.length
    · rw [List.getElem?_append_left hj'] at hy
      exact h.mx j y hj' (by omega) hy
    · have : j = ws.length := by omega
      subst this
      rw [List.getElem?_append_right (by omega)] at hy
      simp at hy
      subst hy
      exact e4
theorem cut_last {α : Type} (l : List α) (x : α) : cutI (l ++ [x]) l.length = l := by
  unfold cutI
  rw [List.take_append_of_le_length (Nat.le_refl _), List.take_length, List.drop_of_length_le (by simp), List.append_nil]
theorem cut_in_front {α : Type} (l : List α) (x : α) {q : Nat} (h : q < l.length) : cutI (l ++ [x]) q = cutI l q ++ [x] := by
  unfold cutI
  rw [List.take_append_of_le_length (by omega), List.drop_append_of_le_length (by omega), List.append_assoc]

end Go.Proofs.YtkkolefionbbcaaGreat

/-
  What waits has no two of one Dot, whatever is offered. Pure.
-/
set_option linter.unusedSimpArgs false
set_option linter.unusedVariables false
namespace Go.Proofs.YtkkolefionbbcaaGreat

theorem DD.sub {l m : List Opn} (h : DD m) (hs : l.Sublist m) : DD l := List.Nodup.sublist (hs.map dotO) h
theorem cutI_sub {α : Type} (l : List α) (i : Nat) : (cutI l i).Sublist l := by
  unfold cutI
  have h1 : (l.take i ++ l.drop (i + 1)).Sublist (l.take i ++ l.drop i) := (List.Sublist.refl _).append (by
    rw [← List.drop_drop]
    exact List.drop_sublist _ _)
  rw [List.take_append_drop] at h1
  exact h1
theorem relF_sub : ∀ (f : Nat) (hv : List (Int × Int)) (ws rd : List Opn), (relF f hv ws rd).2.1.Sublist ws
  | 0, hv, ws, rd => by unfold relF; exact List.Sublist.refl _
  | f + 1, hv, ws, rd => by
    unfold relF
    split
    · exact List.Sublist.refl _
    · split
      · exact List.Sublist.refl _
      · exact (relF_sub f _ _ _).trans (cutI_sub _ _)
theorem DD.push {hv : List (Int × Int)} {ws : List Opn} {o : Opn} (h : DD ws) (hk : knwO hv ws (dotO o) = false) : DD (ws ++ [o]) := by
  unfold DD at *
  unfold knwO at hk
  rw [Bool.or_eq_false_iff] at hk
  rw [List.map_append, List.nodup_append]
  refine ⟨h, by simp, fun x hx y hy e => ?_⟩
  simp at hy
  subst hy
  subst e
  have := hk.2
  rw [List.any_eq_false] at this
  obtain ⟨z, hz, ez⟩ := List.mem_map.1 hx
  exact this z hz (by simpa using ez)
/-- kept by every Offer -/
theorem offA_dd (hold : Int) (hv : List (Int × Int)) (ws rd : List Opn) (o : Opn) (h : DD ws) : DD (offA hold hv ws rd o).2.2.1 := by
  unfold offA
  split
  · exact h
  · split
    · exact h
    · rename_i hk
      have hk' : knwO hv ws (dotO o) = false := by simpa using hk
      split
      · exact h.sub (relF_sub _ _ _ _)
      · split
        · exact h.push hk'
        · exact (h.push hk').sub (cutI_sub _ _)
theorem DD.nil : DD [] := by unfold DD; simp

end Go.Proofs.YtkkolefionbbcaaGreat

/-
  What an Offer delivers and what waits behind it. Pure.
-/
set_option linter.unusedSimpArgs false
set_option linter.unusedVariables false
namespace Go.Proofs.YtkkolefionbbcaaGreat

/-- operations that are delivered one behind the other -/
def Dlv : List (Int × Int) → List Opn → List (Int × Int) → Prop
  | hv, [], hv' => hv = hv'
  | hv, o :: r, hv' => canO hv o = true ∧ chkO o = 0 ∧ Dlv (addV hv (dotO o)).1 r hv'
theorem Dlv.snoc : ∀ {r : List Opn} {hv hv' : List (Int × Int)} {o : Opn}, Dlv hv r hv' → canO hv' o = true → chkO o = 0 → Dlv hv (r ++ [o]) (addV hv' (dotO o)).1
  | [], hv, hv', o, h, hc, hk => by
    have : hv = hv' := h
    subst this
    exact ⟨hc, hk, rfl⟩
  | x :: r, hv, hv', o, h, hc, hk => ⟨h.1, h.2.1, Dlv.snoc h.2.2 hc hk⟩
theorem Dlv.app : ∀ {r s : List Opn} {hv hv' hv2 : List (Int × Int)}, Dlv hv r hv' → Dlv hv' s hv2 → Dlv hv (r ++ s) hv2
  | [], s, hv, hv', hv2, h, k => by
    have : hv = hv' := h
    subst this
    exact k
  | x :: r, s, hv, hv', hv2, h, k => ⟨h.1, h.2.1, Dlv.app h.2.2 k⟩

/-- a Dot of an operation that is one -/
theorem chkO_dot {o : Opn} (h : chkO o = 0) : (1 ≤ o.ds ∧ o.ds ≤ 16) ∧ 1 ≤ o.dq ∧ o.dq ≤ 2147483647 := by
  unfold chkO at h
  have h1 : okO o = true := by
    by_cases e : okO o = true
    · exact e
    · rw [if_neg e] at h; cases h
  unfold okO at h1
  simp only [Bool.and_eq_true] at h1
  have := h1.1.1.2
  unfold folO isT at this
  simp only [Bool.and_eq_true, decide_eq_true_eq] at this
  omega
/-- how a delivery turns the vector -/
theorem get_add {hv : List (Int × Int)} {o : Opn} (hc : canO hv o = true) (hk : chkO o = 0) (s : Int) : getV (addV hv (dotO o)).1 s = if s = o.ds then o.dq else getV hv s := by
  obtain ⟨⟨h1, h2⟩, h3, h4⟩ := chkO_dot hk
  unfold canO at hc
  simp only [Bool.and_eq_true, decide_eq_true_eq] at hc
  have hg : getV hv o.ds = sy hv o.ds.toNat := by unfold getV; rw [if_pos ⟨h1, h2⟩]
  have e : (addV hv (dotO o)).1 = vec (put1 (sy hv) o.ds.toNat o.dq) := by
    show (if ¬ (1 ≤ o.ds ∧ o.ds ≤ 16) ∨ o.dq < 1 then (([] : List (Int × Int)), (1 : Int)) else if 2147483647 < o.dq then ([], 17) else if o.dq - 1 ≠ sy hv o.ds.toNat then ([], 9) else (vec (put1 (sy hv) o.ds.toNat o.dq), 0)).1 = _
    rw [if_neg (by omega), if_neg (by omega), if_neg (by omega)]
  have hgd : Good (put1 (sy hv) o.ds.toNat o.dq) := (sy_good hv).put (by omega) (by omega) (by omega) (by omega)
  rw [e]
  unfold getV
  rw [sy_vec hgd]
  by_cases es : s = o.ds
  · rw [if_pos es, es, if_pos ⟨h1, h2⟩, put1_self]
  · rw [if_neg es]
    by_cases er : 1 ≤ s ∧ s ≤ 16
    · rw [if_pos er, if_pos er, put1_other _ _ _ _ (by omega)]
    · rw [if_neg er, if_neg er]
theorem add_vec {hv : List (Int × Int)} {o : Opn} (hc : canO hv o = true) (hk : chkO o = 0) : ∃ s, Good s ∧ (addV hv (dotO o)).1 = vec s := by
  obtain ⟨⟨h1, h2⟩, h3, h4⟩ := chkO_dot hk
  unfold canO at hc
  simp only [Bool.and_eq_true, decide_eq_true_eq] at hc
  have hg : getV hv o.ds = sy hv o.ds.toNat := by unfold getV; rw [if_pos ⟨h1, h2⟩]
  refine ⟨put1 (sy hv) o.ds.toNat o.dq, (sy_good hv).put (by omega) (by omega) (by omega) (by omega), ?_⟩
  show (if ¬ (1 ≤ o.ds ∧ o.ds ≤ 16) ∨ o.dq < 1 then (([] : List (Int × Int)), (1 : Int)) else if 2147483647 < o.dq then ([], 17) else if o.dq - 1 ≠ sy hv o.ds.toNat then ([], 9) else (vec (put1 (sy hv) o.ds.toNat o.dq), 0)).1 = _
  rw [if_neg (by omega), if_neg (by omega), if_neg (by omega)]
/-- what waits is not there behind a delivery of another one -/
theorem has_add {hv : List (Int × Int)} {o x : Opn} (hc : canO hv x = true) (hk : chkO x = 0) (ho : chkO o = 0) (hn : dotO o ≠ dotO x) (hh : hasV hv (dotO o) = false) : hasV (addV hv (dotO x)).1 (dotO o) = false := by
  obtain ⟨⟨_, _⟩, h3, _⟩ := chkO_dot ho
  unfold hasV at *
  rw [decide_eq_false_iff_not] at *
  have hg := get_add hc hk o.ds
  show ¬ (1 ≤ o.dq ∧ o.dq ≤ getV (addV hv (dotO x)).1 o.ds)
  have hh' : ¬ (1 ≤ o.dq ∧ o.dq ≤ getV hv o.ds) := hh
  rw [hg]
  unfold canO at hc
  simp only [Bool.and_eq_true, decide_eq_true_eq] at hc
  by_cases e : o.ds = x.ds
  · rw [if_pos e]
    have : o.dq ≠ x.dq := fun q => hn (by unfold dotO; rw [e, q])
    rw [e] at hh'
    omega
  · rw [if_neg e]; exact hh'
theorem has_self {hv : List (Int × Int)} {x : Opn} (hc : canO hv x = true) (hk : chkO x = 0) : hasV (addV hv (dotO x)).1 (dotO x) = true := by
  obtain ⟨_, h3, _⟩ := chkO_dot hk
  unfold hasV
  rw [decide_eq_true_eq]
  have hg := get_add hc hk x.ds
  show 1 ≤ x.dq ∧ x.dq ≤ getV (addV hv (dotO x)).1 x.ds
  rw [hg, if_pos rfl]
  omega
theorem has_keep {hv : List (Int × Int)} {x : Opn} (hc : canO hv x = true) (hk : chkO x = 0) (d : Int × Int) (hh : hasV hv d = true) : hasV (addV hv (dotO x)).1 d = true := by
  unfold hasV at *
  rw [decide_eq_true_eq] at *
  have hg := get_add hc hk d.1
  unfold canO at hc
  simp only [Bool.and_eq_true, decide_eq_true_eq] at hc
  rw [hg]
  by_cases e : d.1 = x.ds
  · rw [if_pos e]; rw [e] at hh; omega
  · rw [if_neg e]; exact hh
theorem Dlv.keep : ∀ {r : List Opn} {hv hv' : List (Int × Int)} (d : Int × Int), Dlv hv r hv' → hasV hv d = true → hasV hv' d = true
  | [], hv, hv', d, h, hh => by
    have : hv = hv' := h
    subst this
    exact hh
  | x :: r, hv, hv', d, h, hh => Dlv.keep d h.2.2 (has_keep h.1 h.2.1 d hh)
/-- what waits: each is an operation that cannot be delivered and is not there -/
structure Wt (hv : List (Int × Int)) (ws : List Opn) : Prop where
  dd : DD ws
  ok : ∀ o ∈ ws, chkO o = 0
  no : ∀ o ∈ ws, hasV hv (dotO o) = false
theorem Wt.sub {hv : List (Int × Int)} {ws ws' : List Opn} (h : Wt hv ws) (hs : ws'.Sublist ws) : Wt hv ws' := ⟨h.dd.sub hs, fun o ho => h.ok o (hs.subset ho), fun o ho => h.no o (hs.subset ho)⟩
theorem cutI_split {α : Type} (l : List α) (i : Nat) (x : α) (h : l[i]? = some x) : l = l.take i ++ x :: l.drop (i + 1) := by
  have hi := (List.getElem?_eq_some_iff.1 h).1
  conv => lhs; rw [← List.take_append_drop i l]
  congr 1
  rw [List.drop_eq_getElem_cons hi, (List.getElem?_eq_some_iff.1 h).2]
theorem Wt.cut {hv : List (Int × Int)} {ws : List Opn} {i : Nat} {x : Opn} (h : Wt hv ws) (hx : ws[i]? = some x) (hc : canO hv x = true) : Wt (addV hv (dotO x)).1 (cutI ws i) := by
  have hkx := h.ok x (List.mem_of_getElem? hx)
  have hs := cutI_sub ws i
  refine ⟨h.dd.sub hs, fun o ho => h.ok o (hs.subset ho), fun o ho => has_add hc hkx (h.ok o (hs.subset ho)) ?_ (h.no o (hs.subset ho))⟩
  have hd := h.dd
  unfold DD at hd
  rw [cutI_split ws i x hx, List.map_append, List.map_cons, List.nodup_append] at hd
  unfold cutI at ho
  rcases List.mem_append.1 ho with ho | ho
  · exact fun e => hd.2.2 (dotO o) (List.mem_map.2 ⟨o, ho, rfl⟩) (dotO x) (by simp) e
  · have := (List.nodup_cons.1 hd.2.1).1
    exact fun e => this (by rw [← e]; exact List.mem_map.2 ⟨o, ho, rfl⟩)
/-- release -/
theorem relF_spec : ∀ (f : Nat) (hv : List (Int × Int)) (ws rd : List Opn), Wt hv ws → ws.length ≤ f → ∃ nw, (relF f hv ws rd).2.2 = rd ++ nw ∧ Dlv hv nw (relF f hv ws rd).1 ∧ Wt (relF f hv ws rd).1 (relF f hv ws rd).2.1 ∧ (∀ o ∈ (relF f hv ws rd).2.1, canO (relF f hv ws rd).1 o = false) ∧ nw.length + (relF f hv ws rd).2.1.length = ws.length
  | 0, hv, ws, rd, h, hl => by
    have : ws = [] := List.eq_nil_of_length_eq_zero (by omega)
    subst this
    exact ⟨[], by simp [relF], rfl, h, fun o ho => (by cases ho), by simp [relF]⟩
  | f + 1, hv, ws, rd, h, hl => by
    cases hq : nxtI hv ws with
    | none =>
      have e : relF (f + 1) hv ws rd = (hv, ws, rd) := by unfold relF; rw [hq]
      rw [e]
      refine ⟨[], by simp, rfl, h, fun o ho => ?_, by simp⟩
      unfold nxtI at hq
      rw [List.findIdx?_eq_none_iff] at hq
      simpa using hq o ho
    | some i =>
      have hi : ∃ x, ws[i]? = some x ∧ canO hv x = true := by
        unfold nxtI at hq
        rw [List.findIdx?_eq_some_iff_getElem] at hq
        obtain ⟨h1, h2, _⟩ := hq
        exact ⟨_, List.getElem?_eq_getElem h1, h2⟩
      obtain ⟨x, hx, hc⟩ := hi
      have hil := (List.getElem?_eq_some_iff.1 hx).1
      have e : relF (f + 1) hv ws rd = relF f (addV hv (dotO x)).1 (cutI ws i) (rd ++ [x]) := by
        conv => lhs; unfold relF
        rw [hq]
        simp only [hx]
      rw [e]
      have hlc := cutI_len ws i hil
      obtain ⟨nw, h1, h2, h3, h4, h5⟩ := relF_spec f (addV hv (dotO x)).1 (cutI ws i) (rd ++ [x]) (h.cut hx hc) (by omega)
      exact ⟨x :: nw, by rw [h1]; simp, ⟨hc, h.ok x (List.mem_of_getElem? hx), h2⟩, h3, h4, by rw [List.length_cons]; omega⟩
/-- an Offer behind which all is taken -/
structure OfS (hold : Int) (hv : List (Int × Int)) (ws : List Opn) (o : Opn) (r e : Int) (hv' : List (Int × Int)) (ws' rd' : List Opn) : Prop where
  wt : Wt hv' ws'
  can : ∀ x ∈ ws', canO hv' x = false
  dl : Dlv hv rd' hv'
  sub : ∀ x ∈ ws', x ∈ ws ∨ x = o
  len : (ws'.length : Int) ≤ hold
  ln2 : rd'.length ≤ ws.length + 1
  ans : (e = 0 ∧ 1 ≤ r ∧ r ≤ 4) ∨ (e ≠ 0 ∧ r = 0)
  tk : r = 1 → hasV hv' (dotO o) = true
theorem farF_ltc (ws : List Opn) : ∀ f i a, a < ws.length → farF ws f i a < ws.length
  | 0, i, a, h => h
  | f + 1, i, a, h => by
    unfold farF
    split
    · rename_i x y hx hy
      have := (List.getElem?_eq_some_iff.1 hx).1
      refine farF_ltc ws f _ _ ?_
      split <;> omega
    · exact h
theorem offA_spec {hold : Int} {hv : List (Int × Int)} {ws : List Opn} (o : Opn) (h : Wt hv ws) (hc : ∀ x ∈ ws, canO hv x = false) (hl : (ws.length : Int) ≤ hold) : OfS hold hv ws o (offA hold hv ws [] o).1.1 (offA hold hv ws [] o).1.2 (offA hold hv ws [] o).2.1 (offA hold hv ws [] o).2.2.1 (offA hold hv ws [] o).2.2.2 := by
  unfold offA
  by_cases h0 : chkO o ≠ 0
  · rw [if_pos h0]
    exact ⟨h, hc, rfl, fun x hx => .inl hx, hl, by simp, .inr ⟨h0, rfl⟩, fun e => by cases e⟩
  rw [if_neg h0]
  have h0' : chkO o = 0 := by omega
  by_cases hk : knwO hv ws (dotO o) = true
  · rw [if_pos hk]
    exact ⟨h, hc, rfl, fun x hx => .inl hx, hl, by simp, .inl ⟨rfl, by show (1 : Int) ≤ 3; decide, by show (3 : Int) ≤ 4; decide⟩, fun e => by cases e⟩
  rw [if_neg hk]
  have hk' : knwO hv ws (dotO o) = false := by simpa using hk
  have hk2 : hasV hv (dotO o) = false := by unfold knwO at hk'; rw [Bool.or_eq_false_iff] at hk'; exact hk'.1
  have hk3 : ∀ x ∈ ws, dotO x ≠ dotO o := fun x hx e => by
    unfold knwO at hk'
    rw [Bool.or_eq_false_iff, List.any_eq_false] at hk'
    exact hk'.2 x hx (by simpa using e)
  by_cases hcn : canO hv o = true
  · rw [if_pos hcn]
    have hw : Wt (addV hv (dotO o)).1 ws := ⟨h.dd, h.ok, fun x hx => has_add hcn h0' (h.ok x hx) (hk3 x hx) (h.no x hx)⟩
    obtain ⟨nw, r1, r2, r3, r4, r5⟩ := relF_spec ws.length (addV hv (dotO o)).1 ws [o] hw (Nat.le_refl _)
    simp only [List.nil_append]
    refine ⟨r3, r4, ?_, fun x hx => .inl ((relF_sub _ _ _ _).subset hx), by omega, ?_, .inl ⟨rfl, by decide, by decide⟩, fun _ => ?_⟩
    · rw [r1]; exact ⟨hcn, h0', r2⟩
    · rw [r1]; simp only [List.length_append, List.length_cons, List.length_nil]; omega
    · exact Dlv.keep _ r2 (has_self hcn h0')
  rw [if_neg hcn]
  have hcn' : canO hv o = false := by simpa using hcn
  have hwp : Wt hv (ws ++ [o]) := ⟨h.dd.push hk', fun x hx => by
    rcases List.mem_append.1 hx with hx | hx
    · exact h.ok x hx
    · simp at hx; rw [hx]; exact h0', fun x hx => by
    rcases List.mem_append.1 hx with hx | hx
    · exact h.no x hx
    · simp at hx; rw [hx]; exact hk2⟩
  have hcp : ∀ x ∈ ws ++ [o], canO hv x = false := fun x hx => by
    rcases List.mem_append.1 hx with hx | hx
    · exact hc x hx
    · simp at hx; rw [hx]; exact hcn'
  have hsp : ∀ x ∈ ws ++ [o], x ∈ ws ∨ x = o := fun x hx => by
    rcases List.mem_append.1 hx with hx | hx
    · exact .inl hx
    · simp at hx; exact .inr hx
  by_cases hr : (ws.length : Int) < hold
  · rw [if_pos hr]
    exact ⟨hwp, hcp, rfl, hsp, by simp; omega, by simp, .inl ⟨rfl, by show (1 : Int) ≤ 2; decide, by show (2 : Int) ≤ 4; decide⟩, fun e => by cases e⟩
  rw [if_neg hr]
  have hfl : farI (ws ++ [o]) < (ws ++ [o]).length := farF_ltc _ _ _ _ (by simp)
  have hcl := cutI_len (ws ++ [o]) (farI (ws ++ [o])) hfl
  have hs := cutI_sub (ws ++ [o]) (farI (ws ++ [o]))
  refine ⟨hwp.sub hs, fun x hx => hcp x (hs.subset hx), rfl, fun x hx => hsp x (hs.subset hx), ?_, by simp, .inl ⟨rfl, ?_, ?_⟩, fun e => ?_⟩
  · simp at hcl; show ((cutI (ws ++ [o]) (farI (ws ++ [o]))).length : Int) ≤ hold; omega
  · show (1 : Int) ≤ if farI (ws ++ [o]) = ws.length then 4 else 2; split <;> decide
  · show (if farI (ws ++ [o]) = ws.length then (4 : Int) else 2) ≤ 4; split <;> decide
  · have : (if farI (ws ++ [o]) = ws.length then (4 : Int) else 2) = 1 := e
    split at this <;> cases this

end Go.Proofs.YtkkolefionbbcaaGreat
