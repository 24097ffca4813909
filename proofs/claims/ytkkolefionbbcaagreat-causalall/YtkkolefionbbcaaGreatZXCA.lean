/-
  A closed set is delivered whole, in whatever order it is offered. Pure.
-/
import Derived.Test.YtkkolefionbbcaaGreatZXCRP
import Derived.Test.YtkkolefionbbcaaGreatZXCL
import Derived.Test.YtkkolefionbbcaaGreatZCO3

set_option linter.unusedSimpArgs false
set_option linter.unusedVariables false
namespace Go.Proofs.YtkkolefionbbcaaGreat

/-- how many of a site there are -/
def cntS (l : List Opn) (s : Int) : Nat := l.countP fun o => decide (o.ds = s)
theorem cntS_snoc (l : List Opn) (o : Opn) (s : Int) : cntS (l ++ [o]) s = cntS l s + if o.ds = s then 1 else 0 := by
  unfold cntS
  rw [List.countP_append]
  by_cases h : o.ds = s <;> simp [h]
theorem cntS_take (l : List Opn) (i : Nat) (s : Int) : cntS (l.take i) s ≤ cntS l s := by
  unfold cntS
  exact List.Sublist.countP_le (List.take_sublist _ _)
theorem take_snoc {l : List Opn} {i : Nat} {o : Opn} (h : l[i]? = some o) : l.take (i + 1) = l.take i ++ [o] := by
  rw [List.take_add_one, h]; rfl
/-- a closed set -/
structure Cl (l : List Opn) : Prop where
  ok : ∀ o ∈ l, chkO o = 0
  sq : ∀ i o, l[i]? = some o → o.dq = (cntS (l.take i) o.ds : Int) + 1
  dp : ∀ i o, l[i]? = some o → ∀ t : Nat, sy o.deps t ≤ (cntS (l.take i) (t : Int) : Int)
theorem Cl.nil : Cl [] := ⟨fun o ho => (by cases ho), fun i o h => (by simp at h), fun i o h => (by simp at h)⟩
theorem Cl.snoc {l : List Opn} {o : Opn} (h : Cl l) (hk : chkO o = 0) (hq : o.dq = (cntS l o.ds : Int) + 1) (hd : ∀ t : Nat, sy o.deps t ≤ (cntS l (t : Int) : Int)) : Cl (l ++ [o]) := by
  refine ⟨fun x hx => ?_, fun i x hx => ?_, fun i x hx => ?_⟩
  · rcases List.mem_append.1 hx with hx | hx
    · exact h.ok x hx
    · simp at hx; rw [hx]; exact hk
  · by_cases hi : i < l.length
    · rw [List.getElem?_append_left hi] at hx
      rw [List.take_append_of_le_length (by omega)]
      exact h.sq i x hx
    · have hi2 := (List.getElem?_eq_some_iff.1 hx).1
      simp at hi2
      have : i = l.length := by omega
      subst this
      simp at hx
      subst hx
      simpa using hq
  · by_cases hi : i < l.length
    · rw [List.getElem?_append_left hi] at hx
      rw [List.take_append_of_le_length (by omega)]
      exact h.dp i x hx
    · have hi2 := (List.getElem?_eq_some_iff.1 hx).1
      simp at hi2
      have : i = l.length := by omega
      subst this
      simp at hx
      subst hx
      simpa using hd
/-- the first of them are there -/
def Up (hv : List (Int × Int)) (l : List Opn) (i : Nat) : Prop := ∀ j o, j < i → l[j]? = some o → hasV hv (dotO o) = true
theorem get_nn (hv : List (Int × Int)) (s : Int) : 0 ≤ getV hv s := by
  unfold getV
  split
  · exact (sy_good hv).lo _
  · omega
theorem Up.cnt {hv : List (Int × Int)} {l : List Opn} (hc : Cl l) : ∀ i, Up hv l i → i ≤ l.length → ∀ s, (cntS (l.take i) s : Int) ≤ getV hv s
  | 0, h, hi, s => by simpa [cntS] using get_nn hv s
  | i + 1, h, hi, s => by
    obtain ⟨o, ho⟩ : ∃ o, l[i]? = some o := ⟨_, List.getElem?_eq_getElem (by omega)⟩
    have ih := Up.cnt hc i (fun j x hj => h j x (by omega)) (by omega) s
    rw [take_snoc ho, cntS_snoc]
    by_cases e : o.ds = s
    · rw [if_pos e]
      have hh := h i o (by omega) ho
      have hq := hc.sq i o ho
      unfold hasV at hh
      rw [decide_eq_true_eq] at hh
      have hh2 : o.dq ≤ getV hv o.ds := hh.2
      rw [e] at hq hh2
      push_cast
      omega
    · rw [if_neg e]; simpa using ih
theorem Cl.can {hv : List (Int × Int)} {l : List Opn} (hc : Cl l) {i : Nat} {o : Opn} (hu : Up hv l i) (ho : l[i]? = some o) (hn : hasV hv (dotO o) = false) : canO hv o = true := by
  have hi := (List.getElem?_eq_some_iff.1 ho).1
  have hcn := hu.cnt hc i (by omega)
  have hq := hc.sq i o ho
  have hd := hc.dp i o ho
  unfold canO
  rw [Bool.and_eq_true, decide_eq_true_eq]
  refine ⟨?_, (cov_iff (sy_good _) (sy_good _)).2 fun t => ?_⟩
  · have h1 := hcn o.ds
    unfold hasV at hn
    rw [decide_eq_false_iff_not] at hn
    have hn2 : ¬ (1 ≤ o.dq ∧ o.dq ≤ getV hv o.ds) := hn
    omega
  · have h1 := hd t
    have h2 := hcn (t : Int)
    by_cases ht : 1 ≤ (t : Int) ∧ (t : Int) ≤ 16
    · have : getV hv (t : Int) = sy hv t := by unfold getV; rw [if_pos ht, Int.toNat_natCast]
      omega
    · have : getV hv (t : Int) = 0 := by unfold getV; rw [if_neg ht]
      have := (sy_good hv).lo t
      omega
theorem Cl.dd {l : List Opn} (hc : Cl l) {i j : Nat} {x y : Opn} (hx : l[i]? = some x) (hy : l[j]? = some y) (hij : i < j) : dotO x ≠ dotO y := fun e => by
  have e1 : x.ds = y.ds := congrArg Prod.fst e
  have e2 : x.dq = y.dq := congrArg Prod.snd e
  have h1 := hc.sq i x hx
  have h2 := hc.sq j y hy
  have h3 : cntS (l.take (i + 1)) x.ds ≤ cntS (l.take j) x.ds := by
    have : l.take (i + 1) = (l.take j).take (i + 1) := by rw [List.take_take, Nat.min_eq_left (by omega)]
    rw [this]
    exact cntS_take _ _ _
  rw [take_snoc hx, cntS_snoc, if_pos rfl] at h3
  rw [e1] at h1 h3
  omega
theorem Cl.uniq {l : List Opn} (hc : Cl l) {x y : Opn} (hx : x ∈ l) (hy : y ∈ l) (e : dotO x = dotO y) : x = y := by
  obtain ⟨i, hi⟩ := List.mem_iff_getElem?.1 hx
  obtain ⟨j, hj⟩ := List.mem_iff_getElem?.1 hy
  rcases Nat.lt_trichotomy i j with h | h | h
  · exact absurd e (hc.dd hi hj h)
  · subst h; rw [hi] at hj; exact Option.some.inj hj
  · exact absurd e.symm (hc.dd hj hi h)
theorem Cl.nodup {l : List Opn} (hc : Cl l) : (l.map dotO).Nodup := by
  rw [List.nodup_iff_pairwise_ne, List.pairwise_map, List.pairwise_iff_getElem]
  intro i j hi hj hij
  exact hc.dd (List.getElem?_eq_getElem hi) (List.getElem?_eq_getElem hj) hij
theorem Cl.top {l : List Opn} (hc : Cl l) {x : Opn} (hx : x ∈ l) : x.dq ≤ (cntS l x.ds : Int) := by
  obtain ⟨i, hi⟩ := List.mem_iff_getElem?.1 hx
  have h1 := hc.sq i x hi
  have h2 := cntS_take l (i + 1) x.ds
  rw [take_snoc hi, cntS_snoc, if_pos rfl] at h2
  omega

/-- what was ready stays ahead -/
theorem relF_rd (r : List Opn) : ∀ (f : Nat) (hv : List (Int × Int)) (ws rd : List Opn), relF f hv ws (r ++ rd) = ((relF f hv ws rd).1, (relF f hv ws rd).2.1, r ++ (relF f hv ws rd).2.2)
  | 0, hv, ws, rd => rfl
  | f + 1, hv, ws, rd => by
    unfold relF
    cases nxtI hv ws with
    | none => rfl
    | some i =>
      simp only
      cases ws[i]? with
      | none => rfl
      | some o => simp only; rw [List.append_assoc]; exact relF_rd r f _ _ _
theorem offA_rd (hold : Int) (hv : List (Int × Int)) (ws rd : List Opn) (o : Opn) : offA hold hv ws rd o = ((offA hold hv ws [] o).1, (offA hold hv ws [] o).2.1, (offA hold hv ws [] o).2.2.1, rd ++ (offA hold hv ws [] o).2.2.2) := by
  unfold offA
  split
  · simp
  · split
    · simp
    · split
      · rw [relF_rd rd]; simp
      · split <;> simp
theorem relF_mem : ∀ (f : Nat) (hv : List (Int × Int)) (ws rd : List Opn), ∀ x ∈ (relF f hv ws rd).2.2, x ∈ rd ∨ x ∈ ws
  | 0, hv, ws, rd, x, hx => .inl hx
  | f + 1, hv, ws, rd, x, hx => by
    unfold relF at hx
    cases hq : nxtI hv ws with
    | none => rw [hq] at hx; exact .inl hx
    | some i =>
      rw [hq] at hx
      simp only at hx
      cases hi : ws[i]? with
      | none => rw [hi] at hx; exact .inl hx
      | some o =>
        rw [hi] at hx
        rcases relF_mem f _ _ _ x hx with h | h
        · rcases List.mem_append.1 h with h | h
          · exact .inl h
          · simp at h; rw [h]; exact .inr (List.mem_of_getElem? hi)
        · exact .inr (cutI_mem h)
theorem offA_mem (hold : Int) (hv : List (Int × Int)) (ws : List Opn) (o : Opn) : ∀ x ∈ (offA hold hv ws [] o).2.2.2, x = o ∨ x ∈ ws := by
  unfold offA
  split
  · intro x hx; cases hx
  · split
    · intro x hx; cases hx
    · split
      · intro x hx
        rcases relF_mem _ _ _ _ x hx with h | h
        · simp at h; exact .inl h
        · exact .inr h
      · split
        · intro x hx; cases hx
        · intro x hx; cases hx
/-- how many are there behind deliveries -/
theorem Dlv.sum : ∀ {r : List Opn} {hv hv' : List (Int × Int)}, Dlv hv r hv' → Go.Proofs.YtkkolefionbbcaaGreat.sum (sy hv') = Go.Proofs.YtkkolefionbbcaaGreat.sum (sy hv) + (r.length : Int)
  | [], hv, hv', h => by
    have : hv = hv' := h
    subst this
    simp
  | o :: r, hv, hv', h => by
    obtain ⟨hc, hk, hd⟩ := h
    have ih := Dlv.sum hd
    obtain ⟨⟨h1, h2⟩, h3, h4⟩ := chkO_dot hk
    have hc' := hc
    unfold canO at hc'
    simp only [Bool.and_eq_true, decide_eq_true_eq] at hc'
    have hg : getV hv o.ds = sy hv o.ds.toNat := by unfold getV; rw [if_pos ⟨h1, h2⟩]
    have e : (addV hv (dotO o)).1 = vec (put1 (sy hv) o.ds.toNat o.dq) := by
      show (if ¬ (1 ≤ o.ds ∧ o.ds ≤ 16) ∨ o.dq < 1 then (([] : List (Int × Int)), (1 : Int)) else if 2147483647 < o.dq then ([], 17) else if o.dq - 1 ≠ sy hv o.ds.toNat then ([], 9) else (vec (put1 (sy hv) o.ds.toNat o.dq), 0)).1 = _
      rw [if_neg (by omega), if_neg (by omega), if_neg (by omega)]
    have hgd : Good (put1 (sy hv) o.ds.toNat o.dq) := (sy_good hv).put (by omega) (by omega) (by omega) (by omega)
    rw [e, sy_vec hgd] at ih
    have hs := sumN_put (s := sy hv) o.ds.toNat o.dq 17
    rw [if_pos (by omega)] at hs
    unfold Go.Proofs.YtkkolefionbbcaaGreat.sum at *
    rw [ih, hs, List.length_cons]
    push_cast
    omega
theorem Dlv.cap {l : List Opn} (hc : Cl l) : ∀ {r : List Opn} {hv hv' : List (Int × Int)}, Dlv hv r hv' → (∀ x ∈ r, x ∈ l) → (∀ s, getV hv s ≤ (cntS l s : Int)) → ∀ s, getV hv' s ≤ (cntS l s : Int)
  | [], hv, hv', h, hm, hg, s => by
    have : hv = hv' := h
    subst this
    exact hg s
  | o :: r, hv, hv', h, hm, hg, s => by
    obtain ⟨h1, h2, h3⟩ := h
    refine Dlv.cap hc h3 (fun x hx => hm x (List.mem_cons_of_mem _ hx)) (fun t => ?_) s
    rw [get_add h1 h2]
    by_cases e : t = o.ds
    · rw [if_pos e, e]; exact hc.top (hm o (List.mem_cons_self ..))
    · rw [if_neg e]; exact hg t

/-- a queue to which some of a closed set were offered -/
structure CI (l : List Opn) (hold : Int) (hv : List (Int × Int)) (ws rd : List Opn) : Prop where
  wt : Wt hv ws
  can : ∀ x ∈ ws, canO hv x = false
  len : (ws.length : Int) ≤ hold
  wl : ∀ x ∈ ws, x ∈ l
  rl : ∀ x ∈ rd, x ∈ l
  num : sum (sy hv) = (rd.length : Int)
  cap : ∀ s, getV hv s ≤ (cntS l s : Int)
theorem CI.start (l : List Opn) {hold : Int} (h : 0 ≤ hold) : CI l hold [] [] [] := by
  refine ⟨⟨DD.nil, fun o ho => (by cases ho), fun o ho => (by cases ho)⟩, fun o ho => (by cases ho), by simpa using h, fun o ho => (by cases ho), fun o ho => (by cases ho), by simp [sum, sumN, sy], fun s => ?_⟩
  have : getV [] s = 0 := by unfold getV; split <;> rfl
  omega
theorem CI.off {l : List Opn} {hold : Int} {hv : List (Int × Int)} {ws rd : List Opn} (hc : Cl l) (h : CI l hold hv ws rd) {o : Opn} (ho : o ∈ l) :
    ∃ r hv' ws' rd', offA hold hv ws rd o = ((r, 0), hv', ws', rd') ∧ CI l hold hv' ws' rd' ∧ (∀ d, hasV hv d = true → hasV hv' d = true) ∧ (∀ i, Up hv l i → l[i]? = some o → hasV hv' (dotO o) = true) := by
  have hs := offA_spec (hold := hold) o h.wt h.can h.len
  have hm := offA_mem hold hv ws o
  have hk := hc.ok o ho
  have he : (offA hold hv ws [] o).1.2 = 0 := by
    unfold offA
    rw [if_neg (by omega)]
    split
    · rfl
    · split
      · rfl
      · split <;> rfl
  rw [offA_rd]
  have htk : ∀ i, Up hv l i → l[i]? = some o → hasV (offA hold hv ws [] o).2.1 (dotO o) = true := by
    intro i hu hi
    by_cases hh : hasV hv (dotO o) = true
    · exact Dlv.keep _ hs.dl hh
    · have hh' : hasV hv (dotO o) = false := by simpa using hh
      have hcn := hc.can hu hi hh'
      refine hs.tk ?_
      have hkn : ¬ knwO hv ws (dotO o) = true := by
        unfold knwO
        rw [hh', Bool.false_or, List.any_eq_true]
        rintro ⟨x, hx, e⟩
        have e' : dotO x = dotO o := by simpa using e
        have := hc.uniq (h.wl x hx) ho e'
        subst this
        rw [h.can x hx] at hcn
        cases hcn
      unfold offA
      rw [if_neg (by omega), if_neg hkn, if_pos hcn]
  obtain ⟨⟨⟨r, e⟩, hv', ws', rd'⟩, hA⟩ : ∃ A, offA hold hv ws [] o = A := ⟨_, rfl⟩
  rw [hA] at hs hm he htk
  rw [hA]
  simp only at hs hm he htk
  subst he
  refine ⟨r, hv', ws', rd ++ rd', rfl, ⟨hs.wt, hs.can, hs.len, fun x hx => ?_, fun x hx => ?_, ?_, ?_⟩, fun d hd => Dlv.keep d hs.dl hd, htk⟩
  · rcases hs.sub x hx with h' | h'
    · exact h.wl x h'
    · rw [h']; exact ho
  · rcases List.mem_append.1 hx with h' | h'
    · exact h.rl x h'
    · rcases hm x h' with h' | h'
      · rw [h']; exact ho
      · exact h.wl x h'
  · rw [Dlv.sum hs.dl, h.num, List.length_append]; push_cast; rfl
  · refine Dlv.cap hc hs.dl (fun x hx => ?_) h.cap
    rcases hm x hx with h' | h'
    · rw [h']; exact ho
    · exact h.wl x h'
/-- when all are there -/
theorem CI.fin {l : List Opn} {hold : Int} {hv : List (Int × Int)} {ws rd : List Opn} (hc : Cl l) (h : CI l hold hv ws rd) (hu : Up hv l l.length) : ws = [] ∧ ∀ s, getV hv s = (cntS l s : Int) := by
  refine ⟨?_, fun s => ?_⟩
  · cases ws with
    | nil => rfl
    | cons x ws =>
      have hx := h.wl x (List.mem_cons_self ..)
      obtain ⟨i, hi⟩ := List.mem_iff_getElem?.1 hx
      have := hu i x (List.getElem?_eq_some_iff.1 hi).1 hi
      rw [h.wt.no x (List.mem_cons_self ..)] at this
      cases this
  · have h1 := hu.cnt hc l.length (Nat.le_refl _) s
    rw [List.take_length] at h1
    have h2 := h.cap s
    omega

theorem relF_has : ∀ (f : Nat) (hv : List (Int × Int)) (ws rd : List Opn), Wt hv ws → ∀ d, hasV hv d = true → hasV (relF f hv ws rd).1 d = true
  | 0, hv, ws, rd, h, d, hd => hd
  | f + 1, hv, ws, rd, h, d, hd => by
    cases hq : nxtI hv ws with
    | none =>
      have e : relF (f + 1) hv ws rd = (hv, ws, rd) := by unfold relF; rw [hq]
      rw [e]; exact hd
    | some i =>
      have hi : ∃ y, ws[i]? = some y ∧ canO hv y = true := by
        unfold nxtI at hq
        rw [List.findIdx?_eq_some_iff_getElem] at hq
        obtain ⟨h1, h2, _⟩ := hq
        exact ⟨_, List.getElem?_eq_getElem h1, h2⟩
      obtain ⟨y, hy, hcn⟩ := hi
      have e : relF (f + 1) hv ws rd = relF f (addV hv (dotO y)).1 (cutI ws i) (rd ++ [y]) := by
        conv => lhs; unfold relF
        rw [hq]
        simp only [hy]
      rw [e]
      exact relF_has f _ _ _ (h.cut hy hcn) d (has_keep hcn (h.ok y (List.mem_of_getElem? hy)) d hd)
/-- what waited is there or waits behind a release -/
theorem relF_known : ∀ (f : Nat) (hv : List (Int × Int)) (ws rd : List Opn), Wt hv ws → ∀ x ∈ ws, x ∈ (relF f hv ws rd).2.1 ∨ hasV (relF f hv ws rd).1 (dotO x) = true
  | 0, hv, ws, rd, h, x, hx => .inl hx
  | f + 1, hv, ws, rd, h, x, hx => by
    cases hq : nxtI hv ws with
    | none =>
      have e : relF (f + 1) hv ws rd = (hv, ws, rd) := by unfold relF; rw [hq]
      rw [e]; exact .inl hx
    | some i =>
      have hi : ∃ y, ws[i]? = some y ∧ canO hv y = true := by
        unfold nxtI at hq
        rw [List.findIdx?_eq_some_iff_getElem] at hq
        obtain ⟨h1, h2, _⟩ := hq
        exact ⟨_, List.getElem?_eq_getElem h1, h2⟩
      obtain ⟨y, hy, hcn⟩ := hi
      have hil := (List.getElem?_eq_some_iff.1 hy).1
      have e : relF (f + 1) hv ws rd = relF f (addV hv (dotO y)).1 (cutI ws i) (rd ++ [y]) := by
        conv => lhs; unfold relF
        rw [hq]
        simp only [hy]
      rw [e]
      have hw := h.cut hy hcn
      have hx2 := hx
      rw [cutI_split ws i y hy] at hx2
      have hin : x = y ∨ x ∈ cutI ws i := by
        rcases List.mem_append.1 hx2 with h1 | h1
        · exact .inr (List.mem_append.2 (.inl h1))
        · rcases List.mem_cons.1 h1 with h1 | h1
          · exact .inl h1
          · exact .inr (List.mem_append.2 (.inr h1))
      rcases hin with h1 | h1
      · subst h1
        right
        have hlc := cutI_len ws i hil
        exact relF_has f _ _ _ hw _ (has_self hcn (h.ok x hx))
      · exact relF_known f _ _ _ hw x h1
theorem nodup_len : ∀ {a b : List (Int × Int)}, a.Nodup → a ⊆ b → a.length ≤ b.length
  | [], b, _, _ => Nat.zero_le _
  | x :: a, b, hn, hs => by
    obtain ⟨h1, h2⟩ := List.nodup_cons.1 hn
    have hx : x ∈ b := hs (List.mem_cons_self ..)
    have hsub : a ⊆ b.erase x := fun y hy => by
      have hne : y ≠ x := fun e => h1 (e ▸ hy)
      exact (List.mem_erase_of_ne hne).2 (hs (List.mem_cons_of_mem _ hy))
    have := nodup_len h2 hsub
    rw [List.length_erase_of_mem hx] at this
    have := List.length_pos_of_mem hx
    rw [List.length_cons]
    omega
theorem knw_iff (hv : List (Int × Int)) (ws : List Opn) (d : Int × Int) : knwO hv ws d = true ↔ hasV hv d = true ∨ ∃ x ∈ ws, dotO x = d := by
  unfold knwO
  rw [Bool.or_eq_true, List.any_eq_true]
  simp only [decide_eq_true_eq]
/-- with room for all nothing is forgotten -/
theorem CI.offK {l : List Opn} {hold : Int} {hv : List (Int × Int)} {ws rd : List Opn} (hc : Cl l) (h : CI l hold hv ws rd) {o : Opn} (ho : o ∈ l) (hh : (l.length : Int) ≤ hold) (d : Int × Int) (hd : knwO hv ws d = true ∨ d = dotO o) :
    knwO (offA hold hv ws rd o).2.1 (offA hold hv ws rd o).2.2.1 d = true := by
  have hk := hc.ok o ho
  unfold offA
  rw [if_neg (by omega)]
  by_cases hkn : knwO hv ws (dotO o) = true
  · rw [if_pos hkn]
    rcases hd with hd | hd
    · exact hd
    · rw [hd]; exact hkn
  rw [if_neg hkn]
  have hk' : knwO hv ws (dotO o) = false := by simpa using hkn
  have hk3 : ∀ x ∈ ws, dotO x ≠ dotO o := fun x hx e => hkn ((knw_iff _ _ _).2 (.inr ⟨x, hx, e⟩))
  by_cases hcn : canO hv o = true
  · rw [if_pos hcn]
    have hw : Wt (addV hv (dotO o)).1 ws := ⟨h.wt.dd, h.wt.ok, fun x hx => has_add hcn hk (h.wt.ok x hx) (hk3 x hx) (h.wt.no x hx)⟩
    rw [knw_iff]
    rcases hd with hd | hd
    · rcases (knw_iff _ _ _).1 hd with hd | ⟨x, hx, e⟩
      · exact .inl (relF_has _ _ _ _ hw _ (has_keep hcn hk d hd))
      · rcases relF_known ws.length _ ws (rd ++ [o]) hw x hx with h1 | h1
        · exact .inr ⟨x, h1, e⟩
        · rw [e] at h1; exact .inl h1
    · rw [hd]; exact .inl (relF_has _ _ _ _ hw _ (has_self hcn hk))
  rw [if_neg hcn]
  have hlt : (ws.length : Int) < hold := by
    have hnd : ((ws ++ [o]).map dotO).Nodup := h.wt.dd.push hk'
    have hsub : (ws ++ [o]).map dotO ⊆ l.map dotO := by
      intro y hy
      obtain ⟨x, hx, e⟩ := List.mem_map.1 hy
      refine List.mem_map.2 ⟨x, ?_, e⟩
      rcases List.mem_append.1 hx with hx | hx
      · exact h.wl x hx
      · simp at hx; rw [hx]; exact ho
    have := nodup_len hnd hsub
    simp at this
    omega
  rw [if_pos hlt, knw_iff]
  rcases hd with hd | hd
  · rcases (knw_iff _ _ _).1 hd with hd | ⟨x, hx, e⟩
    · exact .inl hd
    · exact .inr ⟨x, List.mem_append.2 (.inl hx), e⟩
  · exact .inr ⟨o, by simp, hd.symm⟩
theorem CI.all {l : List Opn} {hold : Int} {hv : List (Int × Int)} {ws rd : List Opn} (hc : Cl l) (h : CI l hold hv ws rd) (hk : ∀ o ∈ l, knwO hv ws (dotO o) = true) : ∀ i, i ≤ l.length → Up hv l i
  | 0, _ => fun j o hj => by omega
  | i + 1, hi => fun j o hj ho => by
    have ih := CI.all hc h hk i (by omega)
    by_cases hji : j < i
    · exact ih j o hji ho
    · have : j = i := by omega
      subst this
      have hm := List.mem_of_getElem? ho
      rcases (knw_iff _ _ _).1 (hk o hm) with h1 | ⟨x, hx, e⟩
      · exact h1
      · have hxo := hc.uniq (h.wl x hx) hm e
        subst hxo
        have hno := h.wt.no x hx
        have := hc.can ih ho hno
        rw [h.can x hx] at this
        cases this
/-- round k, of which i are offered -/
structure Rnd (l m : List Opn) (hold : Int) (k i : Nat) (hv : List (Int × Int)) (ws rd : List Opn) : Prop where
  ci : CI l hold hv ws rd
  up : Up hv l (min k l.length)
  nx : ∀ o, l[k]? = some o → o ∈ m.take i → hasV hv (dotO o) = true
  kn : (l.length : Int) ≤ hold → ∀ o ∈ m.take i, knwO hv ws (dotO o) = true
theorem Rnd.start (l m : List Opn) {hold : Int} (h : 0 ≤ hold) : Rnd l m hold 0 0 [] [] [] := ⟨CI.start l h, fun j o hj => by omega, fun o _ h => by simp at h, fun _ o h => by simp at h⟩
theorem Rnd.off {l m : List Opn} {hold : Int} {k i : Nat} {hv : List (Int × Int)} {ws rd : List Opn} (hc : Cl l) (h : Rnd l m hold k i hv ws rd) {o : Opn} (hm : m[i]? = some o) (ho : o ∈ l) :
    ∃ r hv' ws' rd', offA hold hv ws rd o = ((r, 0), hv', ws', rd') ∧ Rnd l m hold k (i + 1) hv' ws' rd' := by
  obtain ⟨r, hv', ws', rd', e, hci, hks, htk⟩ := h.ci.off hc ho
  have hK := fun hh => h.ci.offK hc ho hh
  rw [e] at hK
  refine ⟨r, hv', ws', rd', e, hci, fun j x hj hx => hks _ (h.up j x hj hx), fun x hx hxm => ?_, fun hh x hxm => ?_⟩
  · rw [take_snoc hm] at hxm
    rcases List.mem_append.1 hxm with h1 | h1
    · exact hks _ (h.nx x hx h1)
    · simp at h1
      subst h1
      have hkl := (List.getElem?_eq_some_iff.1 hx).1
      refine htk k ?_ hx
      have := h.up
      rw [Nat.min_eq_left (by omega)] at this
      exact this
  · rw [take_snoc hm] at hxm
    rcases List.mem_append.1 hxm with h1 | h1
    · exact hK hh _ (.inl (h.kn hh x h1))
    · simp at h1
      subst h1
      exact hK hh _ (.inr rfl)
theorem Rnd.next {l m : List Opn} {hold : Int} {k : Nat} {hv : List (Int × Int)} {ws rd : List Opn} (hc : Cl l) (hp : ∀ o ∈ l, o ∈ m) (h : Rnd l m hold k m.length hv ws rd) : Rnd l m hold (k + 1) 0 hv ws rd := by
  refine ⟨h.ci, fun j x hj hx => ?_, fun o _ h => (by simp at h), fun _ o h => (by simp at h)⟩
  by_cases hj2 : j < min k l.length
  · exact h.up j x hj2 hx
  · have : j = k := by omega
    subst this
    refine h.nx x hx ?_
    rw [List.take_length]
    exact hp x (List.mem_of_getElem? hx)
/-- behind the last round -/
theorem Rnd.fin {l m : List Opn} {hold : Int} {k : Nat} {hv : List (Int × Int)} {ws rd : List Opn} (hc : Cl l) (hk : l.length ≤ k) (h : Rnd l m hold k 0 hv ws rd) : ws = [] ∧ Up hv l l.length := by
  have hu := h.up
  rw [Nat.min_eq_right hk] at hu
  exact ⟨(h.ci.fin hc hu).1, hu⟩
theorem Rnd.fin1 {l m : List Opn} {hold : Int} {k : Nat} {hv : List (Int × Int)} {ws rd : List Opn} (hc : Cl l) (hp : ∀ o ∈ l, o ∈ m) (hh : (l.length : Int) ≤ hold) (h : Rnd l m hold k m.length hv ws rd) : ws = [] ∧ Up hv l l.length := by
  have hk := h.kn hh
  rw [List.take_length] at hk
  have hu := h.ci.all hc (fun o ho => hk o (hp o ho)) l.length (Nat.le_refl _)
  exact ⟨(h.ci.fin hc hu).1, hu⟩
/-- so many are ready then -/
theorem cnt_sum : ∀ {l : List Opn}, (∀ o ∈ l, 1 ≤ o.ds ∧ o.ds ≤ 16) → sumN (fun t => (cntS l (t : Int) : Int)) 17 = (l.length : Int) := by
  intro l
  induction l with
  | nil => intro _; simp [sumN, cntS]
  | cons o l ih =>
    intro h
    have ih' := ih fun x hx => h x (List.mem_cons_of_mem _ hx)
    have ho := h o (List.mem_cons_self ..)
    have e : (fun t : Nat => (cntS (o :: l) (t : Int) : Int)) = put1 (fun t : Nat => (cntS l (t : Int) : Int)) o.ds.toNat ((cntS l o.ds : Int) + 1) := by
      funext t
      unfold put1
      by_cases ht : t = o.ds.toNat
      · rw [if_pos ht]
        have : (t : Int) = o.ds := by omega
        unfold cntS
        rw [this, List.countP_cons]
        simp
      · rw [if_neg ht]
        have : ¬ o.ds = (t : Int) := by omega
        unfold cntS
        rw [List.countP_cons]
        simp [this]
    rw [e, sumN_put, if_pos (by omega), ih', List.length_cons]
    have : ((o.ds.toNat : Nat) : Int) = o.ds := by omega
    rw [this]
    push_cast
    omega
theorem CI.count {l : List Opn} {hold : Int} {hv : List (Int × Int)} {ws rd : List Opn} (hc : Cl l) (h : CI l hold hv ws rd) (hu : Up hv l l.length) : rd.length = l.length ∧ sum (sy hv) = (l.length : Int) := by
  have hg := (h.fin hc hu).2
  have hn := h.num
  have hds : ∀ o ∈ l, 1 ≤ o.ds ∧ o.ds ≤ 16 := fun o ho => (chkO_dot (hc.ok o ho)).1
  have e : sy hv = fun t : Nat => (cntS l (t : Int) : Int) := by
    funext t
    by_cases ht : 1 ≤ (t : Int) ∧ (t : Int) ≤ 16
    · have := hg (t : Int)
      unfold getV at this
      rw [if_pos ht, Int.toNat_natCast] at this
      exact this
    · have h1 : sy hv t = 0 := by
        by_cases h0 : t = 0
        · subst h0; exact (sy_good hv).zero
        · exact (sy_good hv).over t (by omega)
      have h2 : cntS l (t : Int) = 0 := by
        unfold cntS
        rw [List.countP_eq_zero]
        intro o ho
        have := hds o ho
        simp
        omega
      rw [h1, h2]; rfl
  have hs : sum (sy hv) = (l.length : Int) := by unfold sum; rw [e]; exact cnt_sum hds
  exact ⟨by omega, hs⟩

end Go.Proofs.YtkkolefionbbcaaGreat

/-
  How a closed set is made. Pure.
-/
set_option linter.unusedSimpArgs false
set_option linter.unusedVariables false
namespace Go.Proofs.YtkkolefionbbcaaGreat

theorem chk_jn {s q : Int} {l : List (Int × Int)} (h1 : 1 ≤ s) (h2 : s ≤ 16) (h3 : 1 ≤ q) (h4 : q ≤ 2147483647) (hc : chk l = 0) (hg : getV l s = q - 1) : chkO (jnO s q l) = 0 := by
  have e1 : kindO (jnO s q l) = true := rfl
  have e2 : aloneO (jnO s q l) = true := rfl
  have e3 : holdO (jnO s q l) = true := rfl
  have e4 : folO s q l = true := by
    unfold folO isT
    simp only [Bool.and_eq_true, decide_eq_true_eq]
    omega
  unfold chkO okO
  rw [if_pos]
  rw [e1, e2, e3]
  show (true && folO s q l && true && true) = true
  rw [e4]; rfl
theorem chk_fol {o : Opn} (h : chkO o = 0) : chk o.deps = 0 ∧ getV o.deps o.ds = o.dq - 1 := by
  unfold chkO at h
  have h1 : okO o = true := by
    by_cases e : okO o = true
    · exact e
    · rw [if_neg e] at h; cases h
  unfold okO at h1
  simp only [Bool.and_eq_true] at h1
  have := h1.1.1.2
  unfold folO isT at this
  simp only [Bool.and_eq_true, decide_eq_true_eq] at this
  exact ⟨this.1.2, this.2⟩
/-- a vector of what is among these -/
structure HV (l : List Opn) (v : List (Int × Int)) : Prop where
  vc : v = vec (sy v)
  le : ∀ t : Nat, sy v t ≤ (cntS l (t : Int) : Int)
theorem HV.nil (l : List Opn) : HV l [] := ⟨rfl, fun t => by show (0 : Int) ≤ _; omega⟩
theorem HV.chk {l : List Opn} {v : List (Int × Int)} (h : HV l v) : chk v = 0 := by rw [h.vc]; exact chk_vec (sy_good v)
theorem HV.len {l : List Opn} {v : List (Int × Int)} (h : HV l v) : v.length ≤ 17 := by rw [h.vc]; exact vec_len _
theorem HV.of {l : List Opn} {s : Nat → Int} (hg : Good s) (h : ∀ t : Nat, s t ≤ (cntS l (t : Int) : Int)) : HV l (vec s) := ⟨by rw [sy_vec hg], fun t => by rw [sy_vec hg]; exact h t⟩
theorem HV.mrg {l : List Opn} {v u : List (Int × Int)} (h : HV l v) (k : HV l u) : HV l (vec (mrg (sy v) (sy u))) :=
  HV.of ((sy_good v).mrg (sy_good u)) fun t => by
    have h1 := h.le t
    have h2 := k.le t
    show max (sy v t) (sy u t) ≤ _
    omega
theorem HV.snoc {l : List Opn} {v : List (Int × Int)} (h : HV l v) (o : Opn) : HV (l ++ [o]) v := ⟨h.vc, fun t => by
  have := h.le t
  rw [cntS_snoc]
  push_cast
  split <;> omega⟩
theorem mrg_self (v : List (Int × Int)) (h : v = vec (sy v)) : vec (mrg (sy v) (sy [])) = v := by
  have : mrg (sy v) (sy []) = sy v := by
    funext t
    show max (sy v t) 0 = sy v t
    have := (sy_good v).lo t
    omega
  rw [this, ← h]
theorem add_next {v : List (Int × Int)} {s q : Int} (h1 : 1 ≤ s) (h2 : s ≤ 16) (h3 : 1 ≤ q) (h4 : q ≤ 2147483647) (hg : getV v s = q - 1) : addV v (s, q) = (vec (put1 (sy v) s.toNat q), 0) ∧ Good (put1 (sy v) s.toNat q) := by
  have e : getV v s = sy v s.toNat := by unfold getV; rw [if_pos ⟨h1, h2⟩]
  refine ⟨?_, (sy_good v).put (by omega) (by omega) (by omega) (by omega)⟩
  show (if ¬ (1 ≤ s ∧ s ≤ 16) ∨ q < 1 then (([] : List (Int × Int)), (1 : Int)) else if 2147483647 < q then ([], 17) else if q - 1 ≠ sy v s.toNat then ([], 9) else (vec (put1 (sy v) s.toNat q), 0)) = _
  rw [if_neg (by omega), if_neg (by omega), if_neg (by omega)]
/-- what an operation knew, with it -/
theorem HV.add {l : List Opn} (hc : Cl l) {o : Opn} (ho : o ∈ l) (h : HV l o.deps) : HV l (addV o.deps (o.ds, o.dq)).1 := by
  have hk := hc.ok o ho
  obtain ⟨⟨h1, h2⟩, h3, h4⟩ := chkO_dot hk
  obtain ⟨e, hg⟩ := add_next h1 h2 h3 h4 (chk_fol hk).2
  rw [e]
  refine HV.of hg fun t => ?_
  unfold put1
  by_cases ht : t = o.ds.toNat
  · rw [if_pos ht]
    have := hc.top ho
    have e2 : (t : Int) = o.ds := by omega
    rw [e2]; exact this
  · rw [if_neg ht]; exact h.le t
/-- what each site has -/
structure HF (l : List Opn) (f : Nat → List (Int × Int)) : Prop where
  v : ∀ s, HV l (f s)
  at_ : ∀ s : Nat, 1 ≤ s → s ≤ 5 → sy (f s) s = (cntS l (s : Int) : Int)
  cl : Cl l
  dv : ∀ o ∈ l, HV l o.deps
  kd : ∀ o ∈ l, o.kind = 3
theorem HF.nil : HF [] fun _ => [] := ⟨fun _ => HV.nil _, fun s _ _ => rfl, Cl.nil, fun o ho => (by cases ho), fun o ho => (by cases ho)⟩
theorem cntS_len (l : List Opn) (s : Int) : cntS l s ≤ l.length := List.countP_le_length
def putF {α : Type} (f : Nat → α) (s : Nat) (x : α) : Nat → α := fun j => if j = s then x else f j
theorem HF.snoc {l : List Opn} {f : Nat → List (Int × Int)} (h : HF l f) {s : Nat} {v : List (Int × Int)} {q : Int} (h1 : 1 ≤ s) (h2 : s ≤ 5) (hl : l.length ≤ 40) (hv : HV l v) (hq : q = getV (f s) (s : Int) + 1) (hg : getV v (s : Int) = q - 1) : HF (l ++ [jnO s q v]) (putF f s (addV v (s, q)).1) ∧ 1 ≤ q ∧ q ≤ 41 := by
  have ef : getV (f s) (s : Int) = (cntS l (s : Int) : Int) := by
    unfold getV
    rw [if_pos ⟨by omega, by omega⟩, Int.toNat_natCast]
    exact h.at_ s h1 h2
  have hcl := cntS_len l (s : Int)
  have q1 : 1 ≤ q := by omega
  have q2 : q ≤ 41 := by omega
  obtain ⟨e, hgd⟩ := add_next (v := v) (s := (s : Int)) (q := q) (by omega) (by omega) q1 (by omega) hg
  have hck : chkO (jnO s q v) = 0 := chk_jn (by omega) (by omega) q1 (by omega) hv.chk hg
  have hds : (jnO s q v).ds = (s : Int) := rfl
  refine ⟨⟨fun t => ?_, fun t ht1 ht2 => ?_, ?_, ?_, ?_⟩, q1, q2⟩
  · unfold putF
    by_cases ht : t = s
    · rw [if_pos ht, e]
      refine HV.of hgd fun j => ?_
      rw [cntS_snoc, hds, Int.toNat_natCast]
      unfold put1
      by_cases hj : j = s
      · rw [if_pos hj, if_pos (by omega), hj]; push_cast; omega
      · rw [if_neg hj, if_neg (by omega)]; simpa using hv.le j
    · rw [if_neg ht]; exact (h.v t).snoc _
  · unfold putF
    rw [cntS_snoc, hds]
    by_cases ht : t = s
    · subst ht
      rw [if_pos rfl, e, if_pos rfl]
      show sy (vec (put1 (sy v) (t : Int).toNat q)) t = _
      rw [sy_vec hgd, Int.toNat_natCast, put1_self]
      push_cast
      omega
    · rw [if_neg ht, if_neg (by omega)]
      simpa using h.at_ t ht1 ht2
  · exact h.cl.snoc hck (by show q = (cntS l (s : Int) : Int) + 1; omega) hv.le
  · intro o ho
    rcases List.mem_append.1 ho with ho | ho
    · exact (h.dv o ho).snoc _
    · simp at ho; rw [ho]; exact hv.snoc _
  · intro o ho
    rcases List.mem_append.1 ho with ho | ho
    · exact h.kd o ho
    · simp at ho; rw [ho]; rfl

end Go.Proofs.YtkkolefionbbcaaGreat

/-
  A closed set in memory while it is made.
-/
set_option linter.unusedSimpArgs false
set_option linter.unusedVariables false
namespace Go.Proofs.YtkkolefionbbcaaGreat
open Go.RowKit Go.Lib

def nC (l : List Int) : List Value := l.map fun x => Value.int .i64 x
/-- a row of numbers -/
def RN (W : World) (v : Value) (l : List Int) : Prop := RC W v l.length (nC l)
theorem RN.below {W W' : World} {v : Value} {l : List Int} (h : RN W v l) (hb : Below W.heap.size W W') : RN W' v l := RC.below h hb
theorem RN.at {W : World} {a : Option Addr} {n c : Nat} {l : List Int} (h : RN W (.slice a n c) l) {i : Nat} {x : Int} (hi : l[i]? = some x) : ∃ b off, a = some ⟨b, off, none⟩ ∧ b < W.heap.size ∧ W.cell? ⟨b, off + i, none⟩ = some (.int .i64 x) := by
  have hl := (List.getElem?_eq_some_iff.1 hi).1
  rcases h with ⟨h0, _⟩ | ⟨b, off, cap, e, h1, h2, hc⟩
  · omega
  · simp at e
    obtain ⟨rfl, _⟩ := e
    exact ⟨b, off, rfl, h2, hc i _ (by simp [nC, hi])⟩
/-- seventeen lists -/
def arrV (f : Nat → Value × List (Int × Int)) : Array Value := ((List.range 17).map fun i => (f i).1).toArray
theorem arrV_get (f : Nat → Value × List (Int × Int)) (i : Nat) (h : i < 17) : (arrV f)[i]? = some (f i).1 := by simp [arrV, h]
theorem arrV_set (f : Nat → Value × List (Int × Int)) (i : Nat) (x : Value × List (Int × Int)) (h : i < 17) : (arrV f).setIfInBounds i x.1 = arrV (putF f i x) := by
  apply Array.ext
  · simp [arrV]
  · intro j h1 h2
    simp [arrV] at h2
    simp only [Array.getElem_setIfInBounds, arrV, putF]
    by_cases hj : j = i
    · subst hj; simp
    · simp [hj, Ne.symm hj]
structure CM (w W : World) (b : Nat) (lv : Value) (ops : List (Opn × Value × Value)) (f : Nat → Value × List (Int × Int)) : Prop where
  bel : Below w.heap.size w W
  row : W.ownsRow w.heap.size 42 11 lv ops.length (flat encO ops)
  ent : ∀ e ∈ ops, OE (fun i => w.heap.size ≤ i) W e
  box : Bx W b 92 (arrV f)
  ge : w.heap.size ≤ b
  has : ∀ s, OwD W w.heap.size (f s).1 (f s).2
theorem owd_below {W W' : World} {B : Nat} {v : Value} {l : List (Int × Int)} (h : OwD W B v l) (hb : Below W.heap.size W W') : OwD W' B v l := owns_kp (N := fun _ => False) h (Kp.of_below hb) (fun _ _ e => e)
theorem CM.below {w W W' : World} {b : Nat} {lv : Value} {ops : List (Opn × Value × Value)} {f : Nat → Value × List (Int × Int)} (h : CM w W b lv ops f) (hb : Below W.heap.size W W') : CM w W' b lv ops f :=
  ⟨bnext h.bel hb, owns_kp (N := fun _ => False) h.row (Kp.of_below hb) (fun _ _ e => e), fun e he => (h.ent e he).below hb, h.box.below hb, h.ge, fun s => owd_below (h.has s) hb⟩
theorem CM.push {w Y : World} {b : Nat} {lv : Value} {ops : List (Opn × Value × Value)} {f : Nat → Value × List (Int × Int)} (h : CM w Y b lv ops f) {e : Opn × Value × Value} {nb : Nat} (he : OE (fun i => w.heap.size ≤ i) Y e) (hb : Bx Y nb 42 (encO e).toArray) (hl : ops.length ≤ 1000000) :
    ∃ v' Z, (Builtin.append_ #[47, 47] 47 #[lv, .slice (some ⟨nb, 0, none⟩) 1 1]).run Tryz.prog Y = .ok v' Z ∧ CM w Z b v' (ops ++ [e]) f ∧ Kp (fun k => lv.ownBlock = some k) Y Z ∧ ∀ N v l, OwD Y N v l → OwD Z N v l := by
  obtain ⟨v', Z, hr, hown, hgr, hat⟩ := append_op Y 47 w.heap.size lv ops e nb h.row hb he.one h.bel.size hl
  have kk := Kp.of_grown (N := fun k => lv.ownBlock = some k) hgr (fun k hk => hk)
  have hD : ∀ N v l, OwD Y N v l → OwD Z N v l := fun N v l q => owns_kp q kk (fun i hi e2 => own_ne_own q h.row (by decide) i hi e2)
  have tO : ∀ {e}, OE (fun i => w.heap.size ≤ i) Y e → OE (fun i => w.heap.size ≤ i) Z e := fun {e} q =>
    ⟨owns_kp q.d kk (fun i hi e2 => own_ne_own q.d h.row (by decide) i hi e2), owns_kp q.g kk (fun i hi e2 => own_ne_own q.g h.row (by decide) i hi e2), q.pd, q.pg, q.s1, q.s2, q.s3, q.inn⟩
  refine ⟨v', Z, hr, ⟨(kk.wk (M := fun i => w.heap.size ≤ i) (fun i e => (h.row.lt i e).1)).below h.bel (fun i e => e), hown, fun x hx => ?_, h.box.kp kk (own_ne_box h.row h.box (by decide)), h.ge, fun s => hD _ _ _ (h.has s)⟩, kk, hD⟩
  rcases List.mem_append.1 hx with hx | hx
  · exact tO (h.ent x hx)
  · simp only [List.mem_singleton] at hx
    subst hx
    exact tO he
theorem CM.put {w Z : World} {b : Nat} {lv : Value} {ops : List (Opn × Value × Value)} {f : Nat → Value × List (Int × Int)} (h : CM w Z b lv ops f) {s : Nat} (hs : s < 17) {v : Value} {u : List (Int × Int)} (ho : OwD Z w.heap.size v u) : CM w (Z.setCell ⟨b, s, none⟩ v) b lv ops (putF f s (v, u)) := by
  have ks := Kp.set (N := fun i => i = b) Z ⟨b, s, none⟩ v rfl
  have hD : ∀ {v l}, OwD Z w.heap.size v l → OwD (Z.setCell ⟨b, s, none⟩ v) w.heap.size v l := fun {v l} q => owns_kp q (Kp.set (N := fun i => i = b) Z ⟨b, s, none⟩ v rfl) (fun i hi e => own_ne_box q h.box (by decide) (by rw [hi, e]))
  have hD2 : ∀ {x l}, OwD Z w.heap.size x l → OwD (Z.setCell ⟨b, s, none⟩ v) w.heap.size x l := fun {x l} q => owns_kp q ks (fun i hi e => own_ne_box q h.box (by decide) (by rw [hi, e]))
  refine ⟨bset h.bel _ h.ge v, owns_kp h.row ks (fun i hi e => own_ne_box h.row h.box (by decide) (by rw [hi, e])), fun e he => ?_, ?_, h.ge, fun t => ?_⟩
  · have q := h.ent e he
    exact ⟨owns_kp q.d ks (fun i hi e => own_ne_box q.d h.box (by decide) (by rw [hi, e])), owns_kp q.g ks (fun i hi e => own_ne_box q.g h.box (by decide) (by rw [hi, e])), q.pd, q.pg, q.s1, q.s2, q.s3, q.inn⟩
  · have := h.box.set s v
    rwa [show (arrV f).setIfInBounds s v = arrV (putF f s (v, u)) from arrV_set f s (v, u) hs] at this
  · unfold putF
    by_cases e : t = s
    · rw [if_pos e]; exact hD ho
    · rw [if_neg e]; exact hD2 (h.has t)

end Go.Proofs.YtkkolefionbbcaaGreat
