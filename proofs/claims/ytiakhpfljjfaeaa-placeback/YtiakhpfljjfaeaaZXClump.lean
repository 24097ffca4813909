/-
  Plain facts: the clumps of a text, one by one.
-/
import Derived.Test.YtiakhpfljjfaeaaZBrk

set_option linter.unusedSimpArgs false
set_option linter.unusedVariables false
namespace Go.Proofs.Ytiakhpfljjfaeaa
open Go.RowKit Go.Lib

theorem bq_cons2 (C : Nat → Int) (i j : Nat) (l : List Nat) : bq C (i :: j :: l) = if bk (l.map C) (C j) (C i) then i :: bq C (j :: l) else bq C (j :: l) := by
  conv => lhs; unfold bq
theorem bq_snoc (C : Nat → Int) (pre : List Nat) (m : Nat) : ∃ ex, (bq C (pre ++ [m]).reverse).reverse = (bq C pre.reverse).reverse ++ ex := by
  rw [List.reverse_append, List.reverse_singleton, List.singleton_append]
  rcases h : pre.reverse with _ | ⟨j, l⟩
  · exact ⟨[m], rfl⟩
  · rw [bq_cons2]
    split
    · exact ⟨[m], by simp⟩
    · exact ⟨[], by simp⟩
theorem bq_ext (C : Nat → Int) : ∀ (more pre : List Nat), ∃ ex, (bq C (pre ++ more).reverse).reverse = (bq C pre.reverse).reverse ++ ex
  | [], pre => ⟨[], by simp⟩
  | m :: more, pre => by
    obtain ⟨e1, h1⟩ := bq_snoc C pre m
    obtain ⟨e2, h2⟩ := bq_ext C more (pre ++ [m])
    refine ⟨e1 ++ e2, ?_⟩
    rw [show pre ++ m :: more = pre ++ [m] ++ more by simp, h2, h1, List.append_assoc]

theorem pairs_cons (b i : Nat) (l : List Nat) : pairs (b :: i :: l) = (b, i) :: pairs (i :: l) := rfl
theorem pairs_append : ∀ (l : List Nat) (b i : Nat) (ex : List Nat), pairs (l ++ b :: i :: ex) = pairs (l ++ [b]) ++ (b, i) :: pairs (i :: ex)
  | [], b, i, ex => rfl
  | [a], b, i, ex => rfl
  | a :: a2 :: l, b, i, ex => by
    have ih := pairs_append (a2 :: l) b i ex
    show pairs (a :: a2 :: (l ++ b :: i :: ex)) = pairs (a :: a2 :: (l ++ [b])) ++ _
    rw [pairs_cons, pairs_cons]
    simp only [List.cons_append] at ih
    rw [ih]; rfl

/-- where the clump that is under way began; the last piece's place; its class -/
def bgQ (s : ByteArray) (Q : List Nat) : Nat := (bq (C s) Q).head?.getD 0
def lsQ (Q : List Nat) : Nat := Q.head?.getD 0
def lcQ (s : ByteArray) (Q : List Nat) : Int := (Q.head?.map (C s)).getD 0
/-- the clumps that have come -/
def cmQ (s : ByteArray) (Q : List Nat) : List (Nat × Nat) := pairs (bq (C s) Q).reverse

theorem cm_next {s : ByteArray} {pre rest l : List Nat} {i j : Nat} (h : pre ++ i :: rest = allL s) (hq : pre.reverse = j :: l) (hb : bk (l.map (C s)) (C s j) (C s i) = true) :
    (∃ more, cmQ s pre.reverse ++ (bgQ s pre.reverse, i) :: more = cpL s) ∧ cmQ s (pre ++ [i]).reverse = cmQ s pre.reverse ++ [(bgQ s pre.reverse, i)] ∧ bgQ s (pre ++ [i]).reverse = i := by
  obtain ⟨b, r, hbr⟩ := bq_ne (C s) j l
  have hn : (bq (C s) (pre ++ [i]).reverse).reverse = (bq (C s) pre.reverse).reverse ++ [i] := by
    rw [List.reverse_append, List.reverse_singleton, List.singleton_append, hq]
    conv => lhs; unfold bq
    rw [if_pos hb]; simp
  have hX : (bq (C s) pre.reverse).reverse = r.reverse ++ [b] := by rw [hq, hbr]; simp
  have hbg : bgQ s pre.reverse = b := by unfold bgQ; rw [hq, hbr]; rfl
  obtain ⟨ex, hex⟩ := bq_ext (C s) rest (pre ++ [i])
  rw [show pre ++ [i] ++ rest = allL s by rw [← h]; simp, hn, hX] at hex
  have hsz : ¬ s.size = 0 := fun e => by
    have := (mem_allL.1 (show i ∈ allL s by rw [← h]; simp)).1
    omega
  refine ⟨⟨pairs (i :: (ex ++ [s.size])), ?_⟩, ?_, ?_⟩
  · unfold cmQ cpL brL
    rw [if_neg hsz, hex, hX, hbg]
    rw [show r.reverse ++ [b] ++ [i] ++ ex ++ [s.size] = r.reverse ++ b :: i :: (ex ++ [s.size]) by simp, pairs_append]
  · unfold cmQ
    rw [hn, hX, hbg, show r.reverse ++ [b] ++ [i] = r.reverse ++ b :: i :: [] by simp, pairs_append]
    rfl
  · unfold bgQ
    have : bq (C s) (pre ++ [i]).reverse = i :: (bq (C s) pre.reverse) := by
      have := congrArg List.reverse hn
      simpa using this
    rw [this]; rfl

theorem cm_stay {s : ByteArray} {pre l : List Nat} {i j : Nat} (hq : pre.reverse = j :: l) (hb : bk (l.map (C s)) (C s j) (C s i) = false) :
    cmQ s (pre ++ [i]).reverse = cmQ s pre.reverse ∧ bgQ s (pre ++ [i]).reverse = bgQ s pre.reverse := by
  have hn : bq (C s) (pre ++ [i]).reverse = bq (C s) pre.reverse := by
    rw [List.reverse_append, List.reverse_singleton, List.singleton_append, hq]
    conv => lhs; unfold bq
    rw [if_neg (by rw [hb]; decide)]
  unfold cmQ bgQ
  rw [hn]
  exact ⟨rfl, rfl⟩

theorem ls_snoc (pre : List Nat) (i : Nat) : lsQ (pre ++ [i]).reverse = i := by simp [lsQ]
theorem lc_snoc (s : ByteArray) (pre : List Nat) (i : Nat) : lcQ s (pre ++ [i]).reverse = C s i := by simp [lcQ]

/-- the last clump -/
theorem cm_last {s : ByteArray} (h : 0 < s.size) : cmQ s (allL s).reverse ++ [(bgQ s (allL s).reverse, s.size)] = cpL s ∧ bgQ s (allL s).reverse < s.size := by
  obtain ⟨r0, hr0⟩ := allL_zero s (by omega)
  obtain ⟨j, l, hq⟩ : ∃ j l, (allL s).reverse = j :: l := by
    rcases hh : (allL s).reverse with _ | ⟨j, l⟩
    · have := congrArg List.length hh; simp [hr0] at this
    · exact ⟨j, l, rfl⟩
  obtain ⟨b, r, hbr⟩ := bq_ne (C s) j l
  have hX : (bq (C s) (allL s).reverse).reverse = r.reverse ++ [b] := by rw [hq, hbr]; simp
  have hbg : bgQ s (allL s).reverse = b := by unfold bgQ; rw [hq, hbr]; rfl
  refine ⟨?_, ?_⟩
  · unfold cmQ cpL brL
    rw [if_neg (by omega), hX, hbg, show r.reverse ++ [b] ++ [s.size] = r.reverse ++ b :: s.size :: [] by simp, pairs_append]
    rfl
  · rw [hbg]
    have : b ∈ (allL s).reverse := bq_sub (C s) _ _ (by rw [hq, hbr]; simp)
    exact (mem_allL.1 (List.mem_reverse.1 this)).1
theorem cp_empty {s : ByteArray} (h : s.size = 0) : cpL s = [] ∧ allL s = [] := by
  refine ⟨?_, ?_⟩
  · unfold cpL brL; rw [if_pos h]; rfl
  · rw [allL_frm, frm_end s 0 (by omega)]

/-- what is looked back over from the last break on -/
theorem cm_seg {s : ByteArray} {pre rest l : List Nat} {i j : Nat} (h : pre ++ i :: rest = allL s) (hq : pre.reverse = j :: l) :
    bgQ s pre.reverse ≤ j ∧ j < i ∧ i < s.size ∧ Sync s j ∧ ∀ c, bk (rc (s.extract (bgQ s pre.reverse) j)) (C s j) c = bk (l.map (C s)) (C s j) c := by
  obtain ⟨b, r, hbr⟩ := bq_ne (C s) j l
  have hbg : bgQ s pre.reverse = b := by unfold bgQ; rw [hq, hbr]; rfl
  obtain ⟨l1, l2, hl, hla, hjn, hev⟩ := bk_seg (C s) l j b r hbr
  have hpre : pre = l2.reverse ++ l1.reverse ++ [j] := by
    have := congrArg List.reverse hq
    rw [List.reverse_reverse] at this
    rw [this, hl]; simp
  have hall : frm s 0 = (l2.reverse ++ l1.reverse) ++ j :: i :: rest := by rw [← allL_frm, ← h, hpre]; simp
  obtain ⟨hjs, hfj, hfr⟩ := frm_split s _ 0 j (i :: rest) hall
  have hji : j + wd s j = i ∧ i < s.size := by
    by_cases hlt : j + wd s j < s.size
    · rw [frm_step s _ hlt] at hfr
      simp at hfr
      exact ⟨hfr.1.symm, by omega⟩
    · rw [frm_end s _ hlt] at hfr; cases hfr
  have hw := wd_pos s j hjs
  have hsy : Sync s j := (mem_allL.1 (show j ∈ allL s by rw [allL_frm, hall]; simp)).2
  have hfb : frm s b = l1.reverse ++ frm s j := by
    rcases List.eq_nil_or_concat l1 with rfl | ⟨l1', b', rfl⟩
    · simp at hla
      rw [hla]; rfl
    · rw [List.concat_eq_append] at hla hall ⊢
      have : b' = b := by
        rw [← List.cons_append, List.getLast?_append] at hla
        simpa using hla
      subst this
      rw [List.reverse_append] at hall ⊢
      simp only [List.reverse_singleton, List.singleton_append, List.append_assoc, List.cons_append] at hall ⊢
      have := (frm_split s _ 0 b' _ hall).2.1
      rw [← this, hfj]
  have hbj : b ≤ j := by
    have hm : j ∈ frm s b := by rw [hfb, ← hfj]; simp
    exact (frm_ge s _ b (Nat.le_refl _) j hm).1
  rw [hbg]
  refine ⟨hbj, by omega, hji.2, hsy, fun c => ?_⟩
  rw [rc_seg (L := l1.reverse) hsy (by omega) hbj hfb, List.map_reverse, List.reverse_reverse]
  exact bk_same (fun e => (hjn (.inl e)).symm) (fun e => (hev e).symm) c

theorem first_zero {s : ByteArray} {i : Nat} {rest : List Nat} (h : [] ++ i :: rest = allL s) : i = 0 ∧ 0 < s.size := by
  have hi := (mem_allL.1 (show i ∈ allL s by rw [← h]; simp)).1
  obtain ⟨r, hr⟩ := allL_zero s (by omega)
  rw [hr] at h
  simp at h
  omega

end Go.Proofs.Ytiakhpfljjfaeaa

/-
  Plain facts: a part of a text that begins at a break has the breaks that lie in it.
-/
set_option linter.unusedSimpArgs false
set_option linter.unusedVariables false
namespace Go.Proofs.Ytiakhpfljjfaeaa
open Go.RowKit Go.Lib

/-- nothing looks back across a break: cx is the class of what stands at it, y of what stands ahead -/
theorem trunc (y : Int) (R2 : List Int) : ∀ (R1 : List Int) (cj cx : Int), (cj :: R1).getLast? = some cx → bk R2 y cx = true →
    ((cj = 4 ∨ cj = 5) → jnR (R1 ++ y :: R2) = jnR R1) ∧ (cj = 6 → evR (R1 ++ y :: R2) = evR R1)
  | [], cj, cx, hl, hb => by
    simp at hl
    subst hl
    refine ⟨fun hm => ?_, fun h6 => ?_⟩
    · have hh := bk_mark hm hb
      simp [hardC] at hh
      show jnR (y :: R2) = jnR []
      unfold jnR
      rw [if_neg (by omega), beq_eq_false_iff_ne]
      omega
    · rw [h6] at hb
      show (if y = 6 then !evR R2 else true) = true
      split
      · rename_i h7
        rw [h7] at hb
        rw [bk_flag hb]; rfl
      · rfl
  | c :: R1, cj, cx, hl, hb => by
    rw [List.getLast?_cons_cons] at hl
    obtain ⟨h1, h2⟩ := trunc y R2 R1 c cx hl hb
    refine ⟨fun _ => ?_, fun _ => ?_⟩
    · show jnR (c :: (R1 ++ y :: R2)) = jnR (c :: R1)
      rw [jnR, jnR]
      split
      · rename_i h5; exact h1 (.inr h5)
      · rfl
    · show evR (c :: (R1 ++ y :: R2)) = evR (c :: R1)
      rw [evR, evR]
      split
      · rename_i h6; rw [h2 h6]
      · rfl

theorem bk_trunc {y : Int} {R2 R1 : List Int} {cj cx : Int} (hl : (cj :: R1).getLast? = some cx) (hb : bk R2 y cx = true) (b : Int) : bk (R1 ++ y :: R2) cj b = bk R1 cj b :=
  bk_same (fun e => (trunc y R2 R1 cj cx hl hb).1 (.inl e)) (fun e => (trunc y R2 R1 cj cx hl hb).2 e) b

theorem C_ext {s : ByteArray} {b e i : Nat} (hs : Sync s e) (he : e ≤ s.size) (hi : i ∈ allL (s.extract b e)) : C (s.extract b e) i = C s (b + i) := by
  unfold C; rw [rn_ext hs he hi]

theorem sync_size (s : ByteArray) : Sync s s.size := fun j hj ho => (wd_le s j hj).1
theorem brL_sync {s : ByteArray} {x : Nat} (h : x ∈ brL s) : Sync s x := by
  rcases brL_places h with rfl | rfl | h
  · exact sync_zero s
  · exact sync_size s
  · exact (mem_allL.1 h).2

/-- the cut of a text at a place of it -/
theorem allL_at {s : ByteArray} {x : Nat} (hx : x < s.size) (h : Sync s x) : ∃ A, allL s = A ++ frm s x ∧ frm s x = x :: frm s (x + wd s x) := by
  obtain ⟨A, r, hA⟩ := List.append_of_mem (mem_allL.2 ⟨hx, h⟩)
  have := (frm_split s A 0 x r (by rw [← allL_frm]; exact hA)).2.1
  exact ⟨A, by rw [← this]; exact hA, frm_step s x hx⟩

/-- WITHIN A PART THAT BEGINS AT A BREAK THE BREAKS ARE THOSE OF THE TEXT. -/
theorem br_part {s : ByteArray} {x e i : Nat} (hx : x ∈ brL s) (hes : Sync s e) (he : e ≤ s.size) (hxi : x < i) (hie : i < e) (hi : Sync s i) : (i - x ∈ brL (s.extract x e) ↔ i ∈ brL s) := by
  obtain ⟨A, hA, hfx⟩ := allL_at (show x < s.size by omega) (brL_sync hx)
  have hext := allL_ext hes he (show x ≤ e by omega)
  have hz := size_ext s x e he
  have hit : i - x ∈ allL (s.extract x e) := sync_down he (by omega) (by rw [show x + (i - x) = i by omega]; exact hi)
  obtain ⟨T1, T2, hT⟩ := List.append_of_mem hit
  rcases List.eq_nil_or_concat T1 with rfl | ⟨T0, jt, rfl⟩
  · obtain ⟨r, hr⟩ := allL_zero (s.extract x e) (by omega)
    rw [hr] at hT
    simp at hT
    omega
  · rw [List.concat_eq_append, List.append_assoc] at hT
    simp only [List.singleton_append] at hT
    have hjt : jt ∈ allL (s.extract x e) := by rw [hT]; simp
    have hall : allL s = (A ++ T0.map (x + ·)) ++ (x + jt) :: i :: (T2.map (x + ·) ++ frm s e) := by
      rw [hA, hext, hT]
      simp [show x + (i - x) = i by omega]
    have m1 := mem_brL hT
    have m2 := mem_brL hall
    rw [m1, m2]
    have hCi : C (s.extract x e) (i - x) = C s i := by rw [C_ext hes he hit, show x + (i - x) = i by omega]
    have hCj : C (s.extract x e) jt = C s (x + jt) := C_ext hes he hjt
    have hT0 : T0.map (C (s.extract x e)) = (T0.map (x + ·)).map (C s) := by
      rw [List.map_map]
      exact List.map_congr_left (fun q hq => C_ext hes he (by rw [hT]; simp [hq]))
    rw [hCi, hCj, hT0, List.map_append, List.reverse_append]
    rcases List.eq_nil_or_concat A with rfl | ⟨A', y, rfl⟩
    · simp
    · rw [List.concat_eq_append] at hA ⊢
      have hbx : bk (A'.map (C s)).reverse (C s y) (C s x) = true := (mem_brL (s := s) (pre := A') (j := y) (i := x) (rest := frm s (x + wd s x)) (by rw [hA, hfx]; simp)).1 hx
      have hfirst : ((C s (x + jt)) :: ((T0.map (x + ·)).map (C s)).reverse).getLast? = some (C s x) := by
        have h0 : (T0 ++ [jt])[0]? = some 0 := by
          obtain ⟨r, hr⟩ := allL_zero (s.extract x e) (by omega)
          have := congrArg (fun l => l[0]?) hT
          rw [hr] at this
          cases T0 with
          | nil => simpa using this.symm
          | cons q T0 => simpa using this.symm
        have : (C s (x + jt)) :: ((T0.map (x + ·)).map (C s)).reverse = (((T0 ++ [jt]).map (x + ·)).map (C s)).reverse := by simp
        rw [this, List.getLast?_reverse, List.head?_eq_getElem?, List.getElem?_map, List.getElem?_map, h0]
        simp
      rw [List.map_append, List.reverse_append]
      show _ ↔ bk (((T0.map (x + ·)).map (C s)).reverse ++ (C s y :: (A'.map (C s)).reverse)) _ _ = true
      rw [bk_trunc hfirst hbx]

end Go.Proofs.Ytiakhpfljjfaeaa

/-
  Plain facts: what no clump has.
-/
set_option linter.unusedSimpArgs false
set_option linter.unusedVariables false
namespace Go.Proofs.Ytiakhpfljjfaeaa
open Go.RowKit Go.Lib

/-- classes without a break between them -/
def CL (X : List Int) : Prop := ∀ (pre : List Int) (x y : Int) (rest : List Int), X = pre ++ x :: y :: rest → bk pre.reverse x y = false

theorem bk_flag2 {R : List Int} {a : Int} (h : bk R a 6 = false) : a = 6 ∧ evR R = true := by
  unfold bk at h
  by_cases h1 : hardC a = true
  · unfold hardC at h1 h; simp at h1; simp [h1] at h
  · by_cases h6 : a = 6
    · subst h6
      simp [hardC, hang] at h
      exact ⟨rfl, h⟩
    · simp [hang, h6, show hardC 6 = false from rfl, h1] at h
theorem bk_pic {R : List Int} {a : Int} (h : bk R a 12 = false) : a = 4 := by
  unfold bk at h
  by_cases h1 : hardC a = true
  · unfold hardC at h1 h; simp at h1; simp [h1] at h
  · by_cases h6 : a = 4
    · exact h6
    · simp [hang, h6, show hardC 12 = false from rfl, h1] at h
theorem bk_hard {R : List Int} {a b : Int} (h : bk R a b = false) (hh : hardC a = true ∨ hardC b = true) : a = 1 ∧ b = 2 := by
  unfold bk at h
  by_cases e : a = 1 ∧ b = 2
  · exact e
  · have : (a == 1 && b == 2) = false := by
      rw [Bool.eq_false_iff]
      intro e2
      simp at e2
      exact e e2
    rw [this] at h
    rcases hh with hh | hh <;> simp [hh] at h

theorem cl_flag {X : List Int} (h : CL X) {pre rest : List Int} (e : X = pre ++ 6 :: rest) : pre.length ≤ 1 := by
  rcases List.eq_nil_or_concat pre with rfl | ⟨p, y, rfl⟩
  · simp
  · rw [List.concat_eq_append] at e ⊢
    obtain ⟨rfl, hev⟩ := bk_flag2 (h p y 6 rest (by rw [e]; simp))
    rcases List.eq_nil_or_concat p with rfl | ⟨q, z, rfl⟩
    · simp
    · rw [List.concat_eq_append] at e hev
      obtain ⟨rfl, hev2⟩ := bk_flag2 (h q z 6 (6 :: rest) (by rw [e]; simp))
      rw [List.reverse_append] at hev
      simp [evR, hev2] at hev

/-- the counts of the law -/
def nF (l : List Int) : Nat := l.countP (fun c => c == 6)
def nH (l : List Int) : Nat := l.countP hardC
def stP (l : List Int) : Int × Nat := l.foldl (fun (p : Int × Nat) c => (c, if c = 12 ∧ p.1 ≠ 4 then p.2 + 1 else p.2)) (0, 0)

theorem nF_snoc (l : List Int) (c : Int) : nF (l ++ [c]) = nF l + if c = 6 then 1 else 0 := by
  unfold nF; rw [List.countP_append]; simp [List.countP_cons]
theorem nH_snoc (l : List Int) (c : Int) : nH (l ++ [c]) = nH l + if hardC c then 1 else 0 := by
  unfold nH; rw [List.countP_append]; simp [List.countP_cons]
theorem stP_snoc (l : List Int) (c : Int) : stP (l ++ [c]) = (c, if c = 12 ∧ (stP l).1 ≠ 4 then (stP l).2 + 1 else (stP l).2) := by
  unfold stP; rw [List.foldl_append]; rfl

theorem cl_nF {X : List Int} (h : CL X) : nF X ≤ 2 := by
  match X, h with
  | [], _ => decide
  | [a], _ => unfold nF; rw [List.countP_cons]; simp; split <;> omega
  | a :: b :: rest, h =>
    have hr : rest.countP (fun c => c == 6) = 0 := by
      rw [List.countP_eq_zero]
      intro c hc
      simp only [beq_iff_eq]
      intro e
      subst e
      obtain ⟨p, q, e2⟩ := List.append_of_mem hc
      have := cl_flag h (pre := a :: b :: p) (rest := q) (by rw [e2]; rfl)
      simp at this
    unfold nF
    rw [List.countP_cons, List.countP_cons, hr]
    split <;> split <;> omega

theorem cl_nP_rest {X : List Int} (h : CL X) : ∀ (rest pre : List Int) (x : Int) (n : Nat), X = pre ++ x :: rest → (rest.foldl (fun (p : Int × Nat) c => (c, if c = 12 ∧ p.1 ≠ 4 then p.2 + 1 else p.2)) (x, n)).2 = n
  | [], pre, x, n, _ => rfl
  | y :: rest, pre, x, n, e => by
    have hb := h pre x y rest e
    have hn : (if y = 12 ∧ x ≠ 4 then n + 1 else n) = n := by
      rw [if_neg]
      rintro ⟨rfl, h4⟩
      exact h4 (bk_pic hb)
    rw [List.foldl_cons]
    show (rest.foldl _ (y, if y = 12 ∧ x ≠ 4 then n + 1 else n)).2 = n
    rw [hn]
    exact cl_nP_rest h rest (pre ++ [x]) y n (by rw [e]; simp)
theorem cl_nP {X : List Int} (h : CL X) : (stP X).2 ≤ 1 := by
  match X, h with
  | [], _ => decide
  | x :: rest, h =>
    unfold stP
    rw [List.foldl_cons]
    have := cl_nP_rest h rest [] x (if x = 12 ∧ (0 : Int) ≠ 4 then 0 + 1 else 0) rfl
    show (rest.foldl _ (x, if x = 12 ∧ (0 : Int) ≠ 4 then 0 + 1 else 0)).2 ≤ 1
    rw [this]
    split <;> omega

theorem cl_hard {X : List Int} (h : CL X) (hh : 0 < nH X) (hl : 1 < X.length) : X = [1, 2] := by
  unfold nH at hh
  rw [List.countP_pos_iff] at hh
  obtain ⟨c, hc, hcc⟩ := hh
  have two : ∀ (x y : Int) (pre rest : List Int), X = pre ++ x :: y :: rest → x = 1 → y = 2 → X = [1, 2] := by
    intro x y pre rest e hx hy
    subst hx hy
    rcases List.eq_nil_or_concat pre with rfl | ⟨p, z, rfl⟩
    · cases rest with
      | nil => exact e
      | cons z rest =>
        have := bk_hard (h [1] 2 z rest (by rw [e]; rfl)) (.inl rfl)
        omega
    · rw [List.concat_eq_append] at e
      have := bk_hard (h p z 1 (2 :: rest) (by rw [e]; simp)) (.inr rfl)
      omega
  obtain ⟨p, q, e⟩ := List.append_of_mem hc
  cases q with
  | cons y q =>
    obtain ⟨h1, h2⟩ := bk_hard (h p c y q e) (.inl hcc)
    exact two c y p q e h1 h2
  | nil =>
    rcases List.eq_nil_or_concat p with rfl | ⟨p', z, rfl⟩
    · rw [e] at hl; simp at hl
    · rw [List.concat_eq_append] at e
      have e2 : X = p' ++ z :: c :: [] := by rw [e]; simp
      obtain ⟨h1, h2⟩ := bk_hard (h p' z c [] e2) (.inr hcc)
      exact two z c p' [] e2 h1 h2

/-- a clump's classes -/
theorem clump_CL {s : ByteArray} {a b : Nat} (ha : a ∈ brL s) (hb : b ∈ brL s) (hab : a < b) (hno : ∀ q ∈ brL s, q ≤ a ∨ b ≤ q) : CL ((allL (s.extract a b)).map (C (s.extract a b))) := by
  intro pre x y rest e
  have hbs := brL_le hb
  have hz := size_ext s a b hbs
  obtain ⟨P, Q, e1, e2, e3⟩ := List.map_eq_append_iff.1 e
  obtain ⟨j, Q1, rfl, hx, e4⟩ := List.map_eq_cons_iff.1 e3
  obtain ⟨i, Q2, rfl, hy, e5⟩ := List.map_eq_cons_iff.1 e4
  have hm := mem_brL e1
  have hi := mem_allL.1 (show i ∈ allL (s.extract a b) by rw [e1]; simp)
  have hso := allL_sorted (s.extract a b)
  rw [e1] at hso
  have hji : j < i := (List.pairwise_cons.1 (List.pairwise_append.1 hso).2.1).1 i (by simp)
  have hsi : Sync s (a + i) := fun q hq ho => by
    by_cases hqa : q < a
    · have := brL_sync ha q hqa ho; omega
    · have hqb : q + wd s q ≤ b := brL_sync hb q (by omega) ho
      have hd := dec_down s a b (q - a) hbs (by omega) (by rw [show a + (q - a) = q by omega]; exact ho) (by rw [show a + (q - a) = q by omega]; exact hqb)
      rw [show a + (q - a) = q by omega] at hd
      have := hi.2 (q - a) (by omega) (by rw [ok_same hd]; exact ho)
      rw [wd_same hd] at this
      omega
  have hp := br_part ha (brL_sync hb) hbs (show a < a + i by omega) (by omega) hsi
  rw [show a + i - a = i by omega] at hp
  cases hbk : bk pre.reverse x y with
  | false => rfl
  | true =>
    rw [← e2, ← hx, ← hy] at hbk
    have h1 := hp.1 (hm.2 hbk)
    have := hno _ h1
    omega

theorem cls_one {r : Int} (h : cls r = 1) : r = 13 := by
  unfold cls at h
  repeat' split at h
  all_goals first | assumption | omega
theorem cls_two {r : Int} (h : cls r = 2) : r = 10 := by
  unfold cls at h
  repeat' split at h
  all_goals first | assumption | omega

theorem small_rune {t : ByteArray} {k : Nat} (hk : k < t.size) (h : rn t k < 128) : by_ t k = rn t k ∧ wd t k = 1 := by
  cases ho : okR t k with
  | false => have := (ok_false_iff ho).1; omega
  | true =>
    rcases ok_cases t k hk ho with ⟨_, hr, hw⟩ | ⟨hc, _, _, hr, _⟩ | ⟨hc, _, hg, _, hr, _⟩ | ⟨hc, _, hg, _, _, hr, _⟩
    · exact ⟨hr.symm, hw⟩
    · have := hW2_range hc; omega
    · have hb := hW3_range hc
      have hg' := g1_range (by omega) hg
      by_cases e : by_ t k = 224
      · have := hg'.2.2.1 e; omega
      · omega
    · have hb := hW4_range hc
      have hg' := g1_range (by omega) hg
      by_cases e : by_ t k = 240
      · have := hg'.2.2.2.2.1 e; omega
      · omega

theorem crlf {t : ByteArray} (h : (allL t).map (C t) = [1, 2]) : t.toList = [13, 10] := by
  obtain ⟨i, l, e1, h1, h2⟩ := List.map_eq_cons_iff.1 h
  obtain ⟨j, l2, e2, h3, h4⟩ := List.map_eq_cons_iff.1 h2
  have e3 : l2 = [] := by simpa using h4
  subst e3 e2
  have r1 := cls_one (show cls (rn t i : Nat) = 1 from h1)
  have r2 := cls_two (show cls (rn t j : Nat) = 2 from h3)
  have hi := (mem_allL.1 (show i ∈ allL t by rw [e1]; simp)).1
  have hj := (mem_allL.1 (show j ∈ allL t by rw [e1]; simp)).1
  have hf1 := frm_split t [] 0 i [j] (by rw [← allL_frm]; exact e1)
  have hf2 := frm_split t [i] 0 j [] (by rw [← allL_frm]; exact e1)
  obtain ⟨b1, w1⟩ := small_rune hi (by omega)
  obtain ⟨b2, w2⟩ := small_rune hj (by omega)
  have hi0 : i = 0 := by
    obtain ⟨r, hr⟩ := allL_zero t (by omega)
    rw [hr] at e1; simp at e1; exact e1.1.symm
  subst hi0
  have hj1 : j = 1 := by
    have := hf1.2.2
    rw [w1] at this
    by_cases h : 0 + 1 < t.size
    · rw [frm_step t _ h] at this; simp at this; omega
    · rw [frm_end t _ h] at this; cases this
  subst hj1
  have hsz : t.size = 2 := by
    have := hf2.2.2
    rw [w2] at this
    by_cases h : 1 + 1 < t.size
    · rw [frm_step t _ h] at this; cases this
    · omega
  have hn1 : by_ t 0 = 13 := by omega
  have hn2 : by_ t 1 = 10 := by omega
  rw [ByteArray.toList_eq]
  apply List.ext_getElem
  · simp [hsz]
  · intro k hk1 hk2
    simp at hk1
    have hb := by_get t k (by omega)
    rcases (by omega : k = 0 ∨ k = 1) with rfl | rfl
    · rw [hn1] at hb
      simp
      exact UInt8.toNat_inj.1 hb
    · rw [hn2] at hb
      simp
      exact UInt8.toNat_inj.1 hb

end Go.Proofs.Ytiakhpfljjfaeaa
