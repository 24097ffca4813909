/-
  Plain facts: the clumps of a text, one by one.
-/
import Derived.Test.YtcagfapdhopmjaaBrk
set_option linter.unusedSimpArgs false
set_option linter.unusedVariables false
namespace Go.Proofs.Ytcagfapdhopmjaa
open Go.RowKit Go.Lib

theorem bq_cons2 (C : Nat → Int) (i j : Nat) (l : List Nat) : bq C (i :: j :: l) = if bk (l.map C) (C j) (C i) then i :: bq C (j :: l) else bq C (j :: l) := by
  conv => lhs; unfold bq
theorem bq_snoc (C : Nat → Int) (pre : List Nat) (m : Nat) : ∃ ex, (bq C (pre ++ [m]).reverse).reverse = (bq C pre.reverse).reverse ++ ex := by
  rw [List.reverse_append, List.reverse_singleton, List.singleton_append]
  rcases h : pre.reverse with _ | ⟨j, l⟩
  · exact ⟨[m], rfl⟩
  · rw [bq_cons2]
    split
    · exact ⟨[m], by simp⟩
    · exact ⟨[], by simp⟩
theorem bq_ext (C : Nat → Int) : ∀ (more pre : List Nat), ∃ ex, (bq C (pre ++ more).reverse).reverse = (bq C pre.reverse).reverse ++ ex
  | [], pre => ⟨[], by simp⟩
  | m :: more, pre => by
    obtain ⟨e1, h1⟩ := bq_snoc C pre m
    obtain ⟨e2, h2⟩ := bq_ext C more (pre ++ [m])
    refine ⟨e1 ++ e2, ?_⟩
    rw [show pre ++ m :: more = pre ++ [m] ++ more by simp, h2, h1, List.append_assoc]

theorem pairs_cons (b i : Nat) (l : List Nat) : pairs (b :: i :: l) = (b, i) :: pairs (i :: l) := rfl
theorem pairs_append : ∀ (l : List Nat) (b i : Nat) (ex : List Nat), pairs (l ++ b :: i :: ex) = pairs (l ++ [b]) ++ (b, i) :: pairs (i :: ex)
  | [], b, i, ex => rfl
  | [a], b, i, ex => rfl
  | a :: a2 :: l, b, i, ex => by
    have ih := pairs_append (a2 :: l) b i ex
    show pairs (a :: a2 :: (l ++ b :: i :: ex)) = pairs (a :: a2 :: (l ++ [b])) ++ _
    rw [pairs_cons, pairs_cons]
    simp only [List.cons_append] at ih
    rw [ih]; rfl

/-- where the clump that is under way began; the last piece's place; its class -/
def bgQ (s : ByteArray) (Q : List Nat) : Nat := (bq (C s) Q).head?.getD 0
def lsQ (Q : List Nat) : Nat := Q.head?.getD 0
def lcQ (s : ByteArray) (Q : List Nat) : Int := (Q.head?.map (C s)).getD 0
/-- the clumps that have come -/
def cmQ (s : ByteArray) (Q : List Nat) : List (Nat × Nat) := pairs (bq (C s) Q).reverse

theorem cm_next {s : ByteArray} {pre rest l : List Nat} {i j : Nat} (h : pre ++ i :: rest = allL s) (hq : pre.reverse = j :: l) (hb : bk (l.map (C s)) (C s j) (C s i) = true) :
    (∃ more, cmQ s pre.reverse ++ (bgQ s pre.reverse, i) :: more = cpL s) ∧ cmQ s (pre ++ [i]).reverse = cmQ s pre.reverse ++ [(bgQ s pre.reverse, i)] ∧ bgQ s (pre ++ [i]).reverse = i := by
  obtain ⟨b, r, hbr⟩ := bq_ne (C s) j l
  have hn : (bq (C s) (pre ++ [i]).reverse).reverse = (bq (C s) pre.reverse).reverse ++ [i] := by
    rw [List.reverse_append, List.reverse_singleton, List.singleton_append, hq]
    conv => lhs; unfold bq
    rw [if_pos hb]; simp
  have hX : (bq (C s) pre.reverse).reverse = r.reverse ++ [b] := by rw [hq, hbr]; simp
  have hbg : bgQ s pre.reverse = b := by unfold bgQ; rw [hq, hbr]; rfl
  obtain ⟨ex, hex⟩ := bq_ext (C s) rest (pre ++ [i])
  rw [show pre ++ [i] ++ rest = allL s by rw [← h]; simp, hn, hX] at hex
  have hsz : ¬ s.size = 0 := fun e => by
    have := (mem_allL.1 (show i ∈ allL s by rw [← h]; simp)).1
    omega
  refine ⟨⟨pairs (i :: (ex ++ [s.size])), ?_⟩, ?_, ?_⟩
  · unfold cmQ cpL brL
    rw [if_neg hsz, hex, hX, hbg]
    rw [show r.reverse ++ [b] ++ [i] ++ ex ++ [s.size] = r.reverse ++ b :: i :: (ex ++ [s.size]) by simp, pairs_append]
  · unfold cmQ
    rw [hn, hX, hbg, show r.reverse ++ [b] ++ [i] = r.reverse ++ b :: i :: [] by simp, pairs_append]
    rfl
  · unfold bgQ
    have : bq (C s) (pre ++ [i]).reverse = i :: (bq (C s) pre.reverse) := by
      have := congrArg List.reverse hn
      simpa using this
    rw [this]; rfl

theorem cm_stay {s : ByteArray} {pre l : List Nat} {i j : Nat} (hq : pre.reverse = j :: l) (hb : bk (l.map (C s)) (C s j) (C s i) = false) :
    cmQ s (pre ++ [i]).reverse = cmQ s pre.reverse ∧ bgQ s (pre ++ [i]).reverse = bgQ s pre.reverse := by
  have hn : bq (C s) (pre ++ [i]).reverse = bq (C s) pre.reverse := by
    rw [List.reverse_append, List.reverse_singleton, List.singleton_append, hq]
    conv => lhs; unfold bq
    rw [if_neg (by rw [hb]; decide)]
  unfold cmQ bgQ
  rw [hn]
  exact ⟨rfl, rfl⟩

theorem ls_snoc (pre : List Nat) (i : Nat) : lsQ (pre ++ [i]).reverse = i := by simp [lsQ]
theorem lc_snoc (s : ByteArray) (pre : List Nat) (i : Nat) : lcQ s (pre ++ [i]).reverse = C s i := by simp [lcQ]

/-- the last clump -/
theorem cm_last {s : ByteArray} (h : 0 < s.size) : cmQ s (allL s).reverse ++ [(bgQ s (allL s).reverse, s.size)] = cpL s ∧ bgQ s (allL s).reverse < s.size := by
  obtain ⟨r0, hr0⟩ := allL_zero s (by omega)
  obtain ⟨j, l, hq⟩ : ∃ j l, (allL s).reverse = j :: l := by
    rcases hh : (allL s).reverse with _ | ⟨j, l⟩
    · have := congrArg List.length hh; simp [hr0] at this
    · exact ⟨j, l, rfl⟩
  obtain ⟨b, r, hbr⟩ := bq_ne (C s) j l
  have hX : (bq (C s) (allL s).reverse).reverse = r.reverse ++ [b] := by rw [hq, hbr]; simp
  have hbg : bgQ s (allL s).reverse = b := by unfold bgQ; rw [hq, hbr]; rfl
  refine ⟨?_, ?_⟩
  · unfold cmQ cpL brL
    rw [if_neg (by omega), hX, hbg, show r.reverse ++ [b] ++ [s.size] = r.reverse ++ b :: s.size :: [] by simp, pairs_append]
    rfl
  · rw [hbg]
    have : b ∈ (allL s).reverse := bq_sub (C s) _ _ (by rw [hq, hbr]; simp)
    exact (mem_allL.1 (List.mem_reverse.1 this)).1
theorem cp_empty {s : ByteArray} (h : s.size = 0) : cpL s = [] ∧ allL s = [] := by
  refine ⟨?_, ?_⟩
  · unfold cpL brL; rw [if_pos h]; rfl
  · rw [allL_frm, frm_end s 0 (by omega)]

/-- what is looked back over from the last break on -/
theorem cm_seg {s : ByteArray} {pre rest l : List Nat} {i j : Nat} (h : pre ++ i :: rest = allL s) (hq : pre.reverse = j :: l) :
    bgQ s pre.reverse ≤ j ∧ j < i ∧ i < s.size ∧ Sync s j ∧ ∀ c, bk (rc (s.extract (bgQ s pre.reverse) j)) (C s j) c = bk (l.map (C s)) (C s j) c := by
  obtain ⟨b, r, hbr⟩ := bq_ne (C s) j l
  have hbg : bgQ s pre.reverse = b := by unfold bgQ; rw [hq, hbr]; rfl
  obtain ⟨l1, l2, hl, hla, hjn, hev⟩ := bk_seg (C s) l j b r hbr
  have hpre : pre = l2.reverse ++ l1.reverse ++ [j] := by
    have := congrArg List.reverse hq
    rw [List.reverse_reverse] at this
    rw [this, hl]; simp
  have hall : frm s 0 = (l2.reverse ++ l1.reverse) ++ j :: i :: rest := by rw [← allL_frm, ← h, hpre]; simp
  obtain ⟨hjs, hfj, hfr⟩ := frm_split s _ 0 j (i :: rest) hall
  have hji : j + wd s j = i ∧ i < s.size := by
    by_cases hlt : j + wd s j < s.size
    · rw [frm_step s _ hlt] at hfr
      simp at hfr
      exact ⟨hfr.1.symm, by omega⟩
    · rw [frm_end s _ hlt] at hfr; cases hfr
  have hw := wd_pos s j hjs
  have hsy : Sync s j := (mem_allL.1 (show j ∈ allL s by rw [allL_frm, hall]; simp)).2
  have hfb : frm s b = l1.reverse ++ frm s j := by
    rcases List.eq_nil_or_concat l1 with rfl | ⟨l1', b', rfl⟩
    · simp at hla
      rw [hla]; rfl
    · rw [List.concat_eq_append] at hla hall ⊢
      have : b' = b := by
        rw [← List.cons_append, List.getLast?_append] at hla
        simpa using hla
      subst this
      rw [List.reverse_append] at hall ⊢
      simp only [List.reverse_singleton, List.singleton_append, List.append_assoc, List.cons_append] at hall ⊢
      have := (frm_split s _ 0 b' _ hall).2.1
      rw [← this, hfj]
  have hbj : b ≤ j := by
    have hm : j ∈ frm s b := by rw [hfb, ← hfj]; simp
    exact (frm_ge s _ b (Nat.le_refl _) j hm).1
  rw [hbg]
  refine ⟨hbj, by omega, hji.2, hsy, fun c => ?_⟩
  rw [rc_seg (L := l1.reverse) hsy (by omega) hbj hfb, List.map_reverse, List.reverse_reverse]
  exact bk_same (fun e => (hjn (.inl e)).symm) (fun e => (hev e).symm) c

theorem first_zero {s : ByteArray} {i : Nat} {rest : List Nat} (h : [] ++ i :: rest = allL s) : i = 0 ∧ 0 < s.size := by
  have hi := (mem_allL.1 (show i ∈ allL s by rw [← h]; simp)).1
  obtain ⟨r, hr⟩ := allL_zero s (by omega)
  rw [hr] at h
  simp at h
  omega

end Go.Proofs.Ytcagfapdhopmjaa
