/-
  Put: a vector is laid.
-/
import Derived.Test.YtkkolefionbbcaaGreatZXV
import Derived.Test.YtkkolefionbbcaaGreatZXR

set_option linter.unusedSimpArgs false
set_option linter.unusedVariables false
namespace Go.Proofs.YtkkolefionbbcaaGreat
open Go.RowKit Go.Lib

/-- what is laid of Dots -/
def putS (st : List Nat × Int) (l : List (Int × Int)) : List Nat × Int := l.foldl (fun st d => wNum (wNum st d.1) d.2) st
def putV (st : List Nat × Int) (l : List (Int × Int)) : List Nat × Int := putS (wNum st l.length) l
theorem putS_step {st : List Nat × Int} {l : List (Int × Int)} {i : Nat} {x : Int × Int} (h : l[i]? = some x) : putS st (l.take (i + 1)) = wNum (wNum (putS st (l.take i)) x.1) x.2 := by
  rw [List.take_add_one, h]
  simp [putS]
theorem wNum_len (st : List Nat × Int) (n : Int) : (wNum st n).1.length ≤ st.1.length + 11 := by
  unfold wNum
  split
  · omega
  · split
    · simp
    · simp; exact num_len _
theorem putS_len (st : List Nat × Int) (l : List (Int × Int)) : (putS st l).1.length ≤ st.1.length + 22 * l.length := by
  induction l generalizing st with
  | nil => simp [putS]
  | cons x l ih =>
    have h1 := ih (wNum (wNum st x.1) x.2)
    have h2 := wNum_len (wNum st x.1) x.2
    have h3 := wNum_len st x.1
    show (putS (wNum (wNum st x.1) x.2) l).1.length ≤ _
    simp only [List.length_cons]
    omega

/-- a Writer, and a row that is read beside it -/
structure PtA (w W : World) (p : Nat) (v v1 dv : Value) (dots : List (Int × Int)) (st : List Nat × Int) : Prop where
  wr : Wr W p v1 st.1 st.2
  row : RI W dv dots
  kp : Kp (wOwn p v) w W
  own : OwnAt w v v1
  ap : ∀ k, dv.ownBlock = some k → ¬ wOwn p v1 k ∧ k < W.heap.size
theorem PtA.below {w W W' : World} {p : Nat} {v v1 dv : Value} {dots : List (Int × Int)} {st : List Nat × Int} (h : PtA w W p v v1 dv dots st) (hb : Below W.heap.size W W') : PtA w W' p v v1 dv dots st :=
  ⟨h.wr.below hb, h.row.below hb, h.kp.trans (M := fun _ => False) (Kp.of_below hb) (fun _ h => h.elim), h.own, fun k hk => ⟨(h.ap k hk).1, Nat.lt_of_lt_of_le (h.ap k hk).2 hb.size⟩⟩
theorem PtA.num {w W W' : World} {p : Nat} {v v1 v2 dv : Value} {dots : List (Int × Int)} {st st' : List Nat × Int} (h : PtA w W p v v1 dv dots st) (hw : Wr W' p v2 st'.1 st'.2) (k : Kp (wOwn p v1) W W') (ho : OwnAt W v1 v2) : PtA w W' p v v2 dv dots st' :=
  ⟨hw, RC.kp h.row k (fun i hi => (h.ap i hi).1), h.kp.trans k (wOwn_at h.own), h.own.trans ho h.kp.size, fun i hi => ⟨fun e => by
    rcases wOwn_at ho i e with h' | h'
    · exact (h.ap i hi).1 h'
    · have := (h.ap i hi).2; omega, Nat.lt_of_lt_of_le (h.ap i hi).2 k.size⟩⟩

theorem vec_in {s : Nat → Int} (hg : Good s) {x : Int × Int} (h : x ∈ vec s) : 1 ≤ x.1 ∧ x.1 ≤ 16 ∧ 1 ≤ x.2 ∧ x.2 ≤ 2147483647 := by
  obtain ⟨i, hi, hp, rfl⟩ := vecN_mem h
  have h1 := hg.hi i
  have h0 : i ≠ 0 := fun e => by rw [e, hg.zero] at hp; omega
  exact ⟨by show (1 : Int) ≤ (i : Int); omega, by show (i : Int) ≤ 16; omega, by show 1 ≤ s i; omega, h1⟩

end Go.Proofs.YtkkolefionbbcaaGreat

/-
  number, Take: a vector is taken.
-/
set_option linter.unusedSimpArgs false
set_option linter.unusedVariables false
namespace Go.Proofs.YtkkolefionbbcaaGreat
open Go.RowKit Go.Lib

/-- a number that must be least to most: it and the error, and what is left then -/
def tkN (st : List Nat × Int) (least most : Int) : (Nat × Int) × (List Nat × Int) :=
  if (rNum st.1 st.2).2.2 ≠ 0 then ((0, (rNum st.1 st.2).2.2), (rNum st.1 st.2).2) else if ((rNum st.1 st.2).1 : Int) < least ∨ most < ((rNum st.1 st.2).1 : Int) then ((0, 6), (rNum st.1 st.2).2) else (((rNum st.1 st.2).1, 0), (rNum st.1 st.2).2)

theorem tkN_ok {st : List Nat × Int} {least most : Int} (h : (tkN st least most).1.2 = 0) : least ≤ ((tkN st least most).1.1 : Int) ∧ ((tkN st least most).1.1 : Int) ≤ most := by
  unfold tkN at h ⊢
  split at h
  · rename_i h1; exact absurd h h1
  · rename_i h1
    split at h
    · simp at h
    · rename_i h2
      rw [if_neg h1, if_neg h2]
      show least ≤ ((rNum st.1 st.2).1 : Int) ∧ ((rNum st.1 st.2).1 : Int) ≤ most
      omega

theorem tkN_ways (st : List Nat × Int) (least most : Int) : ((rNum st.1 st.2).2.2 ≠ 0 ∧ tkN st least most = ((0, (rNum st.1 st.2).2.2), (rNum st.1 st.2).2)) ∨ ((rNum st.1 st.2).2.2 = 0 ∧ ((rNum st.1 st.2).1 : Int) < least ∧ tkN st least most = ((0, 6), (rNum st.1 st.2).2)) ∨ ((rNum st.1 st.2).2.2 = 0 ∧ ¬ ((rNum st.1 st.2).1 : Int) < least ∧ most < ((rNum st.1 st.2).1 : Int) ∧ tkN st least most = ((0, 6), (rNum st.1 st.2).2)) ∨ ((rNum st.1 st.2).2.2 = 0 ∧ ¬ ((rNum st.1 st.2).1 : Int) < least ∧ ¬ most < ((rNum st.1 st.2).1 : Int) ∧ tkN st least most = (((rNum st.1 st.2).1, 0), (rNum st.1 st.2).2)) := by
  unfold tkN
  generalize rNum st.1 st.2 = q
  obtain ⟨a, b, e⟩ := q
  by_cases h1 : e = 0
  · subst h1
    by_cases h2 : (a : Int) < least
    · exact .inr (.inl ⟨rfl, h2, by rw [if_neg (by simp), if_pos (.inl h2)]⟩)
    · by_cases h3 : most < (a : Int)
      · exact .inr (.inr (.inl ⟨rfl, h2, h3, by rw [if_neg (by simp), if_pos (.inr h3)]⟩))
      · exact .inr (.inr (.inr ⟨rfl, h2, h3, by rw [if_neg (by simp), if_neg (by simp only; omega)]⟩))
  · exact .inl ⟨h1, by rw [if_pos h1]⟩

/-- so many Dots more, behind those of acc: the Dots, or the error; and what is left then -/
def tkL : Nat → Int → List (Int × Int) → List Nat × Int → (List (Int × Int) × Int) × (List Nat × Int)
  | 0, _, acc, st => ((acc, 0), st)
  | n + 1, site, acc, st => if (tkN st (site + 1) 16).1.2 ≠ 0 then (([], (tkN st (site + 1) 16).1.2), (tkN st (site + 1) 16).2) else if (tkN (tkN st (site + 1) 16).2 1 2147483647).1.2 ≠ 0 then (([], (tkN (tkN st (site + 1) 16).2 1 2147483647).1.2), (tkN (tkN st (site + 1) 16).2 1 2147483647).2) else tkL n ((tkN st (site + 1) 16).1.1 : Nat) (acc ++ [(((tkN st (site + 1) 16).1.1 : Int), ((tkN (tkN st (site + 1) 16).2 1 2147483647).1.1 : Int))]) (tkN (tkN st (site + 1) 16).2 1 2147483647).2
def takeV (st : List Nat × Int) : (List (Int × Int) × Int) × (List Nat × Int) := if (tkN st 0 16).1.2 ≠ 0 then (([], (tkN st 0 16).1.2), (tkN st 0 16).2) else tkL (tkN st 0 16).1.1 0 [] (tkN st 0 16).2

theorem vecN_stop {s : Nat → Int} {j : Nat} (h : ∀ i, j ≤ i → s i = 0) : ∀ k, vecN s (j + k) = vecN s j
  | 0 => rfl
  | k + 1 => by rw [← Nat.add_assoc, vecN_neg (by rw [h (j + k) (by omega)]; omega), vecN_stop h k]
theorem vecN_below {s : Nat → Int} {j : Nat} {x : Int} : ∀ k, k ≤ j → vecN (put1 s j x) k = vecN s k
  | 0, _ => rfl
  | k + 1, h => by rw [vecN_step, vecN_step, vecN_below k (by omega), put1_other _ _ _ _ (by omega)]
theorem vec_snoc {s : Nat → Int} {j : Nat} {x : Int} (hj : j < 17) (hx : 0 < x) (h : ∀ i, j ≤ i → s i = 0) : vec (put1 s j x) = vec s ++ [((j : Int), x)] := by
  have h1 : vec (put1 s j x) = vecN (put1 s j x) (j + 1) := by
    have := vecN_stop (s := put1 s j x) (j := j + 1) (fun i hi => by rw [put1_other _ _ _ _ (by omega)]; exact h i (by omega)) (17 - (j + 1))
    rw [show j + 1 + (17 - (j + 1)) = 17 by omega] at this
    exact this
  have h2 : vec s = vecN s j := by
    have := vecN_stop (s := s) (j := j) h (17 - j)
    rw [show j + (17 - j) = 17 by omega] at this
    exact this
  rw [h1, h2, vecN_pos (by rw [put1_self]; exact hx), put1_self, vecN_below j (by omega)]

/-- Dots that were taken so far: the last one's site -/
structure TkI (acc : List (Int × Int)) (site : Int) : Prop where
  same : vec (sy acc) = acc
  zero : ∀ i : Nat, site < (i : Int) → sy acc i = 0
  lo : 0 ≤ site
  hi : site ≤ 16
theorem TkI.none : TkI [] 0 := ⟨rfl, fun _ _ => rfl, by omega, by omega⟩
theorem TkI.sy_next {acc : List (Int × Int)} {site : Int} (h : TkI acc site) {a b : Nat} (h1 : site + 1 ≤ (a : Int)) (h2 : (a : Int) ≤ 16) (h3 : 1 ≤ (b : Int)) (h4 : (b : Int) ≤ 2147483647) : sy (acc ++ [((a : Int), (b : Int))]) = put1 (sy acc) a b := by
  have := h.lo
  rw [sy_snoc, syF, if_pos ((okD_iff _).2 ⟨⟨by show (1 : Int) ≤ (a : Int); omega, h2⟩, h3, h4⟩)]
  show put1 (sy acc) (a : Int).toNat (max (sy acc (a : Int).toNat) (b : Int)) = _
  rw [Int.toNat_natCast, h.zero a (by omega), show max (0 : Int) (b : Int) = (b : Int) by omega]
theorem TkI.next {acc : List (Int × Int)} {site : Int} (h : TkI acc site) {a b : Nat} (h1 : site + 1 ≤ (a : Int)) (h2 : (a : Int) ≤ 16) (h3 : 1 ≤ (b : Int)) (h4 : (b : Int) ≤ 2147483647) : TkI (acc ++ [((a : Int), (b : Int))]) a := by
  have e := h.sy_next h1 h2 h3 h4
  have := h.lo
  refine ⟨?_, fun i hi => ?_, by omega, h2⟩
  · rw [e, vec_snoc (by omega) (by omega) (fun i hi => h.zero i (by omega)), h.same]
  · rw [e, put1_other _ _ _ _ (by omega)]; exact h.zero i (by omega)

theorem tkL_bad1 {n : Nat} {site : Int} {acc : List (Int × Int)} {st st2 : List Nat × Int} {a : Nat} {ea : Int} (h : tkN st (site + 1) 16 = ((a, ea), st2)) (he : ea ≠ 0) : tkL (n + 1) site acc st = (([], ea), st2) := by rw [tkL, h, if_pos he]
theorem tkL_bad2 {n : Nat} {site : Int} {acc : List (Int × Int)} {st st2 st3 : List Nat × Int} {a b : Nat} {eb : Int} (h : tkN st (site + 1) 16 = ((a, 0), st2)) (h2 : tkN st2 1 2147483647 = ((b, eb), st3)) (he : eb ≠ 0) : tkL (n + 1) site acc st = (([], eb), st3) := by rw [tkL, h, if_neg (by simp)]; simp only; rw [h2, if_pos he]
theorem tkL_good {n : Nat} {site : Int} {acc : List (Int × Int)} {st st2 st3 : List Nat × Int} {a b : Nat} (h : tkN st (site + 1) 16 = ((a, 0), st2)) (h2 : tkN st2 1 2147483647 = ((b, 0), st3)) : tkL (n + 1) site acc st = tkL n (a : Nat) (acc ++ [((a : Int), (b : Int))]) st3 := by rw [tkL, h, if_neg (by simp)]; simp only; rw [h2, if_neg (by simp)]

theorem tkN_ne {st : List Nat × Int} {least most : Int} (h : (tkN st least most).1.2 = 0) : st.1 ≠ [] := by
  intro e
  have h1 : (rNum st.1 st.2).2.2 ≠ 0 := by
    rw [e]
    unfold rNum rn0
    by_cases h2 : st.2 = 0
    · rw [if_neg (by simpa using h2)]
      show (tn []).1 ≠ 0
      simp [tn, tnL]
    · rw [if_pos h2]
      exact h2
  unfold tkN at h
  rw [if_pos h1] at h
  exact h1 h
theorem Rd.own_lt {W : World} {p : Nat} {v : Value} {l : List Nat} {e : Int} (h : Rd W p v l e) (hl : l ≠ []) : ∀ j, v.ownBlock = some j → j < W.heap.size := by
  intro j hj
  rcases h.row with ⟨h0, _⟩ | ⟨b, off, cap, rfl, _, hb, _⟩
  · exact absurd (List.eq_nil_of_length_eq_zero h0) hl
  · simp [Value.ownBlock] at hj
    omega

end Go.Proofs.YtkkolefionbbcaaGreat
