/-
  Pure: there and back.
-/
import Derived.Test.YtlbgfcbhpmhhpaaZH0
set_option linter.unusedSimpArgs false
set_option linter.unusedVariables false
namespace Go.Proofs.Ytlbgfcbhpmhhpaa
open Go.RowKit Go.Lib

theorem good_all {s : ByteArray} (h : goodB s = true) : ∀ i ∈ allL s, okR s i = true := by
  intro i hi
  cases ho : okR s i with
  | true => rfl
  | false =>
    exfalso
    unfold goodB firstBad at h
    cases hf : (allL s).find? (fun i => !okR s i) with
    | none => have := List.find?_eq_none.1 hf i hi; rw [ho] at this; simp at this
    | some j => rw [hf] at h; simp at h; omega
theorem good_runes {s : ByteArray} (h : goodB s = true) : runesBytes (runeL s) = s := mend_good s (good_all h)

/-- a change that a row of runes takes -/
def vR : List Int → List (Nat × Nat × List Int) → Prop
  | _, [] => True
  | x, e :: l => e.1 + e.2.1 ≤ x.length ∧ vR ((x.drop e.1).drop e.2.1) l
/-- the change that leads back -/
def ivR : List Int → List (Nat × Nat × List Int) → List (Nat × Nat × List Int)
  | _, [] => []
  | x, e :: l => (e.1, e.2.2.length, (x.drop e.1).take e.2.1) :: ivR ((x.drop e.1).drop e.2.1) l

theorem back_all : ∀ (l : List (Nat × Nat × List Int)) (x : List Int), vR x l → vR (apR x l) (ivR x l) ∧ apR (apR x l) (ivR x l) = x ∧ ivR (apR x l) (ivR x l) = l ∧ wsum (ivR x l) = wsum l
  | [], x, _ => ⟨trivial, rfl, rfl, rfl⟩
  | (k, d, u) :: l, x, h => by
    obtain ⟨h1, h2⟩ := h
    simp only at h1 h2
    obtain ⟨i1, i2, i3, i4⟩ := back_all l _ h2
    have hk : (x.take k).length = k := by simp; omega
    have hd : ((x.drop k).take d).length = d := by simp; omega
    have e1 : apR x ((k, d, u) :: l) = x.take k ++ (u ++ apR ((x.drop k).drop d) l) := by simp [apR]
    have e2 : (apR x ((k, d, u) :: l)).take k = x.take k := by rw [e1, List.take_append_of_le_length (by omega), List.take_of_length_le (by omega)]
    have e3 : (apR x ((k, d, u) :: l)).drop k = u ++ apR ((x.drop k).drop d) l := by
      rw [e1]
      have := List.drop_left (l₁ := x.take k) (l₂ := u ++ apR ((x.drop k).drop d) l)
      rwa [hk] at this
    have e4 : ((apR x ((k, d, u) :: l)).drop k).drop u.length = apR ((x.drop k).drop d) l := by rw [e3, List.drop_left]
    have e5 : ((apR x ((k, d, u) :: l)).drop k).take u.length = u := by rw [e3, List.take_left]
    have e6 : ivR x ((k, d, u) :: l) = (k, u.length, (x.drop k).take d) :: ivR ((x.drop k).drop d) l := rfl
    refine ⟨?_, ?_, ?_, ?_⟩
    · rw [e6]
      refine ⟨?_, ?_⟩
      · simp only
        rw [e1, List.length_append, List.length_append, hk]; omega
      · simp only
        rw [e4]; exact i1
    · rw [e6]
      show (apR x ((k, d, u) :: l)).take k ++ (x.drop k).take d ++ apR (((apR x ((k, d, u) :: l)).drop k).drop u.length) (ivR ((x.drop k).drop d) l) = x
      rw [e2, e4, i2, List.append_assoc, List.take_append_drop, List.take_append_drop]
    · rw [e6]
      show (k, ((x.drop k).take d).length, ((apR x ((k, d, u) :: l)).drop k).take u.length) :: ivR (((apR x ((k, d, u) :: l)).drop k).drop u.length) (ivR ((x.drop k).drop d) l) = _
      rw [hd, e5, e4, i3]
    · rw [e6]
      simp only [wsum]
      rw [hd, i4]; omega

theorem ivL_R : ∀ (l : List (Nat × Nat × List Int)) (x : List Int), ivL (runesBytes x) (l.map edOf) = (ivR x l).map edOf
  | [], x => rfl
  | e :: l, x => by
    show ((e.1 : Int), (((allL (runesBytes e.2.2)).length : Nat) : Int), cutL (cutR (runesBytes x) (e.1 : Int)) (e.2.1 : Int)) :: ivL (cutR (cutR (runesBytes x) (e.1 : Int)) (e.2.1 : Int)) (l.map edOf) = _
    rw [(cut_laid x _).2, (cut_laid _ _).1, (cut_laid _ _).2, Int.toNat_natCast, Int.toNat_natCast, ivL_R l, count_laid]
    rfl

theorem chkL_R : ∀ (l : List (Nat × Nat × List Int)) (x : List Int), vR x l → chkL ((x.length : Nat) : Int) (l.map edOf) = 0
  | [], x, _ => rfl
  | (k, d, u) :: l, x, h => by
    obtain ⟨h1, h2⟩ := h
    simp only at h1 h2
    rw [List.map_cons, chkL_one _ _ _ _ _ (by omega)]
    have := chkL_R l _ h2
    rw [show ((x.length : Nat) : Int) - ((k : Int) + (d : Int)) = ((((x.drop k).drop d).length : Nat) : Int) by simp; omega]
    exact this

theorem chkL_get : ∀ (l : List Ed) (x : List Int), chkL ((x.length : Nat) : Int) l = 0 → ∃ r : List (Nat × Nat × List Int), l = r.map edOf ∧ vR x r
  | [], x, _ => ⟨[], rfl, trivial⟩
  | e :: l, x, h => by
    obtain ⟨k, d, t⟩ := e
    have hu : chkL ((x.length : Nat) : Int) ((k, d, t) :: l) = (if k < 0 ∨ d < 0 then 1 else if goodB t = false then 2 else if ((x.length : Nat) : Int) - k < d then 3 else chkL (((x.length : Nat) : Int) - (k + d)) l) := rfl
    rw [hu] at h
    by_cases h1 : k < 0 ∨ d < 0
    · rw [if_pos h1] at h; cases h
    · rw [if_neg h1] at h
      by_cases h2 : goodB t = false
      · rw [if_pos h2] at h; cases h
      · rw [if_neg h2] at h
        by_cases h3 : ((x.length : Nat) : Int) - k < d
        · rw [if_pos h3] at h; cases h
        · rw [if_neg h3] at h
          obtain ⟨K, rfl⟩ := Int.eq_ofNat_of_zero_le (show 0 ≤ k by omega)
          obtain ⟨D, rfl⟩ := Int.eq_ofNat_of_zero_le (show 0 ≤ d by omega)
          have hl : ((x.length : Nat) : Int) - (((K : Nat) : Int) + ((D : Nat) : Int)) = ((((x.drop K).drop D).length : Nat) : Int) := by simp; omega
          rw [hl] at h
          obtain ⟨r, hr, hv⟩ := chkL_get l _ h
          refine ⟨(K, D, runeL t) :: r, ?_, by simp only; omega, hv⟩
          have hg : goodB t = true := by simpa using h2
          rw [List.map_cons, ← hr]
          simp only [edOf]
          rw [good_runes hg]

theorem runesBytes_ge (ns : List Int) : ns.length ≤ (runesBytes ns).size := by
  have h : (runesBytes ns).size = (ns.flatMap encL).length := by rw [← runesBytes_list]; simp
  rw [h]
  clear h
  induction ns with
  | nil => simp
  | cons n ns ih =>
    have := encL_pos n
    rw [List.flatMap_cons, List.length_append, List.length_cons]
    omega
theorem wsum_le : ∀ (r : List (Nat × Nat × List Int)) (x : List Int), vR x r → wsum r ≤ x.length + szL (r.map edOf)
  | [], x, _ => by simp [wsum]
  | (k, d, u) :: r, x, h => by
    obtain ⟨h1, h2⟩ := h
    simp only at h1 h2
    have ih := wsum_le r _ h2
    have hu := runesBytes_ge u
    simp only [wsum, List.map_cons, szL, edOf, List.length_drop] at ih ⊢
    omega

/-- P5.6: there and back, for whatever change is taken -/
theorem back_ok (s : ByteArray) (l : List Ed) (h : chk s l = 0) :
    chk (ofL (apW s l)) (ivL s l) = 0 ∧ ofL (apW (ofL (apW s l)) (ivL s l)) = s ∧ ivL (ofL (apW s l)) (ivL s l) = l ∧
    ((allL s).length + szL l ≤ 1000000 → wtL 0 (ivL s l) = wtL 0 l) := by
  have hg : goodB s = true := by
    unfold chk at h
    cases hg : goodB s with
    | true => rfl
    | false => rw [hg, if_pos rfl] at h; cases h
  have hc : chkL ((allL s).length : Nat) l = 0 := by
    unfold chk at h
    rwa [hg, if_neg (by decide)] at h
  have hs := good_runes hg
  obtain ⟨x, hx⟩ : ∃ x, runeL s = x := ⟨_, rfl⟩
  have hxl : x.length = (allL s).length := by rw [← hx]; exact runeL_length s
  rw [hx] at hs
  rw [← hxl] at hc
  obtain ⟨r, rfl, hv⟩ := chkL_get l x hc
  obtain ⟨b1, b2, b3, b4⟩ := back_all r x hv
  subst hs
  have ha : ofL (apW (runesBytes x) (r.map edOf)) = runesBytes (apR x r) := by rw [apW_R, runesBytes_eq]; rfl
  rw [ha, ivL_R]
  refine ⟨?_, ?_, ?_, ?_⟩
  · unfold chk
    rw [good_laid, if_neg (by decide), count_laid]
    exact chkL_R _ _ b1
  · rw [apW_R, b2, runesBytes_eq]; rfl
  · rw [ivL_R, b3]
  · intro hb
    have hw := wsum_le r x hv
    rw [count_laid] at hb
    have e1 := wtL_sum (ivR x r) 0 (by rw [b4]; omega)
    have e2 := wtL_sum r 0 (by omega)
    rw [show (0 : Int) = ((0 : Nat) : Int) from rfl, e1, e2, b4]

theorem cut_sizes (s : ByteArray) (n : Int) : (cutL s n).size + (cutR s n).size = s.size := by
  unfold cutL cutR
  cases h : (allL s)[n.toNat]? with
  | none => rfl
  | some i =>
    have hi := posL_lt s _ _ i (List.mem_of_getElem? h)
    simp only [ByteArray.size_extract]
    omega
theorem apW_len : ∀ (l : List Ed) (s : ByteArray), (apW s l).length ≤ s.size + szL l
  | [], s => by simp [apW, szL, bL]
  | e :: l, s => by
    have h1 := apW_len l (rst s e)
    have h2 := cut_sizes s e.1
    have h3 := cut_sizes (cutR s e.1) e.2.1
    simp only [apW, szL, List.length_append, bL_len]
    unfold rst at h1 ⊢
    omega
theorem szL_iv : ∀ (l : List Ed) (s : ByteArray), szL (ivL s l) ≤ s.size
  | [], s => by simp [ivL, szL]
  | e :: l, s => by
    have h1 := szL_iv l (rst s e)
    have h2 := cut_sizes s e.1
    have h3 := cut_sizes (cutR s e.1) e.2.1
    simp only [ivL, szL]
    unfold rst at h1 ⊢
    omega
theorem ivL_ok : ∀ (l : List Ed) (s : ByteArray), s.size ≤ 1000000 → (∀ e ∈ l, EdOk e) → ∀ e ∈ ivL s l, EdOk e
  | [], s, _, _, e, he => by cases he
  | a :: l, s, hs, ho, e, he => by
    have h2 := cut_sizes s a.1
    have h3 := cut_sizes (cutR s a.1) a.2.1
    have ha := ho a (List.mem_cons_self ..)
    have hc := allL_length a.2.2
    rcases List.mem_cons.1 he with rfl | he
    · obtain ⟨k1, k2, k3, k4, k5⟩ := ha
      unfold EdOk
      simp only
      omega
    · exact ivL_ok l (rst s a) (by unfold rst; omega) (fun e he => ho e (List.mem_cons_of_mem _ he)) e he

end Go.Proofs.Ytlbgfcbhpmhhpaa
