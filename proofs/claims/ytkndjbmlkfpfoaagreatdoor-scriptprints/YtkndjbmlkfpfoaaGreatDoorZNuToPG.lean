/-
  Numbers in their one decimal form. Pure.
-/
import Derived.Test.YtkndjbmlkfpfoaaGreatDoorZSc2ToSc4
import Derived.Lib.ParseIntBCases
import Derived.Test.YtkndjbmlkfpfoaaGreatDoorZQuToHx

set_option linter.unusedSimpArgs false
set_option linter.unusedVariables false
namespace Go.Proofs.YtkndjbmlkfpfoaaGreatDoor
open Go.RowKit Go.Lib

/-- what digits spell -/
def dv (acc : Nat) : List UInt8 → Nat
  | [] => acc
  | c :: r => dv (acc * 10 + (c.toNat - 48)) r
def isDg (c : UInt8) : Prop := 48 ≤ c.toNat ∧ c.toNat ≤ 57
theorem dv_append : ∀ (l m : List UInt8) (acc : Nat), dv acc (l ++ m) = dv (dv acc l) m
  | [], m, acc => rfl
  | c :: l, m, acc => dv_append l m _
theorem dv_ge : ∀ (l : List UInt8) (acc : Nat), acc ≤ dv acc l
  | [], acc => Nat.le_refl _
  | c :: l, acc => by
    have := dv_ge l (acc * 10 + (c.toNat - 48))
    show acc ≤ dv (acc * 10 + (c.toNat - 48)) l
    omega
theorem of48 {u : Nat} (h : u < 10) : (UInt8.ofNat (48 + u)).toNat = 48 + u := by
  rw [UInt8.toNat_ofNat']
  omega
theorem dd_small {u : Nat} (h : u < 10) : decDigits u = [UInt8.ofNat (48 + u)] := by rw [decDigits, dif_pos h]
theorem dd_big {u : Nat} (h : ¬ u < 10) : decDigits u = decDigits (u / 10) ++ [UInt8.ofNat (48 + u % 10)] := by rw [decDigits, dif_neg h]
theorem dd_ne (u : Nat) : decDigits u ≠ [] := by
  intro e
  have := decDigits_length u
  rw [e] at this
  have := nDigits_pos u
  simp at *
  omega
theorem dd_all (u : Nat) : ∀ c ∈ decDigits u, isDg c := by
  induction u using Nat.strongRecOn with
  | _ u ih =>
    by_cases h : u < 10
    · rw [dd_small h]
      intro c hc
      rw [List.mem_singleton] at hc
      subst hc
      unfold isDg
      rw [of48 h]
      omega
    · rw [dd_big h]
      intro c hc
      rcases List.mem_append.1 hc with hc | hc
      · exact ih (u / 10) (by omega) c hc
      · rw [List.mem_singleton] at hc
        subst hc
        unfold isDg
        rw [of48 (by omega)]
        omega
theorem dd_val (u : Nat) : dv 0 (decDigits u) = u := by
  induction u using Nat.strongRecOn with
  | _ u ih =>
    by_cases h : u < 10
    · rw [dd_small h]
      show 0 * 10 + ((UInt8.ofNat (48 + u)).toNat - 48) = u
      rw [of48 h]
      omega
    · rw [dd_big h, dv_append, ih (u / 10) (by omega)]
      show u / 10 * 10 + ((UInt8.ofNat (48 + u % 10)).toNat - 48) = u
      rw [of48 (by omega)]
      omega
theorem dd_head (u : Nat) (h : 1 ≤ u) : ∃ c r, decDigits u = c :: r ∧ c.toNat ≠ 48 := by
  induction u using Nat.strongRecOn with
  | _ u ih =>
    by_cases h1 : u < 10
    · refine ⟨_, [], dd_small h1, ?_⟩
      rw [of48 h1]
      omega
    · obtain ⟨c, r, e, hc⟩ := ih (u / 10) (by omega) (by omega)
      exact ⟨c, r ++ [UInt8.ofNat (48 + u % 10)], by rw [dd_big h1, e]; rfl, hc⟩
theorem dg_back {c : UInt8} (h : isDg c) : UInt8.ofNat (48 + (c.toNat - 48)) = c := by
  rw [show 48 + (c.toNat - 48) = c.toNat by have := h.1; omega]
  exact UInt8.ofNat_toNat
/-- the one form -/
theorem dd_canon : ∀ (k : Nat) (l : List UInt8), l.length = k → l ≠ [] → (∀ c ∈ l, isDg c) → (l.length = 1 ∨ ∀ c r, l = c :: r → c.toNat ≠ 48) → decDigits (dv 0 l) = l
  | 0, l, hk, hn, _, _ => absurd (List.eq_nil_of_length_eq_zero hk) hn
  | k + 1, l, hk, hn, hd, hc => by
    obtain ⟨m, c, rfl⟩ : ∃ m c, l = m ++ [c] := ⟨l.dropLast, l.getLast hn, (List.dropLast_concat_getLast hn).symm⟩
    have hcd : isDg c := hd c (by simp)
    have hv : dv 0 (m ++ [c]) = dv 0 m * 10 + (c.toNat - 48) := by rw [dv_append]; rfl
    rw [hv]
    cases m with
    | nil =>
      show decDigits (0 * 10 + (c.toNat - 48)) = [c]
      rw [Nat.zero_mul, Nat.zero_add, dd_small (by have := hcd.2; omega), dg_back hcd]
    | cons a m =>
      have ha : isDg a := hd a (by simp)
      have h48 : a.toNat ≠ 48 := by
        rcases hc with hc | hc
        · simp at hc
        · exact hc a (m ++ [c]) rfl
      have hpos : 1 ≤ dv 0 (a :: m) := by
        have := dv_ge m (0 * 10 + (a.toNat - 48))
        have := ha.1
        show 1 ≤ dv (0 * 10 + (a.toNat - 48)) m
        omega
      have h9 := hcd.2
      rw [dd_big (by omega), show (dv 0 (a :: m) * 10 + (c.toNat - 48)) / 10 = dv 0 (a :: m) by omega, show (dv 0 (a :: m) * 10 + (c.toNat - 48)) % 10 = c.toNat - 48 by omega, dg_back hcd,
        dd_canon k (a :: m) (by simp at hk ⊢; omega) (by simp) (fun x hx => hd x (by simp at hx ⊢; rcases hx with rfl | hx; exact .inl rfl; exact .inr (.inl hx))) (.inr (fun x r e => by cases e; exact h48))]
theorem parse_dv : ∀ (l : List UInt8) (acc : Nat), (∀ c ∈ l, isDg c) → dv acc l ≤ 18446744073709551615 → parseUintM 18446744073709551615 acc l = .ok (dv acc l)
  | [], acc, _, _ => rfl
  | c :: l, acc, hd, hv => by
    have hc := hd c (by simp)
    have h1 := dv_ge l (acc * 10 + (c.toNat - 48))
    have h2 : dv acc (c :: l) = dv (acc * 10 + (c.toNat - 48)) l := rfl
    rw [h2] at hv ⊢
    unfold parseUintM
    rw [if_pos ⟨hc.1, hc.2⟩, if_neg (by omega), if_neg (by omega)]
    exact parse_dv l _ (fun x hx => hd x (by simp [hx])) hv
theorem parse_dd (u : Nat) (h : u ≤ 18446744073709551615) : parseUintB 64 (decDigits u) = .ok u := by
  unfold parseUintB
  rw [if_neg (dd_ne u), show (2 ^ 64 - 1 : Nat) = 18446744073709551615 from rfl, parse_dv _ _ (dd_all u) (by rw [dd_val]; exact h), dd_val]
theorem parse_itoa (v : Int) (h1 : -9223372036854775808 ≤ v) (h2 : v ≤ 9223372036854775807) : parseIntB 64 (itoa v) = .ok v := by
  unfold itoa
  by_cases hn : v < 0
  · rw [if_pos hn, parseIntB_minus, parse_dd _ (by omega)]
    unfold signedC
    simp only
    rw [if_neg (by rw [show (2 ^ (64 - 1) : Nat) = 9223372036854775808 from rfl]; omega), show -((v.natAbs : Nat) : Int) = v by omega]
  · rw [if_neg hn]
    obtain ⟨c, r, e⟩ : ∃ c r, decDigits v.toNat = c :: r := by
      cases hd : decDigits v.toNat with
      | nil => exact absurd hd (dd_ne _)
      | cons c r => exact ⟨c, r, rfl⟩
    have hc := dd_all v.toNat c (by rw [e]; simp)
    rw [e, parseIntB_plain 64 c r (by have := hc.1; omega) (by have := hc.1; omega), ← e, parse_dd _ (by omega)]
    unfold signlessC
    simp only
    rw [if_neg (by rw [show (2 ^ (64 - 1) : Nat) = 9223372036854775808 from rfl]; omega), show ((v.toNat : Nat) : Int) = v by omega]
/-- decN: the number whose one form a text is -/
theorem decN_itoa {t : ByteArray} {v : Int} (h1 : -9223372036854775808 ≤ v) (h2 : v ≤ 9223372036854775807) (ht : t.data.toList = itoa v) : decN t = some v := by
  unfold decN
  rw [ht, parse_itoa v h1 h2]
  simp only [if_true]
theorem decN_some {t : ByteArray} {v : Int} (h : decN t = some v) : t.data.toList = itoa v ∧ -9223372036854775808 ≤ v ∧ v ≤ 9223372036854775807 := by
  unfold decN at h
  rcases hc : parseIntB 64 t.data.toList with u | _ | _
  · rw [hc] at h
    simp only at h
    by_cases he : itoa u = t.data.toList
    · rw [if_pos he] at h
      cases h
      have hb := parseIntB_bounds hc
      rw [show (2 ^ (64 - 1) : Nat) = 9223372036854775808 from rfl] at hb
      exact ⟨he.symm, by omega, by omega⟩
    · rw [if_neg he] at h; cases h
  · rw [hc] at h; cases h
  · rw [hc] at h; cases h
theorem dd_len {u : Nat} (h : u < 10000000000000000000) : (decDigits u).length ≤ 19 := by
  rw [decDigits_length]
  by_cases h0 : u < 10
  · rw [nDigits_small h0]; omega
  · have hp := nDigits_pos u
    have key : ∀ k u, u < 10 ^ k → nDigits u ≤ max k 1 := by
      intro k
      induction k with
      | zero => intro u hu; simp at hu; subst hu; rw [nDigits_small (by decide)]; decide
      | succ k ih =>
        intro u hu
        by_cases q : u < 10
        · rw [nDigits_small q]; omega
        · rw [nDigits_big q]
          rw [Nat.pow_succ] at hu
          have := ih (u / 10) (by omega)
          cases k with
          | zero => simp at hu; omega
          | succ k => omega
    have := key 19 u (by rw [show (10 ^ 19 : Nat) = 10000000000000000000 from rfl]; exact h)
    omega
/-- the document's number -/
def magD (d : List UInt8) : Option Nat := if 19 < d.length ∨ (1 < d.length ∧ d.head? = some 48) then none else if d.all (fun c => decide (48 ≤ c.toNat ∧ c.toNat ≤ 57)) = true then some (dv 0 d) else none
def numD (l : List UInt8) : Option Int :=
  if l.head? = some 45 then
    if l.tail.head? = some 48 then none else match magD l.tail with
      | none => none
      | some n => if 9223372036854775808 < n then none else some (-(n : Int))
  else match magD l with
    | none => none
    | some n => if n < 9223372036854775808 then some (n : Int) else none
theorem magD_dd {u : Nat} (h : u < 10000000000000000000) : magD (decDigits u) = some u := by
  unfold magD
  have hl := dd_len h
  have h2 : ¬ (1 < (decDigits u).length ∧ (decDigits u).head? = some 48) := by
    rintro ⟨q1, q2⟩
    by_cases h0 : u < 10
    · rw [dd_small h0] at q1; simp at q1
    · obtain ⟨c, r, e, hc⟩ := dd_head u (by omega)
      rw [e] at q2
      simp at q2
      subst q2
      exact hc rfl
  rw [if_neg (fun q => q.elim (fun q => by omega) h2), if_pos, dd_val]
  rw [List.all_eq_true]
  intro c hc
  have := dd_all u c hc
  simpa [isDg] using this
theorem magD_some {d : List UInt8} {n : Nat} (h : magD d = some n) (hd : d ≠ []) : decDigits n = d := by
  unfold magD at h
  split at h
  · cases h
  · rename_i h1
    split at h
    · rename_i h2
      cases h
      rw [List.all_eq_true] at h2
      refine dd_canon _ d rfl hd (fun c hc => by have := h2 c hc; simpa [isDg] using this) ?_
      by_cases q : d.length = 1
      · exact .inl q
      · refine .inr (fun c r e hc => h1 (.inr ⟨?_, ?_⟩))
        · have : 0 < d.length := List.length_pos_iff.2 hd
          omega
        · rw [e]
          simp only [List.head?_cons, Option.some.injEq]
          exact UInt8.toNat_inj.1 hc
    · cases h
theorem numD_itoa (v : Int) (h1 : -9223372036854775808 ≤ v) (h2 : v ≤ 9223372036854775807) : numD (itoa v) = some v := by
  unfold numD itoa
  by_cases hn : v < 0
  · rw [if_pos hn]
    rw [if_pos (show ((45 : UInt8) :: decDigits v.natAbs).head? = some 45 from rfl)]
    obtain ⟨c, r, e, hc⟩ := dd_head v.natAbs (by omega)
    have h48 : ¬ ((decDigits v.natAbs).head? = some 48) := by
      rw [e]
      intro q
      rw [List.head?_cons, Option.some.injEq] at q
      subst q
      exact hc rfl
    rw [if_neg (show ¬ (((45 : UInt8) :: decDigits v.natAbs).tail.head? = some 48) from h48), List.tail_cons, magD_dd (by omega)]
    simp only
    rw [if_neg (by omega), show -((v.natAbs : Nat) : Int) = v by omega]
  · rw [if_neg hn]
    have h45 : (decDigits v.toNat).head? ≠ some 45 := by
      intro q
      obtain ⟨c, r, e⟩ : ∃ c r, decDigits v.toNat = c :: r := by
        cases hd : decDigits v.toNat with
        | nil => exact absurd hd (dd_ne _)
        | cons c r => exact ⟨c, r, rfl⟩
      have hc := dd_all v.toNat c (by rw [e]; simp)
      rw [e] at q
      simp at q
      subst q
      have := hc.1
      simp at this
    rw [if_neg h45, magD_dd (by omega)]
    simp only
    rw [if_pos (by omega), show ((v.toNat : Nat) : Int) = v by omega]
theorem numD_some {l : List UInt8} {v : Int} (h : numD l = some v) (hl : l ≠ []) (ht : l.head? = some 45 → l.tail ≠ []) : l = itoa v ∧ -9223372036854775808 ≤ v ∧ v ≤ 9223372036854775807 := by
  unfold numD at h
  by_cases h45 : l.head? = some 45
  · rw [if_pos h45] at h
    obtain ⟨c, r, rfl⟩ : ∃ c r, l = c :: r := by
      cases l with
      | nil => exact absurd rfl hl
      | cons c r => exact ⟨c, r, rfl⟩
    simp at h45
    subst h45
    have hr := ht rfl
    simp only [List.tail_cons] at hr
    by_cases h48 : r.head? = some 48
    · rw [if_pos (show ((45 : UInt8) :: r).tail.head? = some 48 from h48)] at h; cases h
    · rw [if_neg (show ¬ (((45 : UInt8) :: r).tail.head? = some 48) from h48), List.tail_cons] at h
      cases hm : magD r with
      | none => rw [hm] at h; cases h
      | some n =>
        rw [hm] at h
        simp only at h
        by_cases hb : 9223372036854775808 < n
        · rw [if_pos hb] at h; cases h
        · rw [if_neg hb] at h
          have hd := magD_some hm hr
          have hn0 : n ≠ 0 := by
            intro q
            subst q
            rw [dd_small (by decide)] at hd
            exact h48 (by rw [← hd]; rfl)
          cases h
          refine ⟨?_, by omega, by omega⟩
          unfold itoa
          rw [if_pos (by omega), show (-(n : Int)).natAbs = n by omega, hd]
  · rw [if_neg h45] at h
    cases hm : magD l with
    | none => rw [hm] at h; cases h
    | some n =>
      rw [hm] at h
      simp only at h
      by_cases hb : n < 9223372036854775808
      · rw [if_pos hb] at h
        cases h
        refine ⟨?_, by omega, by omega⟩
        unfold itoa
        rw [if_neg (by omega), show ((n : Int)).toNat = n by omega, magD_some hm hl]
      · rw [if_neg hb] at h; cases h
/-- the program's and the document's number are one -/
theorem num_one (t : ByteArray) (hl : t.data.toList ≠ []) (ht : t.data.toList.head? = some 45 → t.data.toList.tail ≠ []) : numD t.data.toList = decN t := by
  cases h : decN t with
  | some v =>
    obtain ⟨e, h1, h2⟩ := decN_some h
    rw [e]
    exact numD_itoa v h1 h2
  | none =>
    cases h' : numD t.data.toList with
    | none => rfl
    | some v =>
      obtain ⟨e, h1, h2⟩ := numD_some h' hl ht
      rw [decN_itoa h1 h2 e] at h
      cases h

end Go.Proofs.YtkndjbmlkfpfoaaGreatDoor

/-
  Plain facts: what is read of a text in quotes is the text.
-/
set_option linter.unusedSimpArgs false
set_option linter.unusedVariables false
namespace Go.Proofs.YtkndjbmlkfpfoaaGreatDoor
open Go.Lib

theorem by_app (p q : List UInt8) (j : Nat) (x : UInt8) (h : q[j]? = some x) : by_ (ofL (p ++ q)) (p.length + j) = x.toNat := by
  have hj := (List.getElem?_eq_some_iff.1 h).1
  rw [by_at p q j hj]
  have := (List.getElem?_eq_some_iff.1 h).2
  rw [this]
theorem size_app (p q : List UInt8) : (ofL (p ++ q)).size = p.length + q.length := by rw [ofL_size, List.length_append]

theorem byteE_dig {s : ByteArray} {i a b : Nat} (h : i + 1 < s.size) (h1 : dgV (by_ s i) = a) (h2 : dgV (by_ s (i + 1)) = b) (ha : a < 16) (hb : b < 16) : byteE s i = some ([UInt8.ofNat (16 * a + b)], 4) := by
  have e : hxR s i 2 0 0 = (16 * a + b, 2) := by
    rw [hxR_step (by omega) (by rw [Nat.add_zero, h1]; exact ha), Nat.add_zero, h1, hxR_step (by omega) (by rw [h2]; exact hb), h2]
    simp [hxR]
  unfold byteE; rw [e]; rfl

theorem low_sub {s : ByteArray} {i : Nat} (hi : i < s.size) (hw : wd s i = 1) : subL s i (wd s i) = [UInt8.ofNat (by_ s i)] := by
  rw [hw, subL_1 s i (by omega), by_ofNat]

theorem rd_lt {s : ByteArray} {i : Nat} (hi : i < s.size) (h : ltN (rn s i) ≠ 0) (p rest acc : List UInt8) :
    rdA (ofL (p ++ (qP s i ++ rest))) p.length acc = rdA (ofL (p ++ (qP s i ++ rest))) (p.length + (qP s i).length) (acc ++ subL s i (wd s i)) := by
  have hq : qP s i = [92, UInt8.ofNat (ltN (rn s i))] := by unfold qP; rw [if_pos h]
  have hlow := rn_low s i hi (by unfold ltN at h; (repeat' split at h) <;> omega)
  rw [hq, low_sub hi hlow.2.1]
  have hc := ltN_lt (rn s i)
  have b0 := by_app p ([92, UInt8.ofNat (ltN (rn s i))] ++ rest) 0 92 rfl
  have b1 := by_app p ([92, UInt8.ofNat (ltN (rn s i))] ++ rest) 1 _ rfl
  rw [Nat.add_zero] at b0
  rw [u8n _ hc] at b1
  have hsz := size_app p ([92, UInt8.ofNat (ltN (rn s i))] ++ rest)
  simp only [List.length_append, List.length_cons, List.length_nil] at hsz
  have he : escE (ofL (p ++ ([92, UInt8.ofNat (ltN (rn s i))] ++ rest))) p.length = some ([UInt8.ofNat (by_ s i)], 2) := by
    rw [hlow.1]
    unfold escE
    rw [if_pos (by omega), b1]
    have hr : rn s i = 34 ∨ rn s i = 92 ∨ rn s i = 10 ∨ rn s i = 13 ∨ rn s i = 9 := by unfold ltN at h; (repeat' split at h) <;> omega
    rcases hr with e | e | e | e | e <;> rw [e] <;> rfl
  rw [rdA_some (by omega) b0 he]
  rfl

theorem rd_raw {s : ByteArray} {i : Nat} (hi : i < s.size) (h : ltN (rn s i) = 0) (hr : rawB s i = true) (p rest acc : List UInt8) :
    rdA (ofL (p ++ (qP s i ++ rest))) p.length acc = rdA (ofL (p ++ (qP s i ++ rest))) (p.length + (qP s i).length) (acc ++ subL s i (wd s i)) := by
  have hq : qP s i = bxL (by_ s i) := by unfold qP; rw [if_neg (by rw [h]; decide), if_pos hr]
  have hw : wd s i = 1 := by
    unfold rawB at hr
    simp only [Bool.or_eq_true, decide_eq_true_eq, Bool.not_eq_true'] at hr
    rcases hr with (h1 | h1) | h1
    · exact (rn_low s i hi (by omega)).2.1
    · exact (rn_low s i hi (by omega)).2.1
    · exact (ok_false_iff h1).2
  rw [hq, low_sub hi hw]
  have hb := by_lt s i
  have b0 := by_app p (bxL (by_ s i) ++ rest) 0 92 rfl
  have b1 := by_app p (bxL (by_ s i) ++ rest) 1 120 rfl
  have b2 := by_app p (bxL (by_ s i) ++ rest) 2 (hxD (by_ s i / 16)) rfl
  have b3 := by_app p (bxL (by_ s i) ++ rest) 3 (hxD (by_ s i % 16)) rfl
  rw [Nat.add_zero] at b0
  have hsz := size_app p (bxL (by_ s i) ++ rest)
  simp only [List.length_append, bxL, List.length_cons, List.length_nil] at hsz
  have he : escE (ofL (p ++ (bxL (by_ s i) ++ rest))) p.length = some ([UInt8.ofNat (by_ s i)], 4) := by
    unfold escE
    rw [if_pos (by show p.length + 1 < (ofL (p ++ (bxL (by_ s i) ++ rest))).size; unfold bxL; omega), b1]
    have := byteE_dig (s := ofL (p ++ (bxL (by_ s i) ++ rest))) (i := p.length + 2) (a := by_ s i / 16) (b := by_ s i % 16) (by show p.length + 2 + 1 < (ofL (p ++ (bxL (by_ s i) ++ rest))).size; unfold bxL; omega) (by rw [b2]; exact dgV_hxD _ (by omega)) (by rw [show p.length + 2 + 1 = p.length + 3 from rfl, b3]; exact dgV_hxD _ (by omega)) (by omega) (by omega)
    rw [show 16 * (by_ s i / 16) + by_ s i % 16 = by_ s i by omega] at this
    exact this
  rw [rdA_some (by show p.length < (ofL (p ++ (bxL (by_ s i) ++ rest))).size; unfold bxL; omega) b0 he]
  rfl

theorem rd_hid {s : ByteArray} {i : Nat} (hi : i < s.size) (h : ltN (rn s i) = 0) (hr : rawB s i = false) (hh : hidN (rn s i) = true) (p rest acc : List UInt8) :
    rdA (ofL (p ++ (qP s i ++ rest))) p.length acc = rdA (ofL (p ++ (qP s i ++ rest))) (p.length + (qP s i).length) (acc ++ subL s i (wd s i)) := by
  have hq : qP s i = uxL (rn s i) := by unfold qP; rw [if_neg (by rw [h]; decide), if_neg (by rw [hr]; decide), if_pos hh]
  have hok : okR s i = true := by unfold rawB at hr; simp at hr; exact hr.2
  rw [hq, ← enc_ok s i hi hok]
  have hle := rn_le s i hi
  have hv := rn_valid s i hi
  have h128 : 128 ≤ rn s i := by unfold hidN at hh; simp at hh; omega
  generalize rn s i = r at *
  obtain ⟨d, l, hdl, hd0⟩ := dgF_head r r (by omega) (Nat.le_refl _)
  have hlt := dgF_lt r r
  have hlen := dgF_len r r 6 (by omega)
  have hval := dgF_val r r (Nat.le_refl _)
  have hmap : hxL r = (dgF r r).map hxD := hxF_map r r
  have hu : uxL r ++ rest = [92, 117, 123] ++ ((dgF r r).map hxD ++ (125 :: rest)) := by unfold uxL; rw [hmap]; simp
  have hul : (uxL r).length = 4 + (dgF r r).length := by unfold uxL; rw [hmap]; simp; omega
  rw [hu, hul]
  have hR := hxR_laid (p ++ [92, 117, 123]) (125 :: rest) (dgF r r) [] 6 0 hlt hlen (.inr ⟨125, rest, .inl ⟨rfl, by decide⟩⟩)
  rw [hval] at hR
  simp only [List.nil_append, List.length_nil, Nat.zero_add, List.length_append, List.length_cons] at hR
  have eT : p ++ [92, 117, 123] ++ ((dgF r r).map hxD ++ 125 :: rest) = p ++ ([92, 117, 123] ++ ((dgF r r).map hxD ++ 125 :: rest)) := by simp
  rw [eT] at hR
  obtain ⟨t, ht⟩ : ∃ t, p ++ ([92, 117, 123] ++ ((dgF r r).map hxD ++ 125 :: rest)) = t := ⟨_, rfl⟩
  have hsz : (ofL t).size = p.length + 4 + (dgF r r).length + rest.length := by rw [← ht, ofL_size]; simp; omega
  have b0 : by_ (ofL t) p.length = 92 := by rw [← ht]; exact by_app p _ 0 92 rfl
  have b1 : by_ (ofL t) (p.length + 1) = 117 := by rw [← ht]; exact by_app p _ 1 117 rfl
  have b2 : by_ (ofL t) (p.length + 2) = 123 := by rw [← ht]; exact by_app p _ 2 123 rfl
  have b3 : by_ (ofL t) (p.length + 3) = (hxD d).toNat := by rw [← ht]; exact by_app p _ 3 _ (by rw [hdl]; rfl)
  have be : by_ (ofL t) (p.length + 3 + (dgF r r).length) = 125 := by
    rw [← ht, Nat.add_assoc]
    exact by_app p _ (3 + (dgF r r).length) 125 (by
      rw [List.getElem?_append_right (by simp)]
      simp only [List.length_cons, List.length_nil]
      rw [List.getElem?_append_right (by simp)]
      simp)
  rw [ht] at hR ⊢
  have hd16 : d < 16 := hlt d (by rw [hdl]; exact List.mem_cons_self ..)
  have hnz : (hxD d).toNat ≠ 48 := by rw [hxD_nat d hd16]; split <;> omega
  have hE : runeE (ofL t) (p.length + 3) = some (encL (r : Int), (dgF r r).length + 4) := by
    unfold runeE
    simp only
    rw [hR]
    simp only
    have hk0 : (dgF r r).length ≠ 0 := by rw [hdl]; simp
    rw [if_neg (by rw [b3]; omega), if_pos ⟨by omega, be, val_ok r hv⟩]
  have he : escE (ofL t) p.length = some (encL (r : Int), (dgF r r).length + 4) := by
    unfold escE
    rw [if_pos (by omega), b1]
    simp only [show ¬ (117 : Nat) = 34 by omega, show ¬ (117 : Nat) = 92 by omega, show ¬ (117 : Nat) = 110 by omega, show ¬ (117 : Nat) = 114 by omega, show ¬ (117 : Nat) = 116 by omega, show ¬ (117 : Nat) = 120 by omega, if_false]
    rw [if_pos ⟨trivial, by omega, b2⟩]
    exact hE
  rw [rdA_some (by omega) b0 he, show (dgF r r).length + 4 = 4 + (dgF r r).length by omega]

theorem rd_self {s : ByteArray} {i : Nat} (hi : i < s.size) (h : ltN (rn s i) = 0) (hr : rawB s i = false) (hh : hidN (rn s i) = false) (p rest acc : List UInt8) :
    rdA (ofL (p ++ (qP s i ++ rest))) p.length acc = rdA (ofL (p ++ (qP s i ++ rest))) (p.length + (qP s i).length) (acc ++ subL s i (wd s i)) := by
  have hq : qP s i = encL (rn s i : Nat) := by unfold qP; rw [if_neg (by rw [h]; decide), if_neg (by rw [hr]; decide), if_neg (by rw [hh]; decide)]
  unfold rawB at hr
  simp at hr
  rw [hq, ← enc_ok s i hi hr.2]
  have hv := rn_valid s i hi
  obtain ⟨hd, ho⟩ := dec_enc p rest ((rn s i : Nat) : Int)
  rw [fixN_nat _ hv] at hd
  have h34 : rn s i ≠ 34 := by intro e; rw [e] at h; exact absurd h (by decide)
  have h92 : rn s i ≠ 92 := by intro e; rw [e] at h; exact absurd h (by decide)
  generalize rn s i = r at *
  obtain ⟨t, ht⟩ : ∃ t, p ++ (encL (r : Int) ++ rest) = t := ⟨_, rfl⟩
  have hpos := encL_pos (r : Int)
  have hsz : p.length < (ofL t).size := by rw [← ht, ofL_size]; simp; omega
  rw [ht] at hd ho ⊢
  have hrn : rn (ofL t) p.length = r := rn_of hd
  have hwd : wd (ofL t) p.length = (encL (r : Int)).length := wd_of hd
  have n34 : by_ (ofL t) p.length ≠ 34 := fun e => h34 (by rw [← hrn, (by_low (ofL t) p.length (by omega)).1, e])
  have n92 : by_ (ofL t) p.length ≠ 92 := fun e => h92 (by rw [← hrn, (by_low (ofL t) p.length (by omega)).1, e])
  have hraw : rawB (ofL t) p.length = false := by unfold rawB; rw [hrn, ho, decide_eq_false (by omega), decide_eq_false (by omega)]; rfl
  rw [rdA_rune hsz n34 n92 hraw, hrn, hwd]

/-- WHAT IS READ OF A PIECE IN QUOTES IS THE PIECE. -/
theorem rd_piece {s : ByteArray} {i : Nat} (hi : i < s.size) (p rest acc : List UInt8) :
    rdA (ofL (p ++ (qP s i ++ rest))) p.length acc = rdA (ofL (p ++ (qP s i ++ rest))) (p.length + (qP s i).length) (acc ++ subL s i (wd s i)) := by
  by_cases h : ltN (rn s i) = 0
  · cases hr : rawB s i with
    | true => exact rd_raw hi h hr p rest acc
    | false =>
      cases hh : hidN (rn s i) with
      | true => exact rd_hid hi h hr hh p rest acc
      | false => exact rd_self hi h hr hh p rest acc
  · exact rd_lt hi h p rest acc

theorem rd_from (s : ByteArray) : ∀ (n i : Nat) (p acc : List UInt8), s.size - i ≤ n → i ≤ s.size → rdA (ofL (p ++ (qL s (frm s i) ++ [34]))) p.length acc = (acc ++ s.data.toList.drop i, p.length + (qL s (frm s i)).length + 1, true)
  | 0, i, p, acc, h, hi => by
    have he : ¬ i < s.size := by omega
    have hl : s.data.toList.length = s.size := by simp
    rw [frm_end s i he, List.drop_eq_nil_of_le (by omega)]
    simp only [qL, List.flatMap_nil, List.nil_append, List.append_nil, List.length_nil, Nat.add_zero]
    exact rdA_quote (by rw [ofL_size]; simp) (by_app p [34] 0 34 rfl)
  | n + 1, i, p, acc, h, hi => by
    by_cases hlt : i < s.size
    · have hw := wd_pos s i hlt
      have hw2 := wd_le s i hlt
      rw [frm_step s i hlt, show qL s (i :: frm s (i + wd s i)) = qP s i ++ qL s (frm s (i + wd s i)) from rfl, List.append_assoc, rd_piece hlt]
      have ih := rd_from s n (i + wd s i) (p ++ qP s i) (acc ++ subL s i (wd s i)) (by omega) hw2.1
      rw [List.append_assoc, List.length_append] at ih
      rw [ih]
      have e : subL s i (wd s i) ++ s.data.toList.drop (i + wd s i) = s.data.toList.drop i := by
        rw [subL, ← List.drop_drop, List.take_append_drop]
      rw [List.append_assoc, e]
      simp; omega
    · have hl : s.data.toList.length = s.size := by simp
      rw [frm_end s i hlt, List.drop_eq_nil_of_le (by omega)]
      simp only [qL, List.flatMap_nil, List.nil_append, List.append_nil, List.length_nil, Nat.add_zero]
      exact rdA_quote (by rw [ofL_size]; simp) (by_app p [34] 0 34 rfl)

/-- THERE AND BACK. -/
theorem rd_quoted (s : ByteArray) : rdE (qT s) 1 = (s.data.toList, (qT s).size, true) := by
  have := rd_from s s.size 0 [34] [] (by omega) (by omega)
  rw [← allL_frm] at this
  rw [rdA_zero]
  have e : qT s = ofL ([34] ++ (qL s (allL s) ++ [34])) := rfl
  rw [← e] at this
  rw [show ([34] : List UInt8).length = 1 from rfl] at this
  rw [this]
  have hz : (qT s).size = 1 + (qL s (allL s)).length + 1 := by rw [e, ofL_size]; simp; omega
  rw [hz]
  simp
theorem qT_size (s : ByteArray) : (qT s).size = (qL s (allL s)).length + 2 := by unfold qT; rw [ofL_size]; simp
theorem qT_head (s : ByteArray) : by_ (qT s) 0 = 34 := by
  have := by_app [] (34 :: (qL s (allL s) ++ [34])) 0 34 rfl
  simpa [qT] using this
theorem uq_quoted (s : ByteArray) : uqOk (qT s) = true ∧ uqT (qT s) = s ∧ uqN (qT s) = 0 ∧ uqE (qT s) = 0 := by
  have h1 : uqOk (qT s) = true := by
    unfold uqOk
    rw [rd_quoted, decide_eq_true (by rw [qT_size]; omega), decide_eq_true (qT_head s)]
    simp
  refine ⟨h1, ?_, by unfold uqN; rw [h1]; rfl, by unfold uqE; rw [h1]; rfl⟩
  unfold uqT
  rw [h1, rd_quoted]
  exact ofL_of s
theorem qT_inj {s t : ByteArray} (h : qT s = qT t) : s = t := by rw [← (uq_quoted s).2.1, h, (uq_quoted t).2.1]

end Go.Proofs.YtkndjbmlkfpfoaaGreatDoor

/-
  Plain facts: a text in quotes is good, of one line, and no beginning of it is one.
-/
set_option linter.unusedSimpArgs false
set_option linter.unusedVariables false
namespace Go.Proofs.YtkndjbmlkfpfoaaGreatDoor
open Go.Lib

def startsL : Nat → List Int → List Nat
  | _, [] => []
  | i, n :: ns => i :: startsL (i + (encL n).length) ns

theorem posL_laid : ∀ (ns : List Int) (p : List UInt8) (f : Nat), (ns.flatMap encL).length ≤ f →
    posL (ofL (p ++ ns.flatMap encL)) f p.length = startsL p.length ns
  | [], p, f, _ => by rw [posL_end _ _ _ (by rw [ofL_size]; simp)]; rfl
  | n :: ns, p, f, hf => by
    have hp := encL_pos n
    rw [List.flatMap_cons] at hf ⊢
    rw [List.length_append] at hf
    obtain ⟨g, rfl⟩ : ∃ g, f = g + 1 := ⟨f - 1, by omega⟩
    have hd := (dec_enc p (ns.flatMap encL) n).1
    rw [posL_step _ _ _ (by rw [ofL_size]; simp; omega), wd_of hd]
    have ih := posL_laid ns (p ++ encL n) g (by omega)
    rw [List.append_assoc, List.length_append] at ih
    rw [ih]; rfl

theorem rn_laid : ∀ (ns : List Int) (p : List UInt8), (startsL p.length ns).map (fun i => (rn (ofL (p ++ ns.flatMap encL)) i : Int)) = ns.map (fun n => (fixN n : Int)) ∧ ∀ i ∈ startsL p.length ns, okR (ofL (p ++ ns.flatMap encL)) i = true
  | [], p => by simp [startsL]
  | n :: ns, p => by
    have hd := dec_enc p (ns.flatMap encL) n
    have ih := rn_laid ns (p ++ encL n)
    rw [List.append_assoc, List.length_append] at ih
    rw [List.flatMap_cons]
    constructor
    · rw [show startsL p.length (n :: ns) = p.length :: startsL (p.length + (encL n).length) ns from rfl, List.map_cons, List.map_cons, ih.1, rn_of hd.1]
    · intro i hi
      rcases List.mem_cons.1 hi with rfl | hi
      · exact hd.2
      · exact ih.2 i hi


/-- a text that is runes encoded -/
def Gd (l : List UInt8) : Prop := ∃ ns : List Int, l = ns.flatMap encL
theorem Gd.nil : Gd [] := ⟨[], rfl⟩
theorem Gd.app {a b : List UInt8} (h : Gd a) (k : Gd b) : Gd (a ++ b) := by
  obtain ⟨ns, rfl⟩ := h
  obtain ⟨ms, rfl⟩ := k
  exact ⟨ns ++ ms, by simp⟩
theorem Gd.low (x : UInt8) (h : x.toNat < 128) : Gd [x] := ⟨[(x.toNat : Int)], by simp [enc1 x.toNat h]⟩
theorem Gd.lows : ∀ (l : List UInt8), (∀ x ∈ l, x.toNat < 128) → Gd l
  | [], _ => Gd.nil
  | x :: l, h => Gd.app (a := [x]) (Gd.low x (h x (List.mem_cons_self ..))) (Gd.lows l (fun y hy => h y (List.mem_cons_of_mem _ hy)))
theorem Gd.enc (n : Int) : Gd (encL n) := ⟨[n], by simp⟩
theorem hxD_low (n : Nat) (h : n < 16) : 32 ≤ (hxD n).toNat ∧ (hxD n).toNat < 127 := by rw [hxD_nat n h]; split <;> omega

/-- what may stand on one line -/
def Ln (x : UInt8) : Prop := 32 ≤ x.toNat ∧ x.toNat ≠ 127
theorem ln_dec (n : Nat) (h : 32 ≤ n ∧ n ≠ 127 ∧ n < 256) : Ln (UInt8.ofNat n) := by unfold Ln; rw [u8n n h.2.2]; omega
theorem ux_low (r : Nat) : ∀ x ∈ uxL r, Ln x ∧ x.toNat < 128 := by
  intro x hx
  unfold uxL at hx
  simp only [List.mem_cons, List.mem_append, List.not_mem_nil, or_false] at hx
  rcases hx with rfl | rfl | rfl | hx | rfl
  · exact ⟨⟨by decide, by decide⟩, by decide⟩
  · exact ⟨⟨by decide, by decide⟩, by decide⟩
  · exact ⟨⟨by decide, by decide⟩, by decide⟩
  · unfold hxL at hx
    rw [hxF_map] at hx
    obtain ⟨d, hd, rfl⟩ := List.mem_map.1 hx
    have := hxD_low d (dgF_lt _ _ d hd)
    exact ⟨⟨by omega, by omega⟩, by omega⟩
  · exact ⟨⟨by decide, by decide⟩, by decide⟩
theorem bx_low (b : Nat) (h : b < 256) : ∀ x ∈ bxL b, Ln x ∧ x.toNat < 128 := by
  intro x hx
  unfold bxL at hx
  simp only [List.mem_cons, List.not_mem_nil, or_false] at hx
  rcases hx with rfl | rfl | rfl | rfl
  · exact ⟨⟨by decide, by decide⟩, by decide⟩
  · exact ⟨⟨by decide, by decide⟩, by decide⟩
  · have := hxD_low (b / 16) (by omega)
    exact ⟨⟨by omega, by omega⟩, by omega⟩
  · have := hxD_low (b % 16) (by omega)
    exact ⟨⟨by omega, by omega⟩, by omega⟩
theorem enc_ln (c : Nat) (hv : c < 55296 ∨ (57344 ≤ c ∧ c ≤ 1114111)) (h : 32 ≤ c ∧ c ≠ 127) : ∀ x ∈ encL (c : Int), Ln x := by
  intro x hx
  by_cases h1 : c < 128
  · rw [enc1 c h1] at hx
    simp only [List.mem_cons, List.not_mem_nil, or_false] at hx
    subst hx; exact ln_dec c (by omega)
  · by_cases h2 : c < 2048
    · rw [enc2 c h1 h2] at hx
      simp only [List.mem_cons, List.not_mem_nil, or_false] at hx
      rcases hx with rfl | rfl <;> exact ln_dec _ (by omega)
    · by_cases h3 : c < 65536
      · rw [enc3 c h2 h3 (by omega)] at hx
        simp only [List.mem_cons, List.not_mem_nil, or_false] at hx
        rcases hx with rfl | rfl | rfl <;> exact ln_dec _ (by omega)
      · rw [enc4 c h3 (by omega)] at hx
        simp only [List.mem_cons, List.not_mem_nil, or_false] at hx
        rcases hx with rfl | rfl | rfl | rfl <;> exact ln_dec _ (by omega)
theorem qP_good (s : ByteArray) (i : Nat) (hi : i < s.size) : Gd (qP s i) ∧ ∀ x ∈ qP s i, Ln x := by
  unfold qP
  split
  · rename_i h
    have hc : ltN (rn s i) = 34 ∨ ltN (rn s i) = 92 ∨ ltN (rn s i) = 110 ∨ ltN (rn s i) = 114 ∨ ltN (rn s i) = 116 := by unfold ltN at *; (repeat' split at h) <;> simp_all
    have hl : ∀ x ∈ ([92, UInt8.ofNat (ltN (rn s i))] : List UInt8), Ln x ∧ x.toNat < 128 := by
      intro x hx
      simp only [List.mem_cons, List.not_mem_nil, or_false] at hx
      rcases hx with rfl | rfl
      · exact ⟨⟨by decide, by decide⟩, by decide⟩
      · refine ⟨ln_dec _ (by omega), ?_⟩
        rw [u8n _ (by omega)]; omega
    exact ⟨Gd.lows _ (fun x hx => (hl x hx).2), fun x hx => (hl x hx).1⟩
  · split
    · exact ⟨Gd.lows _ (fun x hx => (bx_low _ (by_lt s i) x hx).2), fun x hx => (bx_low _ (by_lt s i) x hx).1⟩
    · rename_i hr
      split
      · exact ⟨Gd.lows _ (fun x hx => (ux_low _ x hx).2), fun x hx => (ux_low _ x hx).1⟩
      · unfold rawB at hr
        simp at hr
        exact ⟨Gd.enc _, enc_ln _ (rn_valid s i hi) (by omega)⟩
theorem qL_good (s : ByteArray) : ∀ (l : List Nat), (∀ i ∈ l, i < s.size) → Gd (qL s l) ∧ ∀ x ∈ qL s l, Ln x
  | [], _ => ⟨Gd.nil, fun x hx => by cases hx⟩
  | i :: l, h => by
    have h1 := qP_good s i (h i (List.mem_cons_self ..))
    have h2 := qL_good s l (fun j hj => h j (List.mem_cons_of_mem _ hj))
    refine ⟨Gd.app (a := qP s i) h1.1 h2.1, fun x hx => ?_⟩
    rcases List.mem_append.1 (show x ∈ qP s i ++ qL s l from hx) with h3 | h3
    · exact h1.2 x h3
    · exact h2.2 x h3
theorem qT_good (s : ByteArray) : (∃ ns : List Int, qT s = ofL (ns.flatMap encL)) ∧ ∀ j, j < (qT s).size → 32 ≤ by_ (qT s) j ∧ by_ (qT s) j ≠ 127 := by
  have h := qL_good s (allL s) (fun i hi => (mem_allL.1 hi).1)
  have hq : ∀ x ∈ (34 :: (qL s (allL s) ++ [34])), Ln x := by
    intro x hx
    simp only [List.mem_cons, List.mem_append, List.not_mem_nil, or_false] at hx
    rcases hx with rfl | hx | rfl
    · exact ⟨by decide, by decide⟩
    · exact h.2 x hx
    · exact ⟨by decide, by decide⟩
  refine ⟨?_, fun j hj => ?_⟩
  · obtain ⟨ns, hns⟩ := Gd.app (a := [34]) (Gd.low 34 (by decide)) (Gd.app h.1 (Gd.low 34 (by decide)))
    exact ⟨ns, by unfold qT; rw [← hns]; rfl⟩
  · unfold qT at hj ⊢
    rw [ofL_size] at hj
    rw [by_list _ j hj]
    exact hq _ (List.getElem_mem hj)
theorem ok_all (ns : List Int) : ∀ i ∈ allL (ofL (ns.flatMap encL)), okR (ofL (ns.flatMap encL)) i = true := by
  have h1 := posL_laid ns [] (ofL (ns.flatMap encL)).size (by rw [ofL_size]; exact Nat.le_refl _)
  have h2 := (rn_laid ns []).2
  simp only [List.nil_append, List.length_nil] at h1 h2
  intro i hi
  unfold allL at hi
  rw [h1] at hi
  exact h2 i hi
theorem qT_ok (s : ByteArray) : ∀ i ∈ allL (qT s), okR (qT s) i = true := by
  obtain ⟨ns, e⟩ := (qT_good s).1
  rw [e]; exact ok_all ns

/-- a beginning of a text -/
theorem pre_by (q : ByteArray) (n j : Nat) (h : j < n) (hn : n ≤ q.size) : by_ (q.extract 0 n) j = by_ q j := by
  have := by_ext q 0 n j hn (by omega)
  rwa [Nat.zero_add] at this
theorem hxR_pre (q : ByteArray) (n i : Nat) (hn : n ≤ q.size) : ∀ (f m k : Nat), (i + (hxR (q.extract 0 n) i f m k).2 < n ∨ (hxR (q.extract 0 n) i f m k).2 = k + f) → hxR q i f m k = hxR (q.extract 0 n) i f m k
  | 0, m, k, _ => rfl
  | f + 1, m, k, h => by
    have hz : (q.extract 0 n).size = n := by rw [size_ext q 0 n hn]; omega
    by_cases hc : i + k < n ∧ dgV (by_ (q.extract 0 n) (i + k)) < 16
    · have e : hxR (q.extract 0 n) i (f + 1) m k = hxR (q.extract 0 n) i f (16 * m + dgV (by_ (q.extract 0 n) (i + k))) (k + 1) := hxR_step (by rw [hz]; exact hc.1) hc.2
      rw [e] at h ⊢
      have hb := pre_by q n (i + k) hc.1 hn
      rw [hxR_step (by omega) (by rw [← hb]; exact hc.2), ← hb]
      exact hxR_pre q n i hn f _ _ (by omega)
    · have e : hxR (q.extract 0 n) i (f + 1) m k = (m, k) := hxR_stop (by rw [hz]; exact hc)
      rw [e] at h ⊢
      simp only at h
      have hlt : i + k < n := by omega
      exact hxR_stop (fun x => hc ⟨hlt, by rw [pre_by q n (i + k) hlt hn]; exact x.2⟩)
theorem escE_pre {q : ByteArray} {n i : Nat} (hn : n ≤ q.size) {x : List UInt8} {k : Nat} (h : escE (q.extract 0 n) i = some (x, k)) : escE q i = some (x, k) := by
  have hz : (q.extract 0 n).size = n := by rw [size_ext q 0 n hn]; omega
  have hk := escE_n h
  rw [hz] at hk
  unfold escE at h ⊢
  rw [hz] at h
  have h1 : i + 1 < n := by omega
  rw [if_pos h1] at h
  rw [if_pos (by omega)]
  rw [pre_by q n (i + 1) h1 hn] at h
  by_cases c1 : by_ q (i + 1) = 34
  · rw [if_pos c1] at h ⊢; exact h
  rw [if_neg c1] at h ⊢
  by_cases c2 : by_ q (i + 1) = 92
  · rw [if_pos c2] at h ⊢; exact h
  rw [if_neg c2] at h ⊢
  by_cases c3 : by_ q (i + 1) = 110
  · rw [if_pos c3] at h ⊢; exact h
  rw [if_neg c3] at h ⊢
  by_cases c4 : by_ q (i + 1) = 114
  · rw [if_pos c4] at h ⊢; exact h
  rw [if_neg c4] at h ⊢
  by_cases c5 : by_ q (i + 1) = 116
  · rw [if_pos c5] at h ⊢; exact h
  rw [if_neg c5] at h ⊢
  by_cases c6 : by_ q (i + 1) = 120
  · rw [if_pos c6] at h ⊢
    unfold byteE at h ⊢
    by_cases c7 : (hxR (q.extract 0 n) (i + 2) 2 0 0).2 = 2
    · rw [hxR_pre q n (i + 2) hn 2 0 0 (.inr (by omega))]; exact h
    · rw [if_neg c7] at h; cases h
  rw [if_neg c6] at h ⊢
  by_cases c7 : by_ q (i + 1) = 117 ∧ i + 2 < n ∧ by_ (q.extract 0 n) (i + 2) = 123
  · rw [if_pos c7] at h
    have hb2 := pre_by q n (i + 2) c7.2.1 hn
    rw [if_pos ⟨c7.1, by omega, by rw [← hb2]; exact c7.2.2⟩]
    unfold runeE at h ⊢
    simp only [hz] at h ⊢
    by_cases c8 : (hxR (q.extract 0 n) (i + 3) 6 0 0).2 = 0 ∨ (1 < (hxR (q.extract 0 n) (i + 3) 6 0 0).2 ∧ by_ (q.extract 0 n) (i + 3) = 48)
    · rw [if_pos c8] at h; cases h
    · rw [if_neg c8] at h
      by_cases c9 : i + 3 + (hxR (q.extract 0 n) (i + 3) 6 0 0).2 < n ∧ by_ (q.extract 0 n) (i + 3 + (hxR (q.extract 0 n) (i + 3) 6 0 0).2) = 125 ∧ Utf8.valid ((hxR (q.extract 0 n) (i + 3) 6 0 0).1 : Int) = true
      · rw [if_pos c9] at h
        have e := hxR_pre q n (i + 3) hn 6 0 0 (.inl c9.1)
        rw [e]
        have hb3 := pre_by q n (i + 3) (by omega) hn
        have hbk := pre_by q n (i + 3 + (hxR (q.extract 0 n) (i + 3) 6 0 0).2) c9.1 hn
        rw [if_neg (by rw [← hb3]; exact c8), if_pos ⟨by omega, by rw [← hbk]; exact c9.2.1, c9.2.2⟩]
        exact h
      · rw [if_neg c9] at h; cases h
  · rw [if_neg c7] at h; cases h
theorem rdA_pre {q : ByteArray} {n : Nat} (hn : n ≤ q.size) (f : Nat) : ∀ (i : Nat) (acc x : List UInt8) (e : Nat), n - i ≤ f → rdA (q.extract 0 n) i acc = (x, e, true) → rdA q i acc = (x, e, true) := by
  have hz : (q.extract 0 n).size = n := by rw [size_ext q 0 n hn]; omega
  induction f with
  | zero =>
    intro i acc x e h hr
    rw [rdA_end (by rw [hz]; omega)] at hr
    cases hr
  | succ f IH =>
    intro i acc x e h hr
    by_cases hi : i < n
    · have hi' : i < (q.extract 0 n).size := by rw [hz]; exact hi
      have hb := pre_by q n i hi hn
      by_cases c34 : by_ q i = 34
      · rw [rdA_quote hi' (by rw [hb]; exact c34)] at hr
        rw [rdA_quote (by omega) c34]; exact hr
      · by_cases c92 : by_ q i = 92
        · cases he : escE (q.extract 0 n) i with
          | none => rw [rdA_none hi' (by rw [hb]; exact c92) he] at hr; cases hr
          | some v =>
            obtain ⟨y, k⟩ := v
            have hk := escE_n he
            rw [rdA_some hi' (by rw [hb]; exact c92) he] at hr
            rw [rdA_some (by omega) c92 (escE_pre hn he)]
            exact IH _ _ _ _ (by omega) hr
        · cases hrw : rawB (q.extract 0 n) i with
          | true => rw [rdA_raw hi' (by rw [hb]; exact c34) (by rw [hb]; exact c92) hrw] at hr; cases hr
          | false =>
            have ho : okR (q.extract 0 n) i = true := by unfold rawB at hrw; simp at hrw; exact hrw.2
            have hd := dec_up q 0 n i hn (by omega) ho
            rw [Nat.zero_add] at hd
            have hrn : rn (q.extract 0 n) i = rn q i := by unfold rn; rw [hd]
            have hwd : wd (q.extract 0 n) i = wd q i := by unfold wd; rw [hd]
            have hok : okR (q.extract 0 n) i = okR q i := by unfold okR; rw [hrn, hwd]
            have hraw2 : rawB q i = false := by unfold rawB at hrw ⊢; rw [← hrn, ← hok]; exact hrw
            have hw := wd_pos (q.extract 0 n) i hi'
            rw [rdA_rune hi' (by rw [hb]; exact c34) (by rw [hb]; exact c92) hrw, hrn, hwd] at hr
            rw [rdA_rune (by omega) c34 c92 hraw2]
            exact IH _ _ _ _ (by omega) hr
    · rw [rdA_end (by rw [hz]; exact hi)] at hr
      cases hr
/-- NO BEGINNING OF A TEXT IN QUOTES IS ONE. -/
theorem uq_pre (s : ByteArray) (n : Nat) (hn : n < (qT s).size) : uqT ((qT s).extract 0 n) = ofL [] ∧ uqN ((qT s).extract 0 n) ≤ n ∧ uqE ((qT s).extract 0 n) = 18 := by
  have hz : ((qT s).extract 0 n).size = n := by rw [size_ext (qT s) 0 n (by omega)]; omega
  have hO : uqOk ((qT s).extract 0 n) = false := by
    cases h : uqOk ((qT s).extract 0 n) with
    | false => rfl
    | true =>
      unfold uqOk at h
      simp only [Bool.and_eq_true, decide_eq_true_eq] at h
      obtain ⟨⟨⟨h1, h2⟩, h3⟩, h4⟩ := h
      obtain ⟨x, e, o, hx⟩ : ∃ x e o, rdE ((qT s).extract 0 n) 1 = (x, e, o) := ⟨_, _, _, rfl⟩
      rw [hx] at h3 h4
      simp only at h3 h4
      subst h3
      have := rdA_pre (q := qT s) (n := n) (by omega) n 1 [] x e (by omega) hx
      rw [← rdA_zero, rd_quoted] at this
      have e2 : (qT s).size = e := by injection this with _ h; injection h
      rw [hz] at h4
      omega
  refine ⟨by unfold uqT; rw [hO]; rfl, ?_, by unfold uqE; rw [hO]; rfl⟩
  unfold uqN
  rw [hO]
  simp only [Bool.false_eq_true, if_false]
  split
  · rename_i h0
    have hb := rdA_bounds ((qT s).extract 0 n) n 1 [] (by rw [hz]; omega) (by omega)
    rw [← rdA_zero, hz] at hb
    exact hb.1
  · exact Nat.zero_le _

end Go.Proofs.YtkndjbmlkfpfoaaGreatDoor
