/-
  Numbers in their one decimal form. Pure.
-/
import Derived.Test.YtkndjbmlkfpfoaaGreatDoorZShelf2ToSc4
import Derived.Lib.ParseIntBCases

set_option linter.unusedSimpArgs false
set_option linter.unusedVariables false
namespace Go.Proofs.YtkndjbmlkfpfoaaGreatDoor
open Go.RowKit Go.Lib

/-- what digits spell -/
def dv (acc : Nat) : List UInt8 → Nat
  | [] => acc
  | c :: r => dv (acc * 10 + (c.toNat - 48)) r
def isDg (c : UInt8) : Prop := 48 ≤ c.toNat ∧ c.toNat ≤ 57
theorem dv_append : ∀ (l m : List UInt8) (acc : Nat), dv acc (l ++ m) = dv (dv acc l) m
  | [], m, acc => rfl
  | c :: l, m, acc => dv_append l m _
theorem dv_ge : ∀ (l : List UInt8) (acc : Nat), acc ≤ dv acc l
  | [], acc => Nat.le_refl _
  | c :: l, acc => by
    have := dv_ge l (acc * 10 + (c.toNat - 48))
    show acc ≤ dv (acc * 10 + (c.toNat - 48)) l
    omega
theorem of48 {u : Nat} (h : u < 10) : (UInt8.ofNat (48 + u)).toNat = 48 + u := by
  rw [UInt8.toNat_ofNat']
  omega
theorem dd_small {u : Nat} (h : u < 10) : decDigits u = [UInt8.ofNat (48 + u)] := by rw [decDigits, dif_pos h]
theorem dd_big {u : Nat} (h : ¬ u < 10) : decDigits u = decDigits (u / 10) ++ [UInt8.ofNat (48 + u % 10)] := by rw [decDigits, dif_neg h]
theorem dd_ne (u : Nat) : decDigits u ≠ [] := by
  intro e
  have := decDigits_length u
  rw [e] at this
  have := nDigits_pos u
  simp at *
  omega
theorem dd_all (u : Nat) : ∀ c ∈ decDigits u, isDg c := by
  induction u using Nat.strongRecOn with
  | _ u ih =>
    by_cases h : u < 10
    · rw [dd_small h]
      intro c hc
      rw [List.mem_singleton] at hc
      subst hc
      unfold isDg
      rw [of48 h]
      omega
    · rw [dd_big h]
      intro c hc
      rcases List.mem_append.1 hc with hc | hc
      · exact ih (u / 10) (by omega) c hc
      · rw [List.mem_singleton] at hc
        subst hc
        unfold isDg
        rw [of48 (by omega)]
        omega
theorem dd_val (u : Nat) : dv 0 (decDigits u) = u := by
  induction u using Nat.strongRecOn with
  | _ u ih =>
    by_cases h : u < 10
    · rw [dd_small h]
      show 0 * 10 + ((UInt8.ofNat (48 + u)).toNat - 48) = u
      rw [of48 h]
      omega
    · rw [dd_big h, dv_append, ih (u / 10) (by omega)]
      show u / 10 * 10 + ((UInt8.ofNat (48 + u % 10)).toNat - 48) = u
      rw [of48 (by omega)]
      omega
theorem dd_head (u : Nat) (h : 1 ≤ u) : ∃ c r, decDigits u = c :: r ∧ c.toNat ≠ 48 := by
  induction u using Nat.strongRecOn with
  | _ u ih =>
    by_cases h1 : u < 10
    · refine ⟨_, [], dd_small h1, ?_⟩
      rw [of48 h1]
      omega
    · obtain ⟨c, r, e, hc⟩ := ih (u / 10) (by omega) (by omega)
      exact ⟨c, r ++ [UInt8.ofNat (48 + u % 10)], by rw [dd_big h1, e]; rfl, hc⟩
theorem dg_back {c : UInt8} (h : isDg c) : UInt8.ofNat (48 + (c.toNat - 48)) = c := by
  rw [show 48 + (c.toNat - 48) = c.toNat by have := h.1; omega]
  exact UInt8.ofNat_toNat
/-- the one form -/
theorem dd_canon : ∀ (k : Nat) (l : List UInt8), l.length = k → l ≠ [] → (∀ c ∈ l, isDg c) → (l.length = 1 ∨ ∀ c r, l = c :: r → c.toNat ≠ 48) → decDigits (dv 0 l) = l
  | 0, l, hk, hn, _, _ => absurd (List.eq_nil_of_length_eq_zero hk) hn
  | k + 1, l, hk, hn, hd, hc => by
    obtain ⟨m, c, rfl⟩ : ∃ m c, l = m ++ [c] := ⟨l.dropLast, l.getLast hn, (List.dropLast_concat_getLast hn).symm⟩
    have hcd : isDg c := hd c (by simp)
    have hv : dv 0 (m ++ [c]) = dv 0 m * 10 + (c.toNat - 48) := by rw [dv_append]; rfl
    rw [hv]
    cases m with
    | nil =>
      show decDigits (0 * 10 + (c.toNat - 48)) = [c]
      rw [Nat.zero_mul, Nat.zero_add, dd_small (by have := hcd.2; omega), dg_back hcd]
    | cons a m =>
      have ha : isDg a := hd a (by simp)
      have h48 : a.toNat ≠ 48 := by
        rcases hc with hc | hc
        · simp at hc
        · exact hc a (m ++ [c]) rfl
      have hpos : 1 ≤ dv 0 (a :: m) := by
        have := dv_ge m (0 * 10 + (a.toNat - 48))
        have := ha.1
        show 1 ≤ dv (0 * 10 + (a.toNat - 48)) m
        omega
      have h9 := hcd.2
      rw [dd_big (by omega), show (dv 0 (a :: m) * 10 + (c.toNat - 48)) / 10 = dv 0 (a :: m) by omega, show (dv 0 (a :: m) * 10 + (c.toNat - 48)) % 10 = c.toNat - 48 by omega, dg_back hcd,
        dd_canon k (a :: m) (by simp at hk ⊢; omega) (by simp) (fun x hx => hd x (by simp at hx ⊢; rcases hx with rfl | hx; exact .inl rfl; exact .inr (.inl hx))) (.inr (fun x r e => by cases e; exact h48))]
theorem parse_dv : ∀ (l : List UInt8) (acc : Nat), (∀ c ∈ l, isDg c) → dv acc l ≤ 18446744073709551615 → parseUintM 18446744073709551615 acc l = .ok (dv acc l)
  | [], acc, _, _ => rfl
  | c :: l, acc, hd, hv => by
    have hc := hd c (by simp)
    have h1 := dv_ge l (acc * 10 + (c.toNat - 48))
    have h2 : dv acc (c :: l) = dv (acc * 10 + (c.toNat - 48)) l := rfl
    rw [h2] at hv ⊢
    unfold parseUintM
    rw [if_pos ⟨hc.1, hc.2⟩, if_neg (by omega), if_neg (by omega)]
    exact parse_dv l _ (fun x hx => hd x (by simp [hx])) hv
theorem parse_dd (u : Nat) (h : u ≤ 18446744073709551615) : parseUintB 64 (decDigits u) = .ok u := by
  unfold parseUintB
  rw [if_neg (dd_ne u), show (2 ^ 64 - 1 : Nat) = 18446744073709551615 from rfl, parse_dv _ _ (dd_all u) (by rw [dd_val]; exact h), dd_val]
theorem parse_itoa (v : Int) (h1 : -9223372036854775808 ≤ v) (h2 : v ≤ 9223372036854775807) : parseIntB 64 (itoa v) = .ok v := by
  unfold itoa
  by_cases hn : v < 0
  · rw [if_pos hn, parseIntB_minus, parse_dd _ (by omega)]
    unfold signedC
    simp only
    rw [if_neg (by rw [show (2 ^ (64 - 1) : Nat) = 9223372036854775808 from rfl]; omega), show -((v.natAbs : Nat) : Int) = v by omega]
  · rw [if_neg hn]
    obtain ⟨c, r, e⟩ : ∃ c r, decDigits v.toNat = c :: r := by
      cases hd : decDigits v.toNat with
      | nil => exact absurd hd (dd_ne _)
      | cons c r => exact ⟨c, r, rfl⟩
    have hc := dd_all v.toNat c (by rw [e]; simp)
    rw [e, parseIntB_plain 64 c r (by have := hc.1; omega) (by have := hc.1; omega), ← e, parse_dd _ (by omega)]
    unfold signlessC
    simp only
    rw [if_neg (by rw [show (2 ^ (64 - 1) : Nat) = 9223372036854775808 from rfl]; omega), show ((v.toNat : Nat) : Int) = v by omega]
/-- decN: the number whose one form a text is -/
theorem decN_itoa {t : ByteArray} {v : Int} (h1 : -9223372036854775808 ≤ v) (h2 : v ≤ 9223372036854775807) (ht : t.data.toList = itoa v) : decN t = some v := by
  unfold decN
  rw [ht, parse_itoa v h1 h2]
  simp only [if_true]
theorem decN_some {t : ByteArray} {v : Int} (h : decN t = some v) : t.data.toList = itoa v ∧ -9223372036854775808 ≤ v ∧ v ≤ 9223372036854775807 := by
  unfold decN at h
  rcases hc : parseIntB 64 t.data.toList with u | _ | _
  · rw [hc] at h
    simp only at h
    by_cases he : itoa u = t.data.toList
    · rw [if_pos he] at h
      cases h
      have hb := parseIntB_bounds hc
      rw [show (2 ^ (64 - 1) : Nat) = 9223372036854775808 from rfl] at hb
      exact ⟨he.symm, by omega, by omega⟩
    · rw [if_neg he] at h; cases h
  · rw [hc] at h; cases h
  · rw [hc] at h; cases h
theorem dd_len {u : Nat} (h : u < 10000000000000000000) : (decDigits u).length ≤ 19 := by
  rw [decDigits_length]
  by_cases h0 : u < 10
  · rw [nDigits_small h0]; omega
  · have hp := nDigits_pos u
    have key : ∀ k u, u < 10 ^ k → nDigits u ≤ max k 1 := by
      intro k
      induction k with
      | zero => intro u hu; simp at hu; subst hu; rw [nDigits_small (by decide)]; decide
      | succ k ih =>
        intro u hu
        by_cases q : u < 10
        · rw [nDigits_small q]; omega
        · rw [nDigits_big q]
          rw [Nat.pow_succ] at hu
          have := ih (u / 10) (by omega)
          cases k with
          | zero => simp at hu; omega
          | succ k => omega
    have := key 19 u (by rw [show (10 ^ 19 : Nat) = 10000000000000000000 from rfl]; exact h)
    omega
/-- the document's number -/
def magD (d : List UInt8) : Option Nat := if 19 < d.length ∨ (1 < d.length ∧ d.head? = some 48) then none else if d.all (fun c => decide (48 ≤ c.toNat ∧ c.toNat ≤ 57)) = true then some (dv 0 d) else none
def numD (l : List UInt8) : Option Int :=
  if l.head? = some 45 then
    if l.tail.head? = some 48 then none else match magD l.tail with
      | none => none
      | some n => if 9223372036854775808 < n then none else some (-(n : Int))
  else match magD l with
    | none => none
    | some n => if n < 9223372036854775808 then some (n : Int) else none
theorem magD_dd {u : Nat} (h : u < 10000000000000000000) : magD (decDigits u) = some u := by
  unfold magD
  have hl := dd_len h
  have h2 : ¬ (1 < (decDigits u).length ∧ (decDigits u).head? = some 48) := by
    rintro ⟨q1, q2⟩
    by_cases h0 : u < 10
    · rw [dd_small h0] at q1; simp at q1
    · obtain ⟨c, r, e, hc⟩ := dd_head u (by omega)
      rw [e] at q2
      simp at q2
      subst q2
      exact hc rfl
  rw [if_neg (fun q => q.elim (fun q => by omega) h2), if_pos, dd_val]
  rw [List.all_eq_true]
  intro c hc
  have := dd_all u c hc
  simpa [isDg] using this
theorem magD_some {d : List UInt8} {n : Nat} (h : magD d = some n) (hd : d ≠ []) : decDigits n = d := by
  unfold magD at h
  split at h
  · cases h
  · rename_i h1
    split at h
    · rename_i h2
      cases h
      rw [List.all_eq_true] at h2
      refine dd_canon _ d rfl hd (fun c hc => by have := h2 c hc; simpa [isDg] using this) ?_
      by_cases q : d.length = 1
      · exact .inl q
      · refine .inr (fun c r e hc => h1 (.inr ⟨?_, ?_⟩))
        · have : 0 < d.length := List.length_pos_iff.2 hd
          omega
        · rw [e]
          simp only [List.head?_cons, Option.some.injEq]
          exact UInt8.toNat_inj.1 hc
    · cases h
theorem numD_itoa (v : Int) (h1 : -9223372036854775808 ≤ v) (h2 : v ≤ 9223372036854775807) : numD (itoa v) = some v := by
  unfold numD itoa
  by_cases hn : v < 0
  · rw [if_pos hn]
    rw [if_pos (show ((45 : UInt8) :: decDigits v.natAbs).head? = some 45 from rfl)]
    obtain ⟨c, r, e, hc⟩ := dd_head v.natAbs (by omega)
    have h48 : ¬ ((decDigits v.natAbs).head? = some 48) := by
      rw [e]
      intro q
      rw [List.head?_cons, Option.some.injEq] at q
      subst q
      exact hc rfl
    rw [if_neg (show ¬ (((45 : UInt8) :: decDigits v.natAbs).tail.head? = some 48) from h48), List.tail_cons, magD_dd (by omega)]
    simp only
    rw [if_neg (by omega), show -((v.natAbs : Nat) : Int) = v by omega]
  · rw [if_neg hn]
    have h45 : (decDigits v.toNat).head? ≠ some 45 := by
      intro q
      obtain ⟨c, r, e⟩ : ∃ c r, decDigits v.toNat = c :: r := by
        cases hd : decDigits v.toNat with
        | nil => exact absurd hd (dd_ne _)
        | cons c r => exact ⟨c, r, rfl⟩
      have hc := dd_all v.toNat c (by rw [e]; simp)
      rw [e] at q
      simp at q
      subst q
      have := hc.1
      simp at this
    rw [if_neg h45, magD_dd (by omega)]
    simp only
    rw [if_pos (by omega), show ((v.toNat : Nat) : Int) = v by omega]
theorem numD_some {l : List UInt8} {v : Int} (h : numD l = some v) (hl : l ≠ []) (ht : l.head? = some 45 → l.tail ≠ []) : l = itoa v ∧ -9223372036854775808 ≤ v ∧ v ≤ 9223372036854775807 := by
  unfold numD at h
  by_cases h45 : l.head? = some 45
  · rw [if_pos h45] at h
    obtain ⟨c, r, rfl⟩ : ∃ c r, l = c :: r := by
      cases l with
      | nil => exact absurd rfl hl
      | cons c r => exact ⟨c, r, rfl⟩
    simp at h45
    subst h45
    have hr := ht rfl
    simp only [List.tail_cons] at hr
    by_cases h48 : r.head? = some 48
    · rw [if_pos (show ((45 : UInt8) :: r).tail.head? = some 48 from h48)] at h; cases h
    · rw [if_neg (show ¬ (((45 : UInt8) :: r).tail.head? = some 48) from h48), List.tail_cons] at h
      cases hm : magD r with
      | none => rw [hm] at h; cases h
      | some n =>
        rw [hm] at h
        simp only at h
        by_cases hb : 9223372036854775808 < n
        · rw [if_pos hb] at h; cases h
        · rw [if_neg hb] at h
          have hd := magD_some hm hr
          have hn0 : n ≠ 0 := by
            intro q
            subst q
            rw [dd_small (by decide)] at hd
            exact h48 (by rw [← hd]; rfl)
          cases h
          refine ⟨?_, by omega, by omega⟩
          unfold itoa
          rw [if_pos (by omega), show (-(n : Int)).natAbs = n by omega, hd]
  · rw [if_neg h45] at h
    cases hm : magD l with
    | none => rw [hm] at h; cases h
    | some n =>
      rw [hm] at h
      simp only at h
      by_cases hb : n < 9223372036854775808
      · rw [if_pos hb] at h
        cases h
        refine ⟨?_, by omega, by omega⟩
        unfold itoa
        rw [if_neg (by omega), show ((n : Int)).toNat = n by omega, magD_some hm hl]
      · rw [if_neg hb] at h; cases h
/-- the program's and the document's number are one -/
theorem num_one (t : ByteArray) (hl : t.data.toList ≠ []) (ht : t.data.toList.head? = some 45 → t.data.toList.tail ≠ []) : numD t.data.toList = decN t := by
  cases h : decN t with
  | some v =>
    obtain ⟨e, h1, h2⟩ := decN_some h
    rw [e]
    exact numD_itoa v h1 h2
  | none =>
    cases h' : numD t.data.toList with
    | none => rfl
    | some v =>
      obtain ⟨e, h1, h2⟩ := numD_some h' hl ht
      rw [decN_itoa h1 h2 e] at h
      cases h

end Go.Proofs.YtkndjbmlkfpfoaaGreatDoor
