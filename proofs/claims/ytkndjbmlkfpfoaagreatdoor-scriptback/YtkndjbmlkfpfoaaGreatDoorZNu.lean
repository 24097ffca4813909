/-
  Numbers in their one decimal form. Pure.
-/
import Derived.Test.YtkndjbmlkfpfoaaGreatDoorZShelf2ToSc4
import Derived.Lib.ParseIntBCases

set_option linter.unusedSimpArgs false
set_option linter.unusedVariables false
namespace Go.Proofs.YtkndjbmlkfpfoaaGreatDoor
open Go.RowKit Go.Lib

/-- what digits spell -/
def dv (acc : Nat) : List UInt8 → Nat
  | [] => acc
  | c :: r => dv (acc * 10 + (c.toNat - 48)) r
def isDg (c : UInt8) : Prop := 48 ≤ c.toNat ∧ c.toNat ≤ 57
theorem dv_append : ∀ (l m : List UInt8) (acc : Nat), dv acc (l ++ m) = dv (dv acc l) m
  | [], m, acc => rfl
  | c :: l, m, acc => dv_append l m _
theorem dv_ge : ∀ (l : List UInt8) (acc : Nat), acc ≤ dv acc l
  | [], acc => Nat.le_refl _
  | c :: l, acc => by
    have := dv_ge l (acc * 10 + (c.toNat - 48))
    show acc ≤ dv (acc * 10 + (c.toNat - 48)) l
    omega
theorem of48 {u : Nat} (h : u < 10) : (UInt8.ofNat (48 + u)).toNat = 48 + u := by
  rw [UInt8.toNat_ofNat']
  omega
theorem dd_small {u : Nat} (h : u < 10) : decDigits u = [UInt8.ofNat (48 + u)] := by rw [decDigits, dif_pos h]
theorem dd_big {u : Nat} (h : ¬ u < 10) : decDigits u = decDigits (u / 10) ++ [UInt8.ofNat (48 + u % 10)] := by rw [decDigits, dif_neg h]
theorem dd_ne (u : Nat) : decDigits u ≠ [] := by
  intro e
  have := decDigits_length u
  rw [e] at this
  have := nDigits_pos u
  simp at *
  omega
theorem dd_all (u : Nat) : ∀ c ∈ decDigits u, isDg c := by
  induction u using Nat.strongRecOn with
  | _ u ih =>
    by_cases h : u < 10
    · rw [dd_small h]
      intro c hc
      rw [List.mem_singleton] at hc
      subst hc
      unfold isDg
      rw [of48 h]
      omega
    · rw [dd_big h]
      intro c hc
      rcases List.mem_append.1 hc with hc | hc
      · exact ih (u / 10) (by omega) c hc
      · rw [List.mem_singleton] at hc
        subst hc
        unfold isDg
        rw [of48 (by omega)]
        omega
theorem dd_val (u : Nat) : dv 0 (decDigits u) = u := by
  induction u using Nat.strongRecOn with
  | _ u ih =>
    by_cases h : u < 10
    · rw [dd_small h]
      show 0 * 10 + ((UInt8.ofNat (48 + u)).toNat - 48) = u
      rw [of48 h]
      omega
    · rw [dd_big h, dv_append, ih (u / 10) (by omega)]
      show u / 10 * 10 + ((UInt8.ofNat (48 + u % 10)).toNat - 48) = u
      rw [of48 (by omega)]
      omega
theorem parse_dv : ∀ (l : List UInt8) (acc : Nat), (∀ c ∈ l, isDg c) → dv acc l ≤ 18446744073709551615 → parseUintM 18446744073709551615 acc l = .ok (dv acc l)
  | [], acc, _, _ => rfl
  | c :: l, acc, hd, hv => by
    have hc := hd c (by simp)
    have h1 := dv_ge l (acc * 10 + (c.toNat - 48))
    have h2 : dv acc (c :: l) = dv (acc * 10 + (c.toNat - 48)) l := rfl
    rw [h2] at hv ⊢
    unfold parseUintM
    rw [if_pos ⟨hc.1, hc.2⟩, if_neg (by omega), if_neg (by omega)]
    exact parse_dv l _ (fun x hx => hd x (by simp [hx])) hv
theorem parse_dd (u : Nat) (h : u ≤ 18446744073709551615) : parseUintB 64 (decDigits u) = .ok u := by
  unfold parseUintB
  rw [if_neg (dd_ne u), show (2 ^ 64 - 1 : Nat) = 18446744073709551615 from rfl, parse_dv _ _ (dd_all u) (by rw [dd_val]; exact h), dd_val]
theorem parse_itoa (v : Int) (h1 : -9223372036854775808 ≤ v) (h2 : v ≤ 9223372036854775807) : parseIntB 64 (itoa v) = .ok v := by
  unfold itoa
  by_cases hn : v < 0
  · rw [if_pos hn, parseIntB_minus, parse_dd _ (by omega)]
    unfold signedC
    simp only
    rw [if_neg (by rw [show (2 ^ (64 - 1) : Nat) = 9223372036854775808 from rfl]; omega), show -((v.natAbs : Nat) : Int) = v by omega]
  · rw [if_neg hn]
    obtain ⟨c, r, e⟩ : ∃ c r, decDigits v.toNat = c :: r := by
      cases hd : decDigits v.toNat with
      | nil => exact absurd hd (dd_ne _)
      | cons c r => exact ⟨c, r, rfl⟩
    have hc := dd_all v.toNat c (by rw [e]; simp)
    rw [e, parseIntB_plain 64 c r (by have := hc.1; omega) (by have := hc.1; omega), ← e, parse_dd _ (by omega)]
    unfold signlessC
    simp only
    rw [if_neg (by rw [show (2 ^ (64 - 1) : Nat) = 9223372036854775808 from rfl]; omega), show ((v.toNat : Nat) : Int) = v by omega]
/-- decN: the number whose one form a text is -/
theorem decN_itoa {t : ByteArray} {v : Int} (h1 : -9223372036854775808 ≤ v) (h2 : v ≤ 9223372036854775807) (ht : t.data.toList = itoa v) : decN t = some v := by
  unfold decN
  rw [ht, parse_itoa v h1 h2]
  simp only [if_true]
theorem decN_some {t : ByteArray} {v : Int} (h : decN t = some v) : t.data.toList = itoa v ∧ -9223372036854775808 ≤ v ∧ v ≤ 9223372036854775807 := by
  unfold decN at h
  rcases hc : parseIntB 64 t.data.toList with u | _ | _
  · rw [hc] at h
    simp only at h
    by_cases he : itoa u = t.data.toList
    · rw [if_pos he] at h
      cases h
      have hb := parseIntB_bounds hc
      rw [show (2 ^ (64 - 1) : Nat) = 9223372036854775808 from rfl] at hb
      exact ⟨he.symm, by omega, by omega⟩
    · rw [if_neg he] at h; cases h
  · rw [hc] at h; cases h
  · rw [hc] at h; cases h
/-- the document's number -/
def magD (d : List UInt8) : Option Nat := if 19 < d.length ∨ (1 < d.length ∧ d.head? = some 48) then none else if d.all (fun c => decide (48 ≤ c.toNat ∧ c.toNat ≤ 57)) = true then some (dv 0 d) else none
def numD (l : List UInt8) : Option Int :=
  if l.head? = some 45 then
    if l.tail.head? = some 48 then none else match magD l.tail with
      | none => none
      | some n => if 9223372036854775808 < n then none else some (-(n : Int))
  else match magD l with
    | none => none
    | some n => if n < 9223372036854775808 then some (n : Int) else none
end Go.Proofs.YtkndjbmlkfpfoaaGreatDoor
