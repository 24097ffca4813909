/-
  The document's digits, number, said.
-/
import Derived.Test.YtkndjbmlkfpfoaaGreatDoorZTCToTI
import Derived.Test.YtkndjbmlkfpfoaaGreatDoorZTJToTM
import Derived.Test.YtkndjbmlkfpfoaaGreatDoorZQuToHx

set_option linter.unusedSimpArgs false
set_option linter.unusedVariables false
namespace Go.Proofs.YtkndjbmlkfpfoaaGreatDoor
open Go.RowKit Go.Lib

/-- a number's last digit -/
def dg1 (u : Nat) : UInt8 := UInt8.ofNat (48 + u % 10)
theorem nd_le : ∀ (k u : Nat), u < 10 ^ (k + 1) → nDigits u ≤ k + 1
  | 0, u, h => by rw [nDigits_small (by simpa using h)]; exact Nat.le_refl _
  | k + 1, u, h => by
    by_cases h1 : u < 10
    · rw [nDigits_small h1]; omega
    · rw [nDigits_big h1]
      have := nd_le k (u / 10) (by rw [Nat.pow_succ] at h; omega)
      omega
theorem app_ofL (a b : List UInt8) : ofL a ++ ofL b = ofL (a ++ b) := by
  apply ByteArray.ext
  simp [ofL]
/-- the digits that are still to be laid, ahead of those that are -/
def remD (u : Nat) (S : List UInt8) : List UInt8 := if u = 0 then S else decDigits u ++ S
theorem remD_step (u : Nat) (h : 0 < u) (S : List UInt8) : remD (u / 10) (dg1 u :: S) = remD u S := by
  show remD (u / 10) (UInt8.ofNat (48 + u % 10) :: S) = remD u S
  unfold remD
  rw [if_neg (show ¬ u = 0 by omega)]
  by_cases h1 : u < 10
  · rw [if_pos (by omega), decDigits_one h1, Nat.mod_eq_of_lt h1]; rfl
  · rw [if_neg (by omega)]
    conv => rhs; rw [decDigits, dif_neg h1]
    simp
theorem remD_first (u : Nat) : remD (u / 10) [dg1 u] = decDigits u := by
  by_cases h : u = 0
  · subst h
    unfold remD
    rw [if_pos (by omega), decDigits_one (by omega)]
    rfl
  · rw [remD_step u (by omega)]
    unfold remD
    rw [if_neg h, List.append_nil]
theorem remD_len (u : Nat) (S : List UInt8) : S.length ≤ (remD u S).length := by
  unfold remD
  split
  · exact Nat.le_refl _
  · rw [List.length_append]; omega
theorem itoa_of (n : Int) : itoa n = (if n < 0 then [45] else []) ++ decDigits n.natAbs := by
  unfold itoa
  by_cases h : n < 0
  · rw [if_pos h, if_pos h]; rfl
  · rw [if_neg h, if_neg h, show n.toNat = n.natAbs by omega]; rfl
theorem rby_one (W : World) (d : Nat) (hd : d ≤ 9) : RBy (W.alloc (.cells #[.int .u8 (48 + (d : Int))] 5)) (.slice (some ⟨W.heap.size, 0, none⟩) 1 1) [UInt8.ofNat (48 + d)] := by
  refine .inr ⟨W.heap.size, 0, 1, rfl, by simp, by simp, fun j x hx => ?_⟩
  have hx' := hx
  have hj : j = 0 := by
    have := (List.getElem?_eq_some_iff.1 hx).1
    simp [Lib.byteCells] at this
    omega
  subst hj
  have e : (UInt8.ofNat (48 + d)).toNat = 48 + d := by simp [UInt8.toNat_ofNat]; omega
  simp only [Lib.byteCells, List.map_cons, List.map_nil, List.getElem?_cons_zero, Option.some.injEq] at hx
  rw [e] at hx
  subst hx
  exact (Bq.new W 5 #[.int .u8 (48 + (d : Int))]).cell 0 _ rfl
theorem conv_dig (W : World) (u : Nat) : (convert 38 9 (.slice (some ⟨W.heap.size, 0, none⟩) 1 1)).run Tryz.prog (W.alloc (.cells #[.int .u8 (48 + (u : Int) % 10)] 5)) = .ok (.string (ofL [dg1 u])) (W.alloc (.cells #[.int .u8 (48 + (u : Int) % 10)] 5)) := by
  have h := conv_rc (rby_one W (u % 10) (by omega))
  rw [show (((u % 10 : Nat) : Nat) : Int) = (u : Int) % 10 by omega] at h
  exact h

set_option maxRecDepth 100000 in
set_option maxHeartbeats 2000000 in
theorem digits_in (u : Nat) (hu : u ≤ 9223372036854775808) (w : World) : Calls Tryz.prog 99 #[.int .i64 (-(u : Int))] w fun e W => e = .returned (.string (ofL (decDigits u))) ∧ Below w.heap.size w W := by
  have t1 : ∀ k : Nat, Int.tmod (-(k : Int)) 10 = -((k % 10 : Nat) : Int) := fun k => by rw [Int.neg_tmod, Int.tmod_eq_emod_of_nonneg (by omega)]; rfl
  have t2 : ∀ k : Nat, Int.tdiv (-(k : Int)) 10 = -((k / 10 : Nat) : Int) := fun k => by rw [Int.neg_tdiv, Int.tdiv_eq_ediv_of_nonneg (by omega)]; rfl
  have hcv := conv_dig
  have H1 := remD_first u
  have hDl : (decDigits u).length ≤ 20 := by rw [decDigits_length]; exact nd_le 19 u (by omega)
  obtain ⟨D, hD⟩ : ∃ D, decDigits u = D := ⟨_, rfl⟩
  rw [hD] at H1 hDl ⊢
  have HR := hide H1
  clear hD H1
  go_enter Tryz.func99, Tryz.ntmps99
  go_wp2
  have hb1 := ballc (Below.refl w.heap.size w) (.cells #[.int .u8 (48 + (u : Int) % 10)] 5)
  have HB := hide hb1
  clear hb1
  go_loopw [0, 3] (fun nv sv wr => ∃ (k : Nat) (S : List UInt8), k ≤ 9223372036854775808 ∧ nv = .int .i64 (-(k : Int)) ∧ sv = .string (ofL S) ∧ Hid (remD k S = D ∧ Below w.heap.size w wr)) (fun nv _ _ => (-(RowKit.intOf nv)).toNat)
  case atStart => exact ⟨u / 10, _, by omega, by simp, rfl, hide ⟨unhide HR, unhide HB⟩⟩
  case round =>
    obtain ⟨k, S, hk, rfl, rfl, HK⟩ := hrel
    clear HR HB
    by_cases h0 : 0 < k
    · have h0' : -(k : Int) < 0 := by omega
      have hst := remD_step k h0 S
      have hres : Hid (remD (k / 10) (dg1 k :: S) = D ∧ Below w.heap.size w (wr.alloc (.cells #[.int .u8 (48 + (k : Int) % 10)] 5))) := hide ⟨by rw [hst]; exact (unhide HK).1, ballc (unhide HK).2 _⟩
      have happ : ofL [dg1 k] ++ ofL S = ofL (dg1 k :: S) := app_ofL [dg1 k] S
      have hsz1 : (ofL [dg1 k]).size = 1 := by rw [ofL_size]; rfl
      have hsz2 : (ofL S).size ≤ 20 := by
        rw [ofL_size]
        have h1 := remD_len k S
        rw [(unhide HK).1] at h1
        omega
      clear hst HK
      go_wp2
      go_roundw
      case rel => exact ⟨k / 10, _, by omega, by simp, rfl, hres⟩
      case measure => show (-(-((k : Int) / 10))).toNat < (-(-(k : Int))).toNat; omega
    · have h0' : ¬ -(k : Int) < 0 := by omega
      obtain rfl : k = 0 := by omega
      have hS : S = D := (unhide HK).1
      subst hS
      have HB := hide (unhide HK).2
      clear HK
      go_wp2
      go_ret
      exact ⟨rfl, unhide HB⟩

theorem number_in (n : Int) (hn : in64 n) (w : World) : Calls Tryz.prog 75 #[.int .i64 n] w fun e W => e = .returned (.string (ofL (itoa n))) ∧ Below w.heap.size w W := by
  obtain ⟨h1, h2⟩ := hn
  have hD := hide (digits_in n.natAbs (by omega) w)
  have hle : (ofL (decDigits n.natAbs)).size ≤ 20 := by rw [ofL_size, decDigits_length]; exact nd_le 19 _ (by omega)
  by_cases h0 : 0 ≤ n
  · have e1 : itoa n = decDigits n.natAbs := by rw [itoa_of, if_neg (by omega)]; rfl
    have e2 : -((n.natAbs : Nat) : Int) = -n := by omega
    rw [e1]
    rw [e2] at hD
    have h0' : n ≥ 0 := h0
    go_enter Tryz.func75, Tryz.ntmps75
    go_wp2_with fail
    refine (unhide hD).mono ?_
    rintro e W ⟨rfl, hb⟩
    have Hb := hide hb
    clear hb
    go_wp2
    go_ret
    exact ⟨rfl, unhide Hb⟩
  · have e1 : ofL [45] ++ ofL (decDigits n.natAbs) = ofL (itoa n) := by rw [itoa_of, if_pos (by omega), app_ofL]
    have e2 : -((n.natAbs : Nat) : Int) = n := by omega
    rw [e2] at hD
    have e3 : (⟨#[45]⟩ : ByteArray) ++ ofL (decDigits n.natAbs) = ofL (itoa n) := e1
    have h0' : ¬ n ≥ 0 := h0
    clear e1
    go_enter Tryz.func75, Tryz.ntmps75
    go_wp2_with fail
    refine (unhide hD).mono ?_
    rintro e W ⟨rfl, hb⟩
    have Hb := hide hb
    clear hb
    go_wp2
    go_ret
    exact ⟨by first | rfl | (rw [← e3]; rfl), unhide Hb⟩
theorem itoa_lim (n : Int) (hn : in64 n) : (itoa n).length ≤ 21 := by
  obtain ⟨h1, h2⟩ := hn
  rw [itoa_of, List.length_append, decDigits_length]
  have := nd_le 19 n.natAbs (by omega)
  split <;> simp <;> omega

theorem blT_lim : ∀ (l : List Int) (i : Nat), (∀ x ∈ l, in64 x) → l.length ≤ i → (blT (l.map itoa)).length ≤ 22 * i
  | [], i, _, _ => by simp [blT]
  | x :: l, i, h, hl => by
    have h1 := itoa_lim x (h x (List.mem_cons_self))
    have h2 := blT_lim l (i - 1) (fun y hy => h y (List.mem_cons_of_mem _ hy)) (by simp at hl; omega)
    have e : blT ((x :: l).map itoa) = (32 :: itoa x) ++ blT (l.map itoa) := rfl
    rw [e, List.length_append, List.length_cons]
    simp at hl
    omega

set_option maxRecDepth 100000 in
set_option maxHeartbeats 2000000 in
theorem said_in {W : World} {v : Value} {l : List Int} (h : RNm W v l) (hn : ∀ x ∈ l, in64 x) (hl : l.length ≤ 1000000) : Calls Tryz.prog 41 #[v] W fun e W' => e = .returned (.string (ofL (blT (l.map itoa)))) ∧ Below W.heap.size W W' := by
  obtain ⟨a, c, rfl⟩ := RC.form h
  have H := hide h
  have HN := hide hn
  obtain ⟨n, hln⟩ : ∃ n, l.length = n := ⟨_, rfl⟩
  have HL := hide hln
  rw [hln] at hl ⊢
  clear h hn hln
  go_enter Tryz.func41, Tryz.ntmps41
  go_wp2
  go_loopw [3, 4] (fun sv iv wr => ∃ i : Nat, i ≤ n ∧ sv = .string (ofL (blT ((l.take i).map itoa))) ∧ iv = .int .i64 (i : Nat) ∧ Hid (Below W.heap.size W wr)) (fun _ iv _ => n - (RowKit.intOf iv).toNat)
  case atStart => exact ⟨0, Nat.zero_le _, rfl, rfl, hide (Below.refl _ _)⟩
  case round =>
    obtain ⟨i, hi, rfl, rfl, HB⟩ := hrel
    by_cases hlt : i < n
    · have hlt' : (i : Int) < (n : Int) := by omega
      obtain ⟨x, hx⟩ : ∃ x, l[i]? = some x := ⟨_, List.getElem?_eq_getElem (by rw [unhide HL]; exact hlt)⟩
      have hr := RC.below (unhide H) (unhide HB)
      rw [unhide HL] at hr
      obtain ⟨b, off, rfl, _, k0⟩ := RNm.at (l := l) (by show RC _ _ l.length _; rw [unhide HL]; exact hr) hx
      have hin := unhide HN x (List.mem_of_getElem? hx)
      have hnu := hide (number_in x hin wr)
      have h1 : (ofL (itoa x)).size ≤ 21 := by rw [ofL_size]; exact itoa_lim x hin
      have h2 : (ofL (blT ((l.take i).map itoa))).size ≤ 22 * i := by
        rw [ofL_size]
        exact blT_lim _ i (fun y hy => unhide HN y (List.mem_of_mem_take hy)) (by rw [List.length_take]; omega)
      have h3 : (ofL (blT ((l.take i).map itoa)) ++ (⟨#[32]⟩ : ByteArray)).size ≤ 22 * i + 1 := by
        rw [ByteArray.size_append]
        exact Nat.add_le_add h2 (Nat.le_refl _)
      have h4 : ofL (blT ((l.take i).map itoa)) ++ (⟨#[32]⟩ : ByteArray) ++ ofL (itoa x) = ofL (blT ((l.take (i + 1)).map itoa)) := by
        rw [show (⟨#[32]⟩ : ByteArray) = ofL [32] from rfl, app_ofL, app_ofL, List.take_add_one, hx]
        simp [blT]
      have h5 : (ofL (blT ((l.take i).map itoa))).size + 1 + 21 ≤ 9223372036854775807 := by omega
      clear hx hr hin
      generalize ofL (blT ((l.take i).map itoa)) = SB at *
      obtain ⟨SC, hSC⟩ : ∃ SC, ofL (blT ((l.take (i + 1)).map itoa)) = SC := ⟨_, rfl⟩
      rw [hSC] at h4
      have HSC := hide hSC
      clear hSC
      go_wp2_with fail
      refine (unhide hnu).mono ?_
      rintro e W2 ⟨rfl, hb⟩
      have Hb := hide (bnext (unhide HB) hb)
      clear hb hnu
      go_wp2
      go_roundw
      case rel => exact ⟨i + 1, by omega, by rw [unhide HSC], by go_num, Hb⟩
      case measure => show n - ((i : Int) + 1).toNat < n - ((i : Nat) : Int).toNat; omega
    · have hlt' : ¬ (i : Int) < (n : Int) := by omega
      rw [List.take_of_length_le (by rw [unhide HL]; omega)]
      go_wp2
      go_ret
      exact ⟨rfl, unhide HB⟩

end Go.Proofs.YtkndjbmlkfpfoaaGreatDoor

/-
  The document's name, shape.
-/
set_option linter.unusedSimpArgs false
set_option linter.unusedVariables false
namespace Go.Proofs.YtkndjbmlkfpfoaaGreatDoor
open Go.RowKit Go.Lib

/-- a kind's name; its fields as letters -/
def nmT (k : Int) : List UInt8 := if 1 ≤ k ∧ k ≤ 14 then tnm.getD (k - 1).toNat [] else []
def tsh : List (List UInt8) := [[115, 97, 116], [115, 97, 110], [115, 112], [115], [115], [], [110], [110], [110], [110, 97, 100], [110, 97], [115], [115], []]
def shT (k : Int) : List UInt8 := if 1 ≤ k ∧ k ≤ 14 then tsh.getD (k - 1).toNat [] else []
theorem nmT_ne (k : Int) : nmT k = [] ↔ ¬ (1 ≤ k ∧ k ≤ 14) := by
  unfold nmT
  constructor
  · intro h c
    rw [if_pos c] at h
    have : k = 1 ∨ k = 2 ∨ k = 3 ∨ k = 4 ∨ k = 5 ∨ k = 6 ∨ k = 7 ∨ k = 8 ∨ k = 9 ∨ k = 10 ∨ k = 11 ∨ k = 12 ∨ k = 13 ∨ k = 14 := by omega
    rcases this with rfl | rfl | rfl | rfl | rfl | rfl | rfl | rfl | rfl | rfl | rfl | rfl | rfl | rfl <;> simp [tnm] at h
  · intro h
    rw [if_neg h]

set_option maxRecDepth 100000 in
set_option maxHeartbeats 4000000 in
theorem name_in (k : Int) (w : World) : Calls Tryz.prog 32 #[.int .i64 k] w fun e W => e = .returned (.string (ofL (nmT k))) ∧ Below w.heap.size w W := by
  have al0 : ∀ V vs t, V = w.alloc (.cells vs t) → Below w.heap.size w V := by
    rintro V vs t rfl
    exact ballc (Below.refl w.heap.size w) _
  have al := hide al0
  clear al0
  by_cases hk : 1 ≤ k ∧ k ≤ 14
  · have : k = 1 ∨ k = 2 ∨ k = 3 ∨ k = 4 ∨ k = 5 ∨ k = 6 ∨ k = 7 ∨ k = 8 ∨ k = 9 ∨ k = 10 ∨ k = 11 ∨ k = 12 ∨ k = 13 ∨ k = 14 := by omega
    clear hk
    rcases this with rfl | rfl | rfl | rfl | rfl | rfl | rfl | rfl | rfl | rfl | rfl | rfl | rfl | rfl <;> (
      go_enter Tryz.func32, Tryz.ntmps32
      go_wp2
      go_ret
      exact ⟨rfl, unhide al _ _ _ rfl⟩)
  · have e : nmT k = [] := (nmT_ne k).2 hk
    rw [e]
    by_cases h1 : k < 1
    · clear hk e
      go_enter Tryz.func32, Tryz.ntmps32
      go_wp2
      go_ret
      exact ⟨rfl, unhide al _ _ _ rfl⟩
    · have h2 : k ≥ 15 := by omega
      clear hk e
      go_enter Tryz.func32, Tryz.ntmps32
      go_wp2
      go_ret
      exact ⟨rfl, unhide al _ _ _ rfl⟩

set_option maxRecDepth 100000 in
set_option maxHeartbeats 4000000 in
theorem shape_in (k : Int) (w : World) : Calls Tryz.prog 64 #[.int .i64 k] w fun e W => e = .returned (.string (ofL (shT k))) ∧ W = w := by
  by_cases hk : 1 ≤ k ∧ k ≤ 14
  · have : k = 1 ∨ k = 2 ∨ k = 3 ∨ k = 4 ∨ k = 5 ∨ k = 6 ∨ k = 7 ∨ k = 8 ∨ k = 9 ∨ k = 10 ∨ k = 11 ∨ k = 12 ∨ k = 13 ∨ k = 14 := by omega
    clear hk
    rcases this with rfl | rfl | rfl | rfl | rfl | rfl | rfl | rfl | rfl | rfl | rfl | rfl | rfl | rfl <;> (
      go_enter Tryz.func64, Tryz.ntmps64
      go_wp2
      go_ret
      exact ⟨rfl, rfl⟩)
  · have e : shT k = [] := by unfold shT; rw [if_neg hk]
    rw [e]
    have n1 : (k == 1) = false := by rw [beq_eq_false_iff_ne]; omega
    have n2 : (k == 2) = false := by rw [beq_eq_false_iff_ne]; omega
    have n3 : (k == 3) = false := by rw [beq_eq_false_iff_ne]; omega
    have n4 : (k == 4) = false := by rw [beq_eq_false_iff_ne]; omega
    have n5 : (k == 5) = false := by rw [beq_eq_false_iff_ne]; omega
    have n6 : (k == 6) = false := by rw [beq_eq_false_iff_ne]; omega
    have n7 : (k == 7) = false := by rw [beq_eq_false_iff_ne]; omega
    have n8 : (k == 8) = false := by rw [beq_eq_false_iff_ne]; omega
    have n9 : (k == 9) = false := by rw [beq_eq_false_iff_ne]; omega
    have n10 : (k == 10) = false := by rw [beq_eq_false_iff_ne]; omega
    have n11 : (k == 11) = false := by rw [beq_eq_false_iff_ne]; omega
    have n12 : (k == 12) = false := by rw [beq_eq_false_iff_ne]; omega
    have n13 : (k == 13) = false := by rw [beq_eq_false_iff_ne]; omega
    have n14 : (k == 14) = false := by rw [beq_eq_false_iff_ne]; omega
    clear hk e
    go_enter Tryz.func64, Tryz.ntmps64
    go_wp2
    go_ret
    exact ⟨rfl, rfl⟩

end Go.Proofs.YtkndjbmlkfpfoaaGreatDoor

/-
  What the document's own small functions of chapter 4 answer: digit, two, hidden, braces, value.
-/
set_option linter.unusedSimpArgs false
set_option linter.unusedVariables false
namespace Go.Proofs.YtkndjbmlkfpfoaaGreatDoor
open Go.RowKit Go.Lib

set_option maxHeartbeats 400000 in
theorem refDigit_in (n : Nat) (h : n < 16) (w : World) :
    Calls Tryz.prog 100 #[.int .i64 (n : Int)] w fun e w' => e = .returned (.int .u8 ((hxD n).toNat : Int)) ∧ w = w' := by
  by_cases h1 : n < 10
  · have i1 : (n : Int) < 10 := by omega
    have he := hide (show ((hxD n).toNat : Int) = 48 + (n : Int) by rw [hxD_nat n h, if_pos h1]; omega)
    clear h1
    go_enter Tryz.func100, Tryz.ntmps100
    go_wp2
    go_ret
    refine ⟨?_, rfl⟩
    rw [unhide he]
    go_num
  · have i1 : ¬ (n : Int) < 10 := by omega
    have he := hide (show ((hxD n).toNat : Int) = 97 + (n : Int) - 10 by rw [hxD_nat n h, if_neg h1]; omega)
    clear h1
    go_enter Tryz.func100, Tryz.ntmps100
    go_wp2
    go_ret
    refine ⟨?_, rfl⟩
    rw [unhide he]
    go_num

theorem conv_two (b c : UInt8) (w : World) : (convert 38 9 (.slice (some ⟨w.heap.size, 0, none⟩) 2 2)).run Tryz.prog (w.alloc (.cells #[.int .u8 (b.toNat : Int), .int .u8 (c.toNat : Int)] 5)) = .ok (.string (ofL [b, c])) (w.alloc (.cells #[.int .u8 (b.toNat : Int), .int .u8 (c.toNat : Int)] 5)) := by
  have := conv_bytes (w.alloc (.cells #[.int .u8 (b.toNat : Int), .int .u8 (c.toNat : Int)] 5)) ⟨w.heap.size, 0, none⟩ 2 2 [(b.toNat : Int), (c.toNat : Int)] rfl (fun j hj => by
    have hb : (w.alloc (.cells #[.int .u8 (b.toNat : Int), .int .u8 (c.toNat : Int)] 5)).heap[w.heap.size]? = some (.cells #[.int .u8 (b.toNat : Int), .int .u8 (c.toNat : Int)] 5) := by show (w.heap.push _)[w.heap.size]? = _; simp
    rcases (by simp at hj; omega : j = 0 ∨ j = 1) with rfl | rfl
    · show World.cell? _ ⟨w.heap.size, 0, none⟩ = _
      unfold World.cell?
      simp only [hb]
      rfl
    · show World.cell? _ ⟨w.heap.size, 0 + 1, none⟩ = _
      unfold World.cell?
      simp only [hb]
      rfl)
  rw [this]
  simp

set_option maxRecDepth 100000 in
set_option maxHeartbeats 800000 in
theorem refTwo_in (b : Nat) (h : b < 256) (w : World) :
    Calls Tryz.prog 77 #[.int .u8 (b : Int)] w fun e w' => e = .returned (.string (ofL (bxL b))) ∧ Below w.heap.size w w' := by
  have d1 := fun W => hide (refDigit_in (b / 16) (by omega) W)
  have d2 := fun W => hide (refDigit_in (b % 16) (by omega) W)
  have q1 : (b : Int).tdiv 16 = ((b / 16 : Nat) : Int) := by rw [Int.tdiv_eq_ediv_of_nonneg (by omega)]; omega
  have q2 : (b : Int).tmod 16 = ((b % 16 : Nat) : Int) := by rw [Int.tmod_eq_emod_of_nonneg (by omega)]; omega
  have hcv := conv_two (hxD (b / 16)) (hxD (b % 16))
  have he := hide (show (⟨#[92, 120]⟩ : ByteArray) ++ ofL [hxD (b / 16), hxD (b % 16)] = ofL (bxL b) by apply toList_inj; simp [ofL, bxL])
  have hz : (ofL [hxD (b / 16), hxD (b % 16)]).size = 2 := rfl
  obtain ⟨x, hx⟩ : ∃ x, hxD (b / 16) = x := ⟨_, rfl⟩
  obtain ⟨y, hy⟩ : ∃ y, hxD (b % 16) = y := ⟨_, rfl⟩
  obtain ⟨p, hp⟩ : ∃ p, b / 16 = p := ⟨_, rfl⟩
  obtain ⟨q, hq⟩ : ∃ q, b % 16 = q := ⟨_, rfl⟩
  rw [hx] at d1 he hcv hz
  rw [hy] at d2 he hcv hz
  rw [hp] at d1 q1
  rw [hq] at d2 q2
  have w1 : wrap64 (p : Int) = (p : Int) := by unfold wrap64; omega
  clear hx hy hp hq
  go_enter Tryz.func77, Tryz.ntmps77
  go_wp2_with fail
  refine (unhide (d1 _)).mono ?_
  rintro e w' ⟨rfl, rfl⟩
  go_wp2_with fail
  refine (unhide (d2 _)).mono ?_
  rintro e w' ⟨rfl, rfl⟩
  go_wp2
  go_ret
  exact ⟨by rw [← unhide he]; rfl, (Below.refl _ _).alloc (Nat.le_refl _) _⟩

theorem hxL_step (u : Nat) (h0 : u ≠ 0) : hxL u = hxL (u / 16) ++ [hxD (u % 16)] := by
  unfold hxL
  obtain ⟨n, rfl⟩ : ∃ n, u = n + 1 := ⟨u - 1, by omega⟩
  rw [show hxF (n + 1) (n + 1) = hxF n ((n + 1) / 16) ++ [hxD ((n + 1) % 16)] by rw [hxF]; rw [if_neg h0]]
  rw [hxF_fuel n ((n + 1) / 16) ((n + 1) / 16) (by omega) (Nat.le_refl _)]
theorem ofL_append (a b : List UInt8) : ofL a ++ ofL b = ofL (a ++ b) := by apply toList_inj; simp [ofL]

set_option maxRecDepth 100000 in
set_option maxHeartbeats 1000000 in
theorem refBraces_in (N : Nat) (hN : N ≤ 1114111) (w : World) :
    Calls Tryz.prog 79 #[.int .i32 (N : Int)] w fun e w' => e = .returned (.string (ofL (uxL N))) ∧ Below w.heap.size w w' := by
  have h64 : wrap64 (N : Int) = (N : Int) := by unfold wrap64; omega
  go_enter Tryz.func79, Tryz.ntmps79
  go_wp2
  go_loopw [3, 4] (fun a b wr => ∃ (n : Nat) (ds : List UInt8), a = .string (ofL ds) ∧ b = .int .i64 (n : Int) ∧ n ≤ 1114111 ∧ Hid (hxL N = hxL n ++ ds) ∧ Below w.heap.size w wr) (fun _ b _ => (Lib.intOf b).toNat)
  case atStart => exact ⟨N, [], rfl, rfl, hN, hide (by simp), Below.refl _ _⟩
  case round =>
    obtain ⟨n, ds, rfl, rfl, hn, H, hB⟩ := hrel
    have hl6 : (hxL N).length ≤ 6 := by unfold hxL; rw [hxF_map, List.length_map]; exact dgF_len N N 6 (by omega)
    have hd6 : ds.length ≤ 6 := by rw [unhide H, List.length_append] at hl6; omega
    have hz : (ofL ds).size ≤ 6 := by rw [ofL_size]; exact hd6
    by_cases h0 : n = 0
    · subst h0
      have he := hide (show (⟨#[92, 117, 123]⟩ : ByteArray) ++ ofL ds ++ ⟨#[125]⟩ = ofL (uxL N) by
        have h1 : hxL N = ds := by rw [unhide H]; rfl
        apply toList_inj
        simp [ofL, uxL, h1])
      go_wp2
      go_ret
      exact ⟨by rw [← unhide he]; rfl, hB⟩
    · have i1 : (0 : Int) < (n : Int) := by omega
      have q1 : (n : Int).tdiv 16 = ((n / 16 : Nat) : Int) := by rw [Int.tdiv_eq_ediv_of_nonneg (by omega)]; omega
      have q2 : (n : Int).tmod 16 = ((n % 16 : Nat) : Int) := by rw [Int.tmod_eq_emod_of_nonneg (by omega)]; omega
      have w1 : wrap64 ((n / 16 : Nat) : Int) = ((n / 16 : Nat) : Int) := by unfold wrap64; omega
      have d1 := fun W => hide (refDigit_in (n % 16) (by omega) W)
      have hcv := conv_one (hxD (n % 16))
      have he := hide (show hxL N = hxL (n / 16) ++ (hxD (n % 16) :: ds) by rw [unhide H, hxL_step n h0]; simp)
      have hap : ofL [hxD (n % 16)] ++ ofL ds = ofL (hxD (n % 16) :: ds) := ofL_append _ _
      have hz1 : (ofL [hxD (n % 16)]).size = 1 := rfl
      obtain ⟨x, hx⟩ : ∃ x, hxD (n % 16) = x := ⟨_, rfl⟩
      obtain ⟨p, hp⟩ : ∃ p, n / 16 = p := ⟨_, rfl⟩
      obtain ⟨q, hq⟩ : ∃ q, n % 16 = q := ⟨_, rfl⟩
      have hlt : p < n := by omega
      rw [hx] at d1 hcv he hap hz1
      rw [hp] at q1 w1 he
      rw [hq] at q2 d1
      clear hx hp hq h0
      go_wp2_with (go_at_call 100; refine (unhide (d1 _)).mono ?_; rintro e w' ⟨rfl, rfl⟩)
      go_roundw
      case rel => exact ⟨p, x :: ds, rfl, rfl, by omega, he, hB.alloc hB.size _⟩
      case measure => simp [Lib.intOf]; omega

set_option maxRecDepth 100000 in
set_option maxHeartbeats 4000000 in
theorem refHidden_in (r : Nat) (hr : r ≤ 1114111) (w : World) :
    Calls Tryz.prog 78 #[.int .i32 (r : Int)] w fun e w' => e = .returned (.bool (hidN r)) ∧ w = w' := by
  rcases (by omega : (0 ≤ r ∧ r ≤ 127) ∨ (128 ≤ r ∧ r ≤ 159) ∨ (160 ≤ r ∧ r ≤ 172) ∨ (173 ≤ r ∧ r ≤ 173) ∨ (174 ≤ r ∧ r ≤ 8202) ∨ (8203 ≤ r ∧ r ≤ 8207) ∨ (8208 ≤ r ∧ r ≤ 8231) ∨ (8232 ≤ r ∧ r ≤ 8239) ∨ (8240 ≤ r ∧ r ≤ 8287) ∨ (8288 ≤ r ∧ r ≤ 8303) ∨ (8304 ≤ r ∧ r ≤ 57343) ∨ (57344 ≤ r ∧ r ≤ 63743) ∨ (63744 ≤ r ∧ r ≤ 65023) ∨ (65024 ≤ r ∧ r ≤ 65039) ∨ (65040 ≤ r ∧ r ≤ 65278) ∨ (65279 ≤ r ∧ r ≤ 65279) ∨ (65280 ≤ r ∧ r ≤ 917503) ∨ (917504 ≤ r ∧ r ≤ 1114111)) with h | h | h | h | h | h | h | h | h | h | h | h | h | h | h | h | h | h
  · have hh := hide (show hidN r = false by unfold hidN; rw [decide_eq_false_iff_not]; omega)
    have c0 : ¬ (128 : Int) ≤ (r : Int) := by omega
    have c1 : (r : Int) ≤ 159 := by omega
    have c2 : ((r : Int) == 173) = false := by rw [beq_eq_false_iff_ne]; omega
    have c3 : ¬ (8203 : Int) ≤ (r : Int) := by omega
    have c4 : (r : Int) ≤ 8207 := by omega
    have c5 : ¬ (8232 : Int) ≤ (r : Int) := by omega
    have c6 : (r : Int) ≤ 8239 := by omega
    have c7 : ¬ (8288 : Int) ≤ (r : Int) := by omega
    have c8 : (r : Int) ≤ 8303 := by omega
    have c9 : ¬ (57344 : Int) ≤ (r : Int) := by omega
    have c10 : (r : Int) ≤ 63743 := by omega
    have c11 : ¬ (65024 : Int) ≤ (r : Int) := by omega
    have c12 : (r : Int) ≤ 65039 := by omega
    have c13 : ((r : Int) == 65279) = false := by rw [beq_eq_false_iff_ne]; omega
    have c14 : ¬ (917504 : Int) ≤ (r : Int) := by omega
    clear h
    go_enter Tryz.func78, Tryz.ntmps78
    go_wp2
    go_ret
    exact ⟨by rw [unhide hh]; rfl, rfl⟩
  · have hh := hide (show hidN r = true by unfold hidN; rw [decide_eq_true_iff]; omega)
    have c0 : (128 : Int) ≤ (r : Int) := by omega
    have c1 : (r : Int) ≤ 159 := by omega
    have c2 : ((r : Int) == 173) = false := by rw [beq_eq_false_iff_ne]; omega
    have c3 : ¬ (8203 : Int) ≤ (r : Int) := by omega
    have c4 : (r : Int) ≤ 8207 := by omega
    have c5 : ¬ (8232 : Int) ≤ (r : Int) := by omega
    have c6 : (r : Int) ≤ 8239 := by omega
    have c7 : ¬ (8288 : Int) ≤ (r : Int) := by omega
    have c8 : (r : Int) ≤ 8303 := by omega
    have c9 : ¬ (57344 : Int) ≤ (r : Int) := by omega
    have c10 : (r : Int) ≤ 63743 := by omega
    have c11 : ¬ (65024 : Int) ≤ (r : Int) := by omega
    have c12 : (r : Int) ≤ 65039 := by omega
    have c13 : ((r : Int) == 65279) = false := by rw [beq_eq_false_iff_ne]; omega
    have c14 : ¬ (917504 : Int) ≤ (r : Int) := by omega
    clear h
    go_enter Tryz.func78, Tryz.ntmps78
    go_wp2
    go_ret
    exact ⟨by rw [unhide hh]; rfl, rfl⟩
  · have hh := hide (show hidN r = false by unfold hidN; rw [decide_eq_false_iff_not]; omega)
    have c0 : (128 : Int) ≤ (r : Int) := by omega
    have c1 : ¬ (r : Int) ≤ 159 := by omega
    have c2 : ((r : Int) == 173) = false := by rw [beq_eq_false_iff_ne]; omega
    have c3 : ¬ (8203 : Int) ≤ (r : Int) := by omega
    have c4 : (r : Int) ≤ 8207 := by omega
    have c5 : ¬ (8232 : Int) ≤ (r : Int) := by omega
    have c6 : (r : Int) ≤ 8239 := by omega
    have c7 : ¬ (8288 : Int) ≤ (r : Int) := by omega
    have c8 : (r : Int) ≤ 8303 := by omega
    have c9 : ¬ (57344 : Int) ≤ (r : Int) := by omega
    have c10 : (r : Int) ≤ 63743 := by omega
    have c11 : ¬ (65024 : Int) ≤ (r : Int) := by omega
    have c12 : (r : Int) ≤ 65039 := by omega
    have c13 : ((r : Int) == 65279) = false := by rw [beq_eq_false_iff_ne]; omega
    have c14 : ¬ (917504 : Int) ≤ (r : Int) := by omega
    clear h
    go_enter Tryz.func78, Tryz.ntmps78
    go_wp2
    go_ret
    exact ⟨by rw [unhide hh]; rfl, rfl⟩
  · have hh := hide (show hidN r = true by unfold hidN; rw [decide_eq_true_iff]; omega)
    have c0 : (128 : Int) ≤ (r : Int) := by omega
    have c1 : ¬ (r : Int) ≤ 159 := by omega
    have c2 : ((r : Int) == 173) = true := by rw [beq_iff_eq]; omega
    have c3 : ¬ (8203 : Int) ≤ (r : Int) := by omega
    have c4 : (r : Int) ≤ 8207 := by omega
    have c5 : ¬ (8232 : Int) ≤ (r : Int) := by omega
    have c6 : (r : Int) ≤ 8239 := by omega
    have c7 : ¬ (8288 : Int) ≤ (r : Int) := by omega
    have c8 : (r : Int) ≤ 8303 := by omega
    have c9 : ¬ (57344 : Int) ≤ (r : Int) := by omega
    have c10 : (r : Int) ≤ 63743 := by omega
    have c11 : ¬ (65024 : Int) ≤ (r : Int) := by omega
    have c12 : (r : Int) ≤ 65039 := by omega
    have c13 : ((r : Int) == 65279) = false := by rw [beq_eq_false_iff_ne]; omega
    have c14 : ¬ (917504 : Int) ≤ (r : Int) := by omega
    clear h
    go_enter Tryz.func78, Tryz.ntmps78
    go_wp2
    go_ret
    exact ⟨by rw [unhide hh]; rfl, rfl⟩
  · have hh := hide (show hidN r = false by unfold hidN; rw [decide_eq_false_iff_not]; omega)
    have c0 : (128 : Int) ≤ (r : Int) := by omega
    have c1 : ¬ (r : Int) ≤ 159 := by omega
    have c2 : ((r : Int) == 173) = false := by rw [beq_eq_false_iff_ne]; omega
    have c3 : ¬ (8203 : Int) ≤ (r : Int) := by omega
    have c4 : (r : Int) ≤ 8207 := by omega
    have c5 : ¬ (8232 : Int) ≤ (r : Int) := by omega
    have c6 : (r : Int) ≤ 8239 := by omega
    have c7 : ¬ (8288 : Int) ≤ (r : Int) := by omega
    have c8 : (r : Int) ≤ 8303 := by omega
    have c9 : ¬ (57344 : Int) ≤ (r : Int) := by omega
    have c10 : (r : Int) ≤ 63743 := by omega
    have c11 : ¬ (65024 : Int) ≤ (r : Int) := by omega
    have c12 : (r : Int) ≤ 65039 := by omega
    have c13 : ((r : Int) == 65279) = false := by rw [beq_eq_false_iff_ne]; omega
    have c14 : ¬ (917504 : Int) ≤ (r : Int) := by omega
    clear h
    go_enter Tryz.func78, Tryz.ntmps78
    go_wp2
    go_ret
    exact ⟨by rw [unhide hh]; rfl, rfl⟩
  · have hh := hide (show hidN r = true by unfold hidN; rw [decide_eq_true_iff]; omega)
    have c0 : (128 : Int) ≤ (r : Int) := by omega
    have c1 : ¬ (r : Int) ≤ 159 := by omega
    have c2 : ((r : Int) == 173) = false := by rw [beq_eq_false_iff_ne]; omega
    have c3 : (8203 : Int) ≤ (r : Int) := by omega
    have c4 : (r : Int) ≤ 8207 := by omega
    have c5 : ¬ (8232 : Int) ≤ (r : Int) := by omega
    have c6 : (r : Int) ≤ 8239 := by omega
    have c7 : ¬ (8288 : Int) ≤ (r : Int) := by omega
    have c8 : (r : Int) ≤ 8303 := by omega
    have c9 : ¬ (57344 : Int) ≤ (r : Int) := by omega
    have c10 : (r : Int) ≤ 63743 := by omega
    have c11 : ¬ (65024 : Int) ≤ (r : Int) := by omega
    have c12 : (r : Int) ≤ 65039 := by omega
    have c13 : ((r : Int) == 65279) = false := by rw [beq_eq_false_iff_ne]; omega
    have c14 : ¬ (917504 : Int) ≤ (r : Int) := by omega
    clear h
    go_enter Tryz.func78, Tryz.ntmps78
    go_wp2
    go_ret
    exact ⟨by rw [unhide hh]; rfl, rfl⟩
  · have hh := hide (show hidN r = false by unfold hidN; rw [decide_eq_false_iff_not]; omega)
    have c0 : (128 : Int) ≤ (r : Int) := by omega
    have c1 : ¬ (r : Int) ≤ 159 := by omega
    have c2 : ((r : Int) == 173) = false := by rw [beq_eq_false_iff_ne]; omega
    have c3 : (8203 : Int) ≤ (r : Int) := by omega
    have c4 : ¬ (r : Int) ≤ 8207 := by omega
    have c5 : ¬ (8232 : Int) ≤ (r : Int) := by omega
    have c6 : (r : Int) ≤ 8239 := by omega
    have c7 : ¬ (8288 : Int) ≤ (r : Int) := by omega
    have c8 : (r : Int) ≤ 8303 := by omega
    have c9 : ¬ (57344 : Int) ≤ (r : Int) := by omega
    have c10 : (r : Int) ≤ 63743 := by omega
    have c11 : ¬ (65024 : Int) ≤ (r : Int) := by omega
    have c12 : (r : Int) ≤ 65039 := by omega
    have c13 : ((r : Int) == 65279) = false := by rw [beq_eq_false_iff_ne]; omega
    have c14 : ¬ (917504 : Int) ≤ (r : Int) := by omega
    clear h
    go_enter Tryz.func78, Tryz.ntmps78
    go_wp2
    go_ret
    exact ⟨by rw [unhide hh]; rfl, rfl⟩
  · have hh := hide (show hidN r = true by unfold hidN; rw [decide_eq_true_iff]; omega)
    have c0 : (128 : Int) ≤ (r : Int) := by omega
    have c1 : ¬ (r : Int) ≤ 159 := by omega
    have c2 : ((r : Int) == 173) = false := by rw [beq_eq_false_iff_ne]; omega
    have c3 : (8203 : Int) ≤ (r : Int) := by omega
    have c4 : ¬ (r : Int) ≤ 8207 := by omega
    have c5 : (8232 : Int) ≤ (r : Int) := by omega
    have c6 : (r : Int) ≤ 8239 := by omega
    have c7 : ¬ (8288 : Int) ≤ (r : Int) := by omega
    have c8 : (r : Int) ≤ 8303 := by omega
    have c9 : ¬ (57344 : Int) ≤ (r : Int) := by omega
    have c10 : (r : Int) ≤ 63743 := by omega
    have c11 : ¬ (65024 : Int) ≤ (r : Int) := by omega
    have c12 : (r : Int) ≤ 65039 := by omega
    have c13 : ((r : Int) == 65279) = false := by rw [beq_eq_false_iff_ne]; omega
    have c14 : ¬ (917504 : Int) ≤ (r : Int) := by omega
    clear h
    go_enter Tryz.func78, Tryz.ntmps78
    go_wp2
    go_ret
    exact ⟨by rw [unhide hh]; rfl, rfl⟩
  · have hh := hide (show hidN r = false by unfold hidN; rw [decide_eq_false_iff_not]; omega)
    have c0 : (128 : Int) ≤ (r : Int) := by omega
    have c1 : ¬ (r : Int) ≤ 159 := by omega
    have c2 : ((r : Int) == 173) = false := by rw [beq_eq_false_iff_ne]; omega
    have c3 : (8203 : Int) ≤ (r : Int) := by omega
    have c4 : ¬ (r : Int) ≤ 8207 := by omega
    have c5 : (8232 : Int) ≤ (r : Int) := by omega
    have c6 : ¬ (r : Int) ≤ 8239 := by omega
    have c7 : ¬ (8288 : Int) ≤ (r : Int) := by omega
    have c8 : (r : Int) ≤ 8303 := by omega
    have c9 : ¬ (57344 : Int) ≤ (r : Int) := by omega
    have c10 : (r : Int) ≤ 63743 := by omega
    have c11 : ¬ (65024 : Int) ≤ (r : Int) := by omega
    have c12 : (r : Int) ≤ 65039 := by omega
    have c13 : ((r : Int) == 65279) = false := by rw [beq_eq_false_iff_ne]; omega
    have c14 : ¬ (917504 : Int) ≤ (r : Int) := by omega
    clear h
    go_enter Tryz.func78, Tryz.ntmps78
    go_wp2
    go_ret
    exact ⟨by rw [unhide hh]; rfl, rfl⟩
  · have hh := hide (show hidN r = true by unfold hidN; rw [decide_eq_true_iff]; omega)
    have c0 : (128 : Int) ≤ (r : Int) := by omega
    have c1 : ¬ (r : Int) ≤ 159 := by omega
    have c2 : ((r : Int) == 173) = false := by rw [beq_eq_false_iff_ne]; omega
    have c3 : (8203 : Int) ≤ (r : Int) := by omega
    have c4 : ¬ (r : Int) ≤ 8207 := by omega
    have c5 : (8232 : Int) ≤ (r : Int) := by omega
    have c6 : ¬ (r : Int) ≤ 8239 := by omega
    have c7 : (8288 : Int) ≤ (r : Int) := by omega
    have c8 : (r : Int) ≤ 8303 := by omega
    have c9 : ¬ (57344 : Int) ≤ (r : Int) := by omega
    have c10 : (r : Int) ≤ 63743 := by omega
    have c11 : ¬ (65024 : Int) ≤ (r : Int) := by omega
    have c12 : (r : Int) ≤ 65039 := by omega
    have c13 : ((r : Int) == 65279) = false := by rw [beq_eq_false_iff_ne]; omega
    have c14 : ¬ (917504 : Int) ≤ (r : Int) := by omega
    clear h
    go_enter Tryz.func78, Tryz.ntmps78
    go_wp2
    go_ret
    exact ⟨by rw [unhide hh]; rfl, rfl⟩
  · have hh := hide (show hidN r = false by unfold hidN; rw [decide_eq_false_iff_not]; omega)
    have c0 : (128 : Int) ≤ (r : Int) := by omega
    have c1 : ¬ (r : Int) ≤ 159 := by omega
    have c2 : ((r : Int) == 173) = false := by rw [beq_eq_false_iff_ne]; omega
    have c3 : (8203 : Int) ≤ (r : Int) := by omega
    have c4 : ¬ (r : Int) ≤ 8207 := by omega
    have c5 : (8232 : Int) ≤ (r : Int) := by omega
    have c6 : ¬ (r : Int) ≤ 8239 := by omega
    have c7 : (8288 : Int) ≤ (r : Int) := by omega
    have c8 : ¬ (r : Int) ≤ 8303 := by omega
    have c9 : ¬ (57344 : Int) ≤ (r : Int) := by omega
    have c10 : (r : Int) ≤ 63743 := by omega
    have c11 : ¬ (65024 : Int) ≤ (r : Int) := by omega
    have c12 : (r : Int) ≤ 65039 := by omega
    have c13 : ((r : Int) == 65279) = false := by rw [beq_eq_false_iff_ne]; omega
    have c14 : ¬ (917504 : Int) ≤ (r : Int) := by omega
    clear h
    go_enter Tryz.func78, Tryz.ntmps78
    go_wp2
    go_ret
    exact ⟨by rw [unhide hh]; rfl, rfl⟩
  · have hh := hide (show hidN r = true by unfold hidN; rw [decide_eq_true_iff]; omega)
    have c0 : (128 : Int) ≤ (r : Int) := by omega
    have c1 : ¬ (r : Int) ≤ 159 := by omega
    have c2 : ((r : Int) == 173) = false := by rw [beq_eq_false_iff_ne]; omega
    have c3 : (8203 : Int) ≤ (r : Int) := by omega
    have c4 : ¬ (r : Int) ≤ 8207 := by omega
    have c5 : (8232 : Int) ≤ (r : Int) := by omega
    have c6 : ¬ (r : Int) ≤ 8239 := by omega
    have c7 : (8288 : Int) ≤ (r : Int) := by omega
    have c8 : ¬ (r : Int) ≤ 8303 := by omega
    have c9 : (57344 : Int) ≤ (r : Int) := by omega
    have c10 : (r : Int) ≤ 63743 := by omega
    have c11 : ¬ (65024 : Int) ≤ (r : Int) := by omega
    have c12 : (r : Int) ≤ 65039 := by omega
    have c13 : ((r : Int) == 65279) = false := by rw [beq_eq_false_iff_ne]; omega
    have c14 : ¬ (917504 : Int) ≤ (r : Int) := by omega
    clear h
    go_enter Tryz.func78, Tryz.ntmps78
    go_wp2
    go_ret
    exact ⟨by rw [unhide hh]; rfl, rfl⟩
  · have hh := hide (show hidN r = false by unfold hidN; rw [decide_eq_false_iff_not]; omega)
    have c0 : (128 : Int) ≤ (r : Int) := by omega
    have c1 : ¬ (r : Int) ≤ 159 := by omega
    have c2 : ((r : Int) == 173) = false := by rw [beq_eq_false_iff_ne]; omega
    have c3 : (8203 : Int) ≤ (r : Int) := by omega
    have c4 : ¬ (r : Int) ≤ 8207 := by omega
    have c5 : (8232 : Int) ≤ (r : Int) := by omega
    have c6 : ¬ (r : Int) ≤ 8239 := by omega
    have c7 : (8288 : Int) ≤ (r : Int) := by omega
    have c8 : ¬ (r : Int) ≤ 8303 := by omega
    have c9 : (57344 : Int) ≤ (r : Int) := by omega
    have c10 : ¬ (r : Int) ≤ 63743 := by omega
    have c11 : ¬ (65024 : Int) ≤ (r : Int) := by omega
    have c12 : (r : Int) ≤ 65039 := by omega
    have c13 : ((r : Int) == 65279) = false := by rw [beq_eq_false_iff_ne]; omega
    have c14 : ¬ (917504 : Int) ≤ (r : Int) := by omega
    clear h
    go_enter Tryz.func78, Tryz.ntmps78
    go_wp2
    go_ret
    exact ⟨by rw [unhide hh]; rfl, rfl⟩
  · have hh := hide (show hidN r = true by unfold hidN; rw [decide_eq_true_iff]; omega)
    have c0 : (128 : Int) ≤ (r : Int) := by omega
    have c1 : ¬ (r : Int) ≤ 159 := by omega
    have c2 : ((r : Int) == 173) = false := by rw [beq_eq_false_iff_ne]; omega
    have c3 : (8203 : Int) ≤ (r : Int) := by omega
    have c4 : ¬ (r : Int) ≤ 8207 := by omega
    have c5 : (8232 : Int) ≤ (r : Int) := by omega
    have c6 : ¬ (r : Int) ≤ 8239 := by omega
    have c7 : (8288 : Int) ≤ (r : Int) := by omega
    have c8 : ¬ (r : Int) ≤ 8303 := by omega
    have c9 : (57344 : Int) ≤ (r : Int) := by omega
    have c10 : ¬ (r : Int) ≤ 63743 := by omega
    have c11 : (65024 : Int) ≤ (r : Int) := by omega
    have c12 : (r : Int) ≤ 65039 := by omega
    have c13 : ((r : Int) == 65279) = false := by rw [beq_eq_false_iff_ne]; omega
    have c14 : ¬ (917504 : Int) ≤ (r : Int) := by omega
    clear h
    go_enter Tryz.func78, Tryz.ntmps78
    go_wp2
    go_ret
    exact ⟨by rw [unhide hh]; rfl, rfl⟩
  · have hh := hide (show hidN r = false by unfold hidN; rw [decide_eq_false_iff_not]; omega)
    have c0 : (128 : Int) ≤ (r : Int) := by omega
    have c1 : ¬ (r : Int) ≤ 159 := by omega
    have c2 : ((r : Int) == 173) = false := by rw [beq_eq_false_iff_ne]; omega
    have c3 : (8203 : Int) ≤ (r : Int) := by omega
    have c4 : ¬ (r : Int) ≤ 8207 := by omega
    have c5 : (8232 : Int) ≤ (r : Int) := by omega
    have c6 : ¬ (r : Int) ≤ 8239 := by omega
    have c7 : (8288 : Int) ≤ (r : Int) := by omega
    have c8 : ¬ (r : Int) ≤ 8303 := by omega
    have c9 : (57344 : Int) ≤ (r : Int) := by omega
    have c10 : ¬ (r : Int) ≤ 63743 := by omega
    have c11 : (65024 : Int) ≤ (r : Int) := by omega
    have c12 : ¬ (r : Int) ≤ 65039 := by omega
    have c13 : ((r : Int) == 65279) = false := by rw [beq_eq_false_iff_ne]; omega
    have c14 : ¬ (917504 : Int) ≤ (r : Int) := by omega
    clear h
    go_enter Tryz.func78, Tryz.ntmps78
    go_wp2
    go_ret
    exact ⟨by rw [unhide hh]; rfl, rfl⟩
  · have hh := hide (show hidN r = true by unfold hidN; rw [decide_eq_true_iff]; omega)
    have c0 : (128 : Int) ≤ (r : Int) := by omega
    have c1 : ¬ (r : Int) ≤ 159 := by omega
    have c2 : ((r : Int) == 173) = false := by rw [beq_eq_false_iff_ne]; omega
    have c3 : (8203 : Int) ≤ (r : Int) := by omega
    have c4 : ¬ (r : Int) ≤ 8207 := by omega
    have c5 : (8232 : Int) ≤ (r : Int) := by omega
    have c6 : ¬ (r : Int) ≤ 8239 := by omega
    have c7 : (8288 : Int) ≤ (r : Int) := by omega
    have c8 : ¬ (r : Int) ≤ 8303 := by omega
    have c9 : (57344 : Int) ≤ (r : Int) := by omega
    have c10 : ¬ (r : Int) ≤ 63743 := by omega
    have c11 : (65024 : Int) ≤ (r : Int) := by omega
    have c12 : ¬ (r : Int) ≤ 65039 := by omega
    have c13 : ((r : Int) == 65279) = true := by rw [beq_iff_eq]; omega
    have c14 : ¬ (917504 : Int) ≤ (r : Int) := by omega
    clear h
    go_enter Tryz.func78, Tryz.ntmps78
    go_wp2
    go_ret
    exact ⟨by rw [unhide hh]; rfl, rfl⟩
  · have hh := hide (show hidN r = false by unfold hidN; rw [decide_eq_false_iff_not]; omega)
    have c0 : (128 : Int) ≤ (r : Int) := by omega
    have c1 : ¬ (r : Int) ≤ 159 := by omega
    have c2 : ((r : Int) == 173) = false := by rw [beq_eq_false_iff_ne]; omega
    have c3 : (8203 : Int) ≤ (r : Int) := by omega
    have c4 : ¬ (r : Int) ≤ 8207 := by omega
    have c5 : (8232 : Int) ≤ (r : Int) := by omega
    have c6 : ¬ (r : Int) ≤ 8239 := by omega
    have c7 : (8288 : Int) ≤ (r : Int) := by omega
    have c8 : ¬ (r : Int) ≤ 8303 := by omega
    have c9 : (57344 : Int) ≤ (r : Int) := by omega
    have c10 : ¬ (r : Int) ≤ 63743 := by omega
    have c11 : (65024 : Int) ≤ (r : Int) := by omega
    have c12 : ¬ (r : Int) ≤ 65039 := by omega
    have c13 : ((r : Int) == 65279) = false := by rw [beq_eq_false_iff_ne]; omega
    have c14 : ¬ (917504 : Int) ≤ (r : Int) := by omega
    clear h
    go_enter Tryz.func78, Tryz.ntmps78
    go_wp2
    go_ret
    exact ⟨by rw [unhide hh]; rfl, rfl⟩
  · have hh := hide (show hidN r = true by unfold hidN; rw [decide_eq_true_iff]; omega)
    have c0 : (128 : Int) ≤ (r : Int) := by omega
    have c1 : ¬ (r : Int) ≤ 159 := by omega
    have c2 : ((r : Int) == 173) = false := by rw [beq_eq_false_iff_ne]; omega
    have c3 : (8203 : Int) ≤ (r : Int) := by omega
    have c4 : ¬ (r : Int) ≤ 8207 := by omega
    have c5 : (8232 : Int) ≤ (r : Int) := by omega
    have c6 : ¬ (r : Int) ≤ 8239 := by omega
    have c7 : (8288 : Int) ≤ (r : Int) := by omega
    have c8 : ¬ (r : Int) ≤ 8303 := by omega
    have c9 : (57344 : Int) ≤ (r : Int) := by omega
    have c10 : ¬ (r : Int) ≤ 63743 := by omega
    have c11 : (65024 : Int) ≤ (r : Int) := by omega
    have c12 : ¬ (r : Int) ≤ 65039 := by omega
    have c13 : ((r : Int) == 65279) = false := by rw [beq_eq_false_iff_ne]; omega
    have c14 : (917504 : Int) ≤ (r : Int) := by omega
    clear h
    go_enter Tryz.func78, Tryz.ntmps78
    go_wp2
    go_ret
    exact ⟨by rw [unhide hh]; rfl, rfl⟩

end Go.Proofs.YtkndjbmlkfpfoaaGreatDoor
