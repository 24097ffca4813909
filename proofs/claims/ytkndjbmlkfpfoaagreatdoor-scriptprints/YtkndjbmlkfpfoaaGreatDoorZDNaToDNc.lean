/-
  The document's digits, number, said.
-/
import Derived.Test.YtkndjbmlkfpfoaaGreatDoorZTEToTI
import Derived.Test.YtkndjbmlkfpfoaaGreatDoorZTJToTL
import Derived.Test.YtkndjbmlkfpfoaaGreatDoorZRefDecToRQ

set_option linter.unusedSimpArgs false
set_option linter.unusedVariables false
namespace Go.Proofs.YtkndjbmlkfpfoaaGreatDoor
open Go.RowKit Go.Lib

/-- a number's last digit -/
def dg1 (u : Nat) : UInt8 := UInt8.ofNat (48 + u % 10)
theorem nd_le : ∀ (k u : Nat), u < 10 ^ (k + 1) → nDigits u ≤ k + 1
  | 0, u, h => by rw [nDigits_small (by simpa using h)]; exact Nat.le_refl _
  | k + 1, u, h => by
    by_cases h1 : u < 10
    · rw [nDigits_small h1]; omega
    · rw [nDigits_big h1]
      have := nd_le k (u / 10) (by rw [Nat.pow_succ] at h; omega)
      omega
theorem app_ofL (a b : List UInt8) : ofL a ++ ofL b = ofL (a ++ b) := by
  apply ByteArray.ext
  simp [ofL]
/-- the digits that are still to be laid, ahead of those that are -/
def remD (u : Nat) (S : List UInt8) : List UInt8 := if u = 0 then S else decDigits u ++ S
theorem remD_step (u : Nat) (h : 0 < u) (S : List UInt8) : remD (u / 10) (dg1 u :: S) = remD u S := by
  show remD (u / 10) (UInt8.ofNat (48 + u % 10) :: S) = remD u S
  unfold remD
  rw [if_neg (show ¬ u = 0 by omega)]
  by_cases h1 : u < 10
  · rw [if_pos (by omega), decDigits_one h1, Nat.mod_eq_of_lt h1]; rfl
  · rw [if_neg (by omega)]
    conv => rhs; rw [decDigits, dif_neg h1]
    simp
theorem remD_first (u : Nat) : remD (u / 10) [dg1 u] = decDigits u := by
  by_cases h : u = 0
  · subst h
    unfold remD
    rw [if_pos (by omega), decDigits_one (by omega)]
    rfl
  · rw [remD_step u (by omega)]
    unfold remD
    rw [if_neg h, List.append_nil]
theorem remD_len (u : Nat) (S : List UInt8) : S.length ≤ (remD u S).length := by
  unfold remD
  split
  · exact Nat.le_refl _
  · rw [List.length_append]; omega
theorem itoa_of (n : Int) : itoa n = (if n < 0 then [45] else []) ++ decDigits n.natAbs := by
  unfold itoa
  by_cases h : n < 0
  · rw [if_pos h, if_pos h]; rfl
  · rw [if_neg h, if_neg h, show n.toNat = n.natAbs by omega]; rfl
theorem rby_one (W : World) (d : Nat) (hd : d ≤ 9) : RBy (W.alloc (.cells #[.int .u8 (48 + (d : Int))] 5)) (.slice (some ⟨W.heap.size, 0, none⟩) 1 1) [UInt8.ofNat (48 + d)] := by
  refine .inr ⟨W.heap.size, 0, 1, rfl, by simp, by simp, fun j x hx => ?_⟩
  have hx' := hx
  have hj : j = 0 := by
    have := (List.getElem?_eq_some_iff.1 hx).1
    simp [Lib.byteCells] at this
    omega
  subst hj
  have e : (UInt8.ofNat (48 + d)).toNat = 48 + d := by simp [UInt8.toNat_ofNat]; omega
  simp only [Lib.byteCells, List.map_cons, List.map_nil, List.getElem?_cons_zero, Option.some.injEq] at hx
  rw [e] at hx
  subst hx
  exact (Bq.new W 5 #[.int .u8 (48 + (d : Int))]).cell 0 _ rfl
theorem conv_dig (W : World) (u : Nat) : (convert 38 9 (.slice (some ⟨W.heap.size, 0, none⟩) 1 1)).run Tryz.prog (W.alloc (.cells #[.int .u8 (48 + (u : Int) % 10)] 5)) = .ok (.string (ofL [dg1 u])) (W.alloc (.cells #[.int .u8 (48 + (u : Int) % 10)] 5)) := by
  have h := conv_rc (rby_one W (u % 10) (by omega))
  rw [show (((u % 10 : Nat) : Nat) : Int) = (u : Int) % 10 by omega] at h
  exact h

set_option maxRecDepth 100000 in
set_option maxHeartbeats 2000000 in
theorem digits_in (u : Nat) (hu : u ≤ 9223372036854775808) (w : World) : Calls Tryz.prog 99 #[.int .i64 (-(u : Int))] w fun e W => e = .returned (.string (ofL (decDigits u))) ∧ Below w.heap.size w W := by
  have t1 : ∀ k : Nat, Int.tmod (-(k : Int)) 10 = -((k % 10 : Nat) : Int) := fun k => by rw [Int.neg_tmod, Int.tmod_eq_emod_of_nonneg (by omega)]; rfl
  have t2 : ∀ k : Nat, Int.tdiv (-(k : Int)) 10 = -((k / 10 : Nat) : Int) := fun k => by rw [Int.neg_tdiv, Int.tdiv_eq_ediv_of_nonneg (by omega)]; rfl
  have hcv := conv_dig
  have H1 := remD_first u
  have hDl : (decDigits u).length ≤ 20 := by rw [decDigits_length]; exact nd_le 19 u (by omega)
  obtain ⟨D, hD⟩ : ∃ D, decDigits u = D := ⟨_, rfl⟩
  rw [hD] at H1 hDl ⊢
  have HR := hide H1
  clear hD H1
  go_enter Tryz.func99, Tryz.ntmps99
  go_wp2
  have hb1 := ballc (Below.refl w.heap.size w) (.cells #[.int .u8 (48 + (u : Int) % 10)] 5)
  have HB := hide hb1
  clear hb1
  go_loopw [0, 3] (fun nv sv wr => ∃ (k : Nat) (S : List UInt8), k ≤ 9223372036854775808 ∧ nv = .int .i64 (-(k : Int)) ∧ sv = .string (ofL S) ∧ Hid (remD k S = D ∧ Below w.heap.size w wr)) (fun nv _ _ => (-(RowKit.intOf nv)).toNat)
  case atStart => exact ⟨u / 10, _, by omega, by simp, rfl, hide ⟨unhide HR, unhide HB⟩⟩
  case round =>
    obtain ⟨k, S, hk, rfl, rfl, HK⟩ := hrel
    clear HR HB
    by_cases h0 : 0 < k
    · have h0' : -(k : Int) < 0 := by omega
      have hst := remD_step k h0 S
      have hres : Hid (remD (k / 10) (dg1 k :: S) = D ∧ Below w.heap.size w (wr.alloc (.cells #[.int .u8 (48 + (k : Int) % 10)] 5))) := hide ⟨by rw [hst]; exact (unhide HK).1, ballc (unhide HK).2 _⟩
      have happ : ofL [dg1 k] ++ ofL S = ofL (dg1 k :: S) := app_ofL [dg1 k] S
      have hsz1 : (ofL [dg1 k]).size = 1 := by rw [ofL_size]; rfl
      have hsz2 : (ofL S).size ≤ 20 := by
        rw [ofL_size]
        have h1 := remD_len k S
        rw [(unhide HK).1] at h1
        omega
      clear hst HK
      go_wp2
      go_roundw
      case rel => exact ⟨k / 10, _, by omega, by simp, rfl, hres⟩
      case measure => show (-(-((k : Int) / 10))).toNat < (-(-(k : Int))).toNat; omega
    · have h0' : ¬ -(k : Int) < 0 := by omega
      obtain rfl : k = 0 := by omega
      have hS : S = D := (unhide HK).1
      subst hS
      have HB := hide (unhide HK).2
      clear HK
      go_wp2
      go_ret
      exact ⟨rfl, unhide HB⟩

theorem number_in (n : Int) (hn : in64 n) (w : World) : Calls Tryz.prog 75 #[.int .i64 n] w fun e W => e = .returned (.string (ofL (itoa n))) ∧ Below w.heap.size w W := by
  obtain ⟨h1, h2⟩ := hn
  have hD := hide (digits_in n.natAbs (by omega) w)
  have hle : (ofL (decDigits n.natAbs)).size ≤ 20 := by rw [ofL_size, decDigits_length]; exact nd_le 19 _ (by omega)
  by_cases h0 : 0 ≤ n
  · have e1 : itoa n = decDigits n.natAbs := by rw [itoa_of, if_neg (by omega)]; rfl
    have e2 : -((n.natAbs : Nat) : Int) = -n := by omega
    rw [e1]
    rw [e2] at hD
    have h0' : n ≥ 0 := h0
    go_enter Tryz.func75, Tryz.ntmps75
    go_wp2_with fail
    refine (unhide hD).mono ?_
    rintro e W ⟨rfl, hb⟩
    have Hb := hide hb
    clear hb
    go_wp2
    go_ret
    exact ⟨rfl, unhide Hb⟩
  · have e1 : ofL [45] ++ ofL (decDigits n.natAbs) = ofL (itoa n) := by rw [itoa_of, if_pos (by omega), app_ofL]
    have e2 : -((n.natAbs : Nat) : Int) = n := by omega
    rw [e2] at hD
    have e3 : (⟨#[45]⟩ : ByteArray) ++ ofL (decDigits n.natAbs) = ofL (itoa n) := e1
    have h0' : ¬ n ≥ 0 := h0
    clear e1
    go_enter Tryz.func75, Tryz.ntmps75
    go_wp2_with fail
    refine (unhide hD).mono ?_
    rintro e W ⟨rfl, hb⟩
    have Hb := hide hb
    clear hb
    go_wp2
    go_ret
    exact ⟨by first | rfl | (rw [← e3]; rfl), unhide Hb⟩
theorem itoa_lim (n : Int) (hn : in64 n) : (itoa n).length ≤ 21 := by
  obtain ⟨h1, h2⟩ := hn
  rw [itoa_of, List.length_append, decDigits_length]
  have := nd_le 19 n.natAbs (by omega)
  split <;> simp <;> omega

theorem blT_lim : ∀ (l : List Int) (i : Nat), (∀ x ∈ l, in64 x) → l.length ≤ i → (blT (l.map itoa)).length ≤ 22 * i
  | [], i, _, _ => by simp [blT]
  | x :: l, i, h, hl => by
    have h1 := itoa_lim x (h x (List.mem_cons_self))
    have h2 := blT_lim l (i - 1) (fun y hy => h y (List.mem_cons_of_mem _ hy)) (by simp at hl; omega)
    have e : blT ((x :: l).map itoa) = (32 :: itoa x) ++ blT (l.map itoa) := rfl
    rw [e, List.length_append, List.length_cons]
    simp at hl
    omega

set_option maxRecDepth 100000 in
set_option maxHeartbeats 2000000 in
theorem said_in {W : World} {v : Value} {l : List Int} (h : RNm W v l) (hn : ∀ x ∈ l, in64 x) (hl : l.length ≤ 1000000) : Calls Tryz.prog 41 #[v] W fun e W' => e = .returned (.string (ofL (blT (l.map itoa)))) ∧ Below W.heap.size W W' := by
  obtain ⟨a, c, rfl⟩ := RC.form h
  have H := hide h
  have HN := hide hn
  obtain ⟨n, hln⟩ : ∃ n, l.length = n := ⟨_, rfl⟩
  have HL := hide hln
  rw [hln] at hl ⊢
  clear h hn hln
  go_enter Tryz.func41, Tryz.ntmps41
  go_wp2
  go_loopw [3, 4] (fun sv iv wr => ∃ i : Nat, i ≤ n ∧ sv = .string (ofL (blT ((l.take i).map itoa))) ∧ iv = .int .i64 (i : Nat) ∧ Hid (Below W.heap.size W wr)) (fun _ iv _ => n - (RowKit.intOf iv).toNat)
  case atStart => exact ⟨0, Nat.zero_le _, rfl, rfl, hide (Below.refl _ _)⟩
  case round =>
    obtain ⟨i, hi, rfl, rfl, HB⟩ := hrel
    by_cases hlt : i < n
    · have hlt' : (i : Int) < (n : Int) := by omega
      obtain ⟨x, hx⟩ : ∃ x, l[i]? = some x := ⟨_, List.getElem?_eq_getElem (by rw [unhide HL]; exact hlt)⟩
      have hr := RC.below (unhide H) (unhide HB)
      rw [unhide HL] at hr
      obtain ⟨b, off, rfl, _, k0⟩ := RNm.at (l := l) (by show RC _ _ l.length _; rw [unhide HL]; exact hr) hx
      have hin := unhide HN x (List.mem_of_getElem? hx)
      have hnu := hide (number_in x hin wr)
      have h1 : (ofL (itoa x)).size ≤ 21 := by rw [ofL_size]; exact itoa_lim x hin
      have h2 : (ofL (blT ((l.take i).map itoa))).size ≤ 22 * i := by
        rw [ofL_size]
        exact blT_lim _ i (fun y hy => unhide HN y (List.mem_of_mem_take hy)) (by rw [List.length_take]; omega)
      have h3 : (ofL (blT ((l.take i).map itoa)) ++ (⟨#[32]⟩ : ByteArray)).size ≤ 22 * i + 1 := by
        rw [ByteArray.size_append]
        exact Nat.add_le_add h2 (Nat.le_refl _)
      have h4 : ofL (blT ((l.take i).map itoa)) ++ (⟨#[32]⟩ : ByteArray) ++ ofL (itoa x) = ofL (blT ((l.take (i + 1)).map itoa)) := by
        rw [show (⟨#[32]⟩ : ByteArray) = ofL [32] from rfl, app_ofL, app_ofL, List.take_add_one, hx]
        simp [blT]
      have h5 : (ofL (blT ((l.take i).map itoa))).size + 1 + 21 ≤ 9223372036854775807 := by omega
      clear hx hr hin
      generalize ofL (blT ((l.take i).map itoa)) = SB at *
      obtain ⟨SC, hSC⟩ : ∃ SC, ofL (blT ((l.take (i + 1)).map itoa)) = SC := ⟨_, rfl⟩
      rw [hSC] at h4
      have HSC := hide hSC
      clear hSC
      go_wp2_with fail
      refine (unhide hnu).mono ?_
      rintro e W2 ⟨rfl, hb⟩
      have Hb := hide (bnext (unhide HB) hb)
      clear hb hnu
      go_wp2
      go_roundw
      case rel => exact ⟨i + 1, by omega, by rw [unhide HSC], by go_num, Hb⟩
      case measure => show n - ((i : Int) + 1).toNat < n - ((i : Nat) : Int).toNat; omega
    · have hlt' : ¬ (i : Int) < (n : Int) := by omega
      rw [List.take_of_length_le (by rw [unhide HL]; omega)]
      go_wp2
      go_ret
      exact ⟨rfl, unhide HB⟩

end Go.Proofs.YtkndjbmlkfpfoaaGreatDoor

/-
  The document's name, shape.
-/
set_option linter.unusedSimpArgs false
set_option linter.unusedVariables false
namespace Go.Proofs.YtkndjbmlkfpfoaaGreatDoor
open Go.RowKit Go.Lib

/-- a kind's name; its fields as letters -/
def nmT (k : Int) : List UInt8 := if 1 ≤ k ∧ k ≤ 14 then tnm.getD (k - 1).toNat [] else []
def tsh : List (List UInt8) := [[115, 97, 116], [115, 97, 110], [115, 112], [115], [115], [], [110], [110], [110], [110, 97, 100], [110, 97], [115], [115], []]
def shT (k : Int) : List UInt8 := if 1 ≤ k ∧ k ≤ 14 then tsh.getD (k - 1).toNat [] else []
theorem nmT_ne (k : Int) : nmT k = [] ↔ ¬ (1 ≤ k ∧ k ≤ 14) := by
  unfold nmT
  constructor
  · intro h c
    rw [if_pos c] at h
    have : k = 1 ∨ k = 2 ∨ k = 3 ∨ k = 4 ∨ k = 5 ∨ k = 6 ∨ k = 7 ∨ k = 8 ∨ k = 9 ∨ k = 10 ∨ k = 11 ∨ k = 12 ∨ k = 13 ∨ k = 14 := by omega
    rcases this with rfl | rfl | rfl | rfl | rfl | rfl | rfl | rfl | rfl | rfl | rfl | rfl | rfl | rfl <;> simp [tnm] at h
  · intro h
    rw [if_neg h]

set_option maxRecDepth 100000 in
set_option maxHeartbeats 4000000 in
theorem name_in (k : Int) (w : World) : Calls Tryz.prog 32 #[.int .i64 k] w fun e W => e = .returned (.string (ofL (nmT k))) ∧ Below w.heap.size w W := by
  have al0 : ∀ V vs t, V = w.alloc (.cells vs t) → Below w.heap.size w V := by
    rintro V vs t rfl
    exact ballc (Below.refl w.heap.size w) _
  have al := hide al0
  clear al0
  by_cases hk : 1 ≤ k ∧ k ≤ 14
  · have : k = 1 ∨ k = 2 ∨ k = 3 ∨ k = 4 ∨ k = 5 ∨ k = 6 ∨ k = 7 ∨ k = 8 ∨ k = 9 ∨ k = 10 ∨ k = 11 ∨ k = 12 ∨ k = 13 ∨ k = 14 := by omega
    clear hk
    rcases this with rfl | rfl | rfl | rfl | rfl | rfl | rfl | rfl | rfl | rfl | rfl | rfl | rfl | rfl <;> (
      go_enter Tryz.func32, Tryz.ntmps32
      go_wp2
      go_ret
      exact ⟨rfl, unhide al _ _ _ rfl⟩)
  · have e : nmT k = [] := (nmT_ne k).2 hk
    rw [e]
    by_cases h1 : k < 1
    · clear hk e
      go_enter Tryz.func32, Tryz.ntmps32
      go_wp2
      go_ret
      exact ⟨rfl, unhide al _ _ _ rfl⟩
    · have h2 : k ≥ 15 := by omega
      clear hk e
      go_enter Tryz.func32, Tryz.ntmps32
      go_wp2
      go_ret
      exact ⟨rfl, unhide al _ _ _ rfl⟩

set_option maxRecDepth 100000 in
set_option maxHeartbeats 4000000 in
theorem shape_in (k : Int) (w : World) : Calls Tryz.prog 64 #[.int .i64 k] w fun e W => e = .returned (.string (ofL (shT k))) ∧ W = w := by
  by_cases hk : 1 ≤ k ∧ k ≤ 14
  · have : k = 1 ∨ k = 2 ∨ k = 3 ∨ k = 4 ∨ k = 5 ∨ k = 6 ∨ k = 7 ∨ k = 8 ∨ k = 9 ∨ k = 10 ∨ k = 11 ∨ k = 12 ∨ k = 13 ∨ k = 14 := by omega
    clear hk
    rcases this with rfl | rfl | rfl | rfl | rfl | rfl | rfl | rfl | rfl | rfl | rfl | rfl | rfl | rfl <;> (
      go_enter Tryz.func64, Tryz.ntmps64
      go_wp2
      go_ret
      exact ⟨rfl, rfl⟩)
  · have e : shT k = [] := by unfold shT; rw [if_neg hk]
    rw [e]
    have n1 : (k == 1) = false := by rw [beq_eq_false_iff_ne]; omega
    have n2 : (k == 2) = false := by rw [beq_eq_false_iff_ne]; omega
    have n3 : (k == 3) = false := by rw [beq_eq_false_iff_ne]; omega
    have n4 : (k == 4) = false := by rw [beq_eq_false_iff_ne]; omega
    have n5 : (k == 5) = false := by rw [beq_eq_false_iff_ne]; omega
    have n6 : (k == 6) = false := by rw [beq_eq_false_iff_ne]; omega
    have n7 : (k == 7) = false := by rw [beq_eq_false_iff_ne]; omega
    have n8 : (k == 8) = false := by rw [beq_eq_false_iff_ne]; omega
    have n9 : (k == 9) = false := by rw [beq_eq_false_iff_ne]; omega
    have n10 : (k == 10) = false := by rw [beq_eq_false_iff_ne]; omega
    have n11 : (k == 11) = false := by rw [beq_eq_false_iff_ne]; omega
    have n12 : (k == 12) = false := by rw [beq_eq_false_iff_ne]; omega
    have n13 : (k == 13) = false := by rw [beq_eq_false_iff_ne]; omega
    have n14 : (k == 14) = false := by rw [beq_eq_false_iff_ne]; omega
    clear hk e
    go_enter Tryz.func64, Tryz.ntmps64
    go_wp2
    go_ret
    exact ⟨rfl, rfl⟩

end Go.Proofs.YtkndjbmlkfpfoaaGreatDoor

/-
  The document's line of a step.
-/
set_option linter.unusedSimpArgs false
set_option linter.unusedVariables false
namespace Go.Proofs.YtkndjbmlkfpfoaaGreatDoor
open Go.RowKit Go.Lib

/-- a letter's words -/
def ltw (s : Sp) (c : UInt8) : List (List UInt8) := if c = 115 then [itoa s.site] else if c = 112 then [itoa s.peer] else if c = 97 then [itoa s.at_] else if c = 110 then [itoa s.n] else if c = 116 then [(qT s.text).data.toList] else [(qT (ofL s.data)).data.toList]
def dlW (s : Sp) : List (List UInt8) := if s.kind = 6 then s.draws.map itoa else (shT s.kind).flatMap (ltw s)
/-- a step's line, without its end -/
def dlT (s : Sp) : List UInt8 := nmT s.kind ++ blT (dlW s)
theorem dlT_is {s : Sp} (h : isK s) : dlT s ++ [10] = stT s := by
  obtain ⟨h1, h2⟩ := h
  have : s.kind = 1 ∨ s.kind = 2 ∨ s.kind = 3 ∨ s.kind = 4 ∨ s.kind = 5 ∨ s.kind = 6 ∨ s.kind = 7 ∨ s.kind = 8 ∨ s.kind = 9 ∨ s.kind = 10 ∨ s.kind = 11 ∨ s.kind = 12 ∨ s.kind = 13 ∨ s.kind = 14 := by omega
  unfold dlT stT dlW stW kx lnT nmT shT
  rcases this with h | h | h | h | h | h | h | h | h | h | h | h | h | h <;> rw [h] <;> simp [tnm, tsh, tfl, fw, ltw, blT]
theorem dlT_no {s : Sp} (h : ¬ isK s) : dlT s = [] := by
  have h1 : nmT s.kind = [] := (nmT_ne _).2 h
  have h2 : shT s.kind = [] := by unfold shT; exact if_neg h
  have h3 : s.kind ≠ 6 := fun e => h ⟨by omega, by omega⟩
  unfold dlT dlW
  rw [h1, h2, if_neg h3]
  rfl
theorem tsh_let : ∀ r ∈ tsh, (∀ c ∈ r, c = 115 ∨ c = 112 ∨ c = 97 ∨ c = 110 ∨ c = 116 ∨ c = 100) ∧ r.length ≤ 3 := by decide
theorem shT_mem (k : Int) : shT k = [] ∨ shT k ∈ tsh := by
  unfold shT
  split
  · right
    have h : (k - 1).toNat < tsh.length := by show _ < 14; omega
    rw [List.getD_eq_getElem?_getD, List.getElem?_eq_getElem h]
    exact List.getElem_mem h
  · exact .inl rfl
theorem shT_let (k : Int) : ∀ c ∈ shT k, c = 115 ∨ c = 112 ∨ c = 97 ∨ c = 110 ∨ c = 116 ∨ c = 100 := by
  intro c hc
  rcases shT_mem k with h | h
  · rw [h] at hc; simp at hc
  · exact (tsh_let _ h).1 c hc
theorem shT_len (k : Int) : (shT k).length ≤ 3 := by
  rcases shT_mem k with h | h
  · rw [h]; simp
  · exact (tsh_let _ h).2

theorem ofL_at (l : List UInt8) (i : Nat) (c : UInt8) (h : l[i]? = some c) (hi : i < (ofL l).size) : (ofL l)[i]'hi = c := by
  have h2 : i < l.length := by rw [ofL_size] at hi; exact hi
  rw [List.getElem?_eq_getElem h2] at h
  simp at h
  rw [← h]
  rfl
theorem rnm_one (W : World) (x : Int) : RNm (W.alloc (.cells #[.int .i64 x] 3)) (.slice (some ⟨W.heap.size, 0, none⟩) 1 1) [x] := by
  refine .inr ⟨W.heap.size, 0, 1, rfl, by simp, by simp, fun j y hy => ?_⟩
  have hj : j = 0 := by
    have := (List.getElem?_eq_some_iff.1 hy).1
    simp [flat, enN] at this
    omega
  subst hj
  simp [flat, enN] at hy
  subst hy
  exact (Bq.new W 3 #[.int .i64 x]).cell 0 _ rfl

set_option maxRecDepth 100000 in
set_option maxHeartbeats 8000000 in
theorem refLine_in (W : World) (s : Sp) (dv bv : Value) (hd : RNm W dv s.draws) (hb : RBy W bv s.data) (hw : SpW s) (hs : (dlT s).length ≤ 1000000000) :
    Calls Tryz.prog 33 #[.agg (spC s dv bv)] W fun e W' => e = .returned (.string (ofL (dlT s))) ∧ Below W.heap.size W W' := by
  obtain ⟨da, dc, rfl⟩ := RC.form hd
  obtain ⟨ba, bc, rfl⟩ := RC.form hb
  obtain ⟨X, hX⟩ : ∃ X, W.alloc (.cells (spC s (.slice da s.draws.length dc) (.slice ba s.data.length bc)) 40) = X := ⟨_, rfl⟩
  have hb1 : Below W.heap.size W X := by rw [← hX]; exact ballc (Below.refl _ _) _
  have hst : StB X W.heap.size s (.slice da s.draws.length dc) (.slice ba s.data.length bc) := ⟨by rw [← hX]; exact Bq.new _ _ _, RC.below hd hb1, RC.below hb hb1⟩
  have HB := hide hb1
  have HST := hide hst
  have HW := hide hw
  have hnm := hide (name_in s.kind X)
  have c0 := hst.box.cell 0 _ rfl
  unfold spC at hX ⊢
  have HX := hide hX
  clear hd hb hw hb1 hst hX
  go_enter Tryz.func33, Tryz.ntmps33
  go_wp2_with fail
  rw [unhide HX]
  refine (unhide hnm).mono ?_
  rintro e W1 ⟨rfl, hb1⟩
  have HB1 := hide (bnext (unhide HB) hb1)
  have HST1 := hide ((unhide HST).below hb1)
  clear hb1 hnm HX c0
  have q0 : W1.cell? ⟨W.heap.size, 0, none⟩ = some (.int .i64 s.kind) := (unhide HST1).box.cell 0 _ rfl
  have q7 : W1.cell? ⟨W.heap.size, 7, none⟩ = some (.slice da s.draws.length dc) := (unhide HST1).box.cell 7 _ rfl
  by_cases h6 : s.kind = 6
  · have h6' : (s.kind == 6) = true := by rw [beq_iff_eq]; exact h6
    have hsd := hide (said_in (unhide HST1).dr (unhide HW).dnum (unhide HW).draws)
    have hT : ofL (nmT s.kind) ++ ofL (blT (s.draws.map itoa)) = ofL (dlT s) := by
      rw [app_ofL]
      unfold dlT dlW
      rw [if_pos h6]
    have z1 : (ofL (nmT s.kind)).size + (ofL (blT (s.draws.map itoa))).size ≤ 1000000000 := by
      rw [← ByteArray.size_append, hT, ofL_size]
      exact hs
    have z2 : (ofL (nmT s.kind)).size ≤ 1000000000 := by omega
    have z3 : (ofL (blT (s.draws.map itoa))).size ≤ 1000000000 := by omega
    generalize s.draws.length = nd at *
    obtain ⟨A, hA⟩ : ∃ A, ofL (nmT s.kind) = A := ⟨_, rfl⟩
    obtain ⟨B, hB⟩ : ∃ B, ofL (blT (s.draws.map itoa)) = B := ⟨_, rfl⟩
    obtain ⟨C, hC⟩ : ∃ C, ofL (dlT s) = C := ⟨_, rfl⟩
    rw [hA, hB] at z1
    rw [hA] at z2 ⊢
    rw [hB] at z3 hsd
    rw [hA, hB, hC] at hT
    have HC := hide hC
    clear hA hB hC
    go_wp2_with fail
    refine (unhide hsd).mono ?_
    rintro e W2 ⟨rfl, hb2⟩
    have HB2 := hide (bnext (unhide HB1) hb2)
    clear hb2 hsd
    go_wp2
    go_ret
    exact ⟨by rw [unhide HC]; rfl, unhide HB2⟩
  · have h6' : (s.kind == 6) = false := by rw [beq_eq_false_iff_ne]; exact h6
    have hsh := hide (shape_in s.kind W1)
    have hlen := shT_len s.kind
    have hlet := shT_let s.kind
    obtain ⟨sh, hsh0⟩ : ∃ sh, shT s.kind = sh := ⟨_, rfl⟩
    have hT : nmT s.kind ++ blT (sh.flatMap (ltw s)) = dlT s := by
      unfold dlT dlW
      rw [if_neg h6, hsh0]
    rw [hsh0] at hsh hlen hlet
    have HLet := hide hlet
    have HT := hide hT
    have HS := hide hs
    obtain ⟨n, hn⟩ : ∃ n, sh.length = n := ⟨_, rfl⟩
    have hsz : (ofL sh).size = n := by rw [ofL_size]; exact hn
    have Hn := hide hn
    rw [hn] at hlen
    obtain ⟨NM, hNM⟩ : ∃ NM, nmT s.kind = NM := ⟨_, rfl⟩
    rw [hNM] at HT ⊢
    clear hsh0 hT hlet hs hn hNM
    go_wp2_with fail
    refine (unhide hsh).mono ?_
    rintro e W2 ⟨rfl, rfl⟩
    clear hsh
    go_wp2
    go_loopw [3, 5] (fun ov iv wr => ∃ i : Nat, i ≤ n ∧ ov = .string (ofL (NM ++ blT ((sh.take i).flatMap (ltw s)))) ∧ iv = .int .i64 (i : Nat) ∧ Hid (Below W2.heap.size W2 wr)) (fun _ iv _ => n - (RowKit.intOf iv).toNat)
    case atStart => exact ⟨0, Nat.zero_le _, by simp [blT], rfl, hide (Below.refl _ _)⟩
    case round =>
      obtain ⟨i, hi, rfl, rfl, HI⟩ := hrel
      by_cases hlt : i < n
      · have hlt' : (i : Int) < (n : Int) := by omega
        obtain ⟨c, hc⟩ : ∃ c, sh[i]? = some c := ⟨_, List.getElem?_eq_getElem (by rw [unhide Hn]; exact hlt)⟩
        have hci : (ofL sh)[i]'(by rw [hsz]; exact hlt) = c := ofL_at sh i c hc _
        have hst2 := (unhide HST1).below (unhide HI)
        have hcl := unhide HLet c (List.mem_of_getElem? hc)
        have hstep : (sh.take (i + 1)).flatMap (ltw s) = (sh.take i).flatMap (ltw s) ++ ltw s c := by rw [List.take_add_one, hc]; simp
        have hAP : ofL (NM ++ blT ((sh.take i).flatMap (ltw s))) ++ ofL (blT (ltw s c)) = ofL (NM ++ blT ((sh.take (i + 1)).flatMap (ltw s))) := by
          rw [app_ofL, hstep, blT_app, List.append_assoc]
        have zAP : (ofL (NM ++ blT ((sh.take i).flatMap (ltw s)))).size + (ofL (blT (ltw s c))).size ≤ 1000000000 := by
          rw [← ByteArray.size_append, hAP, ofL_size]
          refine Nat.le_trans ?_ (unhide HS)
          rw [← unhide HT, List.length_append, List.length_append]
          have h1 : sh.flatMap (ltw s) = (sh.take (i + 1)).flatMap (ltw s) ++ (sh.drop (i + 1)).flatMap (ltw s) := by rw [← List.flatMap_append, List.take_append_drop]
          rw [h1, blT_app, List.length_append]
          omega
        obtain ⟨A, hA⟩ : ∃ A, ofL (NM ++ blT ((sh.take i).flatMap (ltw s))) = A := ⟨_, rfl⟩
        obtain ⟨Bn, hBn⟩ : ∃ Bn, ofL (NM ++ blT ((sh.take (i + 1)).flatMap (ltw s))) = Bn := ⟨_, rfl⟩
        rw [hA] at hAP zAP ⊢
        rw [hBn] at hAP
        have HBn := hide hBn
        clear hc hstep hA hBn
        rcases hcl with rfl | rfl | rfl | rfl | rfl | rfl
        · have a1 : wr.cell? ⟨W.heap.size, 1, none⟩ = some (.int .i64 s.site) := hst2.box.cell 1 _ rfl
          have hsd := hide (said_in (rnm_one wr s.site) (fun x hx => by simp at hx; subst hx; exact (unhide HW).site) (by simp))
          have hP : blT ([s.site].map itoa) = blT (ltw s 115) := rfl
          rw [hP] at hsd
          obtain ⟨P, hP9⟩ : ∃ P, ofL (blT (ltw s 115)) = P := ⟨_, rfl⟩
          rw [hP9] at hsd hAP zAP
          clear hst2 hP hP9
          go_wp2_with fail
          refine (unhide hsd).mono ?_
          rintro e W3 ⟨rfl, hb3⟩
          have HB3 := hide (bnext (ballc (unhide HI) _) hb3)
          clear hb3 hsd
          go_wp2
          go_roundw
          case rel => exact ⟨i + 1, by omega, by rw [unhide HBn], by go_num, HB3⟩
          case measure => show n - ((i : Int) + 1).toNat < n - ((i : Nat) : Int).toNat; omega
        · have a1 : wr.cell? ⟨W.heap.size, 2, none⟩ = some (.int .i64 s.peer) := hst2.box.cell 2 _ rfl
          have hsd := hide (said_in (rnm_one wr s.peer) (fun x hx => by simp at hx; subst hx; exact (unhide HW).peer) (by simp))
          have hP : blT ([s.peer].map itoa) = blT (ltw s 112) := rfl
          rw [hP] at hsd
          obtain ⟨P, hP9⟩ : ∃ P, ofL (blT (ltw s 112)) = P := ⟨_, rfl⟩
          rw [hP9] at hsd hAP zAP
          clear hst2 hP hP9
          go_wp2_with fail
          refine (unhide hsd).mono ?_
          rintro e W3 ⟨rfl, hb3⟩
          have HB3 := hide (bnext (ballc (unhide HI) _) hb3)
          clear hb3 hsd
          go_wp2
          go_roundw
          case rel => exact ⟨i + 1, by omega, by rw [unhide HBn], by go_num, HB3⟩
          case measure => show n - ((i : Int) + 1).toNat < n - ((i : Nat) : Int).toNat; omega
        · have a1 : wr.cell? ⟨W.heap.size, 4, none⟩ = some (.int .i64 s.at_) := hst2.box.cell 4 _ rfl
          have hsd := hide (said_in (rnm_one wr s.at_) (fun x hx => by simp at hx; subst hx; exact (unhide HW).at_) (by simp))
          have hP : blT ([s.at_].map itoa) = blT (ltw s 97) := rfl
          rw [hP] at hsd
          obtain ⟨P, hP9⟩ : ∃ P, ofL (blT (ltw s 97)) = P := ⟨_, rfl⟩
          rw [hP9] at hsd hAP zAP
          clear hst2 hP hP9
          go_wp2_with fail
          refine (unhide hsd).mono ?_
          rintro e W3 ⟨rfl, hb3⟩
          have HB3 := hide (bnext (ballc (unhide HI) _) hb3)
          clear hb3 hsd
          go_wp2
          go_roundw
          case rel => exact ⟨i + 1, by omega, by rw [unhide HBn], by go_num, HB3⟩
          case measure => show n - ((i : Int) + 1).toNat < n - ((i : Nat) : Int).toNat; omega
        · have a1 : wr.cell? ⟨W.heap.size, 5, none⟩ = some (.int .i64 s.n) := hst2.box.cell 5 _ rfl
          have hsd := hide (said_in (rnm_one wr s.n) (fun x hx => by simp at hx; subst hx; exact (unhide HW).n) (by simp))
          have hP : blT ([s.n].map itoa) = blT (ltw s 110) := rfl
          rw [hP] at hsd
          obtain ⟨P, hP9⟩ : ∃ P, ofL (blT (ltw s 110)) = P := ⟨_, rfl⟩
          rw [hP9] at hsd hAP zAP
          clear hst2 hP hP9
          go_wp2_with fail
          refine (unhide hsd).mono ?_
          rintro e W3 ⟨rfl, hb3⟩
          have HB3 := hide (bnext (ballc (unhide HI) _) hb3)
          clear hb3 hsd
          go_wp2
          go_roundw
          case rel => exact ⟨i + 1, by omega, by rw [unhide HBn], by go_num, HB3⟩
          case measure => show n - ((i : Int) + 1).toNat < n - ((i : Nat) : Int).toNat; omega
        · have a1 : wr.cell? ⟨W.heap.size, 6, none⟩ = some (.string s.text) := hst2.box.cell 6 _ rfl
          have hq := hide (refQuote_in s.text (by have := (unhide HW).text; omega) wr)
          have hP : (⟨#[32]⟩ : ByteArray) ++ qT s.text = ofL (blT (ltw s 116)) := by
            rw [show (⟨#[32]⟩ : ByteArray) = ofL [32] from rfl, ← ofL_of (qT s.text), app_ofL]
            simp [ltw, blT, ofL_list]
          obtain ⟨Q, hQ⟩ : ∃ Q, qT s.text = Q := ⟨_, rfl⟩
          rw [hQ] at hq hP
          rw [← hP] at hAP zAP
          rw [← ByteArray.append_assoc] at hAP
          rw [ByteArray.size_append, show (⟨#[32]⟩ : ByteArray).size = 1 from rfl] at zAP
          have z4 : (A ++ (⟨#[32]⟩ : ByteArray)).size ≤ A.size + 1 := by rw [ByteArray.size_append]; exact Nat.le_refl _
          have z5 : A.size + 1 ≤ 2000000000 := by omega
          clear hst2 hP hQ
          go_wp2_with fail
          refine (unhide hq).mono ?_
          rintro e W3 ⟨rfl, hb3⟩
          have HB3 := hide (bnext (unhide HI) hb3)
          clear hb3 hq
          go_wp2
          go_roundw
          case rel => exact ⟨i + 1, by omega, by rw [unhide HBn], by go_num, HB3⟩
          case measure => show n - ((i : Int) + 1).toNat < n - ((i : Nat) : Int).toNat; omega
        · have a1 : wr.cell? ⟨W.heap.size, 8, none⟩ = some (.slice ba s.data.length bc) := hst2.box.cell 8 _ rfl
          have hcv := conv_rc hst2.by_
          have hq := hide (refQuote_in (ofL s.data) (by rw [ofL_size]; have := (unhide HW).data; omega) wr)
          have hP : (⟨#[32]⟩ : ByteArray) ++ qT (ofL s.data) = ofL (blT (ltw s 100)) := by
            rw [show (⟨#[32]⟩ : ByteArray) = ofL [32] from rfl, ← ofL_of (qT (ofL s.data)), app_ofL]
            simp [ltw, blT, ofL_list]
          obtain ⟨Q, hQ⟩ : ∃ Q, qT (ofL s.data) = Q := ⟨_, rfl⟩
          rw [hQ] at hq hP
          rw [← hP] at hAP zAP
          rw [← ByteArray.append_assoc] at hAP
          rw [ByteArray.size_append, show (⟨#[32]⟩ : ByteArray).size = 1 from rfl] at zAP
          have z4 : (A ++ (⟨#[32]⟩ : ByteArray)).size ≤ A.size + 1 := by rw [ByteArray.size_append]; exact Nat.le_refl _
          have z5 : A.size + 1 ≤ 2000000000 := by omega
          clear hst2 hP hQ
          go_wp2_with fail
          refine (unhide hq).mono ?_
          rintro e W3 ⟨rfl, hb3⟩
          have HB3 := hide (bnext (unhide HI) hb3)
          clear hb3 hq
          go_wp2
          go_roundw
          case rel => exact ⟨i + 1, by omega, by rw [unhide HBn], by go_num, HB3⟩
          case measure => show n - ((i : Int) + 1).toNat < n - ((i : Nat) : Int).toNat; omega
      · have hlt' : ¬ (i : Int) < (n : Int) := by omega
        rw [List.take_of_length_le (by rw [unhide Hn]; omega), unhide HT]
        have HBE := hide (bnext (unhide HB1) (unhide HI))
        go_wp2
        go_ret
        exact ⟨rfl, unhide HBE⟩

end Go.Proofs.YtkndjbmlkfpfoaaGreatDoor
