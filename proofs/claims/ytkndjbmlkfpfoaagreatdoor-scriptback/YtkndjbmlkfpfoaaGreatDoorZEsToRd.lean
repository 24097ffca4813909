/-
  quote.saidRune and quote.escape: what an escape says.
-/
import Derived.Test.YtkndjbmlkfpfoaaGreatDoorZHx

set_option linter.unusedSimpArgs false
set_option linter.unusedVariables false
namespace Go.Proofs.YtkndjbmlkfpfoaaGreatDoor
open Go.RowKit Go.Lib Go.Maps

theorem hasPre_nil (l : List UInt8) : Lib.hasPrefix l [] = true := rfl
theorem hasPre_cons (t : ByteArray) (i : Nat) (c : UInt8) (p : List UInt8) : Lib.hasPrefix (t.data.toList.drop i) (c :: p) = (decide (i < t.size ∧ by_ t i = c.toNat) && Lib.hasPrefix (t.data.toList.drop (i + 1)) p) := by
  by_cases h : i < t.size
  · rw [drop_step t i h]
    show (c == t.get! i && List.isPrefixOf p _) = (_ && List.isPrefixOf p _)
    congr 1
    rw [Bool.eq_iff_iff]
    simp only [beq_iff_eq, decide_eq_true_eq]
    constructor
    · rintro rfl; exact ⟨h, rfl⟩
    · rintro ⟨_, h2⟩
      exact UInt8.toNat_inj.1 h2.symm
  · have : t.data.toList.length = t.size := by simp
    rw [List.drop_eq_nil_of_le (by omega), decide_eq_false (by omega)]
    rfl
theorem pre_one (t : ByteArray) (c : UInt8) : Lib.hasPrefix t.data.toList [c] = decide (0 < t.size ∧ by_ t 0 = c.toNat) := by
  have := hasPre_cons t 0 c []
  rw [List.drop_zero, hasPre_nil, Bool.and_true] at this
  exact this
theorem pre_two (t : ByteArray) (c d : UInt8) : Lib.hasPrefix t.data.toList [c, d] = (decide (0 < t.size ∧ by_ t 0 = c.toNat) && decide (1 < t.size ∧ by_ t 1 = d.toNat)) := by
  have := hasPre_cons t 0 c [d]
  rw [List.drop_zero, hasPre_cons, hasPre_nil, Bool.and_true] at this
  exact this
theorem pre_three (t : ByteArray) (c d e : UInt8) : Lib.hasPrefix t.data.toList [c, d, e] = (decide (0 < t.size ∧ by_ t 0 = c.toNat) && (decide (1 < t.size ∧ by_ t 1 = d.toNat) && decide (2 < t.size ∧ by_ t 2 = e.toNat))) := by
  have := hasPre_cons t 0 c [d, e]
  rw [List.drop_zero, hasPre_cons, hasPre_cons, hasPre_nil, Bool.and_true] at this
  exact this

theorem res_some (x : List UInt8) (n : Nat) : resE (some (x, n)) = (ofL x, n) := rfl
theorem res_none : resE none = (ofL [], 0) := rfl

set_option maxRecDepth 100000 in
set_option maxHeartbeats 2000000 in
theorem saidRune_in (t : ByteArray) (ht : t.size ≤ 1000000000) (w : World) :
    Calls Tryz.prog 120 #[.string t] w fun e w' => e = .returned (.tuple #[.string (resE (runeE t 0)).1, .int .i64 ((resE (runeE t 0)).2 : Int)]) ∧ Below w.heap.size w w' := by
  have hhx := fun W => hide (hex_in t ht 6 (by omega) W)
  have hb := hxR_snd t 0 6 0 0
  have hv := hxR_val t 0 6 0 0 (by simp)
  have hE : runeE t 0 = (if (hxR t 0 6 0 0).2 = 0 ∨ (1 < (hxR t 0 6 0 0).2 ∧ by_ t 0 = 48) then none
    else if 0 + (hxR t 0 6 0 0).2 < t.size ∧ by_ t (0 + (hxR t 0 6 0 0).2) = 125 ∧ Utf8.valid ((hxR t 0 6 0 0).1 : Int) = true then some (encL ((hxR t 0 6 0 0).1 : Int), (hxR t 0 6 0 0).2 + 4) else none) := rfl
  have hn : (hxR t 0 6 0 0).1 < 16777216 := by
    have : 16 ^ (hxR t 0 6 0 0).2 ≤ 16 ^ 6 := Nat.pow_le_pow_right (by decide) (by omega)
    omega
  generalize (hxR t 0 6 0 0).1 = n at hv hhx hE hn
  generalize (hxR t 0 6 0 0).2 = k at hv hhx hE hb
  rw [Nat.zero_add] at hE
  have hk6 : k ≤ 6 := by omega
  have hkt : k ≤ t.size := by have := hb.2.2 (by omega); omega
  clear hv hb
  by_cases h0 : k = 0
  · rw [if_pos (.inl h0)] at hE
    rw [hE]
    subst h0
    clear hE
    go_enter Tryz.func120, Tryz.ntmps120
    go_wp2_with (go_at_call 137; refine (unhide (hhx _)).mono ?_; rintro e w' ⟨rfl, hB⟩)
    go_ret2
    exact ⟨rfl, hB⟩
  · have i0 : ((k : Int) == 0) = false := by rw [beq_eq_false_iff_ne]; omega
    have ht0 : 0 < t.size := by omega
    have hget := by_get t 0 ht0
    by_cases h1 : 1 < k ∧ by_ t 0 = 48
    · rw [if_pos (.inr h1)] at hE
      rw [hE]
      have i1 : (1 : Int) < (k : Int) := by omega
      have i2 : (0 : Int) < (t.size : Int) := by omega
      have hz := h1.2
      rw [hz] at hget
      clear hE h0 h1
      go_enter Tryz.func120, Tryz.ntmps120
      go_wp2_with (go_at_call 137; refine (unhide (hhx _)).mono ?_; rintro e w' ⟨rfl, hB⟩)
      go_ret2
      exact ⟨rfl, hB⟩
    · rw [if_neg (by omega)] at hE
      obtain ⟨P, hP⟩ : ∃ P, P = decide (k < t.size ∧ by_ t k = 125) := ⟨_, rfl⟩
      obtain ⟨V, hV⟩ : ∃ V, V = Utf8.valid (n : Int) := ⟨_, rfl⟩
      have hE2 : runeE t 0 = if (P && V) = true then some (encL (n : Int), k + 4) else none := by
        rw [hE, hP, hV]
        by_cases ha : k < t.size ∧ by_ t k = 125
        · cases hvv : Utf8.valid (n : Int) with
          | true => rw [if_pos ⟨ha.1, ha.2, rfl⟩, decide_eq_true ha]; rfl
          | false => rw [if_neg (by simp), decide_eq_true ha]; rfl
        · rw [if_neg (fun x => ha ⟨x.1, x.2.1⟩), decide_eq_false ha]; rfl
      have hhp := fun W => hide (show Calls Tryz.prog 86 #[.string (t.extract k t.size), .string ⟨#[125]⟩] W fun e w' => e = .returned (.bool P) ∧ w' = W by
        have h := hasPrefix_q (frS t k) ⟨#[125]⟩ W
        rw [show (⟨#[125]⟩ : ByteArray).data.toList = [125] from rfl, pre_one, frS_size] at h
        have e : decide (0 < t.size - k ∧ by_ (frS t k) 0 = (125 : UInt8).toNat) = P := by
          rw [hP]
          by_cases hl : k < t.size
          · rw [frS_by t k 0 (by omega), Nat.add_zero]
            apply decide_eq_decide.2
            constructor
            · rintro ⟨a, b⟩; exact ⟨hl, b⟩
            · rintro ⟨a, b⟩; exact ⟨by omega, b⟩
          · rw [decide_eq_false (by omega), decide_eq_false (by omega)]
        rw [e] at h
        exact h)
      have hir := fun W => hide (show Calls Tryz.prog 138 #[.int .i32 (n : Int)] W fun e w' => e = .returned (.bool V) ∧ W = w' by rw [hV]; exact isRune_in n hn W)
      have henc := fun W => hide (encode_any (n : Int) W)
      have hk3 : (k : Int) ≤ (t.size : Int) := by omega
      rw [hE2]
      clear hP hV hE hE2
      by_cases hk1 : 1 < k
      · have i1 : (1 : Int) < (k : Int) := by omega
        have i2 : (0 : Int) < (t.size : Int) := by omega
        have i3 : (((by_ t 0 : Nat) : Int) == 48) = false := by rw [beq_eq_false_iff_ne]; omega
        clear h0 h1 hk1
        cases P with
        | false =>
          simp only [Bool.false_and, Bool.false_eq_true, if_false]
          go_enter Tryz.func120, Tryz.ntmps120
          go_wp2_with (first | (go_at_call 137; refine (unhide (hhx _)).mono ?_; rintro e w' ⟨rfl, hB⟩) | (go_at_call 86; refine (unhide (hhp _)).mono ?_; rintro e w' ⟨rfl, rfl⟩) | (go_at_call 138; refine (unhide (hir _)).mono ?_; rintro e w' ⟨rfl, rfl⟩) | (go_at_call 98; refine (unhide (henc _)).mono ?_; rintro e w' ⟨rfl, rfl⟩))
          go_ret2
          exact ⟨rfl, hB⟩
        | true =>
          cases V with
          | false =>
            simp only [Bool.and_false, Bool.false_eq_true, if_false]
            go_enter Tryz.func120, Tryz.ntmps120
            go_wp2_with (first | (go_at_call 137; refine (unhide (hhx _)).mono ?_; rintro e w' ⟨rfl, hB⟩) | (go_at_call 86; refine (unhide (hhp _)).mono ?_; rintro e w' ⟨rfl, rfl⟩) | (go_at_call 138; refine (unhide (hir _)).mono ?_; rintro e w' ⟨rfl, rfl⟩) | (go_at_call 98; refine (unhide (henc _)).mono ?_; rintro e w' ⟨rfl, rfl⟩))
            go_ret2
            exact ⟨rfl, hB⟩
          | true =>
            simp only [Bool.and_true, if_true, res_some, enc_back]
            go_enter Tryz.func120, Tryz.ntmps120
            go_wp2_with (first | (go_at_call 137; refine (unhide (hhx _)).mono ?_; rintro e w' ⟨rfl, hB⟩) | (go_at_call 86; refine (unhide (hhp _)).mono ?_; rintro e w' ⟨rfl, rfl⟩) | (go_at_call 138; refine (unhide (hir _)).mono ?_; rintro e w' ⟨rfl, rfl⟩) | (go_at_call 98; refine (unhide (henc _)).mono ?_; rintro e w' ⟨rfl, rfl⟩))
            go_ret2
            exact ⟨by go_num, hB⟩
      · have i1 : ¬ (1 : Int) < (k : Int) := by omega
        clear h0 h1 hk1 hget
        cases P with
        | false =>
          simp only [Bool.false_and, Bool.false_eq_true, if_false]
          go_enter Tryz.func120, Tryz.ntmps120
          go_wp2_with (first | (go_at_call 137; refine (unhide (hhx _)).mono ?_; rintro e w' ⟨rfl, hB⟩) | (go_at_call 86; refine (unhide (hhp _)).mono ?_; rintro e w' ⟨rfl, rfl⟩) | (go_at_call 138; refine (unhide (hir _)).mono ?_; rintro e w' ⟨rfl, rfl⟩) | (go_at_call 98; refine (unhide (henc _)).mono ?_; rintro e w' ⟨rfl, rfl⟩))
          go_ret2
          exact ⟨rfl, hB⟩
        | true =>
          cases V with
          | false =>
            simp only [Bool.and_false, Bool.false_eq_true, if_false]
            go_enter Tryz.func120, Tryz.ntmps120
            go_wp2_with (first | (go_at_call 137; refine (unhide (hhx _)).mono ?_; rintro e w' ⟨rfl, hB⟩) | (go_at_call 86; refine (unhide (hhp _)).mono ?_; rintro e w' ⟨rfl, rfl⟩) | (go_at_call 138; refine (unhide (hir _)).mono ?_; rintro e w' ⟨rfl, rfl⟩) | (go_at_call 98; refine (unhide (henc _)).mono ?_; rintro e w' ⟨rfl, rfl⟩))
            go_ret2
            exact ⟨rfl, hB⟩
          | true =>
            simp only [Bool.and_true, if_true, res_some, enc_back]
            go_enter Tryz.func120, Tryz.ntmps120
            go_wp2_with (first | (go_at_call 137; refine (unhide (hhx _)).mono ?_; rintro e w' ⟨rfl, hB⟩) | (go_at_call 86; refine (unhide (hhp _)).mono ?_; rintro e w' ⟨rfl, rfl⟩) | (go_at_call 138; refine (unhide (hir _)).mono ?_; rintro e w' ⟨rfl, rfl⟩) | (go_at_call 98; refine (unhide (henc _)).mono ?_; rintro e w' ⟨rfl, rfl⟩))
            go_ret2
            exact ⟨by go_num, hB⟩

theorem byteE_drop (t : ByteArray) : byteE (frS t 2) 0 = byteE t 2 := by unfold byteE; rw [hxR_drop]
theorem runeE_drop (t : ByteArray) (h : 3 ≤ t.size) : runeE (frS t 3) 0 = runeE t 3 := by
  unfold runeE
  simp only [hxR_drop, Nat.add_zero, Nat.zero_add, frS_size]
  have hb := hxR_snd t 3 6 0 0
  generalize (hxR t 3 6 0 0).1 = n
  generalize (hxR t 3 6 0 0).2 = k at hb
  by_cases h0 : k = 0
  · rw [if_pos (.inl h0), if_pos (.inl h0)]
  · have hk : 3 + k ≤ t.size := hb.2.2 h
    rw [frS_by t 3 0 (by omega), Nat.add_zero]
    split
    · rfl
    · by_cases h1 : 3 + k < t.size
      · rw [frS_by t 3 k h1]
        congr 1
        simp only [eq_iff_iff]
        constructor
        · rintro ⟨a, b⟩; exact ⟨h1, b⟩
        · rintro ⟨a, b⟩; exact ⟨by omega, b⟩
      · rw [if_neg (by omega), if_neg (by omega)]
theorem cut_yes (t : ByteArray) (p : ByteArray) (n : Nat) (hn : p.data.toList.length = n) (h : Lib.hasPrefix t.data.toList p.data.toList = true) (W : World) :
    Calls Tryz.prog 118 #[.string t, .string p] W fun e w' => e = .returned (.tuple #[.string (frS t n), .bool true]) ∧ w' = W := by
  have := cutPrefix_q t p W
  rw [h] at this
  unfold Lib.trimPrefix at this
  rw [if_pos h, hn, ofL_drop] at this
  exact this
theorem cut_no (t : ByteArray) (p : ByteArray) (h : Lib.hasPrefix t.data.toList p.data.toList = false) (W : World) :
    Calls Tryz.prog 118 #[.string t, .string p] W fun e w' => e = .returned (.tuple #[.string t, .bool false]) ∧ w' = W := by
  have := cutPrefix_q t p W
  rw [h] at this
  unfold Lib.trimPrefix at this
  rw [if_neg (by rw [h]; simp)] at this
  exact this

theorem encL_ru (b : Nat) : Utf8.encode ((ruN b : Nat) : Int) = ofL [UInt8.ofNat (ruN b)] := by
  rw [← enc_back, enc1 _ (by unfold ruN; (repeat' split) <;> omega)]

set_option maxRecDepth 100000 in
set_option maxHeartbeats 2000000 in
theorem escape_in (t : ByteArray) (ht : t.size ≤ 1000000000) (h0 : by_ t 0 = 92) (hz : 0 < t.size) (m : Nat) (w : World) (hown : w.ownsMap Tryz.prog 5 (plainElem Tryz.prog 21) m 5 mapE) :
    Calls Tryz.prog 105 #[.string t, .map (some m)] w fun e w' => e = .returned (.tuple #[.string (resE (escE t 0)).1, .int .i64 ((resE (escE t 0)).2 : Int)]) ∧ Below w.heap.size w w' := by
  have Hown := hide hown
  clear hown
  by_cases h2 : 1 < t.size
  · have i1 : ¬ (t.size : Int) < 2 := by omega
    have i2 : (1 : Int) < (t.size : Int) := by omega
    have hget := by_get t 1 h2
    have hb := by_lt t 1
    have hwf : (Lit.int .u8 ((by_ t 1 : Nat) : Int)).wf = true := WalkArith.wf_u8 (by omega)
    have hE : escE t 0 = if by_ t 1 = 34 then some ([34], 2) else if by_ t 1 = 92 then some ([92], 2)
      else if by_ t 1 = 110 then some ([10], 2) else if by_ t 1 = 114 then some ([13], 2) else if by_ t 1 = 116 then some ([9], 2)
      else if by_ t 1 = 120 then byteE t 2
      else if by_ t 1 = 117 ∧ 2 < t.size ∧ by_ t 2 = 123 then runeE t 3 else none := by unfold escE; rw [if_pos (by omega)]
    by_cases hr : ruN (by_ t 1) ≠ 0
    · have hh : Maps.has mapE (.int .u8 ((by_ t 1 : Nat) : Int)) = true := by rw [mapE_has]; simpa using hr
      have Hat := hide (mapE_at (by_ t 1) hr)
      have hE2 : escE t 0 = some ([UInt8.ofNat (ruN (by_ t 1))], 2) := by
        rw [hE]
        have hc : by_ t 1 = 34 ∨ by_ t 1 = 92 ∨ by_ t 1 = 110 ∨ by_ t 1 = 114 ∨ by_ t 1 = 116 := by unfold ruN at hr; (repeat' split at hr) <;> omega
        rcases hc with h | h | h | h | h <;> rw [h] <;> rfl
      have henc := fun W => hide (encode_any ((ruN (by_ t 1) : Nat) : Int) W)
      rw [hE2, res_some, ← encL_ru]
      clear hE hE2 hr
      go_enter Tryz.func105, Tryz.ntmps105
      go_wp2_with (first | (at_lookup; refine wpList_lookup_own_ok_int _ rfl _ _ 174 rfl 5 21 .i32 lawU8 Tryz.underlying174 Tryz.underlying21 (zeroI32 _) m 5 _ rfl (unhide Hown) _ _ rfl (keyOf_int_mk Tryz.underlying5 hwf) ?_; intro c hat hwc; obtain rfl := lit_val hat (unhide Hat _); clear hat hwc) | (go_at_call 98; refine (unhide (henc _)).mono ?_; rintro e w' ⟨rfl, rfl⟩))
      go_ret2
      exact ⟨rfl, Below.refl _ _⟩
    · have hh : Maps.has mapE (.int .u8 ((by_ t 1 : Nat) : Int)) = false := by rw [mapE_has]; simpa using hr
      have hne : by_ t 1 ≠ 34 ∧ by_ t 1 ≠ 92 ∧ by_ t 1 ≠ 110 ∧ by_ t 1 ≠ 114 ∧ by_ t 1 ≠ 116 := by unfold ruN at hr; (repeat' split at hr) <;> omega
      rw [if_neg hne.1, if_neg hne.2.1, if_neg hne.2.2.1, if_neg hne.2.2.2.1, if_neg hne.2.2.2.2] at hE
      by_cases hx : by_ t 1 = 120
      · rw [if_pos hx] at hE
        have hcut := fun W => hide (cut_yes t ⟨#[92, 120]⟩ 2 rfl (by
          show Lib.hasPrefix t.data.toList [92, 120] = true
          rw [pre_two, decide_eq_true ⟨hz, h0⟩, decide_eq_true ⟨h2, hx⟩]; rfl) W)
        have hsb := fun W => hide (saidByte_in (frS t 2) (by rw [frS_size]; omega) W)
        rw [byteE_drop, ← hE] at hsb
        clear hE hr hne hx
        go_enter Tryz.func105, Tryz.ntmps105
        go_wp2_with (first | (at_lookup; refine wpList_lookup_own_ok_int _ rfl _ _ 174 rfl 5 21 .i32 lawU8 Tryz.underlying174 Tryz.underlying21 (zeroI32 _) m 5 _ rfl (unhide Hown) _ _ rfl (keyOf_int_mk Tryz.underlying5 hwf) ?_; intro c hat hwc; clear hat hwc) | (go_at_call 118; refine (unhide (hcut _)).mono ?_; rintro e w' ⟨rfl, rfl⟩) | (go_at_call 119; refine (unhide (hsb _)).mono ?_; rintro e w' ⟨rfl, hB⟩))
        go_ret2
        exact ⟨rfl, hB⟩
      · rw [if_neg hx] at hE
        have hcut := fun W => hide (cut_no t ⟨#[92, 120]⟩ (by
          show Lib.hasPrefix t.data.toList [92, 120] = false
          rw [pre_two, decide_eq_true ⟨hz, h0⟩, decide_eq_false (fun x => hx x.2)]; rfl) W)
        by_cases hu : by_ t 1 = 117 ∧ 2 < t.size ∧ by_ t 2 = 123
        · rw [if_pos hu] at hE
          have hcut2 := fun W => hide (cut_yes t ⟨#[92, 117, 123]⟩ 3 rfl (by
            show Lib.hasPrefix t.data.toList [92, 117, 123] = true
            rw [pre_three, decide_eq_true ⟨hz, h0⟩, decide_eq_true ⟨h2, hu.1⟩, decide_eq_true ⟨hu.2.1, hu.2.2⟩]; rfl) W)
          have hsb := fun W => hide (saidRune_in (frS t 3) (by rw [frS_size]; omega) W)
          rw [runeE_drop t (by omega), ← hE] at hsb
          clear hE hr hne hx hu
          go_enter Tryz.func105, Tryz.ntmps105
          go_wp2_with (first | (at_lookup; refine wpList_lookup_own_ok_int _ rfl _ _ 174 rfl 5 21 .i32 lawU8 Tryz.underlying174 Tryz.underlying21 (zeroI32 _) m 5 _ rfl (unhide Hown) _ _ rfl (keyOf_int_mk Tryz.underlying5 hwf) ?_; intro c hat hwc; clear hat hwc) | fail)
          refine (unhide (hcut w)).mono ?_
          rintro e w1 ⟨rfl, rfl⟩
          go_wp2_with fail
          refine (unhide (hcut2 w1)).mono ?_
          rintro e w2 ⟨rfl, rfl⟩
          go_wp2_with (go_at_call 120; refine (unhide (hsb _)).mono ?_; rintro e w' ⟨rfl, hB⟩)
          go_ret2
          exact ⟨rfl, hB⟩
        · rw [if_neg hu] at hE
          have hcut2 := fun W => hide (cut_no t ⟨#[92, 117, 123]⟩ (by
            show Lib.hasPrefix t.data.toList [92, 117, 123] = false
            rw [pre_three, decide_eq_true ⟨hz, h0⟩, Bool.true_and, ← Bool.not_eq_true, Bool.and_eq_true, decide_eq_true_eq, decide_eq_true_eq]
            rintro ⟨a, b⟩
            exact hu ⟨a.2, b.1, b.2⟩) W)
          rw [hE]
          clear hE hr hne hx hu
          go_enter Tryz.func105, Tryz.ntmps105
          go_wp2_with (first | (at_lookup; refine wpList_lookup_own_ok_int _ rfl _ _ 174 rfl 5 21 .i32 lawU8 Tryz.underlying174 Tryz.underlying21 (zeroI32 _) m 5 _ rfl (unhide Hown) _ _ rfl (keyOf_int_mk Tryz.underlying5 hwf) ?_; intro c hat hwc; clear hat hwc) | fail)
          refine (unhide (hcut w)).mono ?_
          rintro e w1 ⟨rfl, rfl⟩
          go_wp2_with fail
          refine (unhide (hcut2 w1)).mono ?_
          rintro e w2 ⟨rfl, rfl⟩
          go_wp2
          go_ret2
          exact ⟨rfl, Below.refl _ _⟩
  · have i1 : (t.size : Int) < 2 := by omega
    have hE : escE t 0 = none := by unfold escE; rw [if_neg (by omega)]
    rw [hE]
    clear hE h2
    go_enter Tryz.func105, Tryz.ntmps105
    go_wp2
    go_ret2
    exact ⟨rfl, Below.refl _ _⟩

end Go.Proofs.YtkndjbmlkfpfoaaGreatDoor

/-
  quote.read and quote.Unquote: what a quoted text says.
-/
set_option linter.unusedSimpArgs false
set_option linter.unusedVariables false
namespace Go.Proofs.YtkndjbmlkfpfoaaGreatDoor
open Go.RowKit Go.Lib Go.Maps

theorem sync_end (s : ByteArray) : Sync s s.size := fun j hj _ => (wd_le s j hj).1
theorem dec_suf (s : ByteArray) (b i : Nat) (h : b + i < s.size) : Utf8.decode (frS s b) i = Utf8.decode s (b + i) := dec_ext b i (sync_end s) (Nat.le_refl _) h
theorem rn_suf (s : ByteArray) (b i : Nat) (h : b + i < s.size) : rn (frS s b) i = rn s (b + i) := by unfold rn; rw [dec_suf s b i h]
theorem wd_suf (s : ByteArray) (b i : Nat) (h : b + i < s.size) : wd (frS s b) i = wd s (b + i) := by unfold wd; rw [dec_suf s b i h]

theorem byteE_suf (s : ByteArray) (i j : Nat) : byteE (frS s i) j = byteE s (i + j) := by unfold byteE; rw [hxR_drop]
theorem runeE_suf (s : ByteArray) (i j : Nat) (h : i + j ≤ s.size) : runeE (frS s i) j = runeE s (i + j) := by
  unfold runeE
  simp only [hxR_drop, frS_size]
  have hb := hxR_snd s (i + j) 6 0 0
  generalize (hxR s (i + j) 6 0 0).1 = n
  generalize (hxR s (i + j) 6 0 0).2 = k at hb
  by_cases h0 : k = 0
  · rw [if_pos (.inl h0), if_pos (.inl h0)]
  · have hk : i + j + k ≤ s.size := hb.2.2 h
    rw [frS_by s i j (by omega)]
    split
    · rfl
    · by_cases h1 : i + j + k < s.size
      · rw [frS_by s i (j + k) (by omega), show i + (j + k) = i + j + k by omega]
        congr 1
        simp only [eq_iff_iff]
        constructor
        · rintro ⟨a, b⟩; exact ⟨h1, b⟩
        · rintro ⟨a, b⟩; exact ⟨by omega, b⟩
      · rw [if_neg (by omega), if_neg (by omega)]
theorem escE_suf (s : ByteArray) (i : Nat) : escE (frS s i) 0 = escE s i := by
  unfold escE
  rw [frS_size]
  by_cases h : i + 1 < s.size
  · rw [if_pos (by omega), if_pos h, Nat.zero_add, frS_by s i 1 h]
    by_cases h2 : i + 2 < s.size
    · rw [frS_by s i (0 + 2) (by omega), byteE_suf, runeE_suf s i (0 + 3) (by omega)]
      simp only [Nat.zero_add, show (2 < s.size - i) = True by simp; omega, h2]
    · rw [byteE_suf]
      have e : (by_ s (i + 1) = 117 ∧ 0 + 2 < s.size - i ∧ by_ (frS s i) (0 + 2) = 123) = False := by simp; omega
      have e2 : (by_ s (i + 1) = 117 ∧ i + 2 < s.size ∧ by_ s (i + 2) = 123) = False := by simp; omega
      simp only [e, e2, Nat.zero_add, if_false]
  · rw [if_neg (by omega), if_neg h]

theorem hxR_dig (s : ByteArray) (i : Nat) : ∀ (f n k j : Nat), k ≤ j → j < (hxR s i f n k).2 → by_ s (i + j) < 128
  | 0, n, k, j, h, h2 => by simp [hxR] at h2; omega
  | f + 1, n, k, j, h, h2 => by
    unfold hxR at h2
    split at h2
    · rename_i hc
      by_cases e : j = k
      · subst e; exact dg_low hc.2
      · exact hxR_dig s i f _ (k + 1) j (by omega) h2
    · simp at h2; omega
theorem escE_low {s : ByteArray} {i : Nat} {x : List UInt8} {n : Nat} (h0 : by_ s i = 92) (h : escE s i = some (x, n)) : ∀ j, i ≤ j → j < i + n → by_ s j < 128 := by
  intro j hj hn
  by_cases e0 : j = i
  · subst e0; omega
  have two : ∀ (c : Nat), by_ s (i + 1) = c → c < 128 → n = 2 → by_ s j < 128 := fun c hc hl h2 => by
    have : j = i + 1 := by omega
    rw [this, hc]; exact hl
  unfold escE at h
  split at h
  · split at h
    · cases h; exact two 34 (by assumption) (by omega) rfl
    · split at h
      · cases h; exact two 92 (by assumption) (by omega) rfl
      · split at h
        · cases h; exact two 110 (by assumption) (by omega) rfl
        · split at h
          · cases h; exact two 114 (by assumption) (by omega) rfl
          · split at h
            · cases h; exact two 116 (by assumption) (by omega) rfl
            · split at h
              · rename_i hx
                by_cases e1 : j = i + 1
                · rw [e1, hx]; omega
                unfold byteE at h
                split at h
                · rename_i h2
                  simp only [Option.some.injEq, Prod.mk.injEq] at h
                  have := hxR_dig s (i + 2) 2 0 0 (j - (i + 2)) (by omega) (by omega)
                  rw [show i + 2 + (j - (i + 2)) = j by omega] at this
                  exact this
                · cases h
              · split at h
                · rename_i hu
                  by_cases e1 : j = i + 1
                  · rw [e1, hu.1]; omega
                  by_cases e2 : j = i + 2
                  · rw [e2, hu.2.2]; omega
                  unfold runeE at h
                  simp only at h
                  split at h
                  · cases h
                  · split at h
                    · rename_i hb
                      simp only [Option.some.injEq, Prod.mk.injEq] at h
                      by_cases e3 : j = i + 3 + (hxR s (i + 3) 6 0 0).2
                      · rw [e3, hb.2.1]; omega
                      have := hxR_dig s (i + 3) 6 0 0 (j - (i + 3)) (by omega) (by omega)
                      rw [show i + 3 + (j - (i + 3)) = j by omega] at this
                      exact this
                    · cases h
                · cases h
  · cases h

/-- where the reading stands -/
def RdS (s : ByteArray) (fr pos nx : Nat) (acc : List UInt8) (A : List UInt8 × Nat × Bool) : Prop :=
  rdA s (fr + (if pos < nx then nx else pos)) acc = A ∧ fr + nx ≤ s.size ∧ acc.length ≤ 4 * (if pos < nx then nx else pos) ∧ ∀ j, pos ≤ j → j < nx → by_ s (fr + j) < 128

set_option maxRecDepth 100000 in
set_option maxHeartbeats 4000000 in
theorem read_in (s : ByteArray) (hs : s.size ≤ 1000000000) (b : Nat) (hb : b < s.size) (w : World) :
    Calls Tryz.prog 85 #[.string s, .int .i64 (b : Int)] w fun e w' => e = .returned (.tuple #[.string (ofL (rdE s (b + 1)).1), .int .i64 ((rdE s (b + 1)).2.1 : Int), .bool (rdE s (b + 1)).2.2]) ∧ Below w.heap.size w w' := by
  have hesc := fun W => hide (escapes_in W)
  have hsm : s.size ≤ maxLen := by unfold maxLen; omega
  have e1 : ∀ o, (w.alloc o).heap.size = w.heap.size + 1 := fun o => by simp
  obtain ⟨A, hA⟩ : ∃ A, rdE s (b + 1) = A := ⟨_, rfl⟩
  rw [hA]
  obtain ⟨fr, hfr⟩ : ∃ fr, b + 1 = fr := ⟨_, rfl⟩
  rw [hfr] at hA
  have hfs : fr ≤ s.size := by omega
  have hfi : (b : Int) + 1 = (fr : Int) := by omega
  have i0 : (fr : Int) ≤ (s.size : Int) := by omega
  have i00 : (0 : Int) ≤ (fr : Int) := by omega
  have HA := hide (show rdA s fr [] = A from hA)
  clear hA hfr hb
  go_enter Tryz.func85, Tryz.ntmps85
  go_wp2_with (go_at_call 104; refine (unhide (hesc _)).mono ?_; rintro e W2 ⟨rfl, hown, hb1⟩; rw [e1] at hown hb1 ⊢)
  have e2 : (w.alloc (.cells #[.pointer none, .slice none 0 0] 86)).heap.size = w.heap.size + 1 := e1 _
  have hI1 := isB_below (IsBuilderF.of (fresh_isBuilder 86 5 w)) (by rw [e2]; exact hb1)
  have hBw1 : Below w.heap.size w W2 := ((Below.refl _ w).alloc (Nat.le_refl _) _).trans (hb1.mono (Nat.le_succ _))
  have hz1 : w.heap.size + 1 < W2.heap.size := hown.lt
  have Q0 : QSt 5 21 w (W2.iter (frS s fr) 0) (frS s fr) (w.heap.size + 1) W2.heap.size mapE 0 [] :=
    ⟨hI1.alloc _, World.iter_heap W2 (frS s fr) 0, hown.alloc _, hBw1.alloc (by omega) _, by omega, by omega, by omega, by show w.heap.size ≤ (W2.alloc _).heap.size; simp; omega⟩
  have HQ0 := hide Q0
  clear hI1 hBw1 hown hb1 e1 e2 hesc Q0
  obtain ⟨R, hR⟩ : ∃ R, W2.heap.size = R := ⟨_, rfl⟩
  rw [hR] at HQ0 ⊢
  have hus : (frS s fr).size = s.size - fr := frS_size s fr
  obtain ⟨u, hu⟩ : ∃ u, s.extract fr s.size = u := ⟨_, rfl⟩
  have hu' : frS s fr = u := hu
  rw [hu'] at HQ0 hus
  rw [hu]
  have Hu := hide hu'
  clear hu hu'
  go_loopw [10] (fun a wr => ∃ (pos nx : Nat) (acc : List UInt8), a = .int .i64 (nx : Int) ∧ pos ≤ u.size ∧ Hid (RdS s fr pos nx acc A ∧ wr.iterPos R = pos) ∧ Hid (QSt 5 21 w wr u (w.heap.size + 1) R mapE pos acc)) (fun _ wr => u.size - wr.iterPos R)
  case atStart => exact ⟨0, 0, [], rfl, Nat.zero_le _, hide ⟨⟨unhide HA, by omega, by simp, fun j h h2 => by omega⟩, by simp [World.iterPos, (unhide HQ0).2.1]⟩, HQ0⟩
  case round =>
    obtain ⟨pos, nx, acc, rfl, hpu, HL, HQ⟩ := hrel
    by_cases hp : pos < u.size
    · have hq : fr + pos < s.size := by omega
      have hrn : rn u pos = rn s (fr + pos) := by rw [← unhide Hu]; exact rn_suf s fr pos hq
      have hwd : wd u pos = wd s (fr + pos) := by rw [← unhide Hu]; exact wd_suf s fr pos hq
      have hnx : ∀ ty, (Instr.next (.pointer (some ⟨R, 0, none⟩)) true ty).run Tryz.prog wr = .ok (.tuple #[.bool true, .int .i64 (pos : Int), .int .i32 (rn s (fr + pos) : Nat)]) (wr.iterAt R u (pos + wd s (fr + pos))) := fun ty => by
        rw [← hrn, ← hwd]; exact run_next_any_at wr R u pos ty (unhide HQ).2.1 hp
      have HQ1 := hide ((unhide HQ).next (pos + wd s (fr + pos)))
      have hw1 := wd_pos s (fr + pos) hq
      have hw2 := wd_le s (fr + pos) hq
      obtain ⟨V0, hV0⟩ : ∃ V, wr.iterAt R u (pos + wd s (fr + pos)) = V := ⟨_, rfl⟩
      rw [hV0] at hnx HQ1
      clear HQ hV0 hrn hwd
      by_cases hsk : pos < nx
      · have i1 : (pos : Int) < (nx : Int) := by omega
        have hlow := by_low s (fr + pos) ((unhide HL).1.2.2.2 pos (Nat.le_refl _) hsk)
        go_wp2
        go_roundw
        case rel =>
          refine ⟨pos + wd s (fr + pos), nx, acc, rfl, by omega, hide ⟨?_, by simp [World.iterPos, (unhide HQ1).2.1]⟩, HQ1⟩
          obtain ⟨h1, h2, h3, h4⟩ := (unhide HL).1
          rw [if_pos hsk] at h1 h3
          rw [hlow.2]
          refine ⟨?_, h2, ?_, fun j hj hj2 => h4 j (by omega) hj2⟩
          · by_cases hc : pos + 1 < nx
            · rw [if_pos hc]; exact h1
            · rw [if_neg hc, show pos + 1 = nx by omega]; exact h1
          · by_cases hc : pos + 1 < nx
            · rw [if_pos hc]; exact h3
            · rw [if_neg hc]; omega
        case measure => rw [(unhide HL).2]; simp only [World.iterPos, (unhide HQ1).2.1]; omega
      · have i1 : ¬ (pos : Int) < (nx : Int) := by omega
        have hat : (fr : Int) + (pos : Int) = ((fr + pos : Nat) : Int) := by omega
        have h1 := hide (show rdA s (fr + pos) acc = A ∧ acc.length ≤ 4 * pos by have h := (unhide HL).1; obtain ⟨h1, h2, h3, h4⟩ := h; rw [if_neg hsk] at h1 h3; exact ⟨h1, h3⟩)
        have Hip := hide (unhide HL).2
        have LB := hide (show acc.length + 100 ≤ 140737488355328 by have := (unhide h1).2; omega)
        obtain ⟨at_, hat_⟩ : ∃ at_, fr + pos = at_ := ⟨_, rfl⟩
        rw [hat_] at hq hnx HQ1 hw1 hw2 hat h1
        clear HL
        by_cases hc34 : rn s at_ = 34
        · have hb34 := (rn_low s at_ hq (by omega)).1
          have HE := hide (show A = (acc, at_ + 1, true) by rw [← (unhide h1).1]; exact rdA_quote hq (by omega))
          rw [hc34] at hnx
          clear hc34 hb34 hsk
          go_wp2_with fail
          refine (string_any_k w.heap.size w.heap.size acc V0 (unhide HQ1).isB (unhide HQ1).2.2.2.2.2.2.2).mono ?_
          rintro e V1 ⟨rfl, hB, hK⟩
          go_wp2
          go_ret3
          exact ⟨by rw [unhide HE]; rfl, (unhide HQ1).2.2.2.1.trans hB⟩
        · have i34 : (((rn s at_ : Nat) : Int) == 34) = false := by rw [beq_eq_false_iff_ne]; omega
          have hb34 : by_ s at_ ≠ 34 := fun e => hc34 (by rw [(by_low s at_ (by omega)).1]; exact e)
          by_cases hc92 : rn s at_ = 92
          · have hb92 := (rn_low s at_ hq (by omega)).1
            rw [hc92] at hb92 hnx
            have hescp := hide (escape_in (frS s at_) (by rw [frS_size]; omega) (by rw [frS_by s at_ 0 (by omega), Nat.add_zero]; exact hb92) (by rw [frS_size]; omega) (w.heap.size + 1) V0 (unhide HQ1).2.2.1)
            rw [escE_suf] at hescp
            have i2 : (at_ : Int) ≤ (s.size : Int) := by omega
            have hex : s.extract at_ s.size = frS s at_ := rfl
            cases he : escE s at_ with
            | none =>
              rw [he, res_none] at hescp
              have HE := hide (show A = ([], at_, false) by rw [← (unhide h1).1]; exact rdA_none hq hb92 he)
              clear he hc34 i34 hb34 hsk
              go_wp2_with (go_at_call 105; refine (unhide hescp).mono ?_; rintro e V1 ⟨rfl, hB⟩)
              go_ret3
              exact ⟨by rw [unhide HE]; rfl, (unhide HQ1).2.2.2.1.trans (hB.mono (unhide HQ1).2.2.2.2.2.2.2)⟩
            | some v =>
              obtain ⟨x, n⟩ := v
              have hn := escE_n he
              rw [he, res_some] at hescp
              have i3 : ((n : Int) == 0) = false := by rw [beq_eq_false_iff_ne]; omega
              have HX := hide hn.2.2
              have HS := hide (show rdA s (at_ + n) (acc ++ x) = A by rw [← rdA_some hq hb92 he]; exact (unhide h1).1)
              have HW := hide (escE_low hb92 he)
              have w1 := (by_low s at_ (by omega)).2
              clear he hc34 i34 hb34
              go_wp2_with (first | (go_at_call 105; refine (unhide hescp).mono ?_; rintro e V1 ⟨rfl, hB1⟩) | fail)
              have HQ2 := hide ((unhide HQ1).below hB1)
              clear HQ1 hB1
              refine (writeString_k w.heap.size w.heap.size _ (ofL x) V1 (unhide HQ2).isB (by have := unhide LB; have h9 := unhide HX; simp only [byteCells_length, ofL_size] at this ⊢; omega) (unhide HQ2).2.2.2.2.2.2.2).mono ?_
              rintro e V2 ⟨rfl, hI, hB, hK⟩
              have HQ3 := hide ((unhide HQ2).wrote (p := .nilIface) hI (strCells_ofL _) hB hK)
              clear hI hB hK HQ2
              go_wp2
              go_roundw
              case rel =>
                refine ⟨pos + wd s at_, pos + n, acc ++ x, by go_num, by omega, hide ⟨⟨?_, by omega, ?_, ?_⟩, by simp [World.iterPos, (unhide HQ3).2.1]⟩, HQ3⟩
                · rw [w1]
                  have h5 := unhide HS
                  rw [← hat_] at h5
                  rw [if_pos (by omega), ← Nat.add_assoc]
                  exact h5
                · rw [w1, if_pos (by omega), List.length_append]
                  have := (unhide h1).2
                  omega
                · intro j hj hj2
                  exact unhide HW (fr + j) (by omega) (by omega)
              case measure => rw [unhide Hip]; simp only [World.iterPos, (unhide HQ3).2.1]; omega
          · have i92 : (((rn s at_ : Nat) : Int) == 92) = false := by rw [beq_eq_false_iff_ne]; omega
            have hb92 : by_ s at_ ≠ 92 := fun e => hc92 (by rw [(by_low s at_ (by omega)).1]; exact e)
            have hraw := fun W => hide (raw_in s at_ W hsm hq)
            cases hr : rawB s at_ with
            | true =>
              have HE := hide (show A = ([], at_, false) by rw [← (unhide h1).1]; exact rdA_raw hq hb34 hb92 hr)
              clear hb34 hb92 hc34 hc92
              go_wp2_with (go_at_call 82; refine (unhide (hraw _)).mono ?_; rintro e w' ⟨rfl, rfl⟩)
              go_ret3
              exact ⟨by rw [unhide HE]; rfl, (unhide HQ1).2.2.2.1⟩
            | false =>
              have HS := hide (show rdA s (at_ + wd s at_) (acc ++ encL (rn s at_ : Nat)) = A by rw [← rdA_rune hq hb34 hb92 hr]; exact (unhide h1).1)
              have henc := fun W => hide (encode_any ((rn s at_ : Nat) : Int) W)
              have HL4 := hide (show (Utf8.encode ((rn s at_ : Nat) : Int)).size ≤ 4 by rw [← encL_size]; exact encL_le4 _)
              have HL5 := hide (encL_le4 ((rn s at_ : Nat) : Int))
              clear hb34 hb92 hc34 hc92
              go_wp2_with (first | (go_at_call 82; refine (unhide (hraw _)).mono ?_; rintro e w' ⟨rfl, rfl⟩) | (go_at_call 98; refine (unhide (henc _)).mono ?_; rintro e w' ⟨rfl, rfl⟩) | fail)
              refine (writeString_k w.heap.size w.heap.size _ (Utf8.encode ((rn s at_ : Nat) : Int)) V0 (unhide HQ1).isB (by have := unhide LB; have h9 := unhide HL4; simp only [byteCells_length, ofL_size] at this ⊢; omega) (unhide HQ1).2.2.2.2.2.2.2).mono ?_
              rintro e V2 ⟨rfl, hI, hB, hK⟩
              have HQ3 := hide ((unhide HQ1).wrote (x := encL (rn s at_ : Nat)) (p := .nilIface) hI rfl hB hK)
              clear hI hB hK HQ1
              go_wp2
              go_roundw
              case rel =>
                refine ⟨pos + wd s at_, nx, acc ++ encL (rn s at_ : Nat), rfl, by omega, hide ⟨⟨?_, by omega, ?_, fun j hj hj2 => by omega⟩, by simp [World.iterPos, (unhide HQ3).2.1]⟩, HQ3⟩
                · have h5 := unhide HS
                  rw [← hat_] at h5 ⊢
                  rw [if_neg (by omega), ← Nat.add_assoc]
                  exact h5
                · rw [if_neg (by omega), List.length_append]
                  have := (unhide h1).2
                  have := unhide HL5
                  omega
              case measure => rw [unhide Hip]; simp only [World.iterPos, (unhide HQ3).2.1]; omega
    · have hnx : ∀ ty, (Instr.next (.pointer (some ⟨R, 0, none⟩)) true ty).run Tryz.prog wr = .ok (.tuple #[.bool false]) wr := fun ty => run_next_end_at wr R u pos ty (unhide HQ).2.1 hp
      have HE := hide (show A = ([], s.size, false) by
        obtain ⟨h1, h2, h3, h4⟩ := (unhide HL).1
        rw [← h1]
        exact rdA_end (by split <;> omega))
      go_wp2
      go_ret3
      exact ⟨by rw [unhide HE]; rfl, (unhide HQ).2.2.2.1⟩

end Go.Proofs.YtkndjbmlkfpfoaaGreatDoor
