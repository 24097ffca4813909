/-
  quote.saidRune and quote.escape: what an escape says.
-/
import Derived.Test.YticjilkcobpcjaaDoorZHx
set_option linter.unusedSimpArgs false
set_option linter.unusedVariables false
namespace Go.Proofs.YticjilkcobpcjaaDoor
open Go.RowKit Go.Lib Go.Maps

theorem hasPre_nil (l : List UInt8) : Lib.hasPrefix l [] = true := rfl
theorem hasPre_cons (t : ByteArray) (i : Nat) (c : UInt8) (p : List UInt8) : Lib.hasPrefix (t.data.toList.drop i) (c :: p) = (decide (i < t.size ∧ by_ t i = c.toNat) && Lib.hasPrefix (t.data.toList.drop (i + 1)) p) := by
  by_cases h : i < t.size
  · rw [drop_step t i h]
    show (c == t.get! i && List.isPrefixOf p _) = (_ && List.isPrefixOf p _)
    congr 1
    rw [Bool.eq_iff_iff]
    simp only [beq_iff_eq, decide_eq_true_eq]
    constructor
    · rintro rfl; exact ⟨h, rfl⟩
    · rintro ⟨_, h2⟩
      exact UInt8.toNat_inj.1 h2.symm
  · have : t.data.toList.length = t.size := by simp
    rw [List.drop_eq_nil_of_le (by omega), decide_eq_false (by omega)]
    rfl
theorem pre_one (t : ByteArray) (c : UInt8) : Lib.hasPrefix t.data.toList [c] = decide (0 < t.size ∧ by_ t 0 = c.toNat) := by
  have := hasPre_cons t 0 c []
  rw [List.drop_zero, hasPre_nil, Bool.and_true] at this
  exact this
theorem pre_two (t : ByteArray) (c d : UInt8) : Lib.hasPrefix t.data.toList [c, d] = (decide (0 < t.size ∧ by_ t 0 = c.toNat) && decide (1 < t.size ∧ by_ t 1 = d.toNat)) := by
  have := hasPre_cons t 0 c [d]
  rw [List.drop_zero, hasPre_cons, hasPre_nil, Bool.and_true] at this
  exact this
theorem pre_three (t : ByteArray) (c d e : UInt8) : Lib.hasPrefix t.data.toList [c, d, e] = (decide (0 < t.size ∧ by_ t 0 = c.toNat) && (decide (1 < t.size ∧ by_ t 1 = d.toNat) && decide (2 < t.size ∧ by_ t 2 = e.toNat))) := by
  have := hasPre_cons t 0 c [d, e]
  rw [List.drop_zero, hasPre_cons, hasPre_cons, hasPre_nil, Bool.and_true] at this
  exact this

theorem res_some (x : List UInt8) (n : Nat) : resE (some (x, n)) = (ofL x, n) := rfl
theorem res_none : resE none = (ofL [], 0) := rfl

set_option maxRecDepth 100000 in
set_option maxHeartbeats 2000000 in
theorem saidRune_in (t : ByteArray) (ht : t.size ≤ 1000000000) (w : World) :
    Calls Tryd.prog 74 #[.string t] w fun e w' => e = .returned (.tuple #[.string (resE (runeE t 0)).1, .int .i64 ((resE (runeE t 0)).2 : Int)]) ∧ Below w.heap.size w w' := by
  have hhx := fun W => hide (hex_in t ht 6 (by omega) W)
  have hb := hxR_snd t 0 6 0 0
  have hv := hxR_val t 0 6 0 0 (by simp)
  have hE : runeE t 0 = (if (hxR t 0 6 0 0).2 = 0 ∨ (1 < (hxR t 0 6 0 0).2 ∧ by_ t 0 = 48) then none
    else if 0 + (hxR t 0 6 0 0).2 < t.size ∧ by_ t (0 + (hxR t 0 6 0 0).2) = 125 ∧ Utf8.valid ((hxR t 0 6 0 0).1 : Int) = true then some (encL ((hxR t 0 6 0 0).1 : Int), (hxR t 0 6 0 0).2 + 4) else none) := rfl
  have hn : (hxR t 0 6 0 0).1 < 16777216 := by
    have : 16 ^ (hxR t 0 6 0 0).2 ≤ 16 ^ 6 := Nat.pow_le_pow_right (by decide) (by omega)
    omega
  generalize (hxR t 0 6 0 0).1 = n at hv hhx hE hn
  generalize (hxR t 0 6 0 0).2 = k at hv hhx hE hb
  rw [Nat.zero_add] at hE
  have hk6 : k ≤ 6 := by omega
  have hkt : k ≤ t.size := by have := hb.2.2 (by omega); omega
  clear hv hb
  by_cases h0 : k = 0
  · rw [if_pos (.inl h0)] at hE
    rw [hE]
    subst h0
    clear hE
    go_enter Tryd.func74, Tryd.ntmps74
    go_wp2_with (go_at_call 90; refine (unhide (hhx _)).mono ?_; rintro e w' ⟨rfl, hB⟩)
    go_ret2
    exact ⟨rfl, hB⟩
  · have i0 : ((k : Int) == 0) = false := by rw [beq_eq_false_iff_ne]; omega
    have ht0 : 0 < t.size := by omega
    have hget := by_get t 0 ht0
    by_cases h1 : 1 < k ∧ by_ t 0 = 48
    · rw [if_pos (.inr h1)] at hE
      rw [hE]
      have i1 : (1 : Int) < (k : Int) := by omega
      have i2 : (0 : Int) < (t.size : Int) := by omega
      have hz := h1.2
      rw [hz] at hget
      clear hE h0 h1
      go_enter Tryd.func74, Tryd.ntmps74
      go_wp2_with (go_at_call 90; refine (unhide (hhx _)).mono ?_; rintro e w' ⟨rfl, hB⟩)
      go_ret2
      exact ⟨rfl, hB⟩
    · rw [if_neg (by omega)] at hE
      obtain ⟨P, hP⟩ : ∃ P, P = decide (k < t.size ∧ by_ t k = 125) := ⟨_, rfl⟩
      obtain ⟨V, hV⟩ : ∃ V, V = Utf8.valid (n : Int) := ⟨_, rfl⟩
      have hE2 : runeE t 0 = if (P && V) = true then some (encL (n : Int), k + 4) else none := by
        rw [hE, hP, hV]
        by_cases ha : k < t.size ∧ by_ t k = 125
        · cases hvv : Utf8.valid (n : Int) with
          | true => rw [if_pos ⟨ha.1, ha.2, rfl⟩, decide_eq_true ha]; rfl
          | false => rw [if_neg (by simp), decide_eq_true ha]; rfl
        · rw [if_neg (fun x => ha ⟨x.1, x.2.1⟩), decide_eq_false ha]; rfl
      have hhp := fun W => hide (show Calls Tryd.prog 40 #[.string (t.extract k t.size), .string ⟨#[125]⟩] W fun e w' => e = .returned (.bool P) ∧ w' = W by
        have h := hasPrefix_q (frS t k) ⟨#[125]⟩ W
        rw [show (⟨#[125]⟩ : ByteArray).data.toList = [125] from rfl, pre_one, frS_size] at h
        have e : decide (0 < t.size - k ∧ by_ (frS t k) 0 = (125 : UInt8).toNat) = P := by
          rw [hP]
          by_cases hl : k < t.size
          · rw [frS_by t k 0 (by omega), Nat.add_zero]
            apply decide_eq_decide.2
            constructor
            · rintro ⟨a, b⟩; exact ⟨hl, b⟩
            · rintro ⟨a, b⟩; exact ⟨by omega, b⟩
          · rw [decide_eq_false (by omega), decide_eq_false (by omega)]
        rw [e] at h
        exact h)
      have hir := fun W => hide (show Calls Tryd.prog 91 #[.int .i32 (n : Int)] W fun e w' => e = .returned (.bool V) ∧ W = w' by rw [hV]; exact isRune_in n hn W)
      have henc := fun W => hide (encode_any (n : Int) W)
      have hk3 : (k : Int) ≤ (t.size : Int) := by omega
      rw [hE2]
      clear hP hV hE hE2
      by_cases hk1 : 1 < k
      · have i1 : (1 : Int) < (k : Int) := by omega
        have i2 : (0 : Int) < (t.size : Int) := by omega
        have i3 : (((by_ t 0 : Nat) : Int) == 48) = false := by rw [beq_eq_false_iff_ne]; omega
        clear h0 h1 hk1
        cases P with
        | false =>
          simp only [Bool.false_and, Bool.false_eq_true, if_false]
          go_enter Tryd.func74, Tryd.ntmps74
          go_wp2_with (first | (go_at_call 90; refine (unhide (hhx _)).mono ?_; rintro e w' ⟨rfl, hB⟩) | (go_at_call 40; refine (unhide (hhp _)).mono ?_; rintro e w' ⟨rfl, rfl⟩) | (go_at_call 91; refine (unhide (hir _)).mono ?_; rintro e w' ⟨rfl, rfl⟩) | (go_at_call 37; refine (unhide (henc _)).mono ?_; rintro e w' ⟨rfl, rfl⟩))
          go_ret2
          exact ⟨rfl, hB⟩
        | true =>
          cases V with
          | false =>
            simp only [Bool.and_false, Bool.false_eq_true, if_false]
            go_enter Tryd.func74, Tryd.ntmps74
            go_wp2_with (first | (go_at_call 90; refine (unhide (hhx _)).mono ?_; rintro e w' ⟨rfl, hB⟩) | (go_at_call 40; refine (unhide (hhp _)).mono ?_; rintro e w' ⟨rfl, rfl⟩) | (go_at_call 91; refine (unhide (hir _)).mono ?_; rintro e w' ⟨rfl, rfl⟩) | (go_at_call 37; refine (unhide (henc _)).mono ?_; rintro e w' ⟨rfl, rfl⟩))
            go_ret2
            exact ⟨rfl, hB⟩
          | true =>
            simp only [Bool.and_true, if_true, res_some, enc_back]
            go_enter Tryd.func74, Tryd.ntmps74
            go_wp2_with (first | (go_at_call 90; refine (unhide (hhx _)).mono ?_; rintro e w' ⟨rfl, hB⟩) | (go_at_call 40; refine (unhide (hhp _)).mono ?_; rintro e w' ⟨rfl, rfl⟩) | (go_at_call 91; refine (unhide (hir _)).mono ?_; rintro e w' ⟨rfl, rfl⟩) | (go_at_call 37; refine (unhide (henc _)).mono ?_; rintro e w' ⟨rfl, rfl⟩))
            go_ret2
            exact ⟨by go_num, hB⟩
      · have i1 : ¬ (1 : Int) < (k : Int) := by omega
        clear h0 h1 hk1 hget
        cases P with
        | false =>
          simp only [Bool.false_and, Bool.false_eq_true, if_false]
          go_enter Tryd.func74, Tryd.ntmps74
          go_wp2_with (first | (go_at_call 90; refine (unhide (hhx _)).mono ?_; rintro e w' ⟨rfl, hB⟩) | (go_at_call 40; refine (unhide (hhp _)).mono ?_; rintro e w' ⟨rfl, rfl⟩) | (go_at_call 91; refine (unhide (hir _)).mono ?_; rintro e w' ⟨rfl, rfl⟩) | (go_at_call 37; refine (unhide (henc _)).mono ?_; rintro e w' ⟨rfl, rfl⟩))
          go_ret2
          exact ⟨rfl, hB⟩
        | true =>
          cases V with
          | false =>
            simp only [Bool.and_false, Bool.false_eq_true, if_false]
            go_enter Tryd.func74, Tryd.ntmps74
            go_wp2_with (first | (go_at_call 90; refine (unhide (hhx _)).mono ?_; rintro e w' ⟨rfl, hB⟩) | (go_at_call 40; refine (unhide (hhp _)).mono ?_; rintro e w' ⟨rfl, rfl⟩) | (go_at_call 91; refine (unhide (hir _)).mono ?_; rintro e w' ⟨rfl, rfl⟩) | (go_at_call 37; refine (unhide (henc _)).mono ?_; rintro e w' ⟨rfl, rfl⟩))
            go_ret2
            exact ⟨rfl, hB⟩
          | true =>
            simp only [Bool.and_true, if_true, res_some, enc_back]
            go_enter Tryd.func74, Tryd.ntmps74
            go_wp2_with (first | (go_at_call 90; refine (unhide (hhx _)).mono ?_; rintro e w' ⟨rfl, hB⟩) | (go_at_call 40; refine (unhide (hhp _)).mono ?_; rintro e w' ⟨rfl, rfl⟩) | (go_at_call 91; refine (unhide (hir _)).mono ?_; rintro e w' ⟨rfl, rfl⟩) | (go_at_call 37; refine (unhide (henc _)).mono ?_; rintro e w' ⟨rfl, rfl⟩))
            go_ret2
            exact ⟨by go_num, hB⟩

theorem byteE_drop (t : ByteArray) : byteE (frS t 2) 0 = byteE t 2 := by unfold byteE; rw [hxR_drop]
theorem runeE_drop (t : ByteArray) (h : 3 ≤ t.size) : runeE (frS t 3) 0 = runeE t 3 := by
  unfold runeE
  simp only [hxR_drop, Nat.add_zero, Nat.zero_add, frS_size]
  have hb := hxR_snd t 3 6 0 0
  generalize (hxR t 3 6 0 0).1 = n
  generalize (hxR t 3 6 0 0).2 = k at hb
  by_cases h0 : k = 0
  · rw [if_pos (.inl h0), if_pos (.inl h0)]
  · have hk : 3 + k ≤ t.size := hb.2.2 h
    rw [frS_by t 3 0 (by omega), Nat.add_zero]
    split
    · rfl
    · by_cases h1 : 3 + k < t.size
      · rw [frS_by t 3 k h1]
        congr 1
        simp only [eq_iff_iff]
        constructor
        · rintro ⟨a, b⟩; exact ⟨h1, b⟩
        · rintro ⟨a, b⟩; exact ⟨by omega, b⟩
      · rw [if_neg (by omega), if_neg (by omega)]
theorem cut_yes (t : ByteArray) (p : ByteArray) (n : Nat) (hn : p.data.toList.length = n) (h : Lib.hasPrefix t.data.toList p.data.toList = true) (W : World) :
    Calls Tryd.prog 72 #[.string t, .string p] W fun e w' => e = .returned (.tuple #[.string (frS t n), .bool true]) ∧ w' = W := by
  have := cutPrefix_q t p W
  rw [h] at this
  unfold Lib.trimPrefix at this
  rw [if_pos h, hn, ofL_drop] at this
  exact this
theorem cut_no (t : ByteArray) (p : ByteArray) (h : Lib.hasPrefix t.data.toList p.data.toList = false) (W : World) :
    Calls Tryd.prog 72 #[.string t, .string p] W fun e w' => e = .returned (.tuple #[.string t, .bool false]) ∧ w' = W := by
  have := cutPrefix_q t p W
  rw [h] at this
  unfold Lib.trimPrefix at this
  rw [if_neg (by rw [h]; simp)] at this
  exact this

theorem encL_ru (b : Nat) : Utf8.encode ((ruN b : Nat) : Int) = ofL [UInt8.ofNat (ruN b)] := by
  rw [← enc_back, enc1 _ (by unfold ruN; (repeat' split) <;> omega)]

set_option maxRecDepth 100000 in
set_option maxHeartbeats 2000000 in
theorem escape_in (t : ByteArray) (ht : t.size ≤ 1000000000) (h0 : by_ t 0 = 92) (hz : 0 < t.size) (m : Nat) (w : World) (hown : w.ownsMap Tryd.prog 5 (plainElem Tryd.prog 21) m 5 mapE) :
    Calls Tryd.prog 55 #[.string t, .map (some m)] w fun e w' => e = .returned (.tuple #[.string (resE (escE t 0)).1, .int .i64 ((resE (escE t 0)).2 : Int)]) ∧ Below w.heap.size w w' := by
  have Hown := hide hown
  clear hown
  by_cases h2 : 1 < t.size
  · have i1 : ¬ (t.size : Int) < 2 := by omega
    have i2 : (1 : Int) < (t.size : Int) := by omega
    have hget := by_get t 1 h2
    have hb := by_lt t 1
    have hwf : (Lit.int .u8 ((by_ t 1 : Nat) : Int)).wf = true := WalkArith.wf_u8 (by omega)
    have hE : escE t 0 = if by_ t 1 = 34 then some ([34], 2) else if by_ t 1 = 92 then some ([92], 2)
      else if by_ t 1 = 110 then some ([10], 2) else if by_ t 1 = 114 then some ([13], 2) else if by_ t 1 = 116 then some ([9], 2)
      else if by_ t 1 = 120 then byteE t 2
      else if by_ t 1 = 117 ∧ 2 < t.size ∧ by_ t 2 = 123 then runeE t 3 else none := by unfold escE; rw [if_pos (by omega)]
    by_cases hr : ruN (by_ t 1) ≠ 0
    · have hh : Maps.has mapE (.int .u8 ((by_ t 1 : Nat) : Int)) = true := by rw [mapE_has]; simpa using hr
      have Hat := hide (mapE_at (by_ t 1) hr)
      have hE2 : escE t 0 = some ([UInt8.ofNat (ruN (by_ t 1))], 2) := by
        rw [hE]
        have hc : by_ t 1 = 34 ∨ by_ t 1 = 92 ∨ by_ t 1 = 110 ∨ by_ t 1 = 114 ∨ by_ t 1 = 116 := by unfold ruN at hr; (repeat' split at hr) <;> omega
        rcases hc with h | h | h | h | h <;> rw [h] <;> rfl
      have henc := fun W => hide (encode_any ((ruN (by_ t 1) : Nat) : Int) W)
      rw [hE2, res_some, ← encL_ru]
      clear hE hE2 hr
      go_enter Tryd.func55, Tryd.ntmps55
      go_wp2_with (first | (at_lookup; refine wpList_lookup_own_ok_int _ rfl _ _ 86 rfl 5 21 .i32 lawU8 Tryd.underlying86 Tryd.underlying21 (zeroI32 _) m 5 _ rfl (unhide Hown) _ _ rfl (keyOf_int_mk Tryd.underlying5 hwf) ?_; intro c hat hwc; obtain rfl := lit_val hat (unhide Hat _); clear hat hwc) | (go_at_call 37; refine (unhide (henc _)).mono ?_; rintro e w' ⟨rfl, rfl⟩))
      go_ret2
      exact ⟨rfl, Below.refl _ _⟩
    · have hh : Maps.has mapE (.int .u8 ((by_ t 1 : Nat) : Int)) = false := by rw [mapE_has]; simpa using hr
      have hne : by_ t 1 ≠ 34 ∧ by_ t 1 ≠ 92 ∧ by_ t 1 ≠ 110 ∧ by_ t 1 ≠ 114 ∧ by_ t 1 ≠ 116 := by unfold ruN at hr; (repeat' split at hr) <;> omega
      rw [if_neg hne.1, if_neg hne.2.1, if_neg hne.2.2.1, if_neg hne.2.2.2.1, if_neg hne.2.2.2.2] at hE
      by_cases hx : by_ t 1 = 120
      · rw [if_pos hx] at hE
        have hcut := fun W => hide (cut_yes t ⟨#[92, 120]⟩ 2 rfl (by
          show Lib.hasPrefix t.data.toList [92, 120] = true
          rw [pre_two, decide_eq_true ⟨hz, h0⟩, decide_eq_true ⟨h2, hx⟩]; rfl) W)
        have hsb := fun W => hide (saidByte_in (frS t 2) (by rw [frS_size]; omega) W)
        rw [byteE_drop, ← hE] at hsb
        clear hE hr hne hx
        go_enter Tryd.func55, Tryd.ntmps55
        go_wp2_with (first | (at_lookup; refine wpList_lookup_own_ok_int _ rfl _ _ 86 rfl 5 21 .i32 lawU8 Tryd.underlying86 Tryd.underlying21 (zeroI32 _) m 5 _ rfl (unhide Hown) _ _ rfl (keyOf_int_mk Tryd.underlying5 hwf) ?_; intro c hat hwc; clear hat hwc) | (go_at_call 72; refine (unhide (hcut _)).mono ?_; rintro e w' ⟨rfl, rfl⟩) | (go_at_call 73; refine (unhide (hsb _)).mono ?_; rintro e w' ⟨rfl, hB⟩))
        go_ret2
        exact ⟨rfl, hB⟩
      · rw [if_neg hx] at hE
        have hcut := fun W => hide (cut_no t ⟨#[92, 120]⟩ (by
          show Lib.hasPrefix t.data.toList [92, 120] = false
          rw [pre_two, decide_eq_true ⟨hz, h0⟩, decide_eq_false (fun x => hx x.2)]; rfl) W)
        by_cases hu : by_ t 1 = 117 ∧ 2 < t.size ∧ by_ t 2 = 123
        · rw [if_pos hu] at hE
          have hcut2 := fun W => hide (cut_yes t ⟨#[92, 117, 123]⟩ 3 rfl (by
            show Lib.hasPrefix t.data.toList [92, 117, 123] = true
            rw [pre_three, decide_eq_true ⟨hz, h0⟩, decide_eq_true ⟨h2, hu.1⟩, decide_eq_true ⟨hu.2.1, hu.2.2⟩]; rfl) W)
          have hsb := fun W => hide (saidRune_in (frS t 3) (by rw [frS_size]; omega) W)
          rw [runeE_drop t (by omega), ← hE] at hsb
          clear hE hr hne hx hu
          go_enter Tryd.func55, Tryd.ntmps55
          go_wp2_with (first | (at_lookup; refine wpList_lookup_own_ok_int _ rfl _ _ 86 rfl 5 21 .i32 lawU8 Tryd.underlying86 Tryd.underlying21 (zeroI32 _) m 5 _ rfl (unhide Hown) _ _ rfl (keyOf_int_mk Tryd.underlying5 hwf) ?_; intro c hat hwc; clear hat hwc) | fail)
          refine (unhide (hcut w)).mono ?_
          rintro e w1 ⟨rfl, rfl⟩
          go_wp2_with fail
          refine (unhide (hcut2 w1)).mono ?_
          rintro e w2 ⟨rfl, rfl⟩
          go_wp2_with (go_at_call 74; refine (unhide (hsb _)).mono ?_; rintro e w' ⟨rfl, hB⟩)
          go_ret2
          exact ⟨rfl, hB⟩
        · rw [if_neg hu] at hE
          have hcut2 := fun W => hide (cut_no t ⟨#[92, 117, 123]⟩ (by
            show Lib.hasPrefix t.data.toList [92, 117, 123] = false
            rw [pre_three, decide_eq_true ⟨hz, h0⟩, Bool.true_and, ← Bool.not_eq_true, Bool.and_eq_true, decide_eq_true_eq, decide_eq_true_eq]
            rintro ⟨a, b⟩
            exact hu ⟨a.2, b.1, b.2⟩) W)
          rw [hE]
          clear hE hr hne hx hu
          go_enter Tryd.func55, Tryd.ntmps55
          go_wp2_with (first | (at_lookup; refine wpList_lookup_own_ok_int _ rfl _ _ 86 rfl 5 21 .i32 lawU8 Tryd.underlying86 Tryd.underlying21 (zeroI32 _) m 5 _ rfl (unhide Hown) _ _ rfl (keyOf_int_mk Tryd.underlying5 hwf) ?_; intro c hat hwc; clear hat hwc) | fail)
          refine (unhide (hcut w)).mono ?_
          rintro e w1 ⟨rfl, rfl⟩
          go_wp2_with fail
          refine (unhide (hcut2 w1)).mono ?_
          rintro e w2 ⟨rfl, rfl⟩
          go_wp2
          go_ret2
          exact ⟨rfl, Below.refl _ _⟩
  · have i1 : (t.size : Int) < 2 := by omega
    have hE : escE t 0 = none := by unfold escE; rw [if_neg (by omega)]
    rw [hE]
    clear hE h2
    go_enter Tryd.func55, Tryd.ntmps55
    go_wp2
    go_ret2
    exact ⟨rfl, Below.refl _ _⟩

end Go.Proofs.YticjilkcobpcjaaDoor
