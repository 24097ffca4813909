/-
  What the document's own IsRune and Encode answer.
-/
import Derived.Test.YtkndjbmlkfpfoaaGreatDoorZHx
import Derived.Test.YtkndjbmlkfpfoaaGreatDoorZEsToRd
import Derived.Test.YtkndjbmlkfpfoaaGreatDoorZRefDec
import Derived.Test.YtkndjbmlkfpfoaaGreatDoorZRegToRegV
import Derived.Test.YtkndjbmlkfpfoaaGreatDoorZRQ
import Derived.Test.YtkndjbmlkfpfoaaGreatDoorZRs1ToSd2
import Derived.Test.YtkndjbmlkfpfoaaGreatDoorZSn0ToWr

set_option linter.unusedSimpArgs false
set_option linter.unusedVariables false
namespace Go.Proofs.YtkndjbmlkfpfoaaGreatDoor
open Go.RowKit Go.Lib

set_option maxHeartbeats 400000 in
theorem isRune_any (r : Int) (w : World) :
    Calls Tryz.prog 109 #[.int .i32 r] w fun e w' => e = .returned (.bool (Utf8.valid r)) ∧ w = w' := by
  have hv := valid_iff r
  rcases (by omega : r < 0 ∨ (0 ≤ r ∧ 1114111 < r) ∨ (0 ≤ r ∧ r ≤ 1114111 ∧ r < 55296) ∨ (55296 ≤ r ∧ r ≤ 57343) ∨ (57344 ≤ r ∧ r ≤ 1114111)) with h | ⟨h, h'⟩ | ⟨h, h', h''⟩ | ⟨h, h'⟩ | ⟨h, h'⟩
  · have e : Utf8.valid r = false := by rw [← Bool.not_eq_true, hv]; omega
    have q1 : decide (0 ≤ r) = false := by simp; omega
    rw [e]; clear hv e
    go_enter Tryz.func109, Tryz.ntmps109
    go_wp2
    go_ret
    exact ⟨rfl, rfl⟩
  · have e : Utf8.valid r = false := by rw [← Bool.not_eq_true, hv]; omega
    have q1 : decide (0 ≤ r) = true := by simp; omega
    have q2 : decide (r ≤ 1114111) = false := by simp; omega
    rw [e]; clear hv e
    go_enter Tryz.func109, Tryz.ntmps109
    go_wp2
    go_ret
    exact ⟨rfl, rfl⟩
  · have e : Utf8.valid r = true := by rw [hv]; omega
    have q1 : decide (0 ≤ r) = true := by simp; omega
    have q2 : decide (r ≤ 1114111) = true := by simp; omega
    have q3 : decide (r < 55296) = true := by simp; omega
    rw [e]; clear hv e
    go_enter Tryz.func109, Tryz.ntmps109
    go_wp2
    go_ret
    exact ⟨rfl, rfl⟩
  · have e : Utf8.valid r = false := by rw [← Bool.not_eq_true, hv]; omega
    have q1 : decide (0 ≤ r) = true := by simp; omega
    have q2 : decide (r ≤ 1114111) = true := by simp; omega
    have q3 : decide (r < 55296) = false := by simp; omega
    have q4 : decide (57343 < r) = false := by simp; omega
    rw [e]; clear hv e
    go_enter Tryz.func109, Tryz.ntmps109
    go_wp2
    go_ret
    exact ⟨rfl, rfl⟩
  · have e : Utf8.valid r = true := by rw [hv]; omega
    have q1 : decide (0 ≤ r) = true := by simp; omega
    have q2 : decide (r ≤ 1114111) = true := by simp; omega
    have q3 : decide (r < 55296) = false := by simp; omega
    have q4 : decide (57343 < r) = true := by simp; omega
    rw [e]; clear hv e
    go_enter Tryz.func109, Tryz.ntmps109
    go_wp2
    go_ret
    exact ⟨rfl, rfl⟩

set_option maxRecDepth 100000 in
set_option maxHeartbeats 1000000 in
theorem refEncode_one (c : Nat) (E : ByteArray) (w : World) (hE : Hid (ofL (([(c : Int)] : List Int).map fun z => UInt8.ofNat z.toNat) = E)) (h1 : c < 128) :
    Calls Tryz.prog 110 #[.int .i32 c] w fun e w' => e = .returned (.string E) ∧ Below w.heap.size w w' := by
  have hcv : (convert 38 9 (.slice (some ⟨w.heap.size, 0, none⟩) 1 1)).run Tryz.prog (w.alloc (.cells #[.int .u8 (c : Int)] 5)) = .ok (.string E) (w.alloc (.cells #[.int .u8 (c : Int)] 5)) := by
    rw [← unhide hE]
    refine conv_bytes _ _ _ _ [(c : Int)] rfl (fun j hj => ?_)
    have : j = 0 := by simp at hj; omega
    subst this; simp [go_sem, Addr.add]
  have hval := hide (val_ok c (by omega))
  go_enter Tryz.func110, Tryz.ntmps110
  go_wp2_with fail
  refine (isRune_any _ _).mono ?_
  rintro e w' ⟨rfl, rfl⟩
  rw [unhide hval]
  clear hval
  go_wp2_with (simp only [hcv])
  go_ret
  exact ⟨rfl, (Below.refl _ w).alloc (Nat.le_refl _) _⟩

set_option maxRecDepth 100000 in
set_option maxHeartbeats 1000000 in
theorem refEncode_two (c : Nat) (E : ByteArray) (w : World) (hE : Hid (ofL (([(192 + (c : Int) / 64), (128 + (c : Int) % 64)] : List Int).map fun z => UInt8.ofNat z.toNat) = E)) (h1 : ¬ c < 128) (h2 : c < 2048) :
    Calls Tryz.prog 110 #[.int .i32 c] w fun e w' => e = .returned (.string E) ∧ Below w.heap.size w w' := by
  have hcv : (convert 38 9 (.slice (some ⟨w.heap.size, 0, none⟩) 2 2)).run Tryz.prog (w.alloc (.cells #[.int .u8 (192 + (c : Int) / 64), .int .u8 (128 + (c : Int) % 64)] 5)) = .ok (.string E) (w.alloc (.cells #[.int .u8 (192 + (c : Int) / 64), .int .u8 (128 + (c : Int) % 64)] 5)) := by
    rw [← unhide hE]
    refine conv_bytes _ _ _ _ [(192 + (c : Int) / 64), (128 + (c : Int) % 64)] rfl (fun j hj => ?_)
    have : j = 0 ∨ j = 1 := by simp at hj; omega
    rcases this with rfl | rfl <;> simp [go_sem, Addr.add]
  have hval := hide (val_ok c (by omega))
  go_enter Tryz.func110, Tryz.ntmps110
  go_wp2_with fail
  refine (isRune_any _ _).mono ?_
  rintro e w' ⟨rfl, rfl⟩
  rw [unhide hval]
  clear hval
  go_wp2_with (simp only [hcv])
  go_ret
  exact ⟨rfl, (Below.refl _ w).alloc (Nat.le_refl _) _⟩

set_option maxRecDepth 100000 in
set_option maxHeartbeats 1000000 in
theorem refEncode_three (c : Nat) (E : ByteArray) (w : World) (hE : Hid (ofL (([(224 + (c : Int) / 4096), (128 + (c : Int) / 64 % 64), (128 + (c : Int) % 64)] : List Int).map fun z => UInt8.ofNat z.toNat) = E)) (h2 : ¬ c < 2048) (h3 : c < 65536) (hv : c < 55296 ∨ 57344 ≤ c) :
    Calls Tryz.prog 110 #[.int .i32 c] w fun e w' => e = .returned (.string E) ∧ Below w.heap.size w w' := by
  have hcv : (convert 38 9 (.slice (some ⟨w.heap.size, 0, none⟩) 3 3)).run Tryz.prog (w.alloc (.cells #[.int .u8 (224 + (c : Int) / 4096), .int .u8 (128 + (c : Int) / 64 % 64), .int .u8 (128 + (c : Int) % 64)] 5)) = .ok (.string E) (w.alloc (.cells #[.int .u8 (224 + (c : Int) / 4096), .int .u8 (128 + (c : Int) / 64 % 64), .int .u8 (128 + (c : Int) % 64)] 5)) := by
    rw [← unhide hE]
    refine conv_bytes _ _ _ _ [(224 + (c : Int) / 4096), (128 + (c : Int) / 64 % 64), (128 + (c : Int) % 64)] rfl (fun j hj => ?_)
    have : j = 0 ∨ j = 1 ∨ j = 2 := by simp at hj; omega
    rcases this with rfl | rfl | rfl <;> simp [go_sem, Addr.add]
  have hval := hide (val_ok c (by omega))
  have q1 : decide ((c : Int) < 128) = false := decide_eq_false (by omega)
  have q2 : decide ((c : Int) < 2048) = false := decide_eq_false (by omega)
  have q3 : decide ((c : Int) < 65536) = true := decide_eq_true (by omega)
  clear hv
  go_enter Tryz.func110, Tryz.ntmps110
  go_wp2_with fail
  refine (isRune_any _ _).mono ?_
  rintro e w' ⟨rfl, rfl⟩
  rw [unhide hval]
  clear hval
  go_wp2_with (simp only [hcv])
  go_ret
  exact ⟨rfl, (Below.refl _ w).alloc (Nat.le_refl _) _⟩

set_option maxRecDepth 100000 in
set_option maxHeartbeats 1000000 in
theorem refEncode_four (c : Nat) (E : ByteArray) (w : World) (hE : Hid (ofL (([(240 + (c : Int) / 262144), (128 + (c : Int) / 4096 % 64), (128 + (c : Int) / 64 % 64), (128 + (c : Int) % 64)] : List Int).map fun z => UInt8.ofNat z.toNat) = E)) (h3 : ¬ c < 65536) (h4 : c ≤ 1114111) :
    Calls Tryz.prog 110 #[.int .i32 c] w fun e w' => e = .returned (.string E) ∧ Below w.heap.size w w' := by
  have hcv : (convert 38 9 (.slice (some ⟨w.heap.size, 0, none⟩) 4 4)).run Tryz.prog (w.alloc (.cells #[.int .u8 (240 + (c : Int) / 262144), .int .u8 (128 + (c : Int) / 4096 % 64), .int .u8 (128 + (c : Int) / 64 % 64), .int .u8 (128 + (c : Int) % 64)] 5)) = .ok (.string E) (w.alloc (.cells #[.int .u8 (240 + (c : Int) / 262144), .int .u8 (128 + (c : Int) / 4096 % 64), .int .u8 (128 + (c : Int) / 64 % 64), .int .u8 (128 + (c : Int) % 64)] 5)) := by
    rw [← unhide hE]
    refine conv_bytes _ _ _ _ [(240 + (c : Int) / 262144), (128 + (c : Int) / 4096 % 64), (128 + (c : Int) / 64 % 64), (128 + (c : Int) % 64)] rfl (fun j hj => ?_)
    have : j = 0 ∨ j = 1 ∨ j = 2 ∨ j = 3 := by simp at hj; omega
    rcases this with rfl | rfl | rfl | rfl <;> simp [go_sem, Addr.add]
  have hval := hide (val_ok c (by omega))
  have q1 : decide ((c : Int) < 128) = false := decide_eq_false (by omega)
  have q2 : decide ((c : Int) < 2048) = false := decide_eq_false (by omega)
  have q3 : decide ((c : Int) < 65536) = false := decide_eq_false (by omega)
  go_enter Tryz.func110, Tryz.ntmps110
  go_wp2_with fail
  refine (isRune_any _ _).mono ?_
  rintro e w' ⟨rfl, rfl⟩
  rw [unhide hval]
  clear hval
  go_wp2_with (simp only [hcv])
  go_ret
  exact ⟨rfl, (Below.refl _ w).alloc (Nat.le_refl _) _⟩

theorem utf_of {c : Nat} {l : List UInt8} {E : ByteArray} (h : E = ⟨l.toArray⟩) {zs : List Int} (hz : (zs.map fun z => UInt8.ofNat z.toNat) = l) : ofL (zs.map fun z => UInt8.ofNat z.toNat) = E := by
  rw [hz, h]; rfl

theorem refEncode_valid (c : Nat) (w : World) (hv : c < 55296 ∨ (57344 ≤ c ∧ c ≤ 1114111)) :
    Calls Tryz.prog 110 #[.int .i32 c] w fun e w' => e = .returned (.string (Utf8.encode (c : Nat))) ∧ Below w.heap.size w w' := by
  have hval := val_ok c hv
  by_cases h1 : c < 128
  · refine refEncode_one c _ w (hide (utf_of (c := c) (utf1 c h1 hval) ?_)) h1
    simp only [List.map_cons, List.map_nil, Int.toNat_natCast]
  · by_cases h2 : c < 2048
    · refine refEncode_two c _ w (hide (utf_of (c := c) (utf2 c h1 h2 hval) ?_)) h1 h2
      simp only [List.map_cons, List.map_nil]
      rw [show (192 + (c : Int) / 64).toNat = 192 + c / 64 from by omega, show (128 + (c : Int) % 64).toNat = 128 + c % 64 from by omega]
    · by_cases h3 : c < 65536
      · refine refEncode_three c _ w (hide (utf_of (c := c) (utf3 c h1 h2 h3 hval) ?_)) h2 h3 (by omega)
        simp only [List.map_cons, List.map_nil]
        rw [show (224 + (c : Int) / 4096).toNat = 224 + c / 4096 from by omega, show (128 + (c : Int) / 64 % 64).toNat = 128 + c / 64 % 64 from by omega, show (128 + (c : Int) % 64).toNat = 128 + c % 64 from by omega]
      · refine refEncode_four c _ w (hide (utf_of (c := c) (utf4 c h1 h2 h3 hval) ?_)) h3 (by omega)
        simp only [List.map_cons, List.map_nil]
        rw [show (240 + (c : Int) / 262144).toNat = 240 + c / 262144 from by omega, show (128 + (c : Int) / 4096 % 64).toNat = 128 + c / 4096 % 64 from by omega, show (128 + (c : Int) / 64 % 64).toNat = 128 + c / 64 % 64 from by omega, show (128 + (c : Int) % 64).toNat = 128 + c % 64 from by omega]

set_option maxRecDepth 100000 in
set_option maxHeartbeats 1000000 in
theorem refEncode_bad (r : Int) (E : ByteArray) (w : World) (hE : Hid (ofL (([239, 191, 189] : List Int).map fun z => UInt8.ofNat z.toNat) = E)) (hv : Hid (Utf8.valid r = false)) :
    Calls Tryz.prog 110 #[.int .i32 r] w fun e w' => e = .returned (.string E) ∧ Below w.heap.size w w' := by
  have hcv : (convert 38 9 (.slice (some ⟨w.heap.size, 0, none⟩) 3 3)).run Tryz.prog (w.alloc (.cells #[.int .u8 239, .int .u8 191, .int .u8 189] 5)) = .ok (.string E) (w.alloc (.cells #[.int .u8 239, .int .u8 191, .int .u8 189] 5)) := by
    rw [← unhide hE]
    refine conv_bytes _ _ _ _ [239, 191, 189] rfl (fun j hj => ?_)
    have : j = 0 ∨ j = 1 ∨ j = 2 := by simp at hj; omega
    rcases this with rfl | rfl | rfl <;> simp [go_sem, Addr.add]
  go_enter Tryz.func110, Tryz.ntmps110
  go_wp2_with fail
  refine (isRune_any _ _).mono ?_
  rintro e w' ⟨rfl, rfl⟩
  rw [unhide hv]
  go_wp2_with (simp only [hcv])
  go_ret
  exact ⟨rfl, (Below.refl _ w).alloc (Nat.le_refl _) _⟩

theorem refEncode_any (r : Int) (w : World) :
    Calls Tryz.prog 110 #[.int .i32 r] w fun e w' => e = .returned (.string (Utf8.encode r)) ∧ Below w.heap.size w w' := by
  cases hv : Utf8.valid r with
  | true =>
    have h := (valid_iff r).1 hv
    obtain ⟨c, rfl⟩ := Int.eq_ofNat_of_zero_le (show 0 ≤ r by omega)
    exact refEncode_valid c w (by omega)
  | false =>
    refine refEncode_bad r _ w (hide ?_) (hide hv)
    rw [enc_fix r]
    have hf : fixN r = 65533 := by unfold fixN; rw [hv]; rfl
    rw [hf]
    refine utf_of (c := 0) (utf3 65533 (by omega) (by omega) (by omega) (val_ok 65533 (by omega))) ?_
    rfl

end Go.Proofs.YtkndjbmlkfpfoaaGreatDoor

/-
  What the document's own escape answers.
-/
set_option linter.unusedSimpArgs false
set_option linter.unusedVariables false
namespace Go.Proofs.YtkndjbmlkfpfoaaGreatDoor
open Go.RowKit Go.Lib

def vaI (b : Nat) : Int := if dgV b < 16 then (dgV b : Int) else -1
set_option maxHeartbeats 400000 in
theorem value_in (r : Nat) (hr : r < 256) (w : World) :
    Calls Tryz.prog 108 #[.int .u8 (r : Int)] w fun e w' => e = .returned (.int .i64 (vaI r)) ∧ w = w' := by
  rcases (by omega : r < 48 ∨ (48 ≤ r ∧ r ≤ 57) ∨ (57 < r ∧ r < 97) ∨ (97 ≤ r ∧ r ≤ 102) ∨ 102 < r) with h | ⟨h, h'⟩ | ⟨h, h'⟩ | ⟨h, h'⟩ | h
  · have hd := hide (show vaI r = -1 by unfold vaI dgV; (repeat' split) <;> omega)
    have i1 : ¬ (48 : Int) ≤ (r : Int) := by omega
    have i2 : ¬ (97 : Int) ≤ (r : Int) := by omega
    clear h
    go_enter Tryz.func108, Tryz.ntmps108
    go_wp2
    go_ret
    exact ⟨by rw [unhide hd]; rfl, rfl⟩
  · have hd := hide (show vaI r = (r : Int) - 48 by unfold vaI dgV; (repeat' split) <;> omega)
    have i1 : (48 : Int) ≤ (r : Int) := by omega
    have i2 : (r : Int) ≤ 57 := by omega
    clear h h'
    go_enter Tryz.func108, Tryz.ntmps108
    go_wp2
    go_ret
    refine ⟨?_, rfl⟩
    rw [unhide hd]
    go_num
  · have hd := hide (show vaI r = -1 by unfold vaI dgV; (repeat' split) <;> omega)
    have i1 : (48 : Int) ≤ (r : Int) := by omega
    have i2 : ¬ (r : Int) ≤ 57 := by omega
    have i3 : ¬ (97 : Int) ≤ (r : Int) := by omega
    clear h h'
    go_enter Tryz.func108, Tryz.ntmps108
    go_wp2
    go_ret
    exact ⟨by rw [unhide hd]; rfl, rfl⟩
  · have hd := hide (show vaI r = (r : Int) - 97 + 10 by unfold vaI dgV; (repeat' split) <;> omega)
    have i1 : (48 : Int) ≤ (r : Int) := by omega
    have i2 : ¬ (r : Int) ≤ 57 := by omega
    have i3 : (97 : Int) ≤ (r : Int) := by omega
    have i4 : (r : Int) ≤ 102 := by omega
    clear h h'
    go_enter Tryz.func108, Tryz.ntmps108
    go_wp2
    go_ret
    refine ⟨?_, rfl⟩
    rw [unhide hd]
    go_num
  · have hd := hide (show vaI r = -1 by unfold vaI dgV; (repeat' split) <;> omega)
    have i1 : (48 : Int) ≤ (r : Int) := by omega
    have i2 : ¬ (r : Int) ≤ 57 := by omega
    have i3 : (97 : Int) ≤ (r : Int) := by omega
    have i4 : ¬ (r : Int) ≤ 102 := by omega
    clear h
    go_enter Tryz.func108, Tryz.ntmps108
    go_wp2
    go_ret
    exact ⟨by rw [unhide hd]; rfl, rfl⟩

theorem vaI_yes {b : Nat} (h : dgV b < 16) : vaI b = (dgV b : Int) := by unfold vaI; rw [if_pos h]
theorem vaI_no {b : Nat} (h : ¬ dgV b < 16) : vaI b = -1 := by unfold vaI; rw [if_neg h]
theorem byteE_yes {s : ByteArray} {i : Nat} (h : i + 1 < s.size) (h1 : dgV (by_ s i) < 16) (h2 : dgV (by_ s (i + 1)) < 16) : byteE s i = some ([UInt8.ofNat (16 * dgV (by_ s i) + dgV (by_ s (i + 1)))], 4) := by
  have e : hxR s i 2 0 0 = (16 * dgV (by_ s i) + dgV (by_ s (i + 1)), 2) := by
    rw [hxR_step (by omega) (by rw [Nat.add_zero]; exact h1), hxR_step (by omega) h2]
    simp [hxR]
  unfold byteE; rw [e]; rfl
theorem byteE_no {s : ByteArray} {i : Nat} (h : ¬ (i + 1 < s.size ∧ dgV (by_ s i) < 16 ∧ dgV (by_ s (i + 1)) < 16)) : byteE s i = none := by
  unfold byteE
  rw [if_neg]
  by_cases h1 : i < s.size ∧ dgV (by_ s i) < 16
  · rw [hxR_step (by omega) (by rw [Nat.add_zero]; exact h1.2)]
    rw [hxR_stop (by intro x; exact h ⟨x.1, h1.2, x.2⟩)]
    simp
  · rw [hxR_stop (by rw [Nat.add_zero]; exact h1)]
    simp

theorem ext_sub4 (s : ByteArray) (i n : Nat) : (s.extract i (i + n)).data.toList = subL s i n := by
  unfold subL; simp
theorem ext_one (s : ByteArray) (i : Nat) (h : i < s.size) : s.extract i (i + 1) = ofL [UInt8.ofNat (by_ s i)] := by
  apply toList_inj
  have := ext_sub4 s i 1
  rw [this, subL_1 s i (by omega), ofL_list, by_ofNat]

set_option maxRecDepth 100000 in
set_option maxHeartbeats 4000000 in
theorem refEsc_easy (s : ByteArray) (hs : s.size ≤ 1000000000) (i : Nat) (hi : i < s.size) (hx : ¬ (i + 1 < s.size ∧ (by_ s (i + 1) = 120 ∨ by_ s (i + 1) = 117))) (w : World) :
    Calls Tryz.prog 90 #[.string s, .int .i64 (i : Int)] w fun e w' => e = .returned (.tuple #[.string (resE (escE s i)).1, .int .i64 ((resE (escE s i)).2 : Int)]) ∧ Below w.heap.size w w' := by
  by_cases h1 : i + 1 < s.size
  · have hE : escE s i = if by_ s (i + 1) = 34 then some ([34], 2) else if by_ s (i + 1) = 92 then some ([92], 2)
      else if by_ s (i + 1) = 110 then some ([10], 2) else if by_ s (i + 1) = 114 then some ([13], 2) else if by_ s (i + 1) = 116 then some ([9], 2)
      else none := by unfold escE; rw [if_pos h1]; simp only [show ¬ by_ s (i + 1) = 120 from fun e => hx ⟨h1, .inl e⟩, show ¬ by_ s (i + 1) = 117 from fun e => hx ⟨h1, .inr e⟩, if_false, false_and]
    have hget := by_get s (i + 1) h1
    have hext := ext_one s (i + 1) h1
    have i1 : ¬ (s.size : Int) ≤ (i : Int) + 1 := by omega
    have i2 : (i : Int) + 1 < (s.size : Int) := by omega
    have i3 : (0 : Int) ≤ (i : Int) + 1 := by omega
    have i4 : (i : Int) + 2 ≤ (s.size : Int) := by omega
    have i5 : (i : Int) + 1 ≤ (i : Int) + 2 := by omega
    have t1 : ((i : Int) + 1).toNat = i + 1 := by omega
    have t2 : ((i : Int) + 2).toNat = i + 2 := by omega
    by_cases h34 : by_ s (i + 1) = 34
    · rw [show escE s i = some ([34], 2) by rw [hE, h34]; rfl, res_some]
      rw [h34] at hget hext
      clear hE hx
      go_enter Tryz.func90, Tryz.ntmps90
      go_wp2
      go_ret2
      exact ⟨by first | rfl | (rw [show i + 2 = i + 1 + 1 from rfl, hext]; rfl), Below.refl _ _⟩
    · have e34 : (((by_ s (i + 1) : Nat) : Int) == 34) = false := by rw [beq_eq_false_iff_ne]; omega
      by_cases h92 : by_ s (i + 1) = 92
      · rw [show escE s i = some ([92], 2) by rw [hE, h92]; rfl, res_some]
        rw [h92] at hget hext
        clear hE hx
        go_enter Tryz.func90, Tryz.ntmps90
        go_wp2
        go_ret2
        exact ⟨by first | rfl | (rw [show i + 2 = i + 1 + 1 from rfl, hext]; rfl), Below.refl _ _⟩
      · have e92 : (((by_ s (i + 1) : Nat) : Int) == 92) = false := by rw [beq_eq_false_iff_ne]; omega
        by_cases h110 : by_ s (i + 1) = 110
        · rw [show escE s i = some ([10], 2) by rw [hE, h110]; rfl, res_some]
          rw [h110] at hget hext
          clear hE hx
          go_enter Tryz.func90, Tryz.ntmps90
          go_wp2
          go_ret2
          exact ⟨rfl, Below.refl _ _⟩
        · have e110 : (((by_ s (i + 1) : Nat) : Int) == 110) = false := by rw [beq_eq_false_iff_ne]; omega
          by_cases h114 : by_ s (i + 1) = 114
          · rw [show escE s i = some ([13], 2) by rw [hE, h114]; rfl, res_some]
            rw [h114] at hget hext
            clear hE hx
            go_enter Tryz.func90, Tryz.ntmps90
            go_wp2
            go_ret2
            exact ⟨rfl, Below.refl _ _⟩
          · have e114 : (((by_ s (i + 1) : Nat) : Int) == 114) = false := by rw [beq_eq_false_iff_ne]; omega
            by_cases h116 : by_ s (i + 1) = 116
            · rw [show escE s i = some ([9], 2) by rw [hE, h116]; rfl, res_some]
              rw [h116] at hget hext
              clear hE hx
              go_enter Tryz.func90, Tryz.ntmps90
              go_wp2
              go_ret2
              exact ⟨rfl, Below.refl _ _⟩
            · have e116 : (((by_ s (i + 1) : Nat) : Int) == 116) = false := by rw [beq_eq_false_iff_ne]; omega
              have e120 : (((by_ s (i + 1) : Nat) : Int) == 120) = false := by rw [beq_eq_false_iff_ne]; intro e; exact hx ⟨h1, .inl (by omega)⟩
              have e117 : (((by_ s (i + 1) : Nat) : Int) == 117) = false := by rw [beq_eq_false_iff_ne]; intro e; exact hx ⟨h1, .inr (by omega)⟩
              rw [show escE s i = none by rw [hE]; simp only [h34, h92, h110, h114, h116, if_false]]
              clear hE hx h34 h92 h110 h114 h116
              go_enter Tryz.func90, Tryz.ntmps90
              go_wp2
              go_ret2
              exact ⟨rfl, Below.refl _ _⟩
  · have hE : escE s i = none := by unfold escE; rw [if_neg h1]
    rw [hE]
    have i1 : (s.size : Int) ≤ (i : Int) + 1 := by omega
    clear hE hx
    go_enter Tryz.func90, Tryz.ntmps90
    go_wp2
    go_ret2
    exact ⟨rfl, Below.refl _ _⟩

end Go.Proofs.YtkndjbmlkfpfoaaGreatDoor

/-
  What the document's own escape answers: a byte's number, a rune's number.
-/
set_option linter.unusedSimpArgs false
set_option linter.unusedVariables false
namespace Go.Proofs.YtkndjbmlkfpfoaaGreatDoor
open Go.RowKit Go.Lib

theorem conv_byte (n : Nat) (h : n < 256) (w : World) : (convert 38 9 (.slice (some ⟨w.heap.size, 0, none⟩) 1 1)).run Tryz.prog (w.alloc (.cells #[.int .u8 (n : Int)] 5)) = .ok (.string (ofL [UInt8.ofNat n])) (w.alloc (.cells #[.int .u8 (n : Int)] 5)) := by
  have := conv_one (UInt8.ofNat n) w
  rw [u8n n h] at this
  exact this

set_option maxRecDepth 100000 in
set_option maxHeartbeats 4000000 in
theorem refEsc_byte (s : ByteArray) (hs : s.size ≤ 1000000000) (i : Nat) (hi : i + 1 < s.size) (h1 : by_ s (i + 1) = 120) (w : World) :
    Calls Tryz.prog 90 #[.string s, .int .i64 (i : Int)] w fun e w' => e = .returned (.tuple #[.string (resE (escE s i)).1, .int .i64 ((resE (escE s i)).2 : Int)]) ∧ Below w.heap.size w w' := by
  have hE : escE s i = byteE s (i + 2) := by unfold escE; rw [if_pos hi]; simp only [h1]; rfl
  rw [hE]
  have hget := by_get s (i + 1) hi
  rw [h1] at hget
  have i1 : ¬ (s.size : Int) ≤ (i : Int) + 1 := by omega
  have i2 : (i : Int) + 1 < (s.size : Int) := by omega
  have i3 : (0 : Int) ≤ (i : Int) + 1 := by omega
  have t1 : ((i : Int) + 1).toNat = i + 1 := by omega
  clear hE
  by_cases h3 : i + 3 < s.size
  · have g2 := by_get s (i + 2) (by omega)
    have g3 := by_get s (i + 3) h3
    have hv2 := by_lt s (i + 2)
    have hv3 := by_lt s (i + 3)
    have j1 : (i : Int) + 3 < (s.size : Int) := by omega
    have j2 : (i : Int) + 2 < (s.size : Int) := by omega
    have j3 : (0 : Int) ≤ (i : Int) + 2 := by omega
    have j4 : (0 : Int) ≤ (i : Int) + 3 := by omega
    have t2 : ((i : Int) + 2).toNat = i + 2 := by omega
    have t3 : ((i : Int) + 3).toNat = i + 3 := by omega
    have hY := byteE_yes (s := s) (i := i + 2) h3
    have hN := byteE_no (s := s) (i := i + 2)
    obtain ⟨d2, hd2⟩ : ∃ d, by_ s (i + 2) = d := ⟨_, rfl⟩
    obtain ⟨d3, hd3⟩ : ∃ d, by_ s (i + 2 + 1) = d := ⟨_, rfl⟩
    rw [hd2, hd3] at hY hN
    rw [hd2] at g2 hv2
    rw [show by_ s (i + 3) = d3 from hd3] at g3 hv3
    by_cases q2 : dgV d2 < 16
    · have v2 := vaI_yes q2
      have k2 : (0 : Int) ≤ (dgV d2 : Int) := by omega
      by_cases q3 : dgV d3 < 16
      · have v3 := vaI_yes q3
        have k3 : (0 : Int) ≤ (dgV d3 : Int) := by omega
        rw [hY q2 q3, res_some]
        obtain ⟨m, hm⟩ : ∃ m, 16 * dgV d2 + dgV d3 = m := ⟨_, rfl⟩
        rw [hm]
        have hm3 : m < 256 := by omega
        have hm2 : (16 * (dgV d2 : Int) + (dgV d3 : Int)) % 256 = (m : Int) := by omega
        have hm4 : 16 * (dgV d2 : Int) + (dgV d3 : Int) = (m : Int) := by omega
        have hcv := conv_byte m hm3
        clear hY hN hd2 hd3 hm h1
        go_enter Tryz.func90, Tryz.ntmps90
        go_wp2_with (go_at_call 108; refine (value_in _ (by first | exact hv2 | exact hv3) _).mono ?_; rintro e w' ⟨rfl, rfl⟩)
        refine wp_region_any (by kernel_rfl) ?_
        change wpAny _ _ _ _ _ _ _ (World.drew _)
        obtain ⟨Wa, hWa⟩ : ∃ Wa, w.drew.alloc (.cells #[.int .u8 (m : Int)] 5) = Wa := ⟨_, rfl⟩
        have hcw : (convert 38 9 (.slice (some ⟨w.heap.size, 0, none⟩) 1 1)).run Tryz.prog Wa = .ok (.string (ofL [UInt8.ofNat m])) Wa := by rw [← hWa]; exact hcv w.drew
        have hBa : Below w.heap.size w Wa := by rw [← hWa]; exact (Below.refl _ w).drew.alloc (Nat.le_refl _) _
        obtain ⟨Jo, hJo⟩ : ∃ Jo : (Nat → Bool) → World → Prop, Jo = fun f W => W = if f 13 then Wa else w.drew := ⟨_, rfl⟩
        have Jof : ∀ f W, Jo f W = (W = if f 13 then Wa else w.drew) := fun f W => by rw [hJo]
        have y2 : IntKind.i64.wrap ((i : Int) + 2) = (i : Int) + 2 := by rw [IntKind.wrap_i64]; omega
        have y3 : IntKind.i64.wrap ((i : Int) + 3) = (i : Int) + 3 := by rw [IntKind.wrap_i64]; clear y2; omega
        have y4 : IntKind.i64.wrap (16 * (dgV d2 : Int)) = 16 * (dgV d2 : Int) := by rw [IntKind.wrap_i64]; clear y2 y3; omega
        have y5 : IntKind.i64.wrap (16 * (dgV d2 : Int) + (dgV d3 : Int)) = (m : Int) := by rw [hm4, IntKind.wrap_i64]; clear y2 y3 y4; omega
        have y6 : IntKind.u8.wrap (m : Int) = (m : Int) := by rw [IntKind.wrap_u8']; clear y2 y3 y4 y5; omega
        refine region_last 155 (fun j => if j = 15 then 4 else if j = 16 then 5 else 56 + j) ((0, (Value.string s)) :: (1, (Value.int IntKind.i64 ↑i)) :: (2, undef) :: (3, undef) :: (6, undef) :: (7, undef) :: (8, undef) :: (9, (Value.int IntKind.i64 ↑i)) :: (10, (Value.int IntKind.i64 (↑i + 1))) :: (11, (Value.string s)) :: (12, (Value.int IntKind.i64 ↑s.size)) :: (13, (Value.bool false)) :: (14, (Value.string s)) :: (15, (Value.int IntKind.i64 ↑i)) :: (16, (Value.int IntKind.i64 (↑i + 1))) :: (17, (Value.int IntKind.u8 120)) :: (18, (Value.bool false)) :: (19, (Value.bool false)) :: (20, (Value.bool false)) :: (21, undef) :: (22, undef) :: (23, undef) :: (24, undef) :: (25, undef) :: (26, undef) :: (27, (Value.bool false)) :: (28, (Value.bool false)) :: (29, (Value.bool false)) :: (30, (Value.bool false)) :: (31, (Value.bool false)) :: (32, (Value.bool false)) :: (33, (Value.bool true)) :: (34, (Value.bool true)) :: (35, (Value.int IntKind.i64 ↑i)) :: (36, (Value.int IntKind.i64 (↑i + 3))) :: (37, (Value.string s)) :: (38, (Value.int IntKind.i64 ↑s.size)) :: (39, (Value.bool true)) :: (40, (Value.bool true)) :: (41, (Value.string s)) :: (42, (Value.int IntKind.i64 ↑i)) :: (43, (Value.int IntKind.i64 (↑i + 2))) :: (44, (Value.int IntKind.u8 ↑d2)) :: (45, (Value.int IntKind.i64 ↑(dgV d2))) :: (46, (Value.bool true)) :: (47, (Value.bool true)) :: (48, (Value.bool true)) :: (49, (Value.string s)) :: (50, (Value.int IntKind.i64 ↑i)) :: (51, (Value.int IntKind.i64 (↑i + 3))) :: (52, (Value.int IntKind.u8 ↑d3)) :: (53, (Value.int IntKind.i64 ↑(dgV d3))) :: (54, (Value.bool true)) :: (55, (Value.bool true)) :: (71, undef) :: (72, undef) :: (73, undef) :: (74, undef) :: (75, undef) :: (76, undef) :: (77, undef) :: (78, undef) :: (79, undef) :: (80, undef) :: (81, undef) :: (82, undef) :: (83, undef) :: (84, undef) :: (85, undef) :: (86, undef) :: (87, undef) :: (88, undef) :: (89, undef) :: (90, undef) :: (91, undef) :: (92, undef) :: (93, undef) :: (94, undef) :: (95, undef) :: (96, undef) :: (97, undef) :: (98, undef) :: (99, undef) :: (100, undef) :: (101, undef) :: (102, undef) :: (103, undef) :: (104, undef) :: (105, undef) :: (106, undef) :: (107, undef) :: (108, undef) :: (109, undef) :: (110, undef) :: (111, undef) :: (112, undef) :: (113, undef) :: (114, undef) :: (115, undef) :: (116, undef) :: (117, undef) :: (118, undef) :: (119, undef) :: (120, undef) :: (121, undef) :: (122, undef) :: (123, undef) :: (124, undef) :: (125, undef) :: (126, undef) :: (127, undef) :: (128, undef) :: (129, undef) :: (130, undef) :: (131, undef) :: (132, undef) :: (133, undef) :: (134, undef) :: (135, undef) :: (136, undef) :: (137, undef) :: (138, undef) :: (139, undef) :: (140, undef) :: (141, undef) :: (142, undef) :: (143, undef) :: (144, undef) :: (145, undef) :: (146, undef) :: (147, undef) :: (148, undef) :: (149, undef) :: (150, undef) :: (151, undef) :: (152, undef) :: (153, undef) :: (154, undef) :: []) (Value.int IntKind.i64 0) Jo (valsOf [isV (.string s), isV (.int .i64 (i : Int)), isV (.int .i64 ((i : Int) + 2)), isV (.int .u8 (d2 : Int)), isV (.int .i64 (dgV d2 : Int)), isV (.int .i64 (16 * (dgV d2 : Int))), isV (.string s), isV (.int .i64 (i : Int)), isV (.int .i64 ((i : Int) + 3)), isV (.int .u8 (d3 : Int)), isV (.int .i64 (dgV d3 : Int)), isV (.int .i64 (m : Int)), isV (.int .u8 (m : Int)), isV (.slice (some ⟨w.heap.size, 0, none⟩) 1 1), isV (.string (ofL [UInt8.ofNat m])), isV (.string (ofL [UInt8.ofNat m])), isV (.int .i64 4)]) (fun w w' => w.heap.size ≤ w'.heap.size) ?fit ?last (fun j f => valsOf_stable (Stables.all ?stable) j) [] ?gs ?gv ?steps ?fin _ _ ?sz rfl ?base rfl (by rw [Jof]; simp)
        case fit => kernel_rfl
        case last => kernel_rfl
        case sz => rfl
        case gs => kernel_rfl
        case gv => intro p hp; cases hp
        case base => intro p hp; repeat (first | (rcases List.mem_cons.1 hp with rfl | hp; · rfl) | cases hp)
        case stable => repeat (first | exact .nil | refine .same ?_)
        case steps =>
          refine .cons (fun f ρ W hno hyes hρ hJ hu hb hd => by
            have d0 : ρ (.tmp 0) = (Value.string s) := hb (0, _) (List.mem_of_getElem? (i := 0) rfl)
            exact step_move (.tmp 0) rfl ⟨Nat.le_refl _, by rw [Jof] at hJ ⊢; simpa using hJ, d0⟩) ?_
          refine .cons (fun f ρ W hno hyes hρ hJ hu hb hd => by
            have d0 : ρ (.tmp 1) = (Value.int IntKind.i64 ↑i) := hb (1, _) (List.mem_of_getElem? (i := 1) rfl)
            exact step_move (.tmp 1) rfl ⟨Nat.le_refl _, by rw [Jof] at hJ ⊢; simpa using hJ, d0⟩) ?_
          refine .cons (fun f ρ W hno hyes hρ hJ hu hb hd => by
            have d0 : ρ (.tmp 57) = (.int .i64 (i : Int)) := hd 0 _ rfl rfl
            exact step_val (v := (.int .i64 ((i : Int) + 2))) (w' := W) (by simp [go_sem, execOp, d0, hρ.const, j1, j2, j3, j4, t2, t3, g2, g3, y2, y3, y4, y5, y6, hm2]) ⟨Nat.le_refl _, by rw [Jof] at hJ ⊢; simpa using hJ, rfl⟩) ?_
          refine .cons (fun f ρ W hno hyes hρ hJ hu hb hd => by
            have d0 : ρ (.tmp 56) = (.string s) := hd 0 _ rfl rfl
            have d1 : ρ (.tmp 58) = (.int .i64 ((i : Int) + 2)) := hd 1 _ rfl rfl
            exact step_val (v := (.int .u8 (d2 : Int))) (w' := W) (by simp [go_sem, execOp, d0, d1, hρ.const, j1, j2, j3, j4, t2, t3, g2, g3, y2, y3, y4, y5, y6, hm2]) ⟨Nat.le_refl _, by rw [Jof] at hJ ⊢; simpa using hJ, rfl⟩) ?_
          refine .cons (fun f ρ W hno hyes hρ hJ hu hb hd => by
            have d0 : ρ (.tmp 59) = (.int .u8 (d2 : Int)) := hd 0 _ rfl rfl
            refine step_func 108 _ _ #[.int .u8 (d2 : Int)] hρ rfl (fun _ _ => rfl) (by simp [d0]) ?_
            refine (value_in d2 hv2 W).mono ?_
            rintro e W' ⟨rfl, rfl⟩
            exact ⟨_, rfl, Nat.le_refl _, by rw [Jof] at hJ ⊢; simpa using hJ, by rw [v2]; rfl⟩) ?_
          refine .cons (fun f ρ W hno hyes hρ hJ hu hb hd => by
            have d0 : ρ (.tmp 60) = (.int .i64 (dgV d2 : Int)) := hd 0 _ rfl rfl
            exact step_val (v := (.int .i64 (16 * (dgV d2 : Int)))) (w' := W) (by simp [go_sem, execOp, d0, hρ.const, j1, j2, j3, j4, t2, t3, g2, g3, y2, y3, y4, y5, y6, hm2]) ⟨Nat.le_refl _, by rw [Jof] at hJ ⊢; simpa using hJ, rfl⟩) ?_
          refine .cons (fun f ρ W hno hyes hρ hJ hu hb hd => by
            have d0 : ρ (.tmp 0) = (Value.string s) := hb (0, _) (List.mem_of_getElem? (i := 0) rfl)
            exact step_move (.tmp 0) rfl ⟨Nat.le_refl _, by rw [Jof] at hJ ⊢; simpa using hJ, d0⟩) ?_
          refine .cons (fun f ρ W hno hyes hρ hJ hu hb hd => by
            have d0 : ρ (.tmp 1) = (Value.int IntKind.i64 ↑i) := hb (1, _) (List.mem_of_getElem? (i := 1) rfl)
            exact step_move (.tmp 1) rfl ⟨Nat.le_refl _, by rw [Jof] at hJ ⊢; simpa using hJ, d0⟩) ?_
          refine .cons (fun f ρ W hno hyes hρ hJ hu hb hd => by
            have d0 : ρ (.tmp 63) = (.int .i64 (i : Int)) := hd 0 _ rfl rfl
            exact step_val (v := (.int .i64 ((i : Int) + 3))) (w' := W) (by simp [go_sem, execOp, d0, hρ.const, j1, j2, j3, j4, t2, t3, g2, g3, y2, y3, y4, y5, y6, hm2]) ⟨Nat.le_refl _, by rw [Jof] at hJ ⊢; simpa using hJ, rfl⟩) ?_
          refine .cons (fun f ρ W hno hyes hρ hJ hu hb hd => by
            have d0 : ρ (.tmp 62) = (.string s) := hd 0 _ rfl rfl
            have d1 : ρ (.tmp 64) = (.int .i64 ((i : Int) + 3)) := hd 1 _ rfl rfl
            exact step_val (v := (.int .u8 (d3 : Int))) (w' := W) (by simp [go_sem, execOp, d0, d1, hρ.const, j1, j2, j3, j4, t2, t3, g2, g3, y2, y3, y4, y5, y6, hm2]) ⟨Nat.le_refl _, by rw [Jof] at hJ ⊢; simpa using hJ, rfl⟩) ?_
          refine .cons (fun f ρ W hno hyes hρ hJ hu hb hd => by
            have d0 : ρ (.tmp 65) = (.int .u8 (d3 : Int)) := hd 0 _ rfl rfl
            refine step_func 108 _ _ #[.int .u8 (d3 : Int)] hρ rfl (fun _ _ => rfl) (by simp [d0]) ?_
            refine (value_in d3 hv3 W).mono ?_
            rintro e W' ⟨rfl, rfl⟩
            exact ⟨_, rfl, Nat.le_refl _, by rw [Jof] at hJ ⊢; simpa using hJ, by rw [v3]; rfl⟩) ?_
          refine .cons (fun f ρ W hno hyes hρ hJ hu hb hd => by
            have d0 : ρ (.tmp 61) = (.int .i64 (16 * (dgV d2 : Int))) := hd 0 _ rfl rfl
            have d1 : ρ (.tmp 66) = (.int .i64 (dgV d3 : Int)) := hd 1 _ rfl rfl
            exact step_val (v := (.int .i64 (m : Int))) (w' := W) (by simp [go_sem, execOp, d0, d1, hρ.const, j1, j2, j3, j4, t2, t3, g2, g3, y2, y3, y4, y5, y6, hm2]) ⟨Nat.le_refl _, by rw [Jof] at hJ ⊢; simpa using hJ, rfl⟩) ?_
          refine .cons (fun f ρ W hno hyes hρ hJ hu hb hd => by
            have d0 : ρ (.tmp 67) = (.int .i64 (m : Int)) := hd 0 _ rfl rfl
            exact step_val (v := (.int .u8 (m : Int))) (w' := W) (by simp [go_sem, execOp, d0, hρ.const, j1, j2, j3, j4, t2, t3, g2, g3, y2, y3, y4, y5, y6, hm2]) ⟨Nat.le_refl _, by rw [Jof] at hJ ⊢; simpa using hJ, rfl⟩) ?_
          refine .cons (fun f ρ W hno hyes hρ hJ hu hb hd => by
            have d0 : ρ (.tmp 68) = (.int .u8 (m : Int)) := hd 0 _ rfl rfl
            have e1 : W = w.drew := by
              rw [Jof] at hJ
              simpa [hno 13 (.inl rfl)] using hJ
            subst e1
            exact step_val (v := (.slice (some ⟨w.heap.size, 0, none⟩) 1 1)) (w' := Wa) (by rw [← hWa]; simp [go_sem, execOp, d0]) ⟨by rw [← hWa]; simp, by rw [Jof]; simp, rfl⟩) ?_
          refine .cons (fun f ρ W hno hyes hρ hJ hu hb hd => by
            have d0 : ρ (.tmp 69) = (.slice (some ⟨w.heap.size, 0, none⟩) 1 1) := hd 0 _ rfl rfl
            have e1 : W = Wa := by
              rw [Jof] at hJ
              simpa [show f 13 = true from hyes 0 _ rfl rfl] using hJ
            subst e1
            exact step_val (v := (.string (ofL [UInt8.ofNat m]))) (w' := W) (by simp [go_sem, execOp, d0, hcw]) ⟨Nat.le_refl _, by rw [Jof] at hJ ⊢; simpa using hJ, rfl⟩) ?_
          refine .cons (fun f ρ W hno hyes hρ hJ hu hb hd => by
            have d0 : ρ (.tmp 70) = (.string (ofL [UInt8.ofNat m])) := hd 0 _ rfl rfl
            exact step_assign (.tmp 70) rfl ⟨Nat.le_refl _, by rw [Jof] at hJ ⊢; simpa using hJ, d0⟩) ?_
          refine .cons (fun f ρ W hno hyes hρ hJ hu hb hd => by
            exact step_assign (.const (.int .i64 4)) rfl ⟨Nat.le_refl _, by rw [Jof] at hJ ⊢; simpa using hJ, (hρ.const _)⟩) (.nil _)
        case fin =>
          intro ac W5 hsz2 hds hb hJ hv
          obtain ⟨f, hf, hJ⟩ := hJ
          obtain rfl : W5 = Wa := by rw [Jof, hf 13 (by decide)] at hJ; simpa using hJ
          obtain rfl := frame_of (((0, (Value.string s)) :: (1, (Value.int IntKind.i64 ↑i)) :: (2, undef) :: (3, undef) :: (6, undef) :: (7, undef) :: (8, undef) :: (9, (Value.int IntKind.i64 ↑i)) :: (10, (Value.int IntKind.i64 (↑i + 1))) :: (11, (Value.string s)) :: (12, (Value.int IntKind.i64 ↑s.size)) :: (13, (Value.bool false)) :: (14, (Value.string s)) :: (15, (Value.int IntKind.i64 ↑i)) :: (16, (Value.int IntKind.i64 (↑i + 1))) :: (17, (Value.int IntKind.u8 120)) :: (18, (Value.bool false)) :: (19, (Value.bool false)) :: (20, (Value.bool false)) :: (21, undef) :: (22, undef) :: (23, undef) :: (24, undef) :: (25, undef) :: (26, undef) :: (27, (Value.bool false)) :: (28, (Value.bool false)) :: (29, (Value.bool false)) :: (30, (Value.bool false)) :: (31, (Value.bool false)) :: (32, (Value.bool false)) :: (33, (Value.bool true)) :: (34, (Value.bool true)) :: (35, (Value.int IntKind.i64 ↑i)) :: (36, (Value.int IntKind.i64 (↑i + 3))) :: (37, (Value.string s)) :: (38, (Value.int IntKind.i64 ↑s.size)) :: (39, (Value.bool true)) :: (40, (Value.bool true)) :: (41, (Value.string s)) :: (42, (Value.int IntKind.i64 ↑i)) :: (43, (Value.int IntKind.i64 (↑i + 2))) :: (44, (Value.int IntKind.u8 ↑d2)) :: (45, (Value.int IntKind.i64 ↑(dgV d2))) :: (46, (Value.bool true)) :: (47, (Value.bool true)) :: (48, (Value.bool true)) :: (49, (Value.string s)) :: (50, (Value.int IntKind.i64 ↑i)) :: (51, (Value.int IntKind.i64 (↑i + 3))) :: (52, (Value.int IntKind.u8 ↑d3)) :: (53, (Value.int IntKind.i64 ↑(dgV d3))) :: (54, (Value.bool true)) :: (55, (Value.bool true)) :: (71, undef) :: (72, undef) :: (73, undef) :: (74, undef) :: (75, undef) :: (76, undef) :: (77, undef) :: (78, undef) :: (79, undef) :: (80, undef) :: (81, undef) :: (82, undef) :: (83, undef) :: (84, undef) :: (85, undef) :: (86, undef) :: (87, undef) :: (88, undef) :: (89, undef) :: (90, undef) :: (91, undef) :: (92, undef) :: (93, undef) :: (94, undef) :: (95, undef) :: (96, undef) :: (97, undef) :: (98, undef) :: (99, undef) :: (100, undef) :: (101, undef) :: (102, undef) :: (103, undef) :: (104, undef) :: (105, undef) :: (106, undef) :: (107, undef) :: (108, undef) :: (109, undef) :: (110, undef) :: (111, undef) :: (112, undef) :: (113, undef) :: (114, undef) :: (115, undef) :: (116, undef) :: (117, undef) :: (118, undef) :: (119, undef) :: (120, undef) :: (121, undef) :: (122, undef) :: (123, undef) :: (124, undef) :: (125, undef) :: (126, undef) :: (127, undef) :: (128, undef) :: (129, undef) :: (130, undef) :: (131, undef) :: (132, undef) :: (133, undef) :: (134, undef) :: (135, undef) :: (136, undef) :: (137, undef) :: (138, undef) :: (139, undef) :: (140, undef) :: (141, undef) :: (142, undef) :: (143, undef) :: (144, undef) :: (145, undef) :: (146, undef) :: (147, undef) :: (148, undef) :: (149, undef) :: (150, undef) :: (151, undef) :: (152, undef) :: (153, undef) :: (154, undef) :: []) ++ [(56, (.string s)), (57, (.int .i64 (i : Int))), (58, (.int .i64 ((i : Int) + 2))), (59, (.int .u8 (d2 : Int))), (60, (.int .i64 (dgV d2 : Int))), (61, (.int .i64 (16 * (dgV d2 : Int)))), (62, (.string s)), (63, (.int .i64 (i : Int))), (64, (.int .i64 ((i : Int) + 3))), (65, (.int .u8 (d3 : Int))), (66, (.int .i64 (dgV d3 : Int))), (67, (.int .i64 (m : Int))), (68, (.int .u8 (m : Int))), (69, (.slice (some ⟨w.heap.size, 0, none⟩) 1 1)), (70, (.string (ofL [UInt8.ofNat m]))), (4, (.string (ofL [UInt8.ofNat m]))), (5, (.int .i64 4))]) ((Value.string s) :: (Value.int IntKind.i64 ↑i) :: undef :: undef :: (.string (ofL [UInt8.ofNat m])) :: (.int .i64 4) :: undef :: undef :: undef :: (Value.int IntKind.i64 ↑i) :: (Value.int IntKind.i64 (↑i + 1)) :: (Value.string s) :: (Value.int IntKind.i64 ↑s.size) :: (Value.bool false) :: (Value.string s) :: (Value.int IntKind.i64 ↑i) :: (Value.int IntKind.i64 (↑i + 1)) :: (Value.int IntKind.u8 120) :: (Value.bool false) :: (Value.bool false) :: (Value.bool false) :: undef :: undef :: undef :: undef :: undef :: undef :: (Value.bool false) :: (Value.bool false) :: (Value.bool false) :: (Value.bool false) :: (Value.bool false) :: (Value.bool false) :: (Value.bool true) :: (Value.bool true) :: (Value.int IntKind.i64 ↑i) :: (Value.int IntKind.i64 (↑i + 3)) :: (Value.string s) :: (Value.int IntKind.i64 ↑s.size) :: (Value.bool true) :: (Value.bool true) :: (Value.string s) :: (Value.int IntKind.i64 ↑i) :: (Value.int IntKind.i64 (↑i + 2)) :: (Value.int IntKind.u8 ↑d2) :: (Value.int IntKind.i64 ↑(dgV d2)) :: (Value.bool true) :: (Value.bool true) :: (Value.bool true) :: (Value.string s) :: (Value.int IntKind.i64 ↑i) :: (Value.int IntKind.i64 (↑i + 3)) :: (Value.int IntKind.u8 ↑d3) :: (Value.int IntKind.i64 ↑(dgV d3)) :: (Value.bool true) :: (Value.bool true) :: (.string s) :: (.int .i64 (i : Int)) :: (.int .i64 ((i : Int) + 2)) :: (.int .u8 (d2 : Int)) :: (.int .i64 (dgV d2 : Int)) :: (.int .i64 (16 * (dgV d2 : Int))) :: (.string s) :: (.int .i64 (i : Int)) :: (.int .i64 ((i : Int) + 3)) :: (.int .u8 (d3 : Int)) :: (.int .i64 (dgV d3 : Int)) :: (.int .i64 (m : Int)) :: (.int .u8 (m : Int)) :: (.slice (some ⟨w.heap.size, 0, none⟩) 1 1) :: (.string (ofL [UInt8.ofNat m])) :: undef :: undef :: undef :: undef :: undef :: undef :: undef :: undef :: undef :: undef :: undef :: undef :: undef :: undef :: undef :: undef :: undef :: undef :: undef :: undef :: undef :: undef :: undef :: undef :: undef :: undef :: undef :: undef :: undef :: undef :: undef :: undef :: undef :: undef :: undef :: undef :: undef :: undef :: undef :: undef :: undef :: undef :: undef :: undef :: undef :: undef :: undef :: undef :: undef :: undef :: undef :: undef :: undef :: undef :: undef :: undef :: undef :: undef :: undef :: undef :: undef :: undef :: undef :: undef :: undef :: undef :: undef :: undef :: undef :: undef :: undef :: undef :: undef :: undef :: undef :: undef :: undef :: undef :: undef :: undef :: undef :: undef :: undef :: undef :: []) hsz2 hds (fun p hp => by
            rcases List.mem_append.1 hp with h | h
            · exact hb p h
            · simp only [List.mem_cons, List.not_mem_nil, or_false] at h
              rcases h with rfl | rfl | rfl | rfl | rfl | rfl | rfl | rfl | rfl | rfl | rfl | rfl | rfl | rfl | rfl | rfl | rfl
              · exact hv 0 (by decide)
              · exact hv 1 (by decide)
              · exact hv 2 (by decide)
              · exact hv 3 (by decide)
              · exact hv 4 (by decide)
              · exact hv 5 (by decide)
              · exact hv 6 (by decide)
              · exact hv 7 (by decide)
              · exact hv 8 (by decide)
              · exact hv 9 (by decide)
              · exact hv 10 (by decide)
              · exact hv 11 (by decide)
              · exact hv 12 (by decide)
              · exact hv 13 (by decide)
              · exact hv 14 (by decide)
              · exact hv 15 (by decide)
              · exact hv 16 (by decide)) rfl
          clear hb hv hds hsz2
          go_wp2
          go_ret2
          exact ⟨rfl, hBa⟩
      · have v3 := vaI_no q3
        rw [hN (fun x => q3 x.2.2), res_none]
        clear hY hN hd2 hd3 h1
        go_enter Tryz.func90, Tryz.ntmps90
        go_wp2_with (go_at_call 108; refine (value_in _ (by first | exact hv2 | exact hv3) _).mono ?_; rintro e w' ⟨rfl, rfl⟩)
        go_ret2
        exact ⟨rfl, Below.refl _ _⟩
    · have v2 := vaI_no q2
      rw [hN (fun x => q2 x.2.1), res_none]
      clear hY hN hd2 hd3 h1
      go_enter Tryz.func90, Tryz.ntmps90
      go_wp2_with (go_at_call 108; refine (value_in _ (by first | exact hv2 | exact hv3) _).mono ?_; rintro e w' ⟨rfl, rfl⟩)
      go_ret2
      exact ⟨rfl, Below.refl _ _⟩
  · have j1 : ¬ (i : Int) + 3 < (s.size : Int) := by omega
    rw [byteE_no (by omega), res_none]
    clear h1
    go_enter Tryz.func90, Tryz.ntmps90
    go_wp2
    go_ret2
    exact ⟨rfl, Below.refl _ _⟩

end Go.Proofs.YtkndjbmlkfpfoaaGreatDoor

/-
  What the document's own escape answers: a rune's number; and all ways together.
-/
set_option linter.unusedSimpArgs false
set_option linter.unusedVariables false
namespace Go.Proofs.YtkndjbmlkfpfoaaGreatDoor
open Go.RowKit Go.Lib

set_option maxRecDepth 100000 in
set_option maxHeartbeats 4000000 in
theorem refEsc_rune (s : ByteArray) (hs : s.size ≤ 1000000000) (i : Nat) (hi : i + 1 < s.size) (h1 : by_ s (i + 1) = 117) (w : World) :
    Calls Tryz.prog 90 #[.string s, .int .i64 (i : Int)] w fun e w' => e = .returned (.tuple #[.string (resE (escE s i)).1, .int .i64 ((resE (escE s i)).2 : Int)]) ∧ Below w.heap.size w w' := by
  have hE : escE s i = if i + 2 < s.size ∧ by_ s (i + 2) = 123 then runeE s (i + 3) else none := by unfold escE; rw [if_pos hi]; simp only [h1]; simp
  have hget := by_get s (i + 1) hi
  rw [h1] at hget
  have i1 : ¬ (s.size : Int) ≤ (i : Int) + 1 := by omega
  have i2 : (i : Int) + 1 < (s.size : Int) := by omega
  have i3 : (0 : Int) ≤ (i : Int) + 1 := by omega
  have t1 : ((i : Int) + 1).toNat = i + 1 := by omega
  by_cases h2 : i + 2 < s.size
  · have g2 := by_get s (i + 2) h2
    have j2 : (i : Int) + 2 < (s.size : Int) := by omega
    have j3 : (0 : Int) ≤ (i : Int) + 2 := by omega
    have j4 : ¬ (s.size : Int) ≤ (i : Int) + 2 := by omega
    have t2 : ((i : Int) + 2).toNat = i + 2 := by omega
    by_cases h3 : by_ s (i + 2) = 123
    · rw [if_pos ⟨h2, h3⟩] at hE
      rw [hE]
      rw [h3] at g2
      have hb := hxR_snd s (i + 3) 6 0 0
      obtain ⟨A, hA⟩ : ∃ A, hxR s (i + 3) 6 0 0 = A := ⟨_, rfl⟩
      have hRE : runeE s (i + 3) = (if A.2 = 0 ∨ (1 < A.2 ∧ by_ s (i + 3) = 48) then none
        else if i + 3 + A.2 < s.size ∧ by_ s (i + 3 + A.2) = 125 ∧ Utf8.valid (A.1 : Int) = true then some (encL (A.1 : Int), A.2 + 4) else none) := by rw [← hA]; rfl
      have HA := hide hA
      have HRE := hide hRE
      clear hE h3 hb hA hRE h1
      go_enter Tryz.func90, Tryz.ntmps90
      go_wp2
      go_loopw [6, 7] (fun a b wr => ∃ (n c : Nat), a = .int .i64 ((i + 3 + c : Nat) : Int) ∧ b = .int .i64 (n : Int) ∧ c ≤ 6 ∧ i + 3 + c ≤ s.size ∧ n < 16 ^ c ∧ Hid (hxR s (i + 3) (6 - c) n c = A) ∧ wr = w) (fun a _ _ => s.size - (Lib.intOf a).toNat)
      case atStart => exact ⟨0, 0, by go_num, rfl, by omega, by omega, by simp, hide (unhide HA), rfl⟩
      case round =>
        obtain ⟨n, c, rfl, rfl, hc, hcs, hn, H, rfl⟩ := hrel
        have hn24 : n < 16777216 := by
          have : 16 ^ c ≤ 16 ^ 6 := Nat.pow_le_pow_right (by decide) hc
          omega
        by_cases hgo : i + 3 + c < s.size ∧ c < 6 ∧ dgV (by_ s (i + 3 + c)) < 16
        · obtain ⟨kk, hkk⟩ : ∃ kk, i + 3 + c = kk := ⟨_, rfl⟩
          have hstep : hxR s (i + 3) (6 - (c + 1)) (16 * n + dgV (by_ s kk)) (c + 1) = A := by
            have h5 := unhide H
            obtain ⟨g, hg⟩ : ∃ g, 6 - c = g + 1 := ⟨6 - c - 1, by omega⟩
            rw [hg, hxR_step hgo.1 hgo.2.2, hkk] at h5
            rw [show 6 - (c + 1) = g by omega]
            exact h5
          have Hs := hide hstep
          rw [hkk] at hgo ⊢
          have hk1 : kk < s.size := hgo.1
          have gk := by_get s kk hk1
          have hvk := by_lt s kk
          obtain ⟨d, hd⟩ : ∃ d, by_ s kk = d := ⟨_, rfl⟩
          rw [hd] at gk hvk hgo Hs
          have vk := vaI_yes hgo.2.2
          have hd16 := hgo.2.2
          have k1 : (kk : Int) < (s.size : Int) := by omega
          have k2 : (kk : Int) < (i : Int) + 9 := by omega
          have k3 : (0 : Int) ≤ (kk : Int) := by omega
          have k4 : (0 : Int) ≤ (dgV d : Int) := by omega
          have hc6 : c < 6 := hgo.2.1
          clear hgo hd hstep
          go_wp2_with (go_at_call 108; refine (value_in _ (by exact hvk) _).mono ?_; rintro e w' ⟨rfl, rfl⟩)
          go_roundw
          case rel =>
            exact ⟨16 * n + dgV d, c + 1, by go_num, by go_num, by omega, by omega, by rw [Nat.pow_succ]; omega, Hs, by first | rfl | trivial⟩
          case measure => simp [Lib.intOf]; omega
        · have HR := hide (show A = (n, c) by
            rw [← unhide H]
            by_cases h6 : c = 6
            · subst h6; rfl
            · exact hxR_stop (fun x => hgo ⟨x.1, by omega, x.2⟩))
          have HF := hide (show runeE s (i + 3) = (if c = 0 ∨ (1 < c ∧ by_ s (i + 3) = 48) then none
            else if i + 3 + c < s.size ∧ by_ s (i + 3 + c) = 125 ∧ Utf8.valid (n : Int) = true then some (encL (n : Int), c + 4) else none) by rw [unhide HRE, unhide HR])
          obtain ⟨kk, hkk⟩ : ∃ kk, i + 3 + c = kk := ⟨_, rfl⟩
          rw [hkk] at hcs hgo HF ⊢
          clear HA HRE HR H
          have hcI : (kk : Int) - (i : Int) - 3 = (c : Int) := by omega
          have hir : ∀ (V : Bool), Utf8.valid (n : Int) = V → ∀ W, Hid (Calls Tryz.prog 109 #[.int .i32 (n : Int)] W fun e w' => e = .returned (.bool V) ∧ W = w') := fun V hV W => hide (by rw [← hV]; exact isRune_any _ W)
          have henc := fun W => hide (refEncode_any (n : Int) W)
          have E9 := hide (show (kk : Int) + 1 - (i : Int) = ((c + 4 : Nat) : Int) by omega)
          have k3 : (0 : Int) ≤ (kk : Int) := by omega
          by_cases hA1 : kk < s.size
          · have gk := by_get s kk hA1
            have hvk := by_lt s kk
            have v125 : ∀ W, Hid (Calls Tryz.prog 108 #[.int .u8 125] W fun e w' => e = .returned (.int .i64 (-1)) ∧ W = w') := fun W => hide (value_in 125 (by omega) W)
            obtain ⟨d, hd⟩ : ∃ d, by_ s kk = d := ⟨_, rfl⟩
            have k1 : (kk : Int) < (s.size : Int) := by omega
            have k5 : ¬ (s.size : Int) ≤ (kk : Int) := by omega
            rw [hd] at gk hvk hgo
            by_cases h6 : c = 6
            · have k2 : ¬ (kk : Int) < (i : Int) + 9 := by omega
              · have hc0 : c ≠ 0 := by omega
                have cz : ¬ (c : Int) < 1 := by omega
                have h33 : i + 3 < s.size := by omega
                have g33 := by_get s (i + 3) h33
                have j33 : (i : Int) + 3 < (s.size : Int) := by omega
                have j34 : (0 : Int) ≤ (i : Int) + 3 := by omega
                have t33 : ((i : Int) + 3).toNat = i + 3 := by omega
                by_cases h125 : d = 125
                · subst h125
                  have h1c : 1 < c := by omega
                  have i1c : (1 : Int) < (c : Int) := by omega
                  by_cases h48 : by_ s (i + 3) = 48
                  · have HX := hide (show runeE s (i + 3) = none by rw [unhide HF]; rw [if_pos (.inr ⟨h1c, h48⟩)])
                    rw [h48] at g33
                    clear HF hir henc h48
                    go_wp2
                    go_ret2
                    refine ⟨?_, Below.refl _ _⟩
                    rw [unhide HX, res_none]
                    rfl
                  · have e48 : (((by_ s (i + 3) : Nat) : Int) == 48) = false := by rw [beq_eq_false_iff_ne]; omega
                    cases hV : Utf8.valid (n : Int) with
                    | true =>
                      replace hir := hir true hV
                      have HX := hide (show runeE s (i + 3) = some (encL (n : Int), c + 4) by rw [unhide HF]; rw [if_neg (by omega), if_pos ⟨hA1, hd, hV⟩])
                      clear HF hV
                      go_wp2_with (first | (go_at_call 109; refine (unhide (hir _)).mono ?_; rintro e w' ⟨rfl, rfl⟩) | (go_at_call 110; refine (unhide (henc _)).mono ?_; rintro e w' ⟨rfl, hB2⟩))
                      go_ret2
                      refine ⟨?_, hB2⟩
                      rw [unhide HX, res_some, enc_back]
                      show Ending.returned (.tuple #[.string (Utf8.encode (n : Int)), .int .i64 ((kk : Int) + 1 - (i : Int))]) = _
                      rw [unhide E9]
                    | false =>
                      replace hir := hir false hV
                      have HX := hide (show runeE s (i + 3) = none by rw [unhide HF]; rw [if_neg (by omega), if_neg (fun x => by rw [hV] at x; cases x.2.2)])
                      clear HF hV henc
                      go_wp2_with (first | (go_at_call 109; refine (unhide (hir _)).mono ?_; rintro e w' ⟨rfl, rfl⟩))
                      go_ret2
                      refine ⟨?_, Below.refl _ _⟩
                      rw [unhide HX, res_none]
                      rfl
                · have e125 : ((d : Int) != 125) = true := by rw [bne_iff_ne]; omega
                  have HX := hide (show runeE s (i + 3) = none by rw [unhide HF]; split <;> first | rfl | exact if_neg (fun x => h125 (by rw [← hd]; exact x.2.1)))
                  clear HF hir henc
                  go_wp2
                  go_ret2
                  refine ⟨?_, Below.refl _ _⟩
                  rw [unhide HX, res_none]
                  rfl
            · have k2 : (kk : Int) < (i : Int) + 9 := by omega
              have vk := vaI_no (fun x => hgo ⟨hA1, by omega, x⟩)
              by_cases hc0 : c = 0
              · have HX := hide (show runeE s (i + 3) = none by rw [unhide HF]; rw [if_pos (.inl hc0)])
                have cz : (c : Int) < 1 := by omega
                clear HF hir henc
                go_wp2_with (first | (go_at_call 108; refine (value_in _ (by exact hvk) _).mono ?_; rintro e w' ⟨rfl, rfl⟩))
                go_ret2
                refine ⟨?_, Below.refl _ _⟩
                rw [unhide HX, res_none]
                rfl
              · have cz : ¬ (c : Int) < 1 := by omega
                have h33 : i + 3 < s.size := by omega
                have g33 := by_get s (i + 3) h33
                have j33 : (i : Int) + 3 < (s.size : Int) := by omega
                have j34 : (0 : Int) ≤ (i : Int) + 3 := by omega
                have t33 : ((i : Int) + 3).toNat = i + 3 := by omega
                by_cases h125 : d = 125
                · subst h125
                  by_cases h1c : 1 < c
                  · have i1c : (1 : Int) < (c : Int) := by omega
                    by_cases h48 : by_ s (i + 3) = 48
                    · have HX := hide (show runeE s (i + 3) = none by rw [unhide HF]; rw [if_pos (.inr ⟨h1c, h48⟩)])
                      rw [h48] at g33
                      clear HF hir henc h48
                      go_wp2_with (first | (go_at_call 108; refine (unhide (v125 _)).mono ?_; rintro e w' ⟨rfl, rfl⟩))
                      go_ret2
                      refine ⟨?_, Below.refl _ _⟩
                      rw [unhide HX, res_none]
                      rfl
                    · have e48 : (((by_ s (i + 3) : Nat) : Int) == 48) = false := by rw [beq_eq_false_iff_ne]; omega
                      cases hV : Utf8.valid (n : Int) with
                      | true =>
                        replace hir := hir true hV
                        have HX := hide (show runeE s (i + 3) = some (encL (n : Int), c + 4) by rw [unhide HF]; rw [if_neg (by omega), if_pos ⟨hA1, hd, hV⟩])
                        clear HF hV
                        go_wp2_with (first | (go_at_call 108; refine (unhide (v125 _)).mono ?_; rintro e w' ⟨rfl, rfl⟩) | (go_at_call 109; refine (unhide (hir _)).mono ?_; rintro e w' ⟨rfl, rfl⟩) | (go_at_call 110; refine (unhide (henc _)).mono ?_; rintro e w' ⟨rfl, hB2⟩))
                        go_ret2
                        refine ⟨?_, hB2⟩
                        rw [unhide HX, res_some, enc_back]
                        show Ending.returned (.tuple #[.string (Utf8.encode (n : Int)), .int .i64 ((kk : Int) + 1 - (i : Int))]) = _
                        rw [unhide E9]
                      | false =>
                        replace hir := hir false hV
                        have HX := hide (show runeE s (i + 3) = none by rw [unhide HF]; rw [if_neg (by omega), if_neg (fun x => by rw [hV] at x; cases x.2.2)])
                        clear HF hV henc
                        go_wp2_with (first | (go_at_call 108; refine (unhide (v125 _)).mono ?_; rintro e w' ⟨rfl, rfl⟩) | (go_at_call 109; refine (unhide (hir _)).mono ?_; rintro e w' ⟨rfl, rfl⟩))
                        go_ret2
                        refine ⟨?_, Below.refl _ _⟩
                        rw [unhide HX, res_none]
                        rfl
                  · have i1c : ¬ (1 : Int) < (c : Int) := by omega
                    cases hV : Utf8.valid (n : Int) with
                    | true =>
                      replace hir := hir true hV
                      have HX := hide (show runeE s (i + 3) = some (encL (n : Int), c + 4) by rw [unhide HF]; rw [if_neg (by omega), if_pos ⟨hA1, hd, hV⟩])
                      clear HF hV
                      go_wp2_with (first | (go_at_call 108; refine (unhide (v125 _)).mono ?_; rintro e w' ⟨rfl, rfl⟩) | (go_at_call 109; refine (unhide (hir _)).mono ?_; rintro e w' ⟨rfl, rfl⟩) | (go_at_call 110; refine (unhide (henc _)).mono ?_; rintro e w' ⟨rfl, hB2⟩))
                      go_ret2
                      refine ⟨?_, hB2⟩
                      rw [unhide HX, res_some, enc_back]
                      show Ending.returned (.tuple #[.string (Utf8.encode (n : Int)), .int .i64 ((kk : Int) + 1 - (i : Int))]) = _
                      rw [unhide E9]
                    | false =>
                      replace hir := hir false hV
                      have HX := hide (show runeE s (i + 3) = none by rw [unhide HF]; rw [if_neg (by omega), if_neg (fun x => by rw [hV] at x; cases x.2.2)])
                      clear HF hV henc
                      go_wp2_with (first | (go_at_call 108; refine (unhide (v125 _)).mono ?_; rintro e w' ⟨rfl, rfl⟩) | (go_at_call 109; refine (unhide (hir _)).mono ?_; rintro e w' ⟨rfl, rfl⟩))
                      go_ret2
                      refine ⟨?_, Below.refl _ _⟩
                      rw [unhide HX, res_none]
                      rfl
                · have e125 : ((d : Int) != 125) = true := by rw [bne_iff_ne]; omega
                  have HX := hide (show runeE s (i + 3) = none by rw [unhide HF]; split <;> first | rfl | exact if_neg (fun x => h125 (by rw [← hd]; exact x.2.1)))
                  clear HF hir henc
                  go_wp2_with (first | (go_at_call 108; refine (value_in _ (by exact hvk) _).mono ?_; rintro e w' ⟨rfl, rfl⟩))
                  go_ret2
                  refine ⟨?_, Below.refl _ _⟩
                  rw [unhide HX, res_none]
                  rfl
          · have k1 : ¬ (kk : Int) < (s.size : Int) := by omega
            have k5 : (s.size : Int) ≤ (kk : Int) := by omega
            by_cases hc0 : c = 0
            · have HX := hide (show runeE s (i + 3) = none by rw [unhide HF]; rw [if_pos (.inl hc0)])
              have cz : (c : Int) < 1 := by omega
              clear HF hir henc
              go_wp2
              go_ret2
              refine ⟨?_, Below.refl _ _⟩
              rw [unhide HX, res_none]
              rfl
            · have cz : ¬ (c : Int) < 1 := by omega
              have HX := hide (show runeE s (i + 3) = none by rw [unhide HF]; split <;> first | rfl | exact if_neg (fun x => hA1 x.1))
              clear HF hir henc
              go_wp2
              go_ret2
              refine ⟨?_, Below.refl _ _⟩
              rw [unhide HX, res_none]
              rfl
    · have e3 : (((by_ s (i + 2) : Nat) : Int) != 123) = true := by rw [bne_iff_ne]; omega
      rw [hE, if_neg (fun x => h3 x.2), res_none]
      clear hE h3 h1
      go_enter Tryz.func90, Tryz.ntmps90
      go_wp2
      go_ret2
      exact ⟨rfl, Below.refl _ _⟩
  · have j4 : (s.size : Int) ≤ (i : Int) + 2 := by omega
    rw [hE, if_neg (by omega), res_none]
    clear hE h1
    go_enter Tryz.func90, Tryz.ntmps90
    go_wp2
    go_ret2
    exact ⟨rfl, Below.refl _ _⟩

theorem refEsc_in (s : ByteArray) (hs : s.size ≤ 1000000000) (i : Nat) (hi : i < s.size) (w : World) :
    Calls Tryz.prog 90 #[.string s, .int .i64 (i : Int)] w fun e w' => e = .returned (.tuple #[.string (resE (escE s i)).1, .int .i64 ((resE (escE s i)).2 : Int)]) ∧ Below w.heap.size w w' := by
  by_cases h : i + 1 < s.size ∧ (by_ s (i + 1) = 120 ∨ by_ s (i + 1) = 117)
  · rcases h.2 with h2 | h2
    · exact refEsc_byte s hs i h.1 h2 w
    · exact refEsc_rune s hs i h.1 h2 w
  · exact refEsc_easy s hs i hi h w

end Go.Proofs.YtkndjbmlkfpfoaaGreatDoor

/-
  What the document's own Quoted and Unquote answer.
-/
set_option linter.unusedSimpArgs false
set_option linter.unusedVariables false
namespace Go.Proofs.YtkndjbmlkfpfoaaGreatDoor
open Go.RowKit Go.Lib

theorem conv_nil (w : World) : (convert 38 9 (.slice none 0 0)).run Tryz.prog w = .ok (.string (ofL [])) w := by kernel_rfl
theorem conv_any {W : World} {B n : Nat} {v : Value} {l : List UInt8} (h : W.ownsRow B 5 1 v n (byteCells l)) (hn : n = l.length) :
    (convert 38 9 v).run Tryz.prog W = .ok (.string (ofL l)) W := by
  by_cases hne : l = []
  · subst hne
    have h0 := h
    rcases h.2 with ⟨rfl, e⟩ | ⟨g, cap, cur, rfl, _⟩
    · exact conv_nil W
    · have hc := conv_bytes W ⟨g, 0, none⟩ n cap [] (by rw [hn]; rfl) (fun j hj => by cases hj)
      exact hc
  · exact conv_own h hn hne

/-- three cells that may be written -/
def Box3 (W : World) (b : Nat) : Prop := ∃ c0 c1 c2, W.heap[b]? = some (.cells #[c0, c1, c2] 131 (0, 0))
theorem Box3.facts {W : World} {b : Nat} (h : Box3 W b) : (∃ v, W.cell? ⟨b, 0, none⟩ = some v) ∧ (∃ v, W.cell? ⟨b, 1, none⟩ = some v) ∧ (∃ v, W.cell? ⟨b, 2, none⟩ = some v) ∧ W.frozen? ⟨b, 0, none⟩ = false ∧ W.frozen? ⟨b, 1, none⟩ = false ∧ W.frozen? ⟨b, 2, none⟩ = false := by
  obtain ⟨c0, c1, c2, h⟩ := h
  exact ⟨⟨c0, by simp [World.cell?, h]⟩, ⟨c1, by simp [World.cell?, h]⟩, ⟨c2, by simp [World.cell?, h]⟩, by simp [World.frozen?, h], by simp [World.frozen?, h], by simp [World.frozen?, h]⟩
theorem Box3.below {W W' : World} {b B : Nat} (h : Box3 W b) (hb : Below B W W') (hB : b < B) : Box3 W' b := by
  obtain ⟨c0, c1, c2, h⟩ := h
  exact ⟨c0, c1, c2, (hb.block b hB).trans h⟩
theorem Box3.new (W : World) (c0 c1 c2 : Value) : Box3 (W.alloc (.cells #[c0, c1, c2] 131)) W.heap.size := ⟨c0, c1, c2, by show (W.heap.push _)[W.heap.size]? = _; simp⟩

def paV (A : List UInt8 × Nat × Bool) : Value := .agg #[.string (ofL A.1), .int .i64 (if A.2.2 then (A.2.1 : Int) else -1), .int .i64 (if A.2.2 then 0 else (A.2.1 : Int))]

set_option maxRecDepth 100000 in
set_option maxHeartbeats 8000000 in
theorem quoted4_in (s : ByteArray) (hs : s.size ≤ 1000000000) (b : Nat) (hb : b < s.size) (h34 : by_ s b = 34) (w : World) :
    Calls Tryz.prog 62 #[.string s, .int .i64 (b : Int)] w fun e w' => e = .returned (paV (rdE s (b + 1))) ∧ Below w.heap.size w w' := by
  obtain ⟨i0, hi, hz0, hz1, hz2⟩ := info_parts infoByte
  obtain ⟨A, hA⟩ : ∃ A, rdE s (b + 1) = A := ⟨_, rfl⟩
  rw [hA]
  have HA := hide (show rdA s (b + 1) [] = A from hA)
  have hget := by_get s b hb
  rw [h34] at hget
  have i1 : ¬ (s.size : Int) ≤ (b : Int) := by omega
  have i2 : (b : Int) < (s.size : Int) := by omega
  have i3 : (0 : Int) ≤ (b : Int) := by omega
  have hsm : s.size ≤ 140737488355328 := by omega
  have e1 : (w.alloc (.cells #[.string ⟨#[]⟩, .int .i64 0, .int .i64 0] 131)).heap.size = w.heap.size + 1 := by simp
  have X0 := hide (Box3.new w (.string ⟨#[]⟩) (.int .i64 0) (.int .i64 0))
  have B0 := hide ((Below.refl w.heap.size w).alloc (Nat.le_refl _) (.cells #[.string ⟨#[]⟩, .int .i64 0, .int .i64 0] 131))
  clear hA h34
  go_enter Tryz.func62, Tryz.ntmps62
  go_wp2
  obtain ⟨W0, hW0⟩ : ∃ W0, w.alloc (.cells #[.string ⟨#[]⟩, .int .i64 0, .int .i64 0] 131) = W0 := ⟨_, rfl⟩
  rw [hW0] at e1 X0 B0 ⊢
  clear hW0
  go_loopw [5, 6] (fun bv iv wr => ∃ (i : Nat) (acc : List UInt8), iv = .int .i64 (i : Int) ∧ i ≤ s.size ∧ acc.length ≤ 4 * i ∧ Hid (rdA s i acc = A ∧ wr.ownsRow (w.heap.size + 1) 5 1 bv acc.length (byteCells acc) ∧ Below (w.heap.size + 1) W0 wr)) (fun _ iv _ => s.size - (RowKit.intOf iv).toNat)
  case atStart => exact ⟨b + 1, [], by go_num, by omega, by simp, hide ⟨unhide HA, World.ownsRow_nil _ _ _ _, Below.refl _ _⟩⟩
  case round =>
    obtain ⟨i, acc, rfl, his, hal, H⟩ := hrel
    obtain ⟨hrd, hrow, hBr⟩ := unhide H
    have hsz : w.heap.size + 1 ≤ wr.heap.size := by have := hBr.size; omega
    have Bw := hide ((unhide B0).trans (hBr.mono (Nat.le_succ _)))
    have X1 := hide ((unhide X0).below hBr (Nat.lt_succ_self _))
    have Hrd := hide hrd
    clear H hrd
    by_cases hp : i < s.size
    · have k1 : (i : Int) < (s.size : Int) := by omega
      have k2 : (0 : Int) ≤ (i : Int) := by omega
      have gi := by_get s i hp
      by_cases c34 : by_ s i = 34
      · have HE := hide (show A = (acc, i + 1, true) by rw [← unhide Hrd]; exact rdA_quote hp c34)
        rw [c34] at gi
        have hcv := conv_any hrow rfl
        obtain ⟨⟨v0, q0⟩, ⟨v1, q1⟩, ⟨v2, q2⟩, f0, f1, f2⟩ := (unhide X1).facts
        clear c34 hrow hBr Hrd
        go_wp2
        refine bodyPost_ret (v := .agg #[.string (ofL acc), .int .i64 ((i : Int) + 1), .int .i64 0]) ?_ rfl ⟨by rw [unhide HE]; simp [paV], ?_⟩
        · simp [results, Tryz.f62, go_sem, *]
        · exact (((unhide Bw).setCell (Nat.le_refl _) _).setCell (Nat.le_refl _) _).setCell (Nat.le_refl _) _
      · have n34 : (((by_ s i : Nat) : Int) == 34) = false := by rw [beq_eq_false_iff_ne]; omega
        by_cases c92 : by_ s i = 92
        · have hesc := hide (refEsc_in s hs i hp wr)
          rw [c92] at gi
          clear n34
          cases he : escE s i with
          | none =>
            rw [he, res_none] at hesc
            have HE := hide (show A = ([], i, false) by rw [← unhide Hrd]; exact rdA_none hp c92 he)
            clear he c34 hrow
            go_wp2_with fail
            refine (unhide hesc).mono ?_
            rintro e V1 ⟨rfl, hV1⟩
            have X2 := (unhide X1).below hV1 (by omega)
            have Bw2 := (unhide Bw).trans (hV1.mono (by omega))
            obtain ⟨⟨v0, q0⟩, ⟨v1, q1⟩, ⟨v2, q2⟩, f0, f1, f2⟩ := X2.facts
            have HBw2 := hide Bw2
            clear hV1 X2 Bw2 hBr
            go_wp2
            refine bodyPost_ret (v := .agg #[.string ⟨#[]⟩, .int .i64 (-1), .int .i64 (i : Int)]) ?_ rfl ⟨by rw [unhide HE]; simp [paV, ofL], ?_⟩
            · simp [results, Tryz.f62, go_sem, *]
            · exact (((unhide HBw2).setCell (Nat.le_refl _) _).setCell (Nat.le_refl _) _).setCell (Nat.le_refl _) _
          | some v =>
            obtain ⟨x, n⟩ := v
            have hn := escE_n he
            rw [he, res_some] at hesc
            have i0n : ((n : Int) == 0) = false := by rw [beq_eq_false_iff_ne]; omega
            have HS := hide (show rdA s (i + n) (acc ++ x) = A by rw [← rdA_some hp c92 he]; exact unhide Hrd)
            have hx4 : (ofL x).size ≤ 4 := by rw [ofL_size]; exact hn.2.2
            clear he c34
            go_wp2_with fail
            refine (unhide hesc).mono ?_
            rintro e V1 ⟨rfl, hV1⟩
            have hrow2 := owns1_below hrow hV1
            have hBr2 := hBr.trans (hV1.mono hsz)
            have hsz2 : w.heap.size + 1 ≤ V1.heap.size := Nat.le_trans hsz hV1.size
            go_wp2_with (at_builtin; refine wpList_append_own_string _ rfl _ _ 38 9 rfl (w.heap.size + 1) 5 i0 Tryz.underlying38 Tryz.underlying9 hi hz0 hz1 hz2 _ acc.length (byteCells acc) rfl hrow2 (ofL x) rfl (by unfold maxLen; skip; omega) (by skip; omega) hsz2 ?_; intro v4 W4 ho4 hg4 _)
            go_roundw
            case rel =>
              rw [strCells_ofL, ← byteCells_append, ofL_size, ← List.length_append] at ho4
              exact ⟨i + n, acc ++ x, by go_num, hn.2.1, by rw [List.length_append]; omega, hide ⟨unhide HS, ho4, hBr2.grown hg4 (by omega) (fun j e => (hrow2.lt j e).1)⟩⟩
            case measure => simp [RowKit.intOf]; omega
        · have n92 : (((by_ s i : Nat) : Int) == 92) = false := by rw [beq_eq_false_iff_ne]; omega
          have hdec := hide (refDecode_any s (i : Int) wr hsm)
          rw [dR_in s i hp, dN_in s i hp, dK_in s i hp] at hdec
          have hw := wd_le s i hp
          have hw1 := wd_pos s i hp
          cases hr : rawB s i with
          | true =>
            have HE := hide (show A = ([], i, false) by rw [← unhide Hrd]; exact rdA_raw hp c34 c92 hr)
            have hcase : Hid (okR s i = false ∨ (okR s i = true ∧ rn s i < 32) ∨ (okR s i = true ∧ rn s i = 127)) := hide (by
              unfold rawB at hr
              simp only [Bool.or_eq_true, decide_eq_true_eq, Bool.not_eq_true'] at hr
              cases ho : okR s i with
              | false => exact .inl rfl
              | true => rw [ho] at hr; rcases hr with (h | h) | h <;> simp_all)
            clear c34 c92 hr hrow
            go_wp2_with fail
            refine (unhide hdec).mono ?_
            rintro e V1 ⟨rfl, nd, rfl⟩
            have X2 : Box3 (wr.drewN nd) w.heap.size := unhide X1
            have HBw2 := hide (show Below w.heap.size w (wr.drewN nd) from ⟨(unhide Bw).os, (unhide Bw).tape, (unhide Bw).output, (unhide Bw).size, (unhide Bw).block⟩)
            obtain ⟨⟨v0, q0⟩, ⟨v1, q1⟩, ⟨v2, q2⟩, f0, f1, f2⟩ := X2.facts
            clear X2 hBr hw hw1
            rcases unhide hcase with ho | ⟨ho, hc⟩ | ⟨ho, hc⟩
            · rw [ho]
              go_wp2
              refine bodyPost_ret (v := .agg #[.string ⟨#[]⟩, .int .i64 (-1), .int .i64 (i : Int)]) ?_ rfl ⟨by rw [unhide HE]; simp [paV, ofL], ?_⟩
              · simp [results, Tryz.f62, go_sem, *]
              · exact (((unhide HBw2).setCell (Nat.le_refl _) _).setCell (Nat.le_refl _) _).setCell (Nat.le_refl _) _
            · have e32 : ((rn s i : Nat) : Int) < 32 := by omega
              rw [ho]
              go_wp2
              refine bodyPost_ret (v := .agg #[.string ⟨#[]⟩, .int .i64 (-1), .int .i64 (i : Int)]) ?_ rfl ⟨by rw [unhide HE]; simp [paV, ofL], ?_⟩
              · simp [results, Tryz.f62, go_sem, *]
              · exact (((unhide HBw2).setCell (Nat.le_refl _) _).setCell (Nat.le_refl _) _).setCell (Nat.le_refl _) _
            · rw [ho, hc]
              go_wp2
              refine bodyPost_ret (v := .agg #[.string ⟨#[]⟩, .int .i64 (-1), .int .i64 (i : Int)]) ?_ rfl ⟨by rw [unhide HE]; simp [paV, ofL], ?_⟩
              · simp [results, Tryz.f62, go_sem, *]
              · exact (((unhide HBw2).setCell (Nat.le_refl _) _).setCell (Nat.le_refl _) _).setCell (Nat.le_refl _) _
          | false =>
            have HS := hide (show rdA s (i + wd s i) (acc ++ encL (rn s i : Nat)) = A by rw [← rdA_rune hp c34 c92 hr]; exact unhide Hrd)
            have ho : okR s i = true := by unfold rawB at hr; simp at hr; exact hr.2
            have Ho := hide ho
            have e32 : ¬ ((rn s i : Nat) : Int) < 32 := by unfold rawB at hr; simp at hr; omega
            have e127 : (((rn s i : Nat) : Int) == 127) = false := by rw [beq_eq_false_iff_ne]; unfold rawB at hr; simp at hr; omega
            have hex : (s.extract i (i + wd s i)).size = wd s i := by rw [ByteArray.size_extract]; omega
            have j1 : (i : Int) + ((wd s i : Nat) : Int) ≤ (s.size : Int) := by omega
            have j2 : (i : Int) ≤ (i : Int) + ((wd s i : Nat) : Int) := by omega
            have j3 : ((i : Int) + ((wd s i : Nat) : Int)).toNat = i + wd s i := by omega
            rw [ho] at hdec
            have HBr := hide hBr
            have Hrow := hide hrow
            clear c34 c92 hr ho hBr hrow
            have Hw := hide hw
            obtain ⟨k, hk⟩ : ∃ k, wd s i = k := ⟨_, rfl⟩
            obtain ⟨r, hrr⟩ : ∃ r, rn s i = r := ⟨_, rfl⟩
            have Hk := hide hk
            have Hr := hide hrr
            rw [hk] at hdec hex j1 j2 j3
            rw [hrr] at hdec e32 e127
            have Hx1 := hide hex
            have hk4 : k ≤ 4 := by omega
            have hik : i + k ≤ s.size := by omega
            clear hk hrr hw hw1 hex
            go_wp2_with fail
            refine (unhide hdec).mono ?_
            rintro e V1 ⟨rfl, nd, rfl⟩
            go_wp2_with (at_builtin; refine wpList_append_own_string _ rfl _ _ 38 9 rfl (w.heap.size + 1) 5 i0 Tryz.underlying38 Tryz.underlying9 hi hz0 hz1 hz2 _ acc.length (byteCells acc) rfl (show (wr.drewN nd).ownsRow (w.heap.size + 1) 5 1 u5 acc.length (byteCells acc) from unhide Hrow) (s.extract i (i + k)) rfl (by unfold maxLen; rw [unhide Hx1]; omega) (by rw [unhide Hx1]; omega) hsz ?_; intro v4 W4 ho4 hg4 _)
            go_roundw
            case rel =>
              have hk := unhide Hk
              have hw1 := wd_pos s i hp
              subst hk
              have hw := unhide Hw
              have hen := enc_ok s i hp (unhide Ho)
              have hcs : strCells (s.extract i (i + wd s i)) = byteCells (encL (rn s i : Nat)) := by rw [hen]; exact strCells_sub s i _ hw.1
              have h4 := encL_le4 ((rn s i : Nat) : Int)
              rw [hcs, ← byteCells_append, unhide Hx1, show wd s i = (encL (rn s i : Nat)).length by rw [hen, subL_len s i _ hw.1], ← List.length_append] at ho4
              exact ⟨i + wd s i, acc ++ encL (rn s i : Nat), by go_num, hw.1, by rw [List.length_append]; omega, hide ⟨unhide HS, ho4, (show Below (w.heap.size + 1) W0 (wr.drewN nd) from ⟨(unhide HBr).os, (unhide HBr).tape, (unhide HBr).output, (unhide HBr).size, (unhide HBr).block⟩).grown hg4 hsz (fun j e => ((unhide Hrow).lt j e).1)⟩⟩
            case measure => have hk := unhide Hk; have hw1 := wd_pos s i hp; simp [RowKit.intOf]; omega
    · have k1 : ¬ (i : Int) < (s.size : Int) := by omega
      have HE := hide (show A = ([], s.size, false) by rw [← unhide Hrd]; exact rdA_end hp)
      obtain ⟨⟨v0, q0⟩, ⟨v1, q1⟩, ⟨v2, q2⟩, f0, f1, f2⟩ := (unhide X1).facts
      clear hrow hBr Hrd
      go_wp2
      refine bodyPost_ret (v := .agg #[.string ⟨#[]⟩, .int .i64 (-1), .int .i64 (s.size : Int)]) ?_ rfl ⟨by rw [unhide HE]; simp [paV, ofL], ?_⟩
      · simp [results, Tryz.f62, go_sem, *]
      · exact (((unhide Bw).setCell (Nat.le_refl _) _).setCell (Nat.le_refl _) _).setCell (Nat.le_refl _) _

end Go.Proofs.YtkndjbmlkfpfoaaGreatDoor

/-
  The document's own plain word.
-/
set_option linter.unusedSimpArgs false
set_option linter.unusedVariables false
namespace Go.Proofs.YtkndjbmlkfpfoaaGreatDoor
open Go.RowKit Go.Lib

def Box6 (W : World) (b : Nat) : Prop := ∃ c0 c1 c2 c3 c4 c5, W.heap[b]? = some (.cells #[c0, c1, c2, c3, c4, c5] 82 (0, 0))
theorem Box6.facts {W : World} {b : Nat} (h : Box6 W b) : (∃ v, W.cell? ⟨b, 0, none⟩ = some v) ∧ (∃ v, W.cell? ⟨b, 1, none⟩ = some v) ∧ (∃ v, W.cell? ⟨b, 2, none⟩ = some v) ∧ (∃ v, W.cell? ⟨b, 3, none⟩ = some v) ∧ (∃ v, W.cell? ⟨b, 4, none⟩ = some v) ∧ (∃ v, W.cell? ⟨b, 5, none⟩ = some v) ∧ W.frozen? ⟨b, 0, none⟩ = false ∧ W.frozen? ⟨b, 1, none⟩ = false ∧ W.frozen? ⟨b, 2, none⟩ = false ∧ W.frozen? ⟨b, 3, none⟩ = false ∧ W.frozen? ⟨b, 4, none⟩ = false ∧ W.frozen? ⟨b, 5, none⟩ = false := by
  obtain ⟨c0, c1, c2, c3, c4, c5, h⟩ := h
  refine ⟨⟨c0, ?_⟩, ⟨c1, ?_⟩, ⟨c2, ?_⟩, ⟨c3, ?_⟩, ⟨c4, ?_⟩, ⟨c5, ?_⟩, ?_, ?_, ?_, ?_, ?_, ?_⟩ <;> simp [World.cell?, World.frozen?, h]
theorem Box6.below {W W' : World} {b B : Nat} (h : Box6 W b) (hb : Below B W W') (hB : b < B) : Box6 W' b := by
  obtain ⟨c0, c1, c2, c3, c4, c5, h⟩ := h
  exact ⟨c0, c1, c2, c3, c4, c5, (hb.block b hB).trans h⟩
theorem Box6.new (W : World) (c0 c1 c2 c3 c4 c5 : Value) : Box6 (W.alloc (.cells #[c0, c1, c2, c3, c4, c5] 82)) W.heap.size := ⟨c0, c1, c2, c3, c4, c5, by show (W.heap.push _)[W.heap.size]? = _; simp⟩

/-- a word and its error, found -/
def fV (x : Wd) (line : Nat) : Value := .agg #[.int .i64 (x.k : Int), .string x.t, .int .i64 x.n, .int .i64 (x.a : Int), .int .i64 (line : Int), .int .i64 (x.e : Int)]
def fEn (x : Wd) : Int := if x.e = 0 then (x.nx : Int) else -1
/-- the byte by which a word is a number, or not -/
def fst1 (t : ByteArray) : Nat := if by_ t 0 = 45 ∧ 1 < t.size then by_ t 1 else by_ t 0
theorem bgN_fst {t : ByteArray} (h : 0 < t.size) : bgN t = decide (48 ≤ fst1 t ∧ fst1 t ≤ 57) := by
  unfold bgN fst1 dgA
  by_cases h45 : by_ t 0 = 45
  · rw [if_pos ⟨h, h45⟩]
    by_cases h1 : 1 < t.size
    · rw [if_pos ⟨h45, h1⟩]
      simp [h1]
    · rw [if_neg (fun q => h1 q.2), h45]
      simp [h1]
  · rw [if_neg (fun q => h45 q.2), if_neg (fun q => h45 q.1)]
    simp [h]
theorem fst_dash {t : ByteArray} (h : 0 < t.size) (hf : 48 ≤ fst1 t) (h45 : by_ t 0 = 45) : 1 < t.size := by
  by_cases h1 : 1 < t.size
  · exact h1
  · unfold fst1 at hf
    rw [if_neg (fun q => h1 q.2), h45] at hf
    omega
theorem dec_of {t : ByteArray} (h : 0 < t.size) (hf : 48 ≤ fst1 t) {n : Int} {b : Bool} (hn : numD t.data.toList = if b = true then some n else none) : decN t = if b = true then some n else none := by
  rw [← hn]
  refine (num_one t ?_ ?_).symm
  · intro q
    have : t.data.toList.length = 0 := by rw [q]; rfl
    have e : t.data.toList.length = t.size := rfl
    omega
  · intro q
    have h1 := fst_dash h hf ((head_by h 45 (by omega)).2 (by simpa using q))
    intro e
    have : t.data.toList.tail.length = 0 := by rw [e]; rfl
    rw [List.length_tail] at this
    have e : t.data.toList.length = t.size := rfl
    omega

set_option maxRecDepth 100000 in
set_option maxHeartbeats 8000000 in
theorem refPlain_in (s : ByteArray) (hs : s.size ≤ 1000000000) (b : Nat) (hb : b < s.size) (hwe : isWe (by_ s b) = false) (line : Nat) (w : World) :
    Calls Tryz.prog 61 #[.string s, .int .i64 (b : Int), .int .i64 (line : Int)] w fun e w' => e = .returned (.tuple #[fV (bwW s b) line, .int .i64 (fEn (bwW s b))]) ∧ Below w.heap.size w w' := by
  have hsm : s.size ≤ 140737488355328 := by omega
  have e1 : (w.alloc (.cells #[.int .i64 0, .string ⟨#[]⟩, .int .i64 0, .int .i64 0, .int .i64 0, .int .i64 0] 82)).heap.size = w.heap.size + 1 := by simp
  have X0 := hide (Box6.new w (.int .i64 0) (.string ⟨#[]⟩) (.int .i64 0) (.int .i64 0) (.int .i64 0) (.int .i64 0))
  have B0 := hide ((Below.refl w.heap.size w).alloc (Nat.le_refl _) (.cells #[.int .i64 0, .string ⟨#[]⟩, .int .i64 0, .int .i64 0, .int .i64 0, .int .i64 0] 82))
  obtain ⟨X, hX⟩ : ∃ X, bwW s b = X := ⟨_, rfl⟩
  rw [hX]
  unfold bwW at hX
  obtain ⟨A, hA⟩ : ∃ A, bwA s b = A := ⟨_, rfl⟩
  rw [hA] at hX
  have HX := hide hX
  have HA := hide hA
  have Hwe := hide hwe
  clear hX hA hwe
  go_enter Tryz.func61, Tryz.ntmps61
  go_wp2
  obtain ⟨W0, hW0⟩ : ∃ W0, w.alloc (.cells #[.int .i64 0, .string ⟨#[]⟩, .int .i64 0, .int .i64 0, .int .i64 0, .int .i64 0] 82) = W0 := ⟨_, rfl⟩
  rw [hW0] at e1 X0 B0 ⊢
  clear hW0
  go_loopw [8] (fun iv wr => ∃ (i : Nat), iv = .int .i64 (i : Int) ∧ b ≤ i ∧ i ≤ s.size ∧ Hid (bwA s i = A ∧ Below (w.heap.size + 1) W0 wr)) (fun iv _ => s.size - (RowKit.intOf iv).toNat)
  case atStart => exact ⟨b, by go_num, Nat.le_refl _, by omega, hide ⟨unhide HA, Below.refl _ _⟩⟩
  case round =>
    obtain ⟨i, rfl, hbi, his, H⟩ := hrel
    obtain ⟨hbw, hBr⟩ := unhide H
    have hsz : w.heap.size + 1 ≤ wr.heap.size := by have := hBr.size; omega
    have Bw := hide ((unhide B0).trans (hBr.mono (Nat.le_succ _)))
    have X1 := hide ((unhide X0).below hBr (Nat.lt_succ_self _))
    have Hbw := hide hbw
    have HBr := hide hBr
    have HEn := hide (refEnds_in s hs i wr his)
    clear H hbw hBr
    by_cases hp : i < s.size ∧ isWe (by_ s i) = false
    · obtain ⟨hp, hwe⟩ := hp
      have hen : enDs s i = false := by unfold enDs; rw [hwe, decide_eq_false (by simpa using hp)]; rfl
      rw [hen] at HEn
      have hst := (bwA_step s i hp).symm.trans (unhide Hbw)
      rw [if_neg (by rw [hwe]; simp)] at hst
      have k1 : (i : Int) < (s.size : Int) := by omega
      have k2 : (0 : Int) ≤ (i : Int) := by omega
      have gi := by_get s i hp
      clear hen hwe
      by_cases c34 : by_ s i = 34
      · have hrn : rn s i = 34 := by rw [(by_low s i (by omega)).1, c34]
        rw [if_pos hrn] at hst
        have HE := hide (show X = ⟨0, ⟨#[]⟩, 0, i, 0, 18⟩ by rw [← unhide HX, ← hst]; rfl)
        rw [c34] at gi
        obtain ⟨⟨v0, q0⟩, ⟨v1, q1⟩, ⟨v2, q2⟩, ⟨v3, q3⟩, ⟨v4, q4⟩, ⟨v5, q5⟩, f0, f1, f2, f3, f4, f5⟩ := (unhide X1).facts
        clear c34 hrn hst HBr Hbw HX
        go_wp2_with fail
        refine (unhide HEn).mono ?_
        rintro e V1 ⟨rfl, rfl⟩
        go_wp2
        refine bodyPost_ret (v := .tuple #[.agg #[.int .i64 0, .string ⟨#[]⟩, .int .i64 0, .int .i64 (i : Int), .int .i64 (line : Int), .int .i64 18], .int .i64 (-1)]) ?_ rfl ⟨by rw [unhide HE]; rfl, ?_⟩
        · simp [results, Tryz.f61, go_sem, *]
        · exact ((((((unhide Bw).setCell (Nat.le_refl _) _).setCell (Nat.le_refl _) _).setCell (Nat.le_refl _) _).setCell (Nat.le_refl _) _).setCell (Nat.le_refl _) _).setCell (Nat.le_refl _) _
      · have n34 : (((by_ s i : Nat) : Int) == 34) = false := by rw [beq_eq_false_iff_ne]; omega
        have hrn : ¬ rn s i = 34 := fun q => c34 (by rw [(rn_low s i hp (by omega)).1, q])
        rw [if_neg hrn] at hst
        have hdec := hide (refDecode_any s (i : Int) wr hsm)
        rw [dR_in s i hp, dN_in s i hp, dK_in s i hp] at hdec
        have hw := wd_le s i hp
        have hw1 := wd_pos s i hp
        clear hrn c34
        cases hr : rawB s i with
        | true =>
          rw [if_pos hr] at hst
          have HE := hide (show X = ⟨0, ⟨#[]⟩, 0, i, 0, 2⟩ by rw [← unhide HX, ← hst]; rfl)
          have hcase : Hid (okR s i = false ∨ (okR s i = true ∧ rn s i < 32) ∨ (okR s i = true ∧ rn s i = 127)) := hide (by
            unfold rawB at hr
            simp only [Bool.or_eq_true, decide_eq_true_eq, Bool.not_eq_true'] at hr
            cases ho : okR s i with
            | false => exact .inl rfl
            | true => rw [ho] at hr; rcases hr with (h | h) | h <;> simp_all)
          clear hr hst HBr Hbw HX
          go_wp2_with fail
          refine (unhide HEn).mono ?_
          rintro e V1 ⟨rfl, rfl⟩
          go_wp2_with fail
          refine (unhide hdec).mono ?_
          rintro e V1 ⟨rfl, nd, rfl⟩
          have X2 : Box6 (wr.drewN nd) w.heap.size := unhide X1
          have HBf := hide (show Below w.heap.size w (wr.drewN nd) from ⟨(unhide Bw).os, (unhide Bw).tape, (unhide Bw).output, (unhide Bw).size, (unhide Bw).block⟩)
          obtain ⟨⟨v0, q0⟩, ⟨v1, q1⟩, ⟨v2, q2⟩, ⟨v3, q3⟩, ⟨v4, q4⟩, ⟨v5, q5⟩, f0, f1, f2, f3, f4, f5⟩ := X2.facts
          clear X2 hw hw1
          rcases unhide hcase with ho | ⟨ho, hc⟩ | ⟨ho, hc⟩
          · rw [ho]
            go_wp2
            refine bodyPost_ret (v := .tuple #[.agg #[.int .i64 0, .string ⟨#[]⟩, .int .i64 0, .int .i64 (i : Int), .int .i64 (line : Int), .int .i64 2], .int .i64 (-1)]) ?_ rfl ⟨by rw [unhide HE]; rfl, ?_⟩
            · simp [results, Tryz.f61, go_sem, *]
            · exact ((((((unhide HBf).setCell (Nat.le_refl _) _).setCell (Nat.le_refl _) _).setCell (Nat.le_refl _) _).setCell (Nat.le_refl _) _).setCell (Nat.le_refl _) _).setCell (Nat.le_refl _) _
          · have e32 : ((rn s i : Nat) : Int) < 32 := by omega
            rw [ho]
            go_wp2
            refine bodyPost_ret (v := .tuple #[.agg #[.int .i64 0, .string ⟨#[]⟩, .int .i64 0, .int .i64 (i : Int), .int .i64 (line : Int), .int .i64 2], .int .i64 (-1)]) ?_ rfl ⟨by rw [unhide HE]; rfl, ?_⟩
            · simp [results, Tryz.f61, go_sem, *]
            · exact ((((((unhide HBf).setCell (Nat.le_refl _) _).setCell (Nat.le_refl _) _).setCell (Nat.le_refl _) _).setCell (Nat.le_refl _) _).setCell (Nat.le_refl _) _).setCell (Nat.le_refl _) _
          · rw [ho, hc]
            go_wp2
            refine bodyPost_ret (v := .tuple #[.agg #[.int .i64 0, .string ⟨#[]⟩, .int .i64 0, .int .i64 (i : Int), .int .i64 (line : Int), .int .i64 2], .int .i64 (-1)]) ?_ rfl ⟨by rw [unhide HE]; rfl, ?_⟩
            · simp [results, Tryz.f61, go_sem, *]
            · exact ((((((unhide HBf).setCell (Nat.le_refl _) _).setCell (Nat.le_refl _) _).setCell (Nat.le_refl _) _).setCell (Nat.le_refl _) _).setCell (Nat.le_refl _) _).setCell (Nat.le_refl _) _
        | false =>
          rw [if_neg (by rw [hr]; simp)] at hst
          have ho : okR s i = true := by unfold rawB at hr; simp at hr; exact hr.2
          have e32 : ¬ ((rn s i : Nat) : Int) < 32 := by unfold rawB at hr; simp at hr; omega
          have e127 : (((rn s i : Nat) : Int) == 127) = false := by rw [beq_eq_false_iff_ne]; unfold rawB at hr; simp at hr; omega
          rw [ho] at hdec
          have HS := hide hst
          clear hr ho hst Hbw
          obtain ⟨k, hk⟩ : ∃ k, wd s i = k := ⟨_, rfl⟩
          obtain ⟨r, hrr⟩ : ∃ r, rn s i = r := ⟨_, rfl⟩
          rw [hk] at hdec HS hw hw1
          rw [hrr] at hdec e32 e127
          have hk4 : k ≤ 4 := by omega
          have hik : i + k ≤ s.size := by omega
          clear hk hrr hw
          go_wp2_with fail
          refine (unhide HEn).mono ?_
          rintro e V1 ⟨rfl, rfl⟩
          go_wp2_with fail
          refine (unhide hdec).mono ?_
          rintro e V1 ⟨rfl, nd, rfl⟩
          go_wp2
          go_roundw
          case rel => exact ⟨i + k, by go_num, by omega, hik, hide ⟨unhide HS, ⟨(unhide HBr).os, (unhide HBr).tape, (unhide HBr).output, (unhide HBr).size, (unhide HBr).block⟩⟩⟩
          case measure => simp [RowKit.intOf]; omega
    · have hen : enDs s i = true := by
        unfold enDs
        by_cases q : i < s.size
        · have : isWe (by_ s i) = true := by cases h : isWe (by_ s i); exact absurd ⟨q, h⟩ hp; rfl
          rw [this]; simp
        · simp [q]
      rw [hen] at HEn
      have hAi : A = (i, 0) := by
        rw [← unhide Hbw]
        by_cases q : i < s.size
        · have : isWe (by_ s i) = true := by cases h : isWe (by_ s i); exact absurd ⟨q, h⟩ hp; rfl
          rw [bwA_step s i q, if_pos this]
        · rw [bwA_end s i q, show i = s.size by omega]
      have hgt : b < i := by
        by_cases q : i = b
        · subst q
          exact absurd ⟨hb, unhide Hwe⟩ hp
        · omega
      have hX := unhide HX
      rw [hAi] at hX
      simp only at hX
      rw [if_neg (by simp)] at hX
      obtain ⟨T, hT⟩ : ∃ T, s.extract b i = T := ⟨_, rfl⟩
      have hTs : T.size = i - b := by rw [← hT, ByteArray.size_extract]; omega
      rw [hT] at hX
      have hT0 : 0 < T.size := by omega
      rw [bgN_fst hT0] at hX
      have g0 := by_get T 0 hT0
      have HX2 := hide hX
      have k1 : (i : Int) ≤ (s.size : Int) := by omega
      have k2 : (b : Int) ≤ (i : Int) := by omega
      have k3 : (0 : Int) ≤ (b : Int) := by omega
      have k4 : (0 : Int) < (T.size : Int) := by omega
      obtain ⟨Z, hZ⟩ : ∃ Z, T.size = Z := ⟨_, rfl⟩
      have HZT := hide hT0
      have Hgt := hide hgt
      have HNm := hide (fun h1 => number4_in T (by omega) hT0 h1 wr)
      clear hX HX hAi hen hp HA Hbw Hwe HBr hTs hgt
      go_wp2_with fail
      refine (unhide HEn).mono ?_
      rintro e V1 ⟨rfl, rfl⟩
      clear HEn
      go_upto_region 11 with fail
      go_cut [65] from 59 to 65 (fun v wx => v = .bool (decide (by_ T 0 = 45 ∧ 1 < Z)) ∧ wr = wx)
      case first =>
        by_cases c45 : by_ T 0 = 45
        · have q1 : (((by_ T 0 : Nat) : Int) == 45) = true := by rw [c45]; rfl
          have Hc := hide c45
          clear c45
          by_cases z1 : 1 < Z
          · have z2 : (1 : Int) < (Z : Int) := by omega
            clear HNm HX2
            go_wp2
            go_meet
            case rel => exact ⟨by simp [unhide Hc, z1], rfl⟩
          · have z2 : ¬ (1 : Int) < (Z : Int) := by omega
            clear HNm HX2
            go_wp2
            go_meet
            case rel => exact ⟨by simp [z1], rfl⟩
        · have q1 : (((by_ T 0 : Nat) : Int) == 45) = false := by rw [beq_eq_false_iff_ne]; omega
          clear HNm HX2
          go_wp2
          go_meet
          case rel => exact ⟨by simp [c45], rfl⟩
      obtain ⟨rfl, rfl⟩ := hcut
      rename_i hKx
      refine hKx _ _ ?_
      clear hKx
      go_cut [13] from 59 to 67 (fun v wx => v = .int .u8 (fst1 T : Int) ∧ wr = wx)
      case first =>
        by_cases cc : by_ T 0 = 45 ∧ 1 < Z
        · have q1 : decide (by_ T 0 = 45 ∧ 1 < Z) = true := by simp [cc]
          have hf : fst1 T = by_ T 1 := by unfold fst1; rw [hZ, if_pos cc]
          have hz1 : 1 < T.size := by omega
          have g1 := by_get T 1 hz1
          have z2 : (1 : Int) < (Z : Int) := by omega
          have Hf := hide hf
          rw [q1]
          clear HNm HX2 hf q1
          clear cc
          go_wp2
          go_meet
          case rel => exact ⟨by rw [unhide Hf], rfl⟩
        · have q1 : decide (by_ T 0 = 45 ∧ 1 < Z) = false := by simpa using cc
          have hf : fst1 T = by_ T 0 := by unfold fst1; rw [hZ, if_neg cc]
          have Hf := hide hf
          rw [q1]
          clear HNm HX2 hf q1
          clear cc
          go_wp2
          go_meet
          case rel => exact ⟨by rw [unhide Hf], rfl⟩
      case rest =>
        obtain ⟨rfl, rfl⟩ := hcut
        obtain ⟨F, hF⟩ : ∃ F, fst1 T = F := ⟨_, rfl⟩
        rw [hF] at HX2 ⊢
        have HF := hide hF
        have HBf := hide (unhide Bw)
        obtain ⟨⟨v0, q0⟩, ⟨v1, q1⟩, ⟨v2, q2⟩, ⟨v3, q3⟩, ⟨v4, q4⟩, ⟨v5, q5⟩, f0, f1, f2, f3, f4, f5⟩ := (unhide X1).facts
        clear g0 hF
        by_cases fl : F < 48
        · have fl' : (F : Int) < 48 := by omega
          have HE := hide (show X = ⟨1, T, 0, b, i, 0⟩ by rw [← unhide HX2, if_pos (by simp; omega)])
          clear HX2 HNm
          go_wp2
          refine bodyPost_ret (v := .tuple #[.agg #[.int .i64 1, .string T, .int .i64 0, .int .i64 (b : Int), .int .i64 (line : Int), .int .i64 0], .int .i64 (i : Int)]) ?_ rfl ⟨by rw [unhide HE]; rfl, ?_⟩
          · simp [results, Tryz.f61, go_sem, *]
          · exact ((((((unhide HBf).setCell (Nat.le_refl _) _).setCell (Nat.le_refl _) _).setCell (Nat.le_refl _) _).setCell (Nat.le_refl _) _).setCell (Nat.le_refl _) _).setCell (Nat.le_refl _) _
        have fl' : ¬ (F : Int) < 48 := by omega
        by_cases fh : 57 < F
        · have fh' : (57 : Int) < (F : Int) := by omega
          have HE := hide (show X = ⟨1, T, 0, b, i, 0⟩ by rw [← unhide HX2, if_pos (by simp; omega)])
          clear HX2 HNm
          go_wp2
          refine bodyPost_ret (v := .tuple #[.agg #[.int .i64 1, .string T, .int .i64 0, .int .i64 (b : Int), .int .i64 (line : Int), .int .i64 0], .int .i64 (i : Int)]) ?_ rfl ⟨by rw [unhide HE]; rfl, ?_⟩
          · simp [results, Tryz.f61, go_sem, *]
          · exact ((((((unhide HBf).setCell (Nat.le_refl _) _).setCell (Nat.le_refl _) _).setCell (Nat.le_refl _) _).setCell (Nat.le_refl _) _).setCell (Nat.le_refl _) _).setCell (Nat.le_refl _) _
        have fh' : ¬ (57 : Int) < (F : Int) := by omega
        have hX := unhide HX2
        rw [if_neg (by simp; omega)] at hX
        have HX3 := hide hX
        have HN := hide (unhide HNm (fun q => fst_dash (unhide HZT) (by rw [unhide HF]; omega) q))
        clear HX2 HNm hX
        go_wp2_with fail
        refine (unhide HN).mono ?_
        rintro e V1 ⟨⟨nn, bb, rfl, hnm⟩, rfl⟩
        have hdc := dec_of (unhide HZT) (by rw [unhide HF]; omega) hnm
        clear HN hnm
        cases bb with
        | true =>
          have HE := hide (show X = ⟨3, ⟨#[]⟩, nn, b, i, 0⟩ by rw [← unhide HX3, hdc]; rfl)
          clear HX3 hdc
          go_wp2
          refine bodyPost_ret (v := .tuple #[.agg #[.int .i64 3, .string ⟨#[]⟩, .int .i64 nn, .int .i64 (b : Int), .int .i64 (line : Int), .int .i64 0], .int .i64 (i : Int)]) ?_ rfl ⟨by rw [unhide HE]; rfl, ?_⟩
          · simp [results, Tryz.f61, go_sem, *]
          · exact ((((((unhide HBf).setCell (Nat.le_refl _) _).setCell (Nat.le_refl _) _).setCell (Nat.le_refl _) _).setCell (Nat.le_refl _) _).setCell (Nat.le_refl _) _).setCell (Nat.le_refl _) _
        | false =>
          have HE := hide (show X = ⟨0, ⟨#[]⟩, 0, b, 0, 6⟩ by rw [← unhide HX3, hdc]; rfl)
          clear HX3 hdc
          go_wp2
          refine bodyPost_ret (v := .tuple #[.agg #[.int .i64 0, .string ⟨#[]⟩, .int .i64 0, .int .i64 (b : Int), .int .i64 (line : Int), .int .i64 6], .int .i64 (-1)]) ?_ rfl ⟨by rw [unhide HE]; rfl, ?_⟩
          · simp [results, Tryz.f61, go_sem, *]
          · exact ((((((unhide HBf).setCell (Nat.le_refl _) _).setCell (Nat.le_refl _) _).setCell (Nat.le_refl _) _).setCell (Nat.le_refl _) _).setCell (Nat.le_refl _) _).setCell (Nat.le_refl _) _

end Go.Proofs.YtkndjbmlkfpfoaaGreatDoor

/-
  Rows of what the document finds.
-/
set_option linter.unusedSimpArgs false
set_option linter.unusedVariables false
namespace Go.Proofs.YtkndjbmlkfpfoaaGreatDoor
open Go.RowKit Go.Lib

def encF (x : It) : List Value := [.int .i64 (x.w.k : Int), .string x.w.t, .int .i64 x.w.n, .int .i64 (x.w.a : Int), .int .i64 (x.ln : Int), .int .i64 (x.w.e : Int)]
def OwF (W : World) (B : Nat) (v : Value) (l : List It) : Prop := W.ownsRow B 82 6 v l.length (flat encF l)
theorem infoFd : (Tryz.prog.info? 82).map (fun i => (i.zero, i.size, i.bytes)) = some (some (.agg #[.int .i64 0, .string ⟨#[]⟩, .int .i64 0, .int .i64 0, .int .i64 0, .int .i64 0]), 6, 56) := by kernel_rfl
theorem append_found (w : World) (ty : TypeId) (N : Nat) (v : Value) (l : List It) (x : It) (nb : Nat) (h : OwF w N v l) (hbx : Bq w nb 82 (encF x).toArray) (hN : N ≤ w.heap.size) (hl : l.length ≤ 1000000) :
    ∃ v' w', (Builtin.append_ #[79, 79] ty #[v, .slice (some ⟨nb, 0, none⟩) 1 1]).run Tryz.prog w = .ok v' w' ∧ OwF w' N v' (l ++ [x]) ∧ w.grownBy w' v.ownBlock := by
  obtain ⟨i0, hi, hz0, hz1, hz2⟩ := info_parts5 infoFd
  obtain ⟨v', w', h1, h2, h3, h4, h5⟩ := run_append_own_at (P := Tryz.prog) w N 79 ty 82 i0 _ 6 56 Tryz.underlying79 hi hz0 hz1 hz2 rfl (by decide) v l.length _ h ⟨nb, 0, none⟩ 1 1 (encF x) rfl (fun j u hu => by
    rw [Addr.add_lit, Nat.zero_add]
    exact hbx.cell j u (by rw [← hu]; simp)) (fun u hu => by simp [encF] at hu; rcases hu with rfl | rfl | rfl | rfl | rfl | rfl <;> rfl) (by unfold maxLen; omega) (by omega) (by first | omega | (simp; omega))
  refine ⟨v', w', h1, ?_, h3⟩
  unfold OwF
  rw [flat_append, List.length_append]
  simpa [flat] using h2
/-- what is found so far, in new memory -/
structure FdS (w W : World) (v : Value) (l : List It) : Prop where
  bel : Below w.heap.size w W
  ow : OwF W w.heap.size v l
variable {w W W' : World} {v : Value} {l : List It}
theorem FdS.below (h : FdS w W v l) (hb : Below W.heap.size W W') : FdS w W' v l := ⟨bnext h.bel hb, owns_kp (N := fun _ => False) h.ow (Kp.of_below hb) (fun _ _ e => e)⟩
theorem FdS.drewN (h : FdS w W v l) (n : Nat) : FdS w (W.drewN n) v l := ⟨⟨h.bel.os, h.bel.tape, h.bel.output, h.bel.size, h.bel.block⟩, h.ow⟩
theorem FdS.form (h : FdS w W v l) : ∃ a c, v = .slice a l.length c := owns_form h.ow
theorem FdS.push (h : FdS w W v l) (ty : TypeId) (x : It) {X : World} {nb : Nat} (hX : Below W.heap.size W X) (hbx : Bq X nb 82 (encF x).toArray) (hl : l.length ≤ 1000000) {L : Nat} (hL : l.length = L) :
    ∃ (a' : Option Addr) (c' : Nat) (X' : World), (Builtin.append_ #[79, 79] ty #[v, .slice (some ⟨nb, 0, none⟩) 1 1]).run Tryz.prog X = .ok (.slice a' (L + 1) c') X' ∧ Hid (FdS w X' (.slice a' (L + 1) c') (l ++ [x])) ∧ Hid (Kp (fun k => v.ownBlock = some k) X X') := by
  subst hL
  have h' := h.below hX
  obtain ⟨v', X', h1, h2, h3⟩ := append_found X ty w.heap.size v l x nb h'.ow hbx h'.bel.size hl
  have k := Kp.of_grown (N := fun k => v.ownBlock = some k) h3 (fun k hk => hk)
  obtain ⟨a', c', e⟩ := owns_form h2
  rw [List.length_append] at e
  have e' : v' = .slice a' (l.length + 1) c' := e
  subst e'
  exact ⟨a', c', X', h1, hide ⟨k.below h'.bel (fun i hi => (h'.ow.lt i hi).1), h2⟩, hide k⟩

end Go.Proofs.YtkndjbmlkfpfoaaGreatDoor
