/-
  What the document's own IsRune and Encode answer.
-/
import Derived.Test.YticjilkcobpcjaaDoorZHx
set_option linter.unusedSimpArgs false
set_option linter.unusedVariables false
namespace Go.Proofs.YticjilkcobpcjaaDoor
open Go.RowKit Go.Lib

set_option maxHeartbeats 400000 in
theorem isRune_any (r : Int) (w : World) :
    Calls Tryd.prog 58 #[.int .i32 r] w fun e w' => e = .returned (.bool (Utf8.valid r)) ∧ w = w' := by
  have hv := valid_iff r
  rcases (by omega : r < 0 ∨ (0 ≤ r ∧ 1114111 < r) ∨ (0 ≤ r ∧ r ≤ 1114111 ∧ r < 55296) ∨ (55296 ≤ r ∧ r ≤ 57343) ∨ (57344 ≤ r ∧ r ≤ 1114111)) with h | ⟨h, h'⟩ | ⟨h, h', h''⟩ | ⟨h, h'⟩ | ⟨h, h'⟩
  · have e : Utf8.valid r = false := by rw [← Bool.not_eq_true, hv]; omega
    have q1 : decide (0 ≤ r) = false := by simp; omega
    rw [e]; clear hv e
    go_enter Tryd.func58, Tryd.ntmps58
    go_wp2
    go_ret
    exact ⟨rfl, rfl⟩
  · have e : Utf8.valid r = false := by rw [← Bool.not_eq_true, hv]; omega
    have q1 : decide (0 ≤ r) = true := by simp; omega
    have q2 : decide (r ≤ 1114111) = false := by simp; omega
    rw [e]; clear hv e
    go_enter Tryd.func58, Tryd.ntmps58
    go_wp2
    go_ret
    exact ⟨rfl, rfl⟩
  · have e : Utf8.valid r = true := by rw [hv]; omega
    have q1 : decide (0 ≤ r) = true := by simp; omega
    have q2 : decide (r ≤ 1114111) = true := by simp; omega
    have q3 : decide (r < 55296) = true := by simp; omega
    rw [e]; clear hv e
    go_enter Tryd.func58, Tryd.ntmps58
    go_wp2
    go_ret
    exact ⟨rfl, rfl⟩
  · have e : Utf8.valid r = false := by rw [← Bool.not_eq_true, hv]; omega
    have q1 : decide (0 ≤ r) = true := by simp; omega
    have q2 : decide (r ≤ 1114111) = true := by simp; omega
    have q3 : decide (r < 55296) = false := by simp; omega
    have q4 : decide (57343 < r) = false := by simp; omega
    rw [e]; clear hv e
    go_enter Tryd.func58, Tryd.ntmps58
    go_wp2
    go_ret
    exact ⟨rfl, rfl⟩
  · have e : Utf8.valid r = true := by rw [hv]; omega
    have q1 : decide (0 ≤ r) = true := by simp; omega
    have q2 : decide (r ≤ 1114111) = true := by simp; omega
    have q3 : decide (r < 55296) = false := by simp; omega
    have q4 : decide (57343 < r) = true := by simp; omega
    rw [e]; clear hv e
    go_enter Tryd.func58, Tryd.ntmps58
    go_wp2
    go_ret
    exact ⟨rfl, rfl⟩

set_option maxRecDepth 100000 in
set_option maxHeartbeats 1000000 in
theorem refEncode_one (c : Nat) (E : ByteArray) (w : World) (hE : Hid (ofL (([(c : Int)] : List Int).map fun z => UInt8.ofNat z.toNat) = E)) (h1 : c < 128) :
    Calls Tryd.prog 59 #[.int .i32 c] w fun e w' => e = .returned (.string E) ∧ Below w.heap.size w w' := by
  have hcv : (convert 60 9 (.slice (some ⟨w.heap.size, 0, none⟩) 1 1)).run Tryd.prog (w.alloc (.cells #[.int .u8 (c : Int)] 5)) = .ok (.string E) (w.alloc (.cells #[.int .u8 (c : Int)] 5)) := by
    rw [← unhide hE]
    refine conv_bytes _ _ _ _ [(c : Int)] rfl (fun j hj => ?_)
    have : j = 0 := by simp at hj; omega
    subst this; simp [go_sem, Addr.add]
  have hval := hide (val_ok c (by omega))
  go_enter Tryd.func59, Tryd.ntmps59
  go_wp2_with fail
  refine (isRune_any _ _).mono ?_
  rintro e w' ⟨rfl, rfl⟩
  rw [unhide hval]
  clear hval
  go_wp2_with (simp only [hcv])
  go_ret
  exact ⟨rfl, (Below.refl _ w).alloc (Nat.le_refl _) _⟩

set_option maxRecDepth 100000 in
set_option maxHeartbeats 1000000 in
theorem refEncode_two (c : Nat) (E : ByteArray) (w : World) (hE : Hid (ofL (([(192 + (c : Int) / 64), (128 + (c : Int) % 64)] : List Int).map fun z => UInt8.ofNat z.toNat) = E)) (h1 : ¬ c < 128) (h2 : c < 2048) :
    Calls Tryd.prog 59 #[.int .i32 c] w fun e w' => e = .returned (.string E) ∧ Below w.heap.size w w' := by
  have hcv : (convert 60 9 (.slice (some ⟨w.heap.size, 0, none⟩) 2 2)).run Tryd.prog (w.alloc (.cells #[.int .u8 (192 + (c : Int) / 64), .int .u8 (128 + (c : Int) % 64)] 5)) = .ok (.string E) (w.alloc (.cells #[.int .u8 (192 + (c : Int) / 64), .int .u8 (128 + (c : Int) % 64)] 5)) := by
    rw [← unhide hE]
    refine conv_bytes _ _ _ _ [(192 + (c : Int) / 64), (128 + (c : Int) % 64)] rfl (fun j hj => ?_)
    have : j = 0 ∨ j = 1 := by simp at hj; omega
    rcases this with rfl | rfl <;> simp [go_sem, Addr.add]
  have hval := hide (val_ok c (by omega))
  go_enter Tryd.func59, Tryd.ntmps59
  go_wp2_with fail
  refine (isRune_any _ _).mono ?_
  rintro e w' ⟨rfl, rfl⟩
  rw [unhide hval]
  clear hval
  go_wp2_with (simp only [hcv])
  go_ret
  exact ⟨rfl, (Below.refl _ w).alloc (Nat.le_refl _) _⟩

set_option maxRecDepth 100000 in
set_option maxHeartbeats 1000000 in
theorem refEncode_three (c : Nat) (E : ByteArray) (w : World) (hE : Hid (ofL (([(224 + (c : Int) / 4096), (128 + (c : Int) / 64 % 64), (128 + (c : Int) % 64)] : List Int).map fun z => UInt8.ofNat z.toNat) = E)) (h2 : ¬ c < 2048) (h3 : c < 65536) (hv : c < 55296 ∨ 57344 ≤ c) :
    Calls Tryd.prog 59 #[.int .i32 c] w fun e w' => e = .returned (.string E) ∧ Below w.heap.size w w' := by
  have hcv : (convert 60 9 (.slice (some ⟨w.heap.size, 0, none⟩) 3 3)).run Tryd.prog (w.alloc (.cells #[.int .u8 (224 + (c : Int) / 4096), .int .u8 (128 + (c : Int) / 64 % 64), .int .u8 (128 + (c : Int) % 64)] 5)) = .ok (.string E) (w.alloc (.cells #[.int .u8 (224 + (c : Int) / 4096), .int .u8 (128 + (c : Int) / 64 % 64), .int .u8 (128 + (c : Int) % 64)] 5)) := by
    rw [← unhide hE]
    refine conv_bytes _ _ _ _ [(224 + (c : Int) / 4096), (128 + (c : Int) / 64 % 64), (128 + (c : Int) % 64)] rfl (fun j hj => ?_)
    have : j = 0 ∨ j = 1 ∨ j = 2 := by simp at hj; omega
    rcases this with rfl | rfl | rfl <;> simp [go_sem, Addr.add]
  have hval := hide (val_ok c (by omega))
  have q1 : decide ((c : Int) < 128) = false := decide_eq_false (by omega)
  have q2 : decide ((c : Int) < 2048) = false := decide_eq_false (by omega)
  have q3 : decide ((c : Int) < 65536) = true := decide_eq_true (by omega)
  clear hv
  go_enter Tryd.func59, Tryd.ntmps59
  go_wp2_with fail
  refine (isRune_any _ _).mono ?_
  rintro e w' ⟨rfl, rfl⟩
  rw [unhide hval]
  clear hval
  go_wp2_with (simp only [hcv])
  go_ret
  exact ⟨rfl, (Below.refl _ w).alloc (Nat.le_refl _) _⟩

set_option maxRecDepth 100000 in
set_option maxHeartbeats 1000000 in
theorem refEncode_four (c : Nat) (E : ByteArray) (w : World) (hE : Hid (ofL (([(240 + (c : Int) / 262144), (128 + (c : Int) / 4096 % 64), (128 + (c : Int) / 64 % 64), (128 + (c : Int) % 64)] : List Int).map fun z => UInt8.ofNat z.toNat) = E)) (h3 : ¬ c < 65536) (h4 : c ≤ 1114111) :
    Calls Tryd.prog 59 #[.int .i32 c] w fun e w' => e = .returned (.string E) ∧ Below w.heap.size w w' := by
  have hcv : (convert 60 9 (.slice (some ⟨w.heap.size, 0, none⟩) 4 4)).run Tryd.prog (w.alloc (.cells #[.int .u8 (240 + (c : Int) / 262144), .int .u8 (128 + (c : Int) / 4096 % 64), .int .u8 (128 + (c : Int) / 64 % 64), .int .u8 (128 + (c : Int) % 64)] 5)) = .ok (.string E) (w.alloc (.cells #[.int .u8 (240 + (c : Int) / 262144), .int .u8 (128 + (c : Int) / 4096 % 64), .int .u8 (128 + (c : Int) / 64 % 64), .int .u8 (128 + (c : Int) % 64)] 5)) := by
    rw [← unhide hE]
    refine conv_bytes _ _ _ _ [(240 + (c : Int) / 262144), (128 + (c : Int) / 4096 % 64), (128 + (c : Int) / 64 % 64), (128 + (c : Int) % 64)] rfl (fun j hj => ?_)
    have : j = 0 ∨ j = 1 ∨ j = 2 ∨ j = 3 := by simp at hj; omega
    rcases this with rfl | rfl | rfl | rfl <;> simp [go_sem, Addr.add]
  have hval := hide (val_ok c (by omega))
  have q1 : decide ((c : Int) < 128) = false := decide_eq_false (by omega)
  have q2 : decide ((c : Int) < 2048) = false := decide_eq_false (by omega)
  have q3 : decide ((c : Int) < 65536) = false := decide_eq_false (by omega)
  go_enter Tryd.func59, Tryd.ntmps59
  go_wp2_with fail
  refine (isRune_any _ _).mono ?_
  rintro e w' ⟨rfl, rfl⟩
  rw [unhide hval]
  clear hval
  go_wp2_with (simp only [hcv])
  go_ret
  exact ⟨rfl, (Below.refl _ w).alloc (Nat.le_refl _) _⟩

theorem utf_of {c : Nat} {l : List UInt8} {E : ByteArray} (h : E = ⟨l.toArray⟩) {zs : List Int} (hz : (zs.map fun z => UInt8.ofNat z.toNat) = l) : ofL (zs.map fun z => UInt8.ofNat z.toNat) = E := by
  rw [hz, h]; rfl

theorem refEncode_valid (c : Nat) (w : World) (hv : c < 55296 ∨ (57344 ≤ c ∧ c ≤ 1114111)) :
    Calls Tryd.prog 59 #[.int .i32 c] w fun e w' => e = .returned (.string (Utf8.encode (c : Nat))) ∧ Below w.heap.size w w' := by
  have hval := val_ok c hv
  by_cases h1 : c < 128
  · refine refEncode_one c _ w (hide (utf_of (c := c) (utf1 c h1 hval) ?_)) h1
    simp only [List.map_cons, List.map_nil, Int.toNat_natCast]
  · by_cases h2 : c < 2048
    · refine refEncode_two c _ w (hide (utf_of (c := c) (utf2 c h1 h2 hval) ?_)) h1 h2
      simp only [List.map_cons, List.map_nil]
      rw [show (192 + (c : Int) / 64).toNat = 192 + c / 64 from by omega, show (128 + (c : Int) % 64).toNat = 128 + c % 64 from by omega]
    · by_cases h3 : c < 65536
      · refine refEncode_three c _ w (hide (utf_of (c := c) (utf3 c h1 h2 h3 hval) ?_)) h2 h3 (by omega)
        simp only [List.map_cons, List.map_nil]
        rw [show (224 + (c : Int) / 4096).toNat = 224 + c / 4096 from by omega, show (128 + (c : Int) / 64 % 64).toNat = 128 + c / 64 % 64 from by omega, show (128 + (c : Int) % 64).toNat = 128 + c % 64 from by omega]
      · refine refEncode_four c _ w (hide (utf_of (c := c) (utf4 c h1 h2 h3 hval) ?_)) h3 (by omega)
        simp only [List.map_cons, List.map_nil]
        rw [show (240 + (c : Int) / 262144).toNat = 240 + c / 262144 from by omega, show (128 + (c : Int) / 4096 % 64).toNat = 128 + c / 4096 % 64 from by omega, show (128 + (c : Int) / 64 % 64).toNat = 128 + c / 64 % 64 from by omega, show (128 + (c : Int) % 64).toNat = 128 + c % 64 from by omega]

set_option maxRecDepth 100000 in
set_option maxHeartbeats 1000000 in
theorem refEncode_bad (r : Int) (E : ByteArray) (w : World) (hE : Hid (ofL (([239, 191, 189] : List Int).map fun z => UInt8.ofNat z.toNat) = E)) (hv : Hid (Utf8.valid r = false)) :
    Calls Tryd.prog 59 #[.int .i32 r] w fun e w' => e = .returned (.string E) ∧ Below w.heap.size w w' := by
  have hcv : (convert 60 9 (.slice (some ⟨w.heap.size, 0, none⟩) 3 3)).run Tryd.prog (w.alloc (.cells #[.int .u8 239, .int .u8 191, .int .u8 189] 5)) = .ok (.string E) (w.alloc (.cells #[.int .u8 239, .int .u8 191, .int .u8 189] 5)) := by
    rw [← unhide hE]
    refine conv_bytes _ _ _ _ [239, 191, 189] rfl (fun j hj => ?_)
    have : j = 0 ∨ j = 1 ∨ j = 2 := by simp at hj; omega
    rcases this with rfl | rfl | rfl <;> simp [go_sem, Addr.add]
  go_enter Tryd.func59, Tryd.ntmps59
  go_wp2_with fail
  refine (isRune_any _ _).mono ?_
  rintro e w' ⟨rfl, rfl⟩
  rw [unhide hv]
  go_wp2_with (simp only [hcv])
  go_ret
  exact ⟨rfl, (Below.refl _ w).alloc (Nat.le_refl _) _⟩

theorem refEncode_any (r : Int) (w : World) :
    Calls Tryd.prog 59 #[.int .i32 r] w fun e w' => e = .returned (.string (Utf8.encode r)) ∧ Below w.heap.size w w' := by
  cases hv : Utf8.valid r with
  | true =>
    have h := (valid_iff r).1 hv
    obtain ⟨c, rfl⟩ := Int.eq_ofNat_of_zero_le (show 0 ≤ r by omega)
    exact refEncode_valid c w (by omega)
  | false =>
    refine refEncode_bad r _ w (hide ?_) (hide hv)
    rw [enc_fix r]
    have hf : fixN r = 65533 := by unfold fixN; rw [hv]; rfl
    rw [hf]
    refine utf_of (c := 0) (utf3 65533 (by omega) (by omega) (by omega) (val_ok 65533 (by omega))) ?_
    rfl

end Go.Proofs.YticjilkcobpcjaaDoor
