/-
  What the document's own small functions of chapter 4 answer: digit, two, hidden, braces, value.
-/
import Derived.Test.YtkndjbmlkfpfoaaGreatDoorZHx

set_option linter.unusedSimpArgs false
set_option linter.unusedVariables false
namespace Go.Proofs.YtkndjbmlkfpfoaaGreatDoor
open Go.RowKit Go.Lib

set_option maxHeartbeats 400000 in
theorem refDigit_in (n : Nat) (h : n < 16) (w : World) :
    Calls Tryz.prog 100 #[.int .i64 (n : Int)] w fun e w' => e = .returned (.int .u8 ((hxD n).toNat : Int)) ∧ w = w' := by
  by_cases h1 : n < 10
  · have i1 : (n : Int) < 10 := by omega
    have he := hide (show ((hxD n).toNat : Int) = 48 + (n : Int) by rw [hxD_nat n h, if_pos h1]; omega)
    clear h1
    go_enter Tryz.func100, Tryz.ntmps100
    go_wp2
    go_ret
    refine ⟨?_, rfl⟩
    rw [unhide he]
    go_num
  · have i1 : ¬ (n : Int) < 10 := by omega
    have he := hide (show ((hxD n).toNat : Int) = 97 + (n : Int) - 10 by rw [hxD_nat n h, if_neg h1]; omega)
    clear h1
    go_enter Tryz.func100, Tryz.ntmps100
    go_wp2
    go_ret
    refine ⟨?_, rfl⟩
    rw [unhide he]
    go_num

theorem conv_two (b c : UInt8) (w : World) : (convert 38 9 (.slice (some ⟨w.heap.size, 0, none⟩) 2 2)).run Tryz.prog (w.alloc (.cells #[.int .u8 (b.toNat : Int), .int .u8 (c.toNat : Int)] 5)) = .ok (.string (ofL [b, c])) (w.alloc (.cells #[.int .u8 (b.toNat : Int), .int .u8 (c.toNat : Int)] 5)) := by
  have := conv_bytes (w.alloc (.cells #[.int .u8 (b.toNat : Int), .int .u8 (c.toNat : Int)] 5)) ⟨w.heap.size, 0, none⟩ 2 2 [(b.toNat : Int), (c.toNat : Int)] rfl (fun j hj => by
    have hb : (w.alloc (.cells #[.int .u8 (b.toNat : Int), .int .u8 (c.toNat : Int)] 5)).heap[w.heap.size]? = some (.cells #[.int .u8 (b.toNat : Int), .int .u8 (c.toNat : Int)] 5) := by show (w.heap.push _)[w.heap.size]? = _; simp
    rcases (by simp at hj; omega : j = 0 ∨ j = 1) with rfl | rfl
    · show World.cell? _ ⟨w.heap.size, 0, none⟩ = _
      unfold World.cell?
      simp only [hb]
      rfl
    · show World.cell? _ ⟨w.heap.size, 0 + 1, none⟩ = _
      unfold World.cell?
      simp only [hb]
      rfl)
  rw [this]
  simp

set_option maxRecDepth 100000 in
set_option maxHeartbeats 800000 in
theorem refTwo_in (b : Nat) (h : b < 256) (w : World) :
    Calls Tryz.prog 77 #[.int .u8 (b : Int)] w fun e w' => e = .returned (.string (ofL (bxL b))) ∧ Below w.heap.size w w' := by
  have d1 := fun W => hide (refDigit_in (b / 16) (by omega) W)
  have d2 := fun W => hide (refDigit_in (b % 16) (by omega) W)
  have q1 : (b : Int).tdiv 16 = ((b / 16 : Nat) : Int) := by rw [Int.tdiv_eq_ediv_of_nonneg (by omega)]; omega
  have q2 : (b : Int).tmod 16 = ((b % 16 : Nat) : Int) := by rw [Int.tmod_eq_emod_of_nonneg (by omega)]; omega
  have hcv := conv_two (hxD (b / 16)) (hxD (b % 16))
  have he := hide (show (⟨#[92, 120]⟩ : ByteArray) ++ ofL [hxD (b / 16), hxD (b % 16)] = ofL (bxL b) by apply toList_inj; simp [ofL, bxL])
  have hz : (ofL [hxD (b / 16), hxD (b % 16)]).size = 2 := rfl
  obtain ⟨x, hx⟩ : ∃ x, hxD (b / 16) = x := ⟨_, rfl⟩
  obtain ⟨y, hy⟩ : ∃ y, hxD (b % 16) = y := ⟨_, rfl⟩
  obtain ⟨p, hp⟩ : ∃ p, b / 16 = p := ⟨_, rfl⟩
  obtain ⟨q, hq⟩ : ∃ q, b % 16 = q := ⟨_, rfl⟩
  rw [hx] at d1 he hcv hz
  rw [hy] at d2 he hcv hz
  rw [hp] at d1 q1
  rw [hq] at d2 q2
  have w1 : wrap64 (p : Int) = (p : Int) := by unfold wrap64; omega
  clear hx hy hp hq
  go_enter Tryz.func77, Tryz.ntmps77
  go_wp2_with fail
  refine (unhide (d1 _)).mono ?_
  rintro e w' ⟨rfl, rfl⟩
  go_wp2_with fail
  refine (unhide (d2 _)).mono ?_
  rintro e w' ⟨rfl, rfl⟩
  go_wp2
  go_ret
  exact ⟨by rw [← unhide he]; rfl, (Below.refl _ _).alloc (Nat.le_refl _) _⟩

theorem hxL_step (u : Nat) (h0 : u ≠ 0) : hxL u = hxL (u / 16) ++ [hxD (u % 16)] := by
  unfold hxL
  obtain ⟨n, rfl⟩ : ∃ n, u = n + 1 := ⟨u - 1, by omega⟩
  rw [show hxF (n + 1) (n + 1) = hxF n ((n + 1) / 16) ++ [hxD ((n + 1) % 16)] by rw [hxF]; rw [if_neg h0]]
  rw [hxF_fuel n ((n + 1) / 16) ((n + 1) / 16) (by omega) (Nat.le_refl _)]
theorem ofL_append (a b : List UInt8) : ofL a ++ ofL b = ofL (a ++ b) := by apply toList_inj; simp [ofL]

set_option maxRecDepth 100000 in
set_option maxHeartbeats 1000000 in
theorem refBraces_in (N : Nat) (hN : N ≤ 1114111) (w : World) :
    Calls Tryz.prog 79 #[.int .i32 (N : Int)] w fun e w' => e = .returned (.string (ofL (uxL N))) ∧ Below w.heap.size w w' := by
  have h64 : wrap64 (N : Int) = (N : Int) := by unfold wrap64; omega
  go_enter Tryz.func79, Tryz.ntmps79
  go_wp2
  go_loopw [3, 4] (fun a b wr => ∃ (n : Nat) (ds : List UInt8), a = .string (ofL ds) ∧ b = .int .i64 (n : Int) ∧ n ≤ 1114111 ∧ Hid (hxL N = hxL n ++ ds) ∧ Below w.heap.size w wr) (fun _ b _ => (Lib.intOf b).toNat)
  case atStart => exact ⟨N, [], rfl, rfl, hN, hide (by simp), Below.refl _ _⟩
  case round =>
    obtain ⟨n, ds, rfl, rfl, hn, H, hB⟩ := hrel
    have hl6 : (hxL N).length ≤ 6 := by unfold hxL; rw [hxF_map, List.length_map]; exact dgF_len N N 6 (by omega)
    have hd6 : ds.length ≤ 6 := by rw [unhide H, List.length_append] at hl6; omega
    have hz : (ofL ds).size ≤ 6 := by rw [ofL_size]; exact hd6
    by_cases h0 : n = 0
    · subst h0
      have he := hide (show (⟨#[92, 117, 123]⟩ : ByteArray) ++ ofL ds ++ ⟨#[125]⟩ = ofL (uxL N) by
        have h1 : hxL N = ds := by rw [unhide H]; rfl
        apply toList_inj
        simp [ofL, uxL, h1])
      go_wp2
      go_ret
      exact ⟨by rw [← unhide he]; rfl, hB⟩
    · have i1 : (0 : Int) < (n : Int) := by omega
      have q1 : (n : Int).tdiv 16 = ((n / 16 : Nat) : Int) := by rw [Int.tdiv_eq_ediv_of_nonneg (by omega)]; omega
      have q2 : (n : Int).tmod 16 = ((n % 16 : Nat) : Int) := by rw [Int.tmod_eq_emod_of_nonneg (by omega)]; omega
      have w1 : wrap64 ((n / 16 : Nat) : Int) = ((n / 16 : Nat) : Int) := by unfold wrap64; omega
      have d1 := fun W => hide (refDigit_in (n % 16) (by omega) W)
      have hcv := conv_one (hxD (n % 16))
      have he := hide (show hxL N = hxL (n / 16) ++ (hxD (n % 16) :: ds) by rw [unhide H, hxL_step n h0]; simp)
      have hap : ofL [hxD (n % 16)] ++ ofL ds = ofL (hxD (n % 16) :: ds) := ofL_append _ _
      have hz1 : (ofL [hxD (n % 16)]).size = 1 := rfl
      obtain ⟨x, hx⟩ : ∃ x, hxD (n % 16) = x := ⟨_, rfl⟩
      obtain ⟨p, hp⟩ : ∃ p, n / 16 = p := ⟨_, rfl⟩
      obtain ⟨q, hq⟩ : ∃ q, n % 16 = q := ⟨_, rfl⟩
      have hlt : p < n := by omega
      rw [hx] at d1 hcv he hap hz1
      rw [hp] at q1 w1 he
      rw [hq] at q2 d1
      clear hx hp hq h0
      go_wp2_with (go_at_call 100; refine (unhide (d1 _)).mono ?_; rintro e w' ⟨rfl, rfl⟩)
      go_roundw
      case rel => exact ⟨p, x :: ds, rfl, rfl, by omega, he, hB.alloc hB.size _⟩
      case measure => simp [Lib.intOf]; omega

set_option maxRecDepth 100000 in
set_option maxHeartbeats 4000000 in
theorem refHidden_in (r : Nat) (hr : r ≤ 1114111) (w : World) :
    Calls Tryz.prog 78 #[.int .i32 (r : Int)] w fun e w' => e = .returned (.bool (hidN r)) ∧ w = w' := by
  rcases (by omega : (0 ≤ r ∧ r ≤ 127) ∨ (128 ≤ r ∧ r ≤ 159) ∨ (160 ≤ r ∧ r ≤ 172) ∨ (173 ≤ r ∧ r ≤ 173) ∨ (174 ≤ r ∧ r ≤ 8202) ∨ (8203 ≤ r ∧ r ≤ 8207) ∨ (8208 ≤ r ∧ r ≤ 8231) ∨ (8232 ≤ r ∧ r ≤ 8239) ∨ (8240 ≤ r ∧ r ≤ 8287) ∨ (8288 ≤ r ∧ r ≤ 8303) ∨ (8304 ≤ r ∧ r ≤ 57343) ∨ (57344 ≤ r ∧ r ≤ 63743) ∨ (63744 ≤ r ∧ r ≤ 65023) ∨ (65024 ≤ r ∧ r ≤ 65039) ∨ (65040 ≤ r ∧ r ≤ 65278) ∨ (65279 ≤ r ∧ r ≤ 65279) ∨ (65280 ≤ r ∧ r ≤ 917503) ∨ (917504 ≤ r ∧ r ≤ 1114111)) with h | h | h | h | h | h | h | h | h | h | h | h | h | h | h | h | h | h
  · have hh := hide (show hidN r = false by unfold hidN; rw [decide_eq_false_iff_not]; omega)
    have c0 : ¬ (128 : Int) ≤ (r : Int) := by omega
    have c1 : (r : Int) ≤ 159 := by omega
    have c2 : ((r : Int) == 173) = false := by rw [beq_eq_false_iff_ne]; omega
    have c3 : ¬ (8203 : Int) ≤ (r : Int) := by omega
    have c4 : (r : Int) ≤ 8207 := by omega
    have c5 : ¬ (8232 : Int) ≤ (r : Int) := by omega
    have c6 : (r : Int) ≤ 8239 := by omega
    have c7 : ¬ (8288 : Int) ≤ (r : Int) := by omega
    have c8 : (r : Int) ≤ 8303 := by omega
    have c9 : ¬ (57344 : Int) ≤ (r : Int) := by omega
    have c10 : (r : Int) ≤ 63743 := by omega
    have c11 : ¬ (65024 : Int) ≤ (r : Int) := by omega
    have c12 : (r : Int) ≤ 65039 := by omega
    have c13 : ((r : Int) == 65279) = false := by rw [beq_eq_false_iff_ne]; omega
    have c14 : ¬ (917504 : Int) ≤ (r : Int) := by omega
    clear h
    go_enter Tryz.func78, Tryz.ntmps78
    go_wp2
    go_ret
    exact ⟨by rw [unhide hh]; rfl, rfl⟩
  · have hh := hide (show hidN r = true by unfold hidN; rw [decide_eq_true_iff]; omega)
    have c0 : (128 : Int) ≤ (r : Int) := by omega
    have c1 : (r : Int) ≤ 159 := by omega
    have c2 : ((r : Int) == 173) = false := by rw [beq_eq_false_iff_ne]; omega
    have c3 : ¬ (8203 : Int) ≤ (r : Int) := by omega
    have c4 : (r : Int) ≤ 8207 := by omega
    have c5 : ¬ (8232 : Int) ≤ (r : Int) := by omega
    have c6 : (r : Int) ≤ 8239 := by omega
    have c7 : ¬ (8288 : Int) ≤ (r : Int) := by omega
    have c8 : (r : Int) ≤ 8303 := by omega
    have c9 : ¬ (57344 : Int) ≤ (r : Int) := by omega
    have c10 : (r : Int) ≤ 63743 := by omega
    have c11 : ¬ (65024 : Int) ≤ (r : Int) := by omega
    have c12 : (r : Int) ≤ 65039 := by omega
    have c13 : ((r : Int) == 65279) = false := by rw [beq_eq_false_iff_ne]; omega
    have c14 : ¬ (917504 : Int) ≤ (r : Int) := by omega
    clear h
    go_enter Tryz.func78, Tryz.ntmps78
    go_wp2
    go_ret
    exact ⟨by rw [unhide hh]; rfl, rfl⟩
  · have hh := hide (show hidN r = false by unfold hidN; rw [decide_eq_false_iff_not]; omega)
    have c0 : (128 : Int) ≤ (r : Int) := by omega
    have c1 : ¬ (r : Int) ≤ 159 := by omega
    have c2 : ((r : Int) == 173) = false := by rw [beq_eq_false_iff_ne]; omega
    have c3 : ¬ (8203 : Int) ≤ (r : Int) := by omega
    have c4 : (r : Int) ≤ 8207 := by omega
    have c5 : ¬ (8232 : Int) ≤ (r : Int) := by omega
    have c6 : (r : Int) ≤ 8239 := by omega
    have c7 : ¬ (8288 : Int) ≤ (r : Int) := by omega
    have c8 : (r : Int) ≤ 8303 := by omega
    have c9 : ¬ (57344 : Int) ≤ (r : Int) := by omega
    have c10 : (r : Int) ≤ 63743 := by omega
    have c11 : ¬ (65024 : Int) ≤ (r : Int) := by omega
    have c12 : (r : Int) ≤ 65039 := by omega
    have c13 : ((r : Int) == 65279) = false := by rw [beq_eq_false_iff_ne]; omega
    have c14 : ¬ (917504 : Int) ≤ (r : Int) := by omega
    clear h
    go_enter Tryz.func78, Tryz.ntmps78
    go_wp2
    go_ret
    exact ⟨by rw [unhide hh]; rfl, rfl⟩
  · have hh := hide (show hidN r = true by unfold hidN; rw [decide_eq_true_iff]; omega)
    have c0 : (128 : Int) ≤ (r : Int) := by omega
    have c1 : ¬ (r : Int) ≤ 159 := by omega
    have c2 : ((r : Int) == 173) = true := by rw [beq_iff_eq]; omega
    have c3 : ¬ (8203 : Int) ≤ (r : Int) := by omega
    have c4 : (r : Int) ≤ 8207 := by omega
    have c5 : ¬ (8232 : Int) ≤ (r : Int) := by omega
    have c6 : (r : Int) ≤ 8239 := by omega
    have c7 : ¬ (8288 : Int) ≤ (r : Int) := by omega
    have c8 : (r : Int) ≤ 8303 := by omega
    have c9 : ¬ (57344 : Int) ≤ (r : Int) := by omega
    have c10 : (r : Int) ≤ 63743 := by omega
    have c11 : ¬ (65024 : Int) ≤ (r : Int) := by omega
    have c12 : (r : Int) ≤ 65039 := by omega
    have c13 : ((r : Int) == 65279) = false := by rw [beq_eq_false_iff_ne]; omega
    have c14 : ¬ (917504 : Int) ≤ (r : Int) := by omega
    clear h
    go_enter Tryz.func78, Tryz.ntmps78
    go_wp2
    go_ret
    exact ⟨by rw [unhide hh]; rfl, rfl⟩
  · have hh := hide (show hidN r = false by unfold hidN; rw [decide_eq_false_iff_not]; omega)
    have c0 : (128 : Int) ≤ (r : Int) := by omega
    have c1 : ¬ (r : Int) ≤ 159 := by omega
    have c2 : ((r : Int) == 173) = false := by rw [beq_eq_false_iff_ne]; omega
    have c3 : ¬ (8203 : Int) ≤ (r : Int) := by omega
    have c4 : (r : Int) ≤ 8207 := by omega
    have c5 : ¬ (8232 : Int) ≤ (r : Int) := by omega
    have c6 : (r : Int) ≤ 8239 := by omega
    have c7 : ¬ (8288 : Int) ≤ (r : Int) := by omega
    have c8 : (r : Int) ≤ 8303 := by omega
    have c9 : ¬ (57344 : Int) ≤ (r : Int) := by omega
    have c10 : (r : Int) ≤ 63743 := by omega
    have c11 : ¬ (65024 : Int) ≤ (r : Int) := by omega
    have c12 : (r : Int) ≤ 65039 := by omega
    have c13 : ((r : Int) == 65279) = false := by rw [beq_eq_false_iff_ne]; omega
    have c14 : ¬ (917504 : Int) ≤ (r : Int) := by omega
    clear h
    go_enter Tryz.func78, Tryz.ntmps78
    go_wp2
    go_ret
    exact ⟨by rw [unhide hh]; rfl, rfl⟩
  · have hh := hide (show hidN r = true by unfold hidN; rw [decide_eq_true_iff]; omega)
    have c0 : (128 : Int) ≤ (r : Int) := by omega
    have c1 : ¬ (r : Int) ≤ 159 := by omega
    have c2 : ((r : Int) == 173) = false := by rw [beq_eq_false_iff_ne]; omega
    have c3 : (8203 : Int) ≤ (r : Int) := by omega
    have c4 : (r : Int) ≤ 8207 := by omega
    have c5 : ¬ (8232 : Int) ≤ (r : Int) := by omega
    have c6 : (r : Int) ≤ 8239 := by omega
    have c7 : ¬ (8288 : Int) ≤ (r : Int) := by omega
    have c8 : (r : Int) ≤ 8303 := by omega
    have c9 : ¬ (57344 : Int) ≤ (r : Int) := by omega
    have c10 : (r : Int) ≤ 63743 := by omega
    have c11 : ¬ (65024 : Int) ≤ (r : Int) := by omega
    have c12 : (r : Int) ≤ 65039 := by omega
    have c13 : ((r : Int) == 65279) = false := by rw [beq_eq_false_iff_ne]; omega
    have c14 : ¬ (917504 : Int) ≤ (r : Int) := by omega
    clear h
    go_enter Tryz.func78, Tryz.ntmps78
    go_wp2
    go_ret
    exact ⟨by rw [unhide hh]; rfl, rfl⟩
  · have hh := hide (show hidN r = false by unfold hidN; rw [decide_eq_false_iff_not]; omega)
    have c0 : (128 : Int) ≤ (r : Int) := by omega
    have c1 : ¬ (r : Int) ≤ 159 := by omega
    have c2 : ((r : Int) == 173) = false := by rw [beq_eq_false_iff_ne]; omega
    have c3 : (8203 : Int) ≤ (r : Int) := by omega
    have c4 : ¬ (r : Int) ≤ 8207 := by omega
    have c5 : ¬ (8232 : Int) ≤ (r : Int) := by omega
    have c6 : (r : Int) ≤ 8239 := by omega
    have c7 : ¬ (8288 : Int) ≤ (r : Int) := by omega
    have c8 : (r : Int) ≤ 8303 := by omega
    have c9 : ¬ (57344 : Int) ≤ (r : Int) := by omega
    have c10 : (r : Int) ≤ 63743 := by omega
    have c11 : ¬ (65024 : Int) ≤ (r : Int) := by omega
    have c12 : (r : Int) ≤ 65039 := by omega
    have c13 : ((r : Int) == 65279) = false := by rw [beq_eq_false_iff_ne]; omega
    have c14 : ¬ (917504 : Int) ≤ (r : Int) := by omega
    clear h
    go_enter Tryz.func78, Tryz.ntmps78
    go_wp2
    go_ret
    exact ⟨by rw [unhide hh]; rfl, rfl⟩
  · have hh := hide (show hidN r = true by unfold hidN; rw [decide_eq_true_iff]; omega)
    have c0 : (128 : Int) ≤ (r : Int) := by omega
    have c1 : ¬ (r : Int) ≤ 159 := by omega
    have c2 : ((r : Int) == 173) = false := by rw [beq_eq_false_iff_ne]; omega
    have c3 : (8203 : Int) ≤ (r : Int) := by omega
    have c4 : ¬ (r : Int) ≤ 8207 := by omega
    have c5 : (8232 : Int) ≤ (r : Int) := by omega
    have c6 : (r : Int) ≤ 8239 := by omega
    have c7 : ¬ (8288 : Int) ≤ (r : Int) := by omega
    have c8 : (r : Int) ≤ 8303 := by omega
    have c9 : ¬ (57344 : Int) ≤ (r : Int) := by omega
    have c10 : (r : Int) ≤ 63743 := by omega
    have c11 : ¬ (65024 : Int) ≤ (r : Int) := by omega
    have c12 : (r : Int) ≤ 65039 := by omega
    have c13 : ((r : Int) == 65279) = false := by rw [beq_eq_false_iff_ne]; omega
    have c14 : ¬ (917504 : Int) ≤ (r : Int) := by omega
    clear h
    go_enter Tryz.func78, Tryz.ntmps78
    go_wp2
    go_ret
    exact ⟨by rw [unhide hh]; rfl, rfl⟩
  · have hh := hide (show hidN r = false by unfold hidN; rw [decide_eq_false_iff_not]; omega)
    have c0 : (128 : Int) ≤ (r : Int) := by omega
    have c1 : ¬ (r : Int) ≤ 159 := by omega
    have c2 : ((r : Int) == 173) = false := by rw [beq_eq_false_iff_ne]; omega
    have c3 : (8203 : Int) ≤ (r : Int) := by omega
    have c4 : ¬ (r : Int) ≤ 8207 := by omega
    have c5 : (8232 : Int) ≤ (r : Int) := by omega
    have c6 : ¬ (r : Int) ≤ 8239 := by omega
    have c7 : ¬ (8288 : Int) ≤ (r : Int) := by omega
    have c8 : (r : Int) ≤ 8303 := by omega
    have c9 : ¬ (57344 : Int) ≤ (r : Int) := by omega
    have c10 : (r : Int) ≤ 63743 := by omega
    have c11 : ¬ (65024 : Int) ≤ (r : Int) := by omega
    have c12 : (r : Int) ≤ 65039 := by omega
    have c13 : ((r : Int) == 65279) = false := by rw [beq_eq_false_iff_ne]; omega
    have c14 : ¬ (917504 : Int) ≤ (r : Int) := by omega
    clear h
    go_enter Tryz.func78, Tryz.ntmps78
    go_wp2
    go_ret
    exact ⟨by rw [unhide hh]; rfl, rfl⟩
  · have hh := hide (show hidN r = true by unfold hidN; rw [decide_eq_true_iff]; omega)
    have c0 : (128 : Int) ≤ (r : Int) := by omega
    have c1 : ¬ (r : Int) ≤ 159 := by omega
    have c2 : ((r : Int) == 173) = false := by rw [beq_eq_false_iff_ne]; omega
    have c3 : (8203 : Int) ≤ (r : Int) := by omega
    have c4 : ¬ (r : Int) ≤ 8207 := by omega
    have c5 : (8232 : Int) ≤ (r : Int) := by omega
    have c6 : ¬ (r : Int) ≤ 8239 := by omega
    have c7 : (8288 : Int) ≤ (r : Int) := by omega
    have c8 : (r : Int) ≤ 8303 := by omega
    have c9 : ¬ (57344 : Int) ≤ (r : Int) := by omega
    have c10 : (r : Int) ≤ 63743 := by omega
    have c11 : ¬ (65024 : Int) ≤ (r : Int) := by omega
    have c12 : (r : Int) ≤ 65039 := by omega
    have c13 : ((r : Int) == 65279) = false := by rw [beq_eq_false_iff_ne]; omega
    have c14 : ¬ (917504 : Int) ≤ (r : Int) := by omega
    clear h
    go_enter Tryz.func78, Tryz.ntmps78
    go_wp2
    go_ret
    exact ⟨by rw [unhide hh]; rfl, rfl⟩
  · have hh := hide (show hidN r = false by unfold hidN; rw [decide_eq_false_iff_not]; omega)
    have c0 : (128 : Int) ≤ (r : Int) := by omega
    have c1 : ¬ (r : Int) ≤ 159 := by omega
    have c2 : ((r : Int) == 173) = false := by rw [beq_eq_false_iff_ne]; omega
    have c3 : (8203 : Int) ≤ (r : Int) := by omega
    have c4 : ¬ (r : Int) ≤ 8207 := by omega
    have c5 : (8232 : Int) ≤ (r : Int) := by omega
    have c6 : ¬ (r : Int) ≤ 8239 := by omega
    have c7 : (8288 : Int) ≤ (r : Int) := by omega
    have c8 : ¬ (r : Int) ≤ 8303 := by omega
    have c9 : ¬ (57344 : Int) ≤ (r : Int) := by omega
    have c10 : (r : Int) ≤ 63743 := by omega
    have c11 : ¬ (65024 : Int) ≤ (r : Int) := by omega
    have c12 : (r : Int) ≤ 65039 := by omega
    have c13 : ((r : Int) == 65279) = false := by rw [beq_eq_false_iff_ne]; omega
    have c14 : ¬ (917504 : Int) ≤ (r : Int) := by omega
    clear h
    go_enter Tryz.func78, Tryz.ntmps78
    go_wp2
    go_ret
    exact ⟨by rw [unhide hh]; rfl, rfl⟩
  · have hh := hide (show hidN r = true by unfold hidN; rw [decide_eq_true_iff]; omega)
    have c0 : (128 : Int) ≤ (r : Int) := by omega
    have c1 : ¬ (r : Int) ≤ 159 := by omega
    have c2 : ((r : Int) == 173) = false := by rw [beq_eq_false_iff_ne]; omega
    have c3 : (8203 : Int) ≤ (r : Int) := by omega
    have c4 : ¬ (r : Int) ≤ 8207 := by omega
    have c5 : (8232 : Int) ≤ (r : Int) := by omega
    have c6 : ¬ (r : Int) ≤ 8239 := by omega
    have c7 : (8288 : Int) ≤ (r : Int) := by omega
    have c8 : ¬ (r : Int) ≤ 8303 := by omega
    have c9 : (57344 : Int) ≤ (r : Int) := by omega
    have c10 : (r : Int) ≤ 63743 := by omega
    have c11 : ¬ (65024 : Int) ≤ (r : Int) := by omega
    have c12 : (r : Int) ≤ 65039 := by omega
    have c13 : ((r : Int) == 65279) = false := by rw [beq_eq_false_iff_ne]; omega
    have c14 : ¬ (917504 : Int) ≤ (r : Int) := by omega
    clear h
    go_enter Tryz.func78, Tryz.ntmps78
    go_wp2
    go_ret
    exact ⟨by rw [unhide hh]; rfl, rfl⟩
  · have hh := hide (show hidN r = false by unfold hidN; rw [decide_eq_false_iff_not]; omega)
    have c0 : (128 : Int) ≤ (r : Int) := by omega
    have c1 : ¬ (r : Int) ≤ 159 := by omega
    have c2 : ((r : Int) == 173) = false := by rw [beq_eq_false_iff_ne]; omega
    have c3 : (8203 : Int) ≤ (r : Int) := by omega
    have c4 : ¬ (r : Int) ≤ 8207 := by omega
    have c5 : (8232 : Int) ≤ (r : Int) := by omega
    have c6 : ¬ (r : Int) ≤ 8239 := by omega
    have c7 : (8288 : Int) ≤ (r : Int) := by omega
    have c8 : ¬ (r : Int) ≤ 8303 := by omega
    have c9 : (57344 : Int) ≤ (r : Int) := by omega
    have c10 : ¬ (r : Int) ≤ 63743 := by omega
    have c11 : ¬ (65024 : Int) ≤ (r : Int) := by omega
    have c12 : (r : Int) ≤ 65039 := by omega
    have c13 : ((r : Int) == 65279) = false := by rw [beq_eq_false_iff_ne]; omega
    have c14 : ¬ (917504 : Int) ≤ (r : Int) := by omega
    clear h
    go_enter Tryz.func78, Tryz.ntmps78
    go_wp2
    go_ret
    exact ⟨by rw [unhide hh]; rfl, rfl⟩
  · have hh := hide (show hidN r = true by unfold hidN; rw [decide_eq_true_iff]; omega)
    have c0 : (128 : Int) ≤ (r : Int) := by omega
    have c1 : ¬ (r : Int) ≤ 159 := by omega
    have c2 : ((r : Int) == 173) = false := by rw [beq_eq_false_iff_ne]; omega
    have c3 : (8203 : Int) ≤ (r : Int) := by omega
    have c4 : ¬ (r : Int) ≤ 8207 := by omega
    have c5 : (8232 : Int) ≤ (r : Int) := by omega
    have c6 : ¬ (r : Int) ≤ 8239 := by omega
    have c7 : (8288 : Int) ≤ (r : Int) := by omega
    have c8 : ¬ (r : Int) ≤ 8303 := by omega
    have c9 : (57344 : Int) ≤ (r : Int) := by omega
    have c10 : ¬ (r : Int) ≤ 63743 := by omega
    have c11 : (65024 : Int) ≤ (r : Int) := by omega
    have c12 : (r : Int) ≤ 65039 := by omega
    have c13 : ((r : Int) == 65279) = false := by rw [beq_eq_false_iff_ne]; omega
    have c14 : ¬ (917504 : Int) ≤ (r : Int) := by omega
    clear h
    go_enter Tryz.func78, Tryz.ntmps78
    go_wp2
    go_ret
    exact ⟨by rw [unhide hh]; rfl, rfl⟩
  · have hh := hide (show hidN r = false by unfold hidN; rw [decide_eq_false_iff_not]; omega)
    have c0 : (128 : Int) ≤ (r : Int) := by omega
    have c1 : ¬ (r : Int) ≤ 159 := by omega
    have c2 : ((r : Int) == 173) = false := by rw [beq_eq_false_iff_ne]; omega
    have c3 : (8203 : Int) ≤ (r : Int) := by omega
    have c4 : ¬ (r : Int) ≤ 8207 := by omega
    have c5 : (8232 : Int) ≤ (r : Int) := by omega
    have c6 : ¬ (r : Int) ≤ 8239 := by omega
    have c7 : (8288 : Int) ≤ (r : Int) := by omega
    have c8 : ¬ (r : Int) ≤ 8303 := by omega
    have c9 : (57344 : Int) ≤ (r : Int) := by omega
    have c10 : ¬ (r : Int) ≤ 63743 := by omega
    have c11 : (65024 : Int) ≤ (r : Int) := by omega
    have c12 : ¬ (r : Int) ≤ 65039 := by omega
    have c13 : ((r : Int) == 65279) = false := by rw [beq_eq_false_iff_ne]; omega
    have c14 : ¬ (917504 : Int) ≤ (r : Int) := by omega
    clear h
    go_enter Tryz.func78, Tryz.ntmps78
    go_wp2
    go_ret
    exact ⟨by rw [unhide hh]; rfl, rfl⟩
  · have hh := hide (show hidN r = true by unfold hidN; rw [decide_eq_true_iff]; omega)
    have c0 : (128 : Int) ≤ (r : Int) := by omega
    have c1 : ¬ (r : Int) ≤ 159 := by omega
    have c2 : ((r : Int) == 173) = false := by rw [beq_eq_false_iff_ne]; omega
    have c3 : (8203 : Int) ≤ (r : Int) := by omega
    have c4 : ¬ (r : Int) ≤ 8207 := by omega
    have c5 : (8232 : Int) ≤ (r : Int) := by omega
    have c6 : ¬ (r : Int) ≤ 8239 := by omega
    have c7 : (8288 : Int) ≤ (r : Int) := by omega
    have c8 : ¬ (r : Int) ≤ 8303 := by omega
    have c9 : (57344 : Int) ≤ (r : Int) := by omega
    have c10 : ¬ (r : Int) ≤ 63743 := by omega
    have c11 : (65024 : Int) ≤ (r : Int) := by omega
    have c12 : ¬ (r : Int) ≤ 65039 := by omega
    have c13 : ((r : Int) == 65279) = true := by rw [beq_iff_eq]; omega
    have c14 : ¬ (917504 : Int) ≤ (r : Int) := by omega
    clear h
    go_enter Tryz.func78, Tryz.ntmps78
    go_wp2
    go_ret
    exact ⟨by rw [unhide hh]; rfl, rfl⟩
  · have hh := hide (show hidN r = false by unfold hidN; rw [decide_eq_false_iff_not]; omega)
    have c0 : (128 : Int) ≤ (r : Int) := by omega
    have c1 : ¬ (r : Int) ≤ 159 := by omega
    have c2 : ((r : Int) == 173) = false := by rw [beq_eq_false_iff_ne]; omega
    have c3 : (8203 : Int) ≤ (r : Int) := by omega
    have c4 : ¬ (r : Int) ≤ 8207 := by omega
    have c5 : (8232 : Int) ≤ (r : Int) := by omega
    have c6 : ¬ (r : Int) ≤ 8239 := by omega
    have c7 : (8288 : Int) ≤ (r : Int) := by omega
    have c8 : ¬ (r : Int) ≤ 8303 := by omega
    have c9 : (57344 : Int) ≤ (r : Int) := by omega
    have c10 : ¬ (r : Int) ≤ 63743 := by omega
    have c11 : (65024 : Int) ≤ (r : Int) := by omega
    have c12 : ¬ (r : Int) ≤ 65039 := by omega
    have c13 : ((r : Int) == 65279) = false := by rw [beq_eq_false_iff_ne]; omega
    have c14 : ¬ (917504 : Int) ≤ (r : Int) := by omega
    clear h
    go_enter Tryz.func78, Tryz.ntmps78
    go_wp2
    go_ret
    exact ⟨by rw [unhide hh]; rfl, rfl⟩
  · have hh := hide (show hidN r = true by unfold hidN; rw [decide_eq_true_iff]; omega)
    have c0 : (128 : Int) ≤ (r : Int) := by omega
    have c1 : ¬ (r : Int) ≤ 159 := by omega
    have c2 : ((r : Int) == 173) = false := by rw [beq_eq_false_iff_ne]; omega
    have c3 : (8203 : Int) ≤ (r : Int) := by omega
    have c4 : ¬ (r : Int) ≤ 8207 := by omega
    have c5 : (8232 : Int) ≤ (r : Int) := by omega
    have c6 : ¬ (r : Int) ≤ 8239 := by omega
    have c7 : (8288 : Int) ≤ (r : Int) := by omega
    have c8 : ¬ (r : Int) ≤ 8303 := by omega
    have c9 : (57344 : Int) ≤ (r : Int) := by omega
    have c10 : ¬ (r : Int) ≤ 63743 := by omega
    have c11 : (65024 : Int) ≤ (r : Int) := by omega
    have c12 : ¬ (r : Int) ≤ 65039 := by omega
    have c13 : ((r : Int) == 65279) = false := by rw [beq_eq_false_iff_ne]; omega
    have c14 : (917504 : Int) ≤ (r : Int) := by omega
    clear h
    go_enter Tryz.func78, Tryz.ntmps78
    go_wp2
    go_ret
    exact ⟨by rw [unhide hh]; rfl, rfl⟩

end Go.Proofs.YtkndjbmlkfpfoaaGreatDoor
