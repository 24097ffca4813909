/-
  Digits: QuoteWords' own.
-/
import Derived.Test.YticjilkcobpcjaaDoorZGp
set_option linter.unusedSimpArgs false
set_option linter.unusedVariables false
namespace Go.Proofs.YticjilkcobpcjaaDoor
open Go.RowKit Go.Lib

theorem ofL_app (a b : List UInt8) : ofL a ++ ofL b = ofL (a ++ b) := by
  apply ByteArray.ext
  apply Array.toList_inj.1
  simp [ofL, ByteArray.data_append]
theorem conv_dg (W : World) (d : Nat) (h : d < 10) : (convert 60 9 (.slice (some ⟨W.heap.size, 0, none⟩) 1 1)).run Tryd.prog (W.alloc (.cells #[.int .u8 (48 + (d : Int))] 5)) = .ok (.string (ofL [UInt8.ofNat (48 + d)])) (W.alloc (.cells #[.int .u8 (48 + (d : Int))] 5)) := by
  have := conv_bytes (W.alloc (.cells #[.int .u8 (48 + (d : Int))] 5)) ⟨W.heap.size, 0, none⟩ 1 1 [48 + (d : Int)] rfl (fun j hj => by
    have hj0 : j = 0 := by simp at hj; exact hj
    subst hj0
    simp [go_sem])
  rw [this]
  simp only [List.map_cons, List.map_nil]
  rw [show (48 + (d : Int)).toNat = 48 + d by omega]
theorem dd_step {u : Nat} (h : u ≠ 0) (l : List UInt8) : (if u / 10 = 0 then UInt8.ofNat (48 + u % 10) :: l else decDigits (u / 10) ++ UInt8.ofNat (48 + u % 10) :: l) = decDigits u ++ l := by
  by_cases q : u < 10
  · rw [if_pos (by omega), dd_small q, show u % 10 = u by omega]; rfl
  · rw [if_neg (by omega), dd_big q, List.append_assoc]; rfl
set_option maxRecDepth 100000 in
set_option maxHeartbeats 4000000 in
theorem digits_in (v : Int) (h1 : -9223372036854775808 ≤ v) (h2 : v ≤ 9223372036854775807) (w : World) :
    Calls Tryd.prog 14 #[.int .i64 v] w fun e w' => e = .returned (.string (ofL (itoa v))) ∧ Below w.heap.size w w' := by
  by_cases h0 : v = 0
  · subst h0
    go_enter Tryd.func14, Tryd.ntmps14
    go_wp2
    go_ret
    exact ⟨str_l (show ([48] : List UInt8) = itoa 0 by unfold itoa; rw [if_neg (by decide)]; rw [show (0 : Int).toNat = 0 from rfl, dd_small (by decide)]; rfl), Below.refl _ _⟩
  · have k0 : (v == 0) = false := by rw [beq_eq_false_iff_ne]; exact h0
    obtain ⟨A, hA⟩ : ∃ A, ofL (itoa v) = A := ⟨_, rfl⟩
    rw [hA]
    have HA := hide hA
    have H0 := hide h0
    clear hA h0
    by_cases hn : v < 0
    · go_enter Tryd.func14, Tryd.ntmps14
      go_wp2
      go_loopw [0, 3] (fun nv sv wr => ∃ (u : Nat) (l : List UInt8), nv = .int .i64 (-(u : Int)) ∧ sv = .string (ofL l) ∧ u ≤ 9223372036854775808 ∧ Hid ((if u = 0 then l else decDigits u ++ l) = decDigits v.natAbs) ∧ Below w.heap.size w wr) (fun nv _ _ => (RowKit.intOf nv).natAbs)
      case atStart => exact ⟨v.natAbs, [], by rw [show -((v.natAbs : Nat) : Int) = v by omega], rfl, by omega, hide (by rw [if_neg (by have := unhide H0; omega), List.append_nil]), Below.refl _ _⟩
      case round =>
        obtain ⟨u, l, rfl, rfl, hu, H, hB⟩ := hrel
        have hlen : (ofL l).size ≤ 19 := by
          rw [ofL_size]
          have := congrArg List.length (unhide H)
          have h19 := dd_len (u := v.natAbs) (by omega)
          by_cases q : u = 0
          · rw [if_pos q] at this; omega
          · rw [if_neg q, List.length_append] at this; omega
        have HB := hide hB
        clear hB
        by_cases hz : u = 0
        · have HE := hide (show A = ofL (45 :: l) by rw [← unhide HA]; unfold itoa; rw [if_pos hn, ← unhide H, if_pos hz])
          subst hz
          clear H HA
          go_wp2
          go_ret
          exact ⟨by rw [unhide HE]; exact congrArg (fun z => Ending.returned (Value.string z)) (ofL_app [45] l), unhide HB⟩
        · have k1 : ((-(u : Int)) == 0) = false := by rw [beq_eq_false_iff_ne]; omega
          have tm : Int.tmod (-(u : Int)) 10 = -((u % 10 : Nat) : Int) := by rw [Int.neg_tmod, Int.tmod_eq_emod_of_nonneg (by omega)]; omega
          have td : Int.tdiv (-(u : Int)) 10 = -((u / 10 : Nat) : Int) := by rw [Int.neg_tdiv, Int.tdiv_eq_ediv_of_nonneg (by omega)]; omega
          have HS := hide ((dd_step hz l).trans ((if_neg hz).symm.trans (unhide H)))
          obtain ⟨d, hd⟩ : ∃ d, u % 10 = d := ⟨_, rfl⟩
          obtain ⟨u', hu'⟩ : ∃ u', u / 10 = u' := ⟨_, rfl⟩
          rw [hd] at tm HS
          rw [hu'] at td HS
          have d9 : d < 10 := by omega
          have hlt : u' < u := by omega
          obtain ⟨X, hX⟩ : ∃ X, ofL [UInt8.ofNat (48 + d)] = X := ⟨_, rfl⟩
          have hX1 : X.size = 1 := by rw [← hX, ofL_size]; rfl
          have HX := hide hX
          clear H HA
          by_cases hd0 : d = 0
          · have hcv : (convert 60 9 (.slice (some ⟨wr.heap.size, 0, none⟩) 1 1)).run Tryd.prog (wr.alloc (.cells #[.int .u8 48] 5)) = .ok (.string X) (wr.alloc (.cells #[.int .u8 48] 5)) := by
              rw [← hX, hd0]
              exact conv_dg wr 0 (by decide)
            have tm' : Int.tmod (-(u : Int)) 10 = 0 := by rw [tm, hd0]; rfl
            clear tm hX hd hu' hd0 hz
            go_wp2
            go_roundw
            case rel => exact ⟨u', UInt8.ofNat (48 + d) :: l, rfl, by rw [← unhide HX, ofL_app]; rfl, by omega, hide (unhide HS), (unhide HB).alloc (unhide HB).size _⟩
            case measure => simp [RowKit.intOf]; omega
          · have k2 : -(d : Int) < 0 := by omega
            have hcv := conv_dg wr d d9
            rw [hX] at hcv
            clear hX hd hu' hz
            go_wp2
            go_roundw
            case rel => exact ⟨u', UInt8.ofNat (48 + d) :: l, rfl, by rw [← unhide HX, ofL_app]; rfl, by omega, hide (unhide HS), (unhide HB).alloc (unhide HB).size _⟩
            case measure => simp [RowKit.intOf]; omega
    · go_enter Tryd.func14, Tryd.ntmps14
      go_wp2
      go_loopw [0, 3] (fun nv sv wr => ∃ (u : Nat) (l : List UInt8), nv = .int .i64 ((u : Int)) ∧ sv = .string (ofL l) ∧ u ≤ 9223372036854775808 ∧ Hid ((if u = 0 then l else decDigits u ++ l) = decDigits v.natAbs) ∧ Below w.heap.size w wr) (fun nv _ _ => (RowKit.intOf nv).natAbs)
      case atStart => exact ⟨v.natAbs, [], by rw [show ((v.natAbs : Nat) : Int) = v by omega], rfl, by omega, hide (by rw [if_neg (by have := unhide H0; omega), List.append_nil]), Below.refl _ _⟩
      case round =>
        obtain ⟨u, l, rfl, rfl, hu, H, hB⟩ := hrel
        have hlen : (ofL l).size ≤ 19 := by
          rw [ofL_size]
          have := congrArg List.length (unhide H)
          have h19 := dd_len (u := v.natAbs) (by omega)
          by_cases q : u = 0
          · rw [if_pos q] at this; omega
          · rw [if_neg q, List.length_append] at this; omega
        have HB := hide hB
        clear hB
        by_cases hz : u = 0
        · have HE := hide (show A = ofL l by rw [← unhide HA]; unfold itoa; rw [if_neg (by omega), show v.toNat = v.natAbs by omega, ← unhide H, if_pos hz])
          subst hz
          clear H HA
          go_wp2
          go_ret
          exact ⟨by rw [unhide HE]; rfl, unhide HB⟩
        · have k1 : (((u : Int)) == 0) = false := by rw [beq_eq_false_iff_ne]; omega
          have tm : Int.tmod (u : Int) 10 = ((u % 10 : Nat) : Int) := by rw [Int.tmod_eq_emod_of_nonneg (by omega)]; omega
          have td : Int.tdiv (u : Int) 10 = ((u / 10 : Nat) : Int) := by rw [Int.tdiv_eq_ediv_of_nonneg (by omega)]; omega
          have HS := hide ((dd_step hz l).trans ((if_neg hz).symm.trans (unhide H)))
          obtain ⟨d, hd⟩ : ∃ d, u % 10 = d := ⟨_, rfl⟩
          obtain ⟨u', hu'⟩ : ∃ u', u / 10 = u' := ⟨_, rfl⟩
          rw [hd] at tm HS
          rw [hu'] at td HS
          have d9 : d < 10 := by omega
          have hlt : u' < u := by omega
          obtain ⟨X, hX⟩ : ∃ X, ofL [UInt8.ofNat (48 + d)] = X := ⟨_, rfl⟩
          have hX1 : X.size = 1 := by rw [← hX, ofL_size]; rfl
          have HX := hide hX
          clear H HA
          have k2 : ¬ (d : Int) < 0 := by omega
          have hcv := conv_dg wr d d9
          rw [hX] at hcv
          clear hX hd hu' hz
          go_wp2
          go_roundw
          case rel => exact ⟨u', UInt8.ofNat (48 + d) :: l, rfl, by rw [← unhide HX, ofL_app]; rfl, by omega, hide (unhide HS), (unhide HB).alloc (unhide HB).size _⟩
          case measure => simp [RowKit.intOf]; omega

end Go.Proofs.YticjilkcobpcjaaDoor
