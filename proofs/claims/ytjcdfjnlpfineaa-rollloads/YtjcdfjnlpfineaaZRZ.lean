/-
  The document's own rising.
-/
import Derived.Test.YtjcdfjnlpfineaaZRY
set_option linter.unusedSimpArgs false
set_option linter.unusedVariables false
namespace Go.Proofs.Ytjcdfjnlpfineaa
open Go.RowKit Go.Lib
variable {w W W' : World}

/-- sites that rise above p -/
def risB (p : Int) : List Int → Bool
  | [] => true
  | x :: l => siteB x && decide (p < x) && risB x l
theorem fill_ris : ∀ (l : List Int) (m : Wd) (p : Nat), (∀ i, m.getLsbD i = true → i ≤ p) → (1 ≤ p → m.getLsbD p = true) → (fillW m l).isSome = risB (p : Int) l
  | [], m, p, h1, h2 => rfl
  | x :: l, m, p, h1, h2 => by
    unfold fillW risB
    cases hs : siteB x with
    | false =>
      rw [bitW_no hs, uI_zero, if_pos (by unfold uI; omega)]
      rfl
    | true =>
      have hx := siteB_iff.1 hs
      have hb : bitW x = BitVec.twoPow 32 x.toNat := by unfold bitW; rw [if_pos hs]
      by_cases hp : (p : Int) < x
      · have hlt : uI m < uI (bitW x) := by rw [hb]; exact low_lt (by omega) (fun i hi => by have := h1 i hi; omega)
        rw [if_neg (by omega), decide_eq_true hp]
        have ih := fill_ris l (m ||| bitW x) x.toNat (fun i hi => by
          rw [or_at, Bool.or_eq_true] at hi
          rcases hi with hi | hi
          · have := h1 i hi; omega
          · rw [Bool.and_eq_true, decide_eq_true_eq] at hi; omega) (fun _ => by rw [or_at, hs]; simp)
        rw [ih, show ((x.toNat : Nat) : Int) = x by omega]
        rfl
      · have hle : uI (bitW x) ≤ uI m := by
          rw [hb]
          unfold uI
          have e := h2 (by omega)
          rw [← BitVec.testBit_toNat] at e
          have h3 := Nat.ge_two_pow_of_testBit e
          have h4 : 2 ^ x.toNat ≤ 2 ^ p := Nat.pow_le_pow_right (by omega) (by omega)
          rw [BitVec.toNat_twoPow, Nat.mod_eq_of_lt (Nat.pow_lt_pow_right (by omega) (by omega))]
          omega
        rw [if_pos hle, decide_eq_false hp]
        rfl
theorem fill_rising (l : List Int) : (fillW 0#32 l).isSome = risB 0 l := fill_ris l 0#32 0 (fun i h => by simp at h) (fun h => by omega)
/-- the one ahead of number i -/
def ahead (l : List Int) (i : Nat) : Int := if i = 0 then 0 else (l[i - 1]?).getD 0
theorem ris_at {l : List Int} {i : Nat} {x : Int} (hi : l[i]? = some x) : risB (ahead l i) (l.drop i) = (siteB x && decide (ahead l i < x) && risB (ahead l (i + 1)) (l.drop (i + 1))) := by
  have hl := (List.getElem?_eq_some_iff.1 hi).1
  have e1 : l.drop i = x :: l.drop (i + 1) := by
    rw [List.drop_eq_getElem_cons hl]
    rw [List.getElem?_eq_getElem hl] at hi
    simp at hi
    rw [hi]
  have e2 : ahead l (i + 1) = x := by unfold ahead; rw [if_neg (by omega), Nat.add_sub_cancel, hi]; rfl
  rw [e1, e2]
  rfl

set_option maxRecDepth 100000 in
set_option maxHeartbeats 8000000 in
theorem rising_in {v : Value} {l : List Int} (hr : RN w v l) (hn : l.length ≤ 1000000) : Calls Try.prog 42 #[v] w fun e W => e = .returned (.bool (risB 0 l)) ∧ Below w.heap.size w W := by
  obtain ⟨a, c, rfl⟩ := hr.form
  obtain ⟨n, hln⟩ : ∃ n, l.length = n := ⟨_, rfl⟩
  have HL := hide hln
  have HR := hide hr
  rw [hln]
  rw [hln] at hn
  have HS : Hid (∀ (x : Int) (W : World), Calls Try.prog 39 #[.int .i64 x] W fun e W' => e = .returned (.bool (siteB x)) ∧ Below W.heap.size W W') := fun x W => (site_in x W).mono fun e W' ⟨h1, h2⟩ => ⟨h1, by rw [h2]; exact Below.refl _ _⟩
  have mixed : Try.prog.follows .mixedOrders = true := by kernel_rfl
  obtain ⟨R, hR⟩ : ∃ R, risB 0 l = R := ⟨_, rfl⟩
  have HF := hide hR
  rw [hR]
  clear hln hr hR
  go_enter Try.func42, Try.ntmps42
  go_wp2
  go_loopw [3] (fun iv wr => ∃ i : Nat, i ≤ n ∧ iv = .int .i64 (i : Nat) ∧ Hid (Below w.heap.size w wr ∧ risB (ahead l i) (l.drop i) = R)) (fun iv _ => n - (RowKit.intOf iv).toNat)
  case atStart => exact ⟨0, Nat.zero_le _, rfl, hide ⟨Below.refl _ _, unhide HF⟩⟩
  case round =>
    obtain ⟨i, hi, rfl, HI⟩ := hrel
    clear HF
    by_cases hlt : i < n
    · have hlt' : (i : Int) < (n : Int) := by omega
      have hi1 : i < l.length := by rw [unhide HL]; exact hlt
      obtain ⟨x, hx⟩ : ∃ x, l[i]? = some x := ⟨_, List.getElem?_eq_getElem hi1⟩
      obtain ⟨hb, hf⟩ := unhide HI
      rw [ris_at hx] at hf
      have hrow := (unhide HR).below hb
      rw [show (Value.slice a l.length c) = .slice a n c by rw [unhide HL]] at hrow
      have HRow := hide hrow
      obtain ⟨b1, o1, rfl, _, k1⟩ := RN.at hrow hx
      have hsx := unhide HS x
      have hne := BelowOf.ne wr
      have k1' : ∀ p : BelowOf wr, p.w.cell? ⟨b1, o1 + i, none⟩ = some (.int .i64 x) := fun p => cell_below k1 p.h
      clear hrow k1 hi1
      cases hs : siteB x with
      | false =>
        rw [hs] at hf hsx
        have hfR : Hid (R = false) := by rw [← hf]; rfl
        have HSX := hide hsx
        have HB := hide hb
        clear hf hsx hb hx HI HRow
        go_wp2_with fail
        refine wp_region_quiet_below mixed (by kernel_rfl) ?_
        repeat (any_goals (first | go_big_quiet_step ((go_at_call 39; exact below_of (unhide HSX _))) | quiet_step ((go_at_call 39; exact below_of (unhide HSX _)))))
        all_goals (refine wpQuiet_nil ?_; intro _ hw'; obtain ⟨p, hw''⟩ := hw'; subst hw'')
        have BE := hide (bnext (unhide HB) p.h)
        go_wp2
        go_ret
        exact ⟨by rw [unhide hfR]; rfl, unhide BE⟩
      | true =>
        rw [hs, Bool.true_and] at hf
        rw [hs] at hsx
        have hsite := siteB_iff.1 hs
        by_cases h0 : i = 0
        · subst h0
          have ha : ahead l 0 = 0 := rfl
          simp only [Nat.add_zero] at k1'
          rw [ha, decide_eq_true (by omega), Bool.true_and] at hf
          have HF2 := hide hf
          have HSX := hide hsx
          have HB := hide hb
          clear hf hsx hb hx HI HRow hsite
          go_wp2_with fail
          refine wp_region_quiet_below mixed (by kernel_rfl) ?_
          repeat (any_goals (first | go_big_quiet_step ((go_at_call 39; exact below_of (unhide HSX _))) | quiet_step ((go_at_call 39; exact below_of (unhide HSX _)))))
          all_goals (refine wpQuiet_nil ?_; intro _ hw'; obtain ⟨p, hw''⟩ := hw'; subst hw'')
          have BE := hide (bnext (unhide HB) p.h)
          go_wp2
          go_roundw
          case rel => exact ⟨1, by omega, by go_num, hide ⟨unhide BE, unhide HF2⟩⟩
          case measure => show n - ((0 : Int) + 1).toNat < n - (0 : Int).toNat; omega
        · obtain ⟨q, rfl⟩ : ∃ q, i = q + 1 := ⟨i - 1, by omega⟩
          obtain ⟨y, hy⟩ : ∃ y, l[q]? = some y := ⟨_, List.getElem?_eq_getElem (by rw [unhide HL]; omega)⟩
          have ha : ahead l (q + 1) = y := by unfold ahead; rw [if_neg (by omega), Nat.add_sub_cancel, hy]; rfl
          rw [ha] at hf
          obtain ⟨b2, o2, e2, _, k2⟩ := RN.at (unhide HRow) hy
          simp at e2
          obtain ⟨rfl, rfl⟩ := e2
          have k2' : ∀ p : BelowOf wr, p.w.cell? ⟨b1, o1 + q, none⟩ = some (.int .i64 y) := fun p => cell_below k2 p.h
          clear k2
          by_cases hyx : y < x
          · rw [decide_eq_true hyx, Bool.true_and] at hf
            have hyx' : ¬ x ≤ y := by omega
            have HF2 := hide hf
            have HSX := hide hsx
            have HB := hide hb
            clear hf hsx hb hx HI HRow hsite hy ha
            go_wp2_with fail
            refine wp_region_quiet_below mixed (by kernel_rfl) ?_
            repeat (any_goals (first | go_big_quiet_step ((go_at_call 39; exact below_of (unhide HSX _))) | quiet_step ((go_at_call 39; exact below_of (unhide HSX _)))))
            all_goals (refine wpQuiet_nil ?_; intro _ hw'; obtain ⟨p, hw''⟩ := hw'; subst hw'')
            have BE := hide (bnext (unhide HB) p.h)
            go_wp2
            go_roundw
            case rel => exact ⟨q + 1 + 1, by omega, by go_num, hide ⟨unhide BE, unhide HF2⟩⟩
            case measure => show n - (((q + 1 : Nat) : Int) + 1).toNat < n - ((q + 1 : Nat) : Int).toNat; omega
          · rw [decide_eq_false hyx, Bool.false_and] at hf
            have hyx' : x ≤ y := by omega
            have hfR : Hid (R = false) := hf.symm
            have HSX := hide hsx
            have HB := hide hb
            clear hf hsx hb hx HI HRow hsite hy ha hyx
            go_wp2_with fail
            refine wp_region_quiet_below mixed (by kernel_rfl) ?_
            repeat (any_goals (first | go_big_quiet_step ((go_at_call 39; exact below_of (unhide HSX _))) | quiet_step ((go_at_call 39; exact below_of (unhide HSX _)))))
            all_goals (refine wpQuiet_nil ?_; intro _ hw'; obtain ⟨p, hw''⟩ := hw'; subst hw'')
            have BE := hide (bnext (unhide HB) p.h)
            go_wp2
            go_ret
            exact ⟨by rw [unhide hfR]; rfl, unhide BE⟩
    · obtain rfl : i = n := by omega
      have hlt' : ¬ (i : Int) < (i : Int) := by omega
      have hfin : Hid (R = true ∧ Below w.heap.size w wr) := by
        obtain ⟨hb, hf⟩ := unhide HI
        rw [List.drop_of_length_le (by rw [unhide HL]; exact Nat.le_refl _)] at hf
        exact ⟨hf.symm, hb⟩
      clear HI
      go_wp2
      go_ret
      exact ⟨by rw [(unhide hfin).1]; rfl, (unhide hfin).2⟩

end Go.Proofs.Ytjcdfjnlpfineaa
