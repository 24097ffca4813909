/-
  What the document fixes, known by the laws.
-/
import Derived.Test.YtccggjhnjknblaaZEQ
import Derived.Test.YtccggjhnjknblaaZR3
import Derived.Test.YtccggjhnjknblaaZK2
import Derived.Test.YtccggjhnjknblaaZPK3
set_option linter.unusedSimpArgs false
set_option linter.unusedVariables false
namespace Go.Proofs.Ytccggjhnjknblaa
open Go.RowKit Go.Lib

theorem RC.lit (W : World) (t : TypeId) (cs : Array Value) (n : Nat) : RC (W.alloc (.cells cs t)) (.slice (some ⟨W.heap.size, 0, none⟩) n n) n cs.toList :=
  .inr ⟨W.heap.size, 0, n, rfl, Nat.le_refl _, by simp, fun j x hx => by rw [Nat.zero_add]; exact (Bx.new W t cs).cell j x (by simpa using hx)⟩

theorem Wr.new (W : World) : Wr (W.alloc (.cells #[.slice none 0 0, .int .i64 0] 47)) W.heap.size (.slice none 0 0) [] 0 := ⟨Bx.new _ _ _, World.ownsRow_nil _ _ _ _⟩

/-- what a Writer's call leaves as it was -/
theorem bkp {w W W' : World} {p : Nat} {v : Value} {L : List Nat} {e : Int} (h : Below w.heap.size w W) (hW : Wr W p v L e) (k : Kp (wOwn p v) W W') (hp : w.heap.size ≤ p) : Below w.heap.size w W' :=
  k.below h (fun i hi => by
    rcases hi with rfl | hi
    · exact hp
    · have := (hW.row.lt i hi).1
      omega)
theorem bkr {w W W' : World} {p : Nat} (h : Below w.heap.size w W) (k : Kp (fun i => i = p) W W') (hp : w.heap.size ≤ p) : Below w.heap.size w W' := k.below h (fun i hi => by rw [hi]; exact hp)

theorem known_pack : packF [(3, 1), (2, 1), (2, 2)] = [((2, 1), 2), ((2, 2), 1)] := by
  have e : canS [(3, 1), (2, 1), (2, 2)] = [(2, 1), (2, 2), (3, 1)] := (canS_eq (by
    simp only [List.pairwise_cons, List.not_mem_nil, List.mem_cons, false_implies, implies_true, List.Pairwise.nil, and_true, or_false]
    unfold lexLt
    refine ⟨?_, ?_⟩
    · rintro a (rfl | rfl) <;> decide
    · rintro a rfl; decide) (fun x => by
    constructor
    · intro h
      simp at h
      rcases h with rfl | rfl | rfl <;> exact ⟨by simp, by decide⟩
    · rintro ⟨h, _⟩
      simp at h
      rcases h with rfl | rfl | rfl <;> simp)).symm
  unfold packF
  rw [e]
  rfl

set_option maxRecDepth 100000 in
set_option maxHeartbeats 4000000 in
theorem known_in (w : World) : Calls Try.prog 5 #[] w fun e W => e = .returned (.bool true) ∧ Below w.heap.size w W := by
  have hW0 := Wr.new w
  have b0 := ballc (Below.refl _ w) (.cells #[.slice none 0 0, .int .i64 0] 47)
  have HN := hide (wNumber_in 300 hW0 (by omega) (by omega) (by decide))
  rw [show wNum ([], 0) 300 = ([172, 2], 0) from rfl] at HN
  replace hW0 := hide hW0
  replace b0 := hide b0
  go_enter Try.func5, Try.ntmps5
  go_wp2_with fail
  refine (unhide HN).mono ?_
  rintro r W1 ⟨rfl, v1, hW1, hk1, -⟩
  have b1 := hide (bkp (unhide b0) (unhide hW0) hk1 (Nat.le_refl _))
  have HT := hide (wText_in ⟨#[97, 98]⟩ hW1 (by decide) (by decide))
  rw [show wTxt ([172, 2], 0) ⟨#[97, 98]⟩ = ([172, 2, 2, 97, 98], 0) from rfl] at HT
  replace hW1 := hide hW1
  clear hk1 HN hW0 b0
  go_wp2_with fail
  refine (unhide HT).mono ?_
  rintro r W2 ⟨rfl, v2, hW2, hk2, -⟩
  have b2 := hide (bkp (unhide b1) (unhide hW1) hk2 (Nat.le_refl _))
  have HD := hide (wData_in hW2 (by decide))
  replace hW2 := hide hW2
  clear hk2 HT hW1 b1
  go_wp2_with fail
  refine (unhide HD).mono ?_
  rintro r W3 ⟨v3, rfl, ho3, hb3⟩
  have b3 := hide (bnext (unhide b2) hb3)
  have hW3 := hide ((unhide hW2).below hb3)
  have HR := hide (rRead_in W3 v3 [172, 2, 2, 97, 98] (RC.of_owns ho3) (by decide) (by decide))
  clear ho3 hb3 HD hW2 b2
  go_wp2_with fail
  refine (unhide HR).mono ?_
  rintro r W4 ⟨p, v4, rfl, hR4, hb4, hp4, -⟩
  have b4 := hide (bnext (unhide b3) hb4)
  have hW4 := hide ((unhide hW3).below hb4)
  have hp : w.heap.size ≤ p := Nat.le_trans (unhide b3).size hp4
  have HD := hide (wData_in (unhide hW4) (by decide))
  replace hR4 := hide hR4
  clear hb4 hp4 HR hW3 b3
  go_wp2_with fail
  refine (unhide HD).mono ?_
  rintro r W5 ⟨v5, rfl, ho5, hb5⟩
  have b5 := hide (bnext (unhide b4) hb5)
  have hR5 := hide ((unhide hR4).below hb5)
  have hlit := RC.lit W5 5 #[.int .u8 172, .int .u8 2, .int .u8 2, .int .u8 97, .int .u8 98] 5
  have HQ := hide (bytes_in [172, 2, 2, 97, 98] [172, 2, 2, 97, 98] v5 _ _ (RC.below (RC.of_owns ho5) (ballc (Below.refl _ _) _)) hlit (by decide) (by decide))
  simp only [decide_true] at HQ
  have ba := ballc (Below.refl _ W5) (.cells #[.int .u8 172, .int .u8 2, .int .u8 2, .int .u8 97, .int .u8 98] 5)
  have b6 := hide (bnext (unhide b5) ba)
  have hR6 := hide ((unhide hR5).below ba)
  obtain ⟨a5, c5, hv5⟩ := owns_form ho5
  subst hv5
  clear ho5 hb5 HD hW4 b4 hlit ba hR4 hR5 b5
  go_wp2_with fail
  refine (unhide HQ).mono ?_
  rintro r W7 ⟨rfl, nd, hW7⟩
  have b7 := hide (show Below w.heap.size w W7 by rw [hW7]; exact bdrew (unhide b6) nd)
  have hR7 : Rd W7 p v4 [172, 2, 2, 97, 98] 0 := by rw [hW7]; exact (unhide hR6).below (bdrew (Below.refl _ _) nd)
  have HN := hide (rNumber_in hR7)
  rw [show rNum [172, 2, 2, 97, 98] 0 = (300, [2, 97, 98], 0) from rfl] at HN
  clear hW7 hR6 b6 HQ hR7
  go_wp2_with fail
  refine (unhide HN).mono ?_
  rintro r W8 ⟨rfl, v8, hR8, hk8, -⟩
  have b8 := hide (bkr (unhide b7) hk8 hp)
  have HT := hide (rText_in hR8)
  rw [show rTxt [2, 97, 98] 0 = (⟨#[97, 98]⟩, [], 0) from rfl] at HT
  clear hk8 b7 HN hR8
  go_wp2_with fail
  refine (unhide HT).mono ?_
  rintro r W9 ⟨rfl, v9, hR9, hk9, -⟩
  have b9 := hide (bkr (unhide b8) hk9 hp)
  have HE := hide (rEnd_in hR9)
  rw [show rEnd [] 0 = 0 from rfl] at HE
  clear hk9 b8 HT hR9
  go_wp2_with fail
  refine (unhide HE).mono ?_
  rintro r W10 ⟨rfl, rfl⟩
  have hl10 := RC.lit W9 30 #[.int .i64 3, .int .i64 1, .int .i64 2, .int .i64 1, .int .i64 2, .int .i64 2] 3
  have HP := hide (Pack_in _ [(3, 1), (2, 1), (2, 2)] _ hl10 (by intro x hx; simp at hx; rcases hx with rfl | rfl | rfl <;> exact ⟨by unfold in64; decide, by unfold in64; decide⟩) (by decide))
  rw [known_pack] at HP
  have b10 := hide (ballc (unhide b9) (.cells #[.int .i64 3, .int .i64 1, .int .i64 2, .int .i64 1, .int .i64 2, .int .i64 2] 30))
  clear HE hl10 b9
  go_wp2_with fail
  refine (unhide HP).mono ?_
  rintro r W11 ⟨v11, rfl, ho11, hb11⟩
  have b11 := hide (bnext (unhide b10) hb11)
  have hr11 : RR W11 v11 [((2, 1), 2), ((2, 2), 1)] := RC.of_owns ho11
  have hl11 := RC.lit W11 32 #[.int .i64 2, .int .i64 1, .int .i64 2, .int .i64 2, .int .i64 2, .int .i64 1] 2
  have ba := ballc (Below.refl _ W11) (.cells #[.int .i64 2, .int .i64 1, .int .i64 2, .int .i64 2, .int .i64 2, .int .i64 1] 32)
  have HQ := hide (runs_in [((2, 1), 2), ((2, 2), 1)] [((2, 1), 2), ((2, 2), 1)] v11 _ _ (hr11.below ba) hl11 (by decide) (by decide))
  simp only [decide_true] at HQ
  have hr12 := hide (hr11.below ba)
  have b12 := hide (bnext (unhide b11) ba)
  obtain ⟨a11, c11, hv11⟩ := owns_form ho11
  subst hv11
  clear HP ho11 hb11 hl11 ba hr11 b11 b10
  go_wp2_with fail
  refine (unhide HQ).mono ?_
  rintro r W13 ⟨rfl, nd2, hW13⟩
  have b13 := hide (show Below w.heap.size w W13 by rw [hW13]; exact bdrew (unhide b12) nd2)
  have hr13 : RR W13 (.slice a11 [(((2, 1), 2) : (Int × Int) × Int), ((2, 2), 1)].length c11) [((2, 1), 2), ((2, 2), 1)] := by rw [hW13]; exact (unhide hr12).below (bdrew (Below.refl _ _) nd2)
  have hin : ∀ r ∈ [(((2, 1), 2) : (Int × Int) × Int), ((2, 2), 1)], runIn r := by
    intro x hx
    simp at hx
    rcases hx with rfl | rfl <;> exact ⟨⟨by unfold in64; decide, by unfold in64; decide⟩, by unfold in64; decide⟩
  have HC := hide (Check_in _ _ W13 hr13 hin (by decide))
  rw [show chk [(((2, 1), 2) : (Int × Int) × Int), ((2, 2), 1)] = 0 from rfl] at HC
  replace hr13 := hide hr13
  replace hin := hide hin
  clear hW13 HQ hr12 b12
  go_wp2_with fail
  refine (unhide HC).mono ?_
  rintro r W14 ⟨rfl, hb14⟩
  have b14 := hide (bnext (unhide b13) hb14)
  have HH := hide (Has_in _ _ 3 1 W14 ((unhide hr13).below hb14) (unhide hin) (by decide) (by unfold in64; decide))
  rw [show hasR [(((2, 1), 2) : (Int × Int) × Int), ((2, 2), 1)] (3, 1) = true from rfl] at HH
  clear hb14 HC b13 hr13 hin
  go_wp2_with fail
  refine (unhide HH).mono ?_
  rintro r W15 ⟨rfl, hb15⟩
  have b15 := hide (bnext (unhide b14) hb15)
  have HK := hide (Compare_in 1 9 2 1 W15)
  rw [show cmpI (1, 9) (2, 1) = -1 from rfl] at HK
  clear hb15 HH b14
  go_wp2_with fail
  refine (unhide HK).mono ?_
  rintro r W16 ⟨rfl, hb16⟩
  have b16 := hide (bnext (unhide b15) (GrW.below hb16))
  clear hb16
  go_wp2
  go_ret
  exact ⟨rfl, unhide b16⟩

end Go.Proofs.Ytccggjhnjknblaa
