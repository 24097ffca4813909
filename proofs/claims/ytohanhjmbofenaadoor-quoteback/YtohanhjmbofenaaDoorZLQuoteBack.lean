/-
  Chapter 4's law QuoteBack returns true for every two texts, and leaves its arguments as they were; the tables of the library that its row lists hold what the program's text lays (the card ties them).
-/
import Derived.Test.YtohanhjmbofenaaDoorRows
import Derived.Test.YtohanhjmbofenaaDoorCards
import Derived.Test.YtohanhjmbofenaaDoorTie
import Derived.SevenTiedAt
import Derived.LaidMore
import Derived.Stop.Joined
import Derived.WalkKit
import Derived.ProofKit
import Derived.OpenShut
import Derived.ShutString
import Derived.ChangeOld
import Derived.Below
import Derived.Test.YtohanhjmbofenaaDoorZLaid
import Derived.Test.YtohanhjmbofenaaDoorZPG
import Derived.Test.YtohanhjmbofenaaDoorZGd
set_option linter.unusedVariables false
set_option linter.unusedSimpArgs false
namespace Go.Proofs.YtohanhjmbofenaaDoor
namespace LQuoteBack
open Go.ChangeShapes Go.WideShapes Go.ChangeAt Go.RowKit Go.Lib
open Go.ChangeMaps (open_string shut_string)

theorem qL_le (s : ByteArray) : ∀ (l : List Nat), (∀ i ∈ l, i < s.size) → (qL s l).length ≤ 10 * l.length
  | [], _ => by simp [qL]
  | i :: l, h => by
    have h1 := qP_len s i (h i (List.mem_cons_self ..))
    have h2 := qL_le s l (fun j hj => h j (List.mem_cons_of_mem _ hj))
    show (qP s i ++ qL s l).length ≤ _
    rw [List.length_append, List.length_cons]; omega
theorem qT_le (s : ByteArray) : (qT s).size ≤ 10 * s.size + 2 := by
  have h1 := qL_le s (allL s) (fun i hi => (mem_allL.1 hi).1)
  have h2 := allL_length s
  rw [qT_size]; omega
theorem q_same (s t : ByteArray) : ((qT s).toList == (qT t).toList) = (s.toList == t.toList) := by
  have hb : ∀ x y : ByteArray, (x.toList == y.toList) = true ↔ x = y := by
    intro x y
    rw [beq_iff_eq]
    refine ⟨fun h => ?_, fun h => by rw [h]⟩
    rw [ByteArray.toList_eq, ByteArray.toList_eq] at h
    cases x with | mk x => cases y with | mk y =>
    exact congrArg ByteArray.mk (Array.toList_inj.1 h)
  rw [Bool.eq_iff_iff, hb, hb]
  exact ⟨qT_inj, fun e => by rw [e]⟩

set_option maxRecDepth 100000 in
set_option maxHeartbeats 4000000 in
theorem walk (a0 a1 : ByteArray) (w0 : a0.size ≤ maxLen) (w1 : a1.size ≤ maxLen) (w : World) (hT : Tab w) :
    Calls Tryd.prog 6 #[.string a0, .string a1] w fun e w' => e = .returned (.bool true) ∧ Below w.heap.size w w' := by
  unfold maxLen at w0 w1
  have h3 := fun W h => hide (known_in W h)
  have Ht := hide hT
  clear hT
  by_cases hbig : 20000 < a0.size
  · have i1 : (20000 : Int) < (a0.size : Int) := by omega
    clear hbig w0 w1
    go_enter Tryd.func6, Tryd.ntmps6
    go_wp2_with fail
    refine (unhide (h3 w (unhide Ht))).mono ?_
    rintro e w3 ⟨rfl, b3⟩
    go_wp2
    go_ret
    exact ⟨rfl, b3⟩
  · by_cases hbig2 : 20000 < a1.size
    · have i1 : ¬ (20000 : Int) < (a0.size : Int) := by omega
      have i2 : (20000 : Int) < (a1.size : Int) := by omega
      clear hbig hbig2 w0 w1
      go_enter Tryd.func6, Tryd.ntmps6
      go_wp2_with fail
      refine (unhide (h3 w (unhide Ht))).mono ?_
      rintro e w3 ⟨rfl, b3⟩
      go_wp2
      go_ret
      exact ⟨rfl, b3⟩
    · have i1 : ¬ (20000 : Int) < (a0.size : Int) := by omega
      have i2 : ¬ (20000 : Int) < (a1.size : Int) := by omega
      have q1 := fun W h => hide (quote_in a0 (by omega) W h)
      have q2 := fun W h => hide (quote_in a1 (by omega) W h)
      have hqz := qT_size a0
      have hqb := qT_le a0
      have u1 := fun W => hide (unquote_in (qT a0) (by omega) W)
      have hg := fun W => hide (good_in (qT a0) (by omega) (qT_ok a0) W)
      have hln := hide (qT_good a0).2
      have hpr := hide (fun n (hn : n < (qT a0).size) => uq_pre a0 n hn)
      have hsm := q_same a0 a1
      obtain ⟨_, hu2, hu3, hu4⟩ := uq_quoted a0
      rw [hu2, hu3, hu4] at u1
      obtain ⟨q, hq⟩ : ∃ q, qT a0 = q := ⟨_, rfl⟩
      obtain ⟨p, hp⟩ : ∃ p, qT a1 = p := ⟨_, rfl⟩
      rw [hq] at q1 u1 hg hln hpr hsm hqz hqb
      rw [hp] at q2 hsm
      have l2 : ¬ (q.size : Int) < 2 := by omega
      have hLb : q.size ≤ 1000000000 := by omega
      have hs2 : (!(q.toList == p.toList) == (a0.toList == a1.toList)) = false := by rw [hsm]; simp
      have hs3 : ((q.toList == p.toList) == (a0.toList == a1.toList)) = true := by rw [hsm]; simp
      have hs4 : ((q.toList == p.toList) != (a0.toList == a1.toList)) = false := by rw [hsm]; simp
      clear hq hp hu2 hu3 hu4 hqz hqb hbig hbig2 w0 w1
      go_enter Tryd.func6, Tryd.ntmps6
      go_wp2_with fail
      refine (unhide (q1 w (unhide Ht))).mono ?_
      rintro e W1 ⟨rfl, b1⟩
      go_wp2_with fail
      refine (unhide (u1 W1)).mono ?_
      rintro e W2 ⟨rfl, b2⟩
      have b12 := b1.trans (b2.mono b1.size)
      go_wp2_with fail
      refine (unhide (hg W2)).mono ?_
      rintro e W3 ⟨rfl, b3⟩
      have b13 := b12.trans (b3.mono b12.size)
      go_wp2_with fail
      refine (unhide (q2 W3 ((unhide Ht).below b13 (unhide Ht).2))).mono ?_
      rintro e W4 ⟨rfl, b4⟩
      have b14 := hide (b13.trans (b4.mono b13.size))
      clear b1 b2 b3 b4 b12 b13 q1 q2 u1 hg
      go_wp2
      go_loopw [9] (fun a wr => (∃ k : Nat, k ≤ q.size ∧ a = .int .i64 k) ∧ wr = W4) (fun a _ => q.size - (Lib.intOf a).toNat)
      case atStart => exact ⟨⟨0, by omega, rfl⟩, rfl⟩
      case round =>
        obtain ⟨⟨k, hk, rfl⟩, rfl⟩ := hrel
        by_cases hlt : k < q.size
        · have gi := by_get q k hlt
          obtain ⟨g1, g2⟩ := unhide hln k hlt
          have i3 : (k : Int) < (q.size : Int) := by omega
          have i4 : (0 : Int) ≤ (k : Int) := by omega
          have i5 : ¬ ((by_ q k : Nat) : Int) < 32 := by omega
          have i6 : (((by_ q k : Nat) : Int) == 127) = false := by rw [beq_eq_false_iff_ne]; omega
          clear g1 g2
          go_wp2
          go_round
          case rel => exact ⟨⟨k + 1, by omega, by go_num⟩, trivial⟩
          case measure => simp [Lib.intOf]; omega
        · have i3 : ¬ (k : Int) < (q.size : Int) := by omega
          go_wp2
          go_loopw [10] (fun a wx => (∃ n : Nat, n ≤ q.size ∧ a = .int .i64 n) ∧ Hid (Below w.heap.size w wx)) (fun a _ => q.size - (Lib.intOf a).toNat)
          case atStart => exact ⟨⟨0, by omega, rfl⟩, b14⟩
          case round =>
            obtain ⟨⟨n, hn, rfl⟩, hb⟩ := hrel
            by_cases hlt2 : n < q.size
            · have hxz : (q.extract 0 n).size = n := by rw [size_ext q 0 n (by omega)]; omega
              have hu := hide (unquote_in (q.extract 0 n) (by rw [hxz]; omega) wr)
              obtain ⟨x1, x2, x3⟩ := unhide hpr n hlt2
              rw [x1, x3, show ofL [] = ⟨#[]⟩ from rfl] at hu
              obtain ⟨m, hm⟩ : ∃ m, uqN (q.extract 0 n) = m := ⟨_, rfl⟩
              rw [hm] at hu x2
              have j1 : (n : Int) < (q.size : Int) := by omega
              have j2 : (0 : Int) ≤ (n : Int) := by omega
              have j3 : ¬ (m : Int) < 0 := by omega
              have j4 : ¬ (n : Int) < (m : Int) := by omega
              have j5 : (n : Int) ≤ (q.size : Int) := by omega
              clear x1 x3 hm hxz x2 hlt i3 hk
              by_cases c1 : n ≤ 64
              · have j6 : ¬ (64 : Int) < (n : Int) := by omega
                go_wp2_with fail
                refine (unhide hu).mono ?_
                rintro e V ⟨rfl, bv⟩
                have bV := hide ((unhide hb).trans (bv.mono (unhide hb).size))
                clear bv hb hu
                go_wp2
                go_round
                case rel => exact ⟨⟨n + 1, by omega, by go_num⟩, bV⟩
                case measure => simp [Lib.intOf]; omega
              · by_cases c2 : n + 64 < q.size
                · have j6 : (64 : Int) < (n : Int) := by omega
                  have j7 : (n : Int) < (q.size : Int) - 64 := by omega
                  clear hu
                  go_wp2
                  go_round
                  case rel => exact ⟨⟨n + 1, by omega, by go_num⟩, hb⟩
                  case measure => simp [Lib.intOf]; omega
                · have j6 : (64 : Int) < (n : Int) := by omega
                  have j7 : ¬ (n : Int) < (q.size : Int) - 64 := by omega
                  go_wp2_with fail
                  refine (unhide hu).mono ?_
                  rintro e V ⟨rfl, bv⟩
                  have bV := hide ((unhide hb).trans (bv.mono (unhide hb).size))
                  clear bv hb hu
                  go_wp2
                  go_round
                  case rel => exact ⟨⟨n + 1, by omega, by go_num⟩, bV⟩
                  case measure => simp [Lib.intOf]; omega
            · have j1 : ¬ (n : Int) < (q.size : Int) := by omega
              have hk3 := h3 wr ((unhide Ht).below (unhide hb) (unhide Ht).2)
              go_wp2_with fail
              refine (unhide hk3).mono ?_
              rintro e V ⟨rfl, bv⟩
              have bV := hide ((unhide hb).trans (bv.mono (unhide hb).size))
              clear bv hb hk3
              go_wp2
              go_ret
              exact ⟨rfl, unhide bV⟩

theorem own : ownKnob Tryd.prog.godebug = none := by kernel_rfl

theorem door_met (os : Os) (args : Array Value) : laidMetH Tryd.prog Rows.quoteBackRow.laid ((World.doorLaid Tryd.prog 400 os).forCall (fun _ _ => 0) ⟨#[], args, []⟩).memory :=
  laidMetH_of_parts3 (fuel := 8) (laidMet_of_run' 8 (by kernel_rfl) (by kernel_rfl)) (by kernel_rfl) (by kernel_rfl)

set_option maxRecDepth 100000 in
theorem lifted (os : Os) (started : os.Started) (H : Type) (enc : TypeId × Value → H) :
    ReturnsInHanded {} Tryd.checked os 6 .any (fun w args => (Rows.quoteBackSpec.pre enc Tryd.prog Tryd.f6 [] false w args ∧ laidMetH Tryd.prog Rows.quoteBackRow.laid w) ∧ sizedMet enc Tryd.prog Tryd.f6 (OpenSpec.ofChange Rows.quoteBackSpec) false w args)
      (Rows.quoteBackSpec.post enc Tryd.prog Tryd.f6 false true false false) := by
  refine returnsInHanded_of_change_and (C := Tryd.checked) (X := fun w _ => laidMetH Tryd.prog Rows.quoteBackRow.laid w) (fun _ _ _ hh h => h.of_heap hh) own started (by kernel_rfl) Tryd.func6
    (ChangeSpec.witness_shaped (enc := enc) (C := Tryd.checked) (os := os) (X := fun w _ => laidMetH Tryd.prog Rows.quoteBackRow.laid w) false (World.doorLaid Tryd.prog 400 os) #[.string ByteArray.empty, .string ByteArray.empty] 8 rfl (World.shaped_of_RefB (by kernel_rfl) (by kernel_rfl)) (by kernel_rfl) (by kernel_rfl) (by kernel_rfl) (door_met os _)) ?_
  intro W base args ds gs before hval0 hW _ _ hL _
  rw [MakeChecks.laidMetH_plain _ _ _ (by kernel_rfl)] at hL
  have hT := tab_of (by kernel_rfl) hL
  have hval : ∀ (j : Nat) t v, Tryd.f6.params[j]? = some t → args[j]? = some v → Value.okWide Tryd.prog W .any base t v := hval0
  have hW' := hW
  obtain ⟨p, q, hA0, hV, rfl, hfz, hnd⟩ := hW
  have hA : DataW.TrodAll enc Tryd.prog W 0 (fun _ => true) true Tryd.f6.params.toList args.toList ds p := hA0
  rw [Tryd.params6] at hA hval
  obtain ⟨v0, vs0, d0, ds0, p0, q0, hargs, rfl, rfl, h0, r0⟩ := trodAll_cons hA
  obtain ⟨v1, vs1, d1, ds1, p1, q1, rfl, rfl, rfl, h1, r1⟩ := trodAll_cons r0
  obtain ⟨rfl, rfl, rfl⟩ := trodAll_nil r1
  obtain rfl : args = #[v0, v1] := by cases args; simp_all
  obtain ⟨rfl, rfl⟩ := trodVars_none hV
  obtain ⟨a0, rfl, rfl, rfl, w0⟩ := open_string Tryd.underlying9 (hval 0 9 v0 rfl rfl) h0
  obtain ⟨a1, rfl, rfl, rfl, w1⟩ := open_string Tryd.underlying9 (hval 1 9 v1 rfl rfl) h1
  clear hA0 hval0
  simp only [List.append_nil] at hW'
  refine (walk a0 a1 w0 w1 W hT).mono fun e W' ⟨he, bel⟩ => ?_
  subst he
  exact ⟨_, rfl, _, _, _, [], _, [], hW', trodAll_mk1 (shut_bool Tryd.underlying4 _), (trodAll_cons_mk (shut_string Tryd.underlying9 w0) (trodAll_cons_mk (shut_string Tryd.underlying9 w1) trodAll_mk0)), rfl, bel.frame _, fun h => by cases h⟩

theorem over : Rows.quoteBackRow.holds Tryd.pinned (OpenSpec.ofChange Rows.quoteBackSpec) :=
  OpenClaim.holds_of_wide 6 Tryd.f6 rfl rfl rfl rfl rfl rfl rfl ⟨rfl, rfl, rfl, rfl, rfl⟩ rfl rfl rfl rfl rfl (by kernel_rfl) Tryd.func6 (by kernel_rfl)
    (of_decide_eq_true (by kernel_rfl)) (by unfold Func.isWrapper; first | (rw [if_pos (by decide +kernel)]; kernel_rfl) | (rw [if_neg (by decide +kernel)]; exact ⟨rfl, rfl⟩))
    (fun os started H enc _ => lifted os started H enc)

end LQuoteBack

theorem quoteBack_holds : Rows.QuoteBackCardSaid :=
  Claim7.holds_tied_plain_at .later [] [.data, .data, .data] true (true, "998c4a6e6a127876837f114556346c46969a0b937df30f5889d4ae744ef742ee") true
    LQuoteBack.over (fun _ h => by cases h) (by kernel_rfl) (fun _ h => by cases h) quoteBack_row_tie rfl ⟨rfl, rfl⟩ (by kernel_rfl) rfl
    (fun f fn hf hfn => by
      obtain rfl : f = 6 := Option.some.inj ((show Tryd.prog.funcNamed Rows.quoteBackRow.func = some 6 by kernel_rfl).symm.trans hf) |>.symm
      obtain rfl : fn = Tryd.f6 := (Option.some.inj (Tryd.func6.symm.trans hfn)).symm
      exact ⟨by kernel_rfl, fun j t ht => by
        rw [Tryd.params6] at ht
        have hm : t ∈ [9, 9] := by simpa using Array.mem_of_getElem? ht
        have hall : ([9, 9].all fun u => !Tryd.prog.wantsStandIn u) = true := by kernel_rfl
        exact (show Tryd.prog.wantsStandIn t = false by simpa using List.all_eq_true.1 hall t hm)⟩)
    (by kernel_rfl)

end Go.Proofs.YtohanhjmbofenaaDoor
