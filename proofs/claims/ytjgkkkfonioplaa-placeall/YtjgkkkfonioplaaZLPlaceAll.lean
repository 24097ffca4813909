/-
  Chapter 3's law PlaceAll returns true for every text, and leaves its argument as it was; no condition.
-/
import Derived.Test.YtjgkkkfonioplaaRows
import Derived.WalkKit
import Derived.ProofKit
import Derived.OpenShut
import Derived.ShutString
import Derived.ChangeOld
import Derived.Below
import Derived.Test.YtjgkkkfonioplaaZTel
import Derived.Test.YtjgkkkfonioplaaZKn3
set_option linter.unusedVariables false
set_option linter.unusedSimpArgs false
namespace Go.Proofs.Ytjgkkkfonioplaa
namespace LPlaceAll
open Go.ChangeShapes Go.WideShapes Go.ChangeAt Go.RowKit Go.Lib
open Go.ChangeMaps (open_string shut_string)

set_option maxRecDepth 100000 in
set_option maxHeartbeats 8000000 in
theorem walk (a0 : ByteArray) (w0 : a0.size ≤ maxLen) (w : World) :
    Calls Try.prog 4 #[.string a0] w fun e w' => e = .returned (.bool true) ∧ Below w.heap.size w w' := by
  unfold maxLen at w0
  have hkn := fun W => hide (known_in W)
  by_cases hbig : 75 < a0.size
  · go_enter Try.func4, Try.ntmps4
    go_wp2_with (go_at_call 7; refine (unhide (hkn _)).mono ?_; rintro e w' ⟨rfl, hB⟩)
    go_ret
    exact ⟨rfl, hB⟩
  · have hs : a0.size ≤ 1000000 := by omega
    have hnew := fun W => hide (new_in a0 hs W)
    have htel := fun p u n l c W hm => hide (tells_in a0 p u n l c hs W hm)
    have hlin := fun W => hide (refLines_in a0 hs W)
    have hce := fun p l c W hm => hide (cell_in a0 p l c W hs hm)
    have hrc := fun l c W => hide (refCell_in a0 l c hs W)
    have hL := (pL_le a0 (pN a0)).2
    have hN := pN_le a0
    obtain ⟨M, hM⟩ : ∃ M, pL a0 (pN a0) = M := ⟨_, rfl⟩
    rw [hM] at hlin hL
    have hM6 : M ≤ 76 := by omega
    obtain ⟨S, hS⟩ : ∃ S, a0.size = S := ⟨_, rfl⟩
    have hS6 : S ≤ 75 := by omega
    clear hs hL hN hM
    go_enter Try.func4, Try.ntmps4
    go_wp2_with fail
    refine (unhide (hnew _)).mono ?_
    rintro e W1 ⟨p, rfl, mp, b1⟩
    go_wp2_with fail
    go_loopw [4] (fun uv wr => ∃ u : Nat, u ≤ 6 ∧ uv = .int .i64 (u : Nat) ∧ Below W1.heap.size W1 wr) (fun uv _ => 6 - (RowKit.intOf uv).toNat)
    case atStart => exact ⟨0, by omega, rfl, Below.refl _ _⟩
    case round =>
      obtain ⟨u, hu, rfl, hB⟩ := hrel
      by_cases hu5 : u ≤ 5
      · have j1 : (u : Int) ≤ 5 := by omega
        go_wp2_with fail
        go_loopw [5] (fun nv wr => ∃ n : Nat, n ≤ S + 3 ∧ nv = .int .i64 ((n : Int) - 1) ∧ Below W1.heap.size W1 wr) (fun nv _ => S + 3 - ((RowKit.intOf nv) + 1).toNat)
        case atStart => exact ⟨0, by omega, by simp, hB⟩
        case round =>
          obtain ⟨n, hn, rfl, hBn⟩ := hrel
          by_cases hnS : n ≤ S + 2
          · have j2 : (n : Int) - 1 ≤ (S : Int) + 1 := by omega
            have ht := hide (unhide (htel p u ((n : Int) - 1) 1 1 wr (mp.below hBn)))
            go_wp2_with (go_at_call 9; refine (unhide ht).mono ?_; rintro e W2 ⟨rfl, h2⟩)
            go_roundw
            case rel => exact ⟨n + 1, by omega, by go_num, bnext hBn h2⟩
            case measure => simp [RowKit.intOf]; omega
          · have j2 : ¬ (n : Int) - 1 ≤ (S : Int) + 1 := by omega
            go_wp2
            go_roundw
            case rel => exact ⟨u + 1, by omega, by go_num, hBn⟩
            case measure => simp [RowKit.intOf]; omega
      · have j1 : ¬ (u : Int) ≤ 5 := by omega
        clear hu hu5
        go_wp2_with fail
        go_loopw [6] (fun lv wr => ∃ l : Nat, l ≤ M + 2 ∧ lv = .int .i64 (l : Nat) ∧ Below W1.heap.size W1 wr) (fun lv _ => M + 2 - (RowKit.intOf lv).toNat)
        case atStart => exact ⟨0, by omega, rfl, hB⟩
        case round =>
          obtain ⟨l, hl, rfl, hBl⟩ := hrel
          clear j1
          by_cases hlM : l ≤ M + 1
          · have j1 : (l : Int) ≤ (M : Int) + 1 := by omega
            go_wp2_with fail
            refine (unhide (hlin _)).mono ?_
            rintro e W2 ⟨rfl, h2⟩
            have hB2 := bnext hBl h2
            clear hBl h2
            go_wp2_with fail
            go_loopw [7] (fun cv wr => ∃ c : Nat, c ≤ S + 3 ∧ cv = .int .i64 (c : Nat) ∧ Below W1.heap.size W1 wr) (fun cv _ => S + 3 - (RowKit.intOf cv).toNat)
            case atStart => exact ⟨0, by omega, rfl, hB2⟩
            case round =>
              obtain ⟨c, hc, rfl, hBc⟩ := hrel
              clear hB2
              by_cases hcS : c ≤ S + 2
              · have j2 : (c : Int) ≤ (S : Int) + 2 := by omega
                have hcc := hide (unhide (hce p l c wr (mp.below hBc)))
                have hrr := fun W => hide (unhide (hrc l c W))
                obtain ⟨c0, c1, c2, c3, c4, c5, ce, hcv⟩ := cellV_form a0 l c
                rw [hcv] at hcc hrr
                clear hcv
                go_wp2_with fail
                refine (unhide hcc).mono ?_
                rintro e W3 ⟨rfl, h3⟩
                have k3 := Box6.new W3 (.int .i64 (c0 : Nat)) (.int .i64 (c1 : Nat)) (.int .i64 (c2 : Nat)) (.int .i64 (c3 : Nat)) (.int .i64 (c4 : Nat)) (.int .i64 (c5 : Nat))
                have h3a := (Below.refl _ W3).alloc (Nat.le_refl _) (.cells #[.int .i64 (c0 : Nat), .int .i64 (c1 : Nat), .int .i64 (c2 : Nat), .int .i64 (c3 : Nat), .int .i64 (c4 : Nat), .int .i64 (c5 : Nat)] 29)
                have b3 := bnext (bnext hBc h3) h3a
                clear h3 h3a
                go_wp2_with fail
                generalize W3.heap.size = x3 at k3 ⊢
                generalize W3.alloc (.cells #[.int .i64 (c0 : Nat), .int .i64 (c1 : Nat), .int .i64 (c2 : Nat), .int .i64 (c3 : Nat), .int .i64 (c4 : Nat), .int .i64 (c5 : Nat)] 29) = X3 at k3 b3 ⊢
                refine (unhide (hrr _)).mono ?_
                rintro e W4 ⟨rfl, h4⟩
                have k4 := Box6.new W4 (.int .i64 (c0 : Nat)) (.int .i64 (c1 : Nat)) (.int .i64 (c2 : Nat)) (.int .i64 (c3 : Nat)) (.int .i64 (c4 : Nat)) (.int .i64 (c5 : Nat))
                have h4a := (Below.refl _ W4).alloc (Nat.le_refl _) (.cells #[.int .i64 (c0 : Nat), .int .i64 (c1 : Nat), .int .i64 (c2 : Nat), .int .i64 (c3 : Nat), .int .i64 (c4 : Nat), .int .i64 (c5 : Nat)] 29)
                have b4 := bnext (bnext b3 h4) h4a
                replace k3 := (k3.below h4).below h4a
                obtain ⟨X4, hX4⟩ : ∃ X4, W4.alloc (.cells #[.int .i64 (c0 : Nat), .int .i64 (c1 : Nat), .int .i64 (c2 : Nat), .int .i64 (c3 : Nat), .int .i64 (c4 : Nat), .int .i64 (c5 : Nat)] 29) = X4 := ⟨_, rfl⟩
                rw [hX4] at k3 k4 b4
                obtain ⟨r0, r1, r2, r3, r4, r5, _⟩ := k3.facts
                obtain ⟨t0, t1, t2, t3, t4, t5, _⟩ := k4.facts
                clear h4 h4a k3 k4 b3
                go_wp2
                go_roundw
                case rel => exact ⟨c + 1, by omega, by go_num, b4⟩
                case measure => simp [RowKit.intOf]; omega
              · have j2 : ¬ (c : Int) ≤ (S : Int) + 2 := by omega
                have ht := hide (unhide (htel p 1 0 l 0 wr (mp.below hBc)))
                go_wp2_with (go_at_call 9; refine (unhide ht).mono ?_; rintro e W5 ⟨rfl, h5⟩)
                go_roundw
                case rel => exact ⟨l + 1, by omega, by go_num, bnext hBc h5⟩
                case measure => simp [RowKit.intOf]; omega
          · have j1 : ¬ (l : Int) ≤ (M : Int) + 1 := by omega
            go_wp2_with (first | (go_at_call 10; refine (unhide (hlin _)).mono ?_; rintro e W2 ⟨rfl, h2⟩) | (go_at_call 7; refine (unhide (hkn _)).mono ?_; rintro e W3 ⟨rfl, h3⟩))
            go_ret
            exact ⟨rfl, bnext b1 (bnext (bnext hBl h2) h3)⟩

theorem own : ownKnob Try.prog.godebug = none := by kernel_rfl

set_option maxRecDepth 100000 in
theorem lifted (os : Os) (started : os.Started) (H : Type) (enc : TypeId × Value → H) :
    ReturnsInHanded {} Try.checked os 4 .any (Rows.placeAllSpec.pre6 enc Try.prog Try.f4 Rows.placeAllRow.domain false) (Rows.placeAllSpec.post enc Try.prog Try.f4 false true false false) := by
  refine returnsInHanded_of_change (C := Try.checked) own started (by kernel_rfl) Try.func4
    (ChangeSpec.witness6 (enc := enc) (C := Try.checked) false ⟨#[], #[.string ByteArray.empty], []⟩ 8 (by kernel_rfl) (by kernel_rfl) (by kernel_rfl) (by kernel_rfl)) ?_
  intro W base args ds gs before hval0 hW hcnd _
  have hval : ∀ (j : Nat) t v, Try.f4.params[j]? = some t → args[j]? = some v → Value.okWide Try.prog W .any base t v := hval0
  have hW' := hW
  obtain ⟨p, q, hA0, hV, rfl, hfz, hnd⟩ := hW
  have hA : DataW.TrodAll enc Try.prog W 0 (fun _ => true) true Try.f4.params.toList args.toList ds p := hA0
  rw [Try.params4] at hA hval
  obtain ⟨v0, vs0, d0, ds0, p0, q0, hargs, rfl, rfl, h0, r0⟩ := trodAll_cons hA
  obtain ⟨rfl, rfl, rfl⟩ := trodAll_nil r0
  obtain rfl : args = #[v0] := by cases args; simp_all
  obtain ⟨rfl, rfl⟩ := trodVars_none hV
  obtain ⟨a0, rfl, rfl, rfl, w0⟩ := open_string Try.underlying9 (hval 0 9 v0 rfl rfl) h0
  clear hA0 hval0
  simp only [List.append_nil] at hW'
  refine (walk a0 w0 W).mono fun e W' ⟨he, bel⟩ => ?_
  subst he
  exact ⟨_, rfl, _, _, _, [], _, [], hW', trodAll_mk1 (shut_bool Try.underlying4 _), (trodAll_cons_mk (shut_string Try.underlying9 w0) trodAll_mk0), rfl, bel.frame _, fun h => by cases h⟩

theorem over : Rows.placeAllRow.holds Try.pinned (OpenSpec.ofChange Rows.placeAllSpec) :=
  OpenClaim.holds_of_wide 4 Try.f4 rfl rfl rfl rfl rfl rfl rfl ⟨rfl, rfl, rfl, rfl, rfl⟩ rfl rfl rfl rfl rfl (by kernel_rfl) Try.func4 (by kernel_rfl)
    (of_decide_eq_true (by kernel_rfl)) (by unfold Func.isWrapper; first | (rw [if_pos (by decide +kernel)]; kernel_rfl) | (rw [if_neg (by decide +kernel)]; exact ⟨rfl, rfl⟩))
    (fun os started H enc _ => lifted os started H enc)

end LPlaceAll

theorem placeAll_holds : Rows.PlaceAllSaid := LPlaceAll.over

end Go.Proofs.Ytjgkkkfonioplaa
