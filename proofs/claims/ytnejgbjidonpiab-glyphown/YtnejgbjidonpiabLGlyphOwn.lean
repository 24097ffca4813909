/-
  Chapter 1's law GlyphOwn returns true for every text, and leaves its argument as it was; no condition.
-/
import Derived.Test.YtnejgbjidonpiabRows
import Derived.WalkKit
import Derived.ProofKit
import Derived.OpenShut
import Derived.ShutString
import Derived.ChangeOld
import Derived.Below
import Derived.Test.YtnejgbjidonpiabKnown
import Derived.Test.YtnejgbjidonpiabRt
import Derived.Test.YtnejgbjidonpiabOwn
set_option linter.unusedVariables false
set_option linter.unusedSimpArgs false
namespace Go.Proofs.Ytnejgbjidonpiab
namespace LGlyphOwn
open Go.ChangeShapes Go.WideShapes Go.ChangeAt Go.RowKit Go.Lib
open Go.ChangeMaps (open_string shut_string)

theorem ownsRow_succ' {W : World} {base : Nat} {e : TypeId} {size : Nat} {v : Value} {k : Nat} {xs : List Value} (h : W.ownsRow base e size v (k + 1) xs) : ∃ g cap, v = .slice (some ⟨g, 0, none⟩) (k + 1) cap := by
  rcases h.2 with ⟨_, h0⟩ | ⟨g, cap, _, rfl, _⟩
  · omega
  · exact ⟨g, cap, rfl⟩
theorem below_drewN {B : Nat} {a w : World} (h : Below B a w) (n : Nat) : Below B a (w.drewN n) := ⟨h.os, h.tape, h.output, h.size, h.block⟩

def Said (n : Nat) (xs : Nat → List Value) (i : Nat) (k : Nat) : Prop := (∀ j, j < i → ∀ q, q < n → (xs j)[q]? = some (.int .i32 (1 + (j : Int)))) ∧ ∀ q, q < k → (xs i)[q]? = some (.int .i32 (1 + (i : Int)))

theorem Said.store {n i k : Nat} {xs : Nat → List Value} (h : Said n xs i k) (hl : k < (xs i).length) : Said n (upd xs i ((xs i).set k (.int .i32 (1 + (i : Int))))) i (k + 1) := by
  refine ⟨fun j hj q hq => ?_, fun q hq => ?_⟩
  · rw [upd_ne _ _ (by omega)]; exact h.1 j hj q hq
  · rw [upd_same]
    by_cases e : q = k
    · subst e; simp [hl]
    · rw [List.getElem?_set_ne (Ne.symm e)]; exact h.2 q (by omega)
theorem Said.next {n i : Nat} {xs : Nat → List Value} (h : Said n xs i n) : Said n xs (i + 1) 0 := by
  refine ⟨fun j hj q hq => ?_, fun q hq => by omega⟩
  by_cases e : j = i
  · subst e; exact h.2 q hq
  · exact h.1 j (by omega) q hq

set_option maxRecDepth 100000 in
set_option maxHeartbeats 4000000 in
theorem walk (a0 : ByteArray) (w0 : a0.size ≤ maxLen) (w : World) :
    Calls Try.prog 5 #[.string a0] w fun e w' => e = .returned (.bool true) ∧ Below w.heap.size w w' := by
  unfold maxLen at w0
  by_cases hbig : 20000 < a0.size
  · go_enter Try.func5, Try.ntmps5
    go_wp2_with (go_at_call 6; refine (known_in _).mono ?_; rintro e w' ⟨rfl, hB⟩)
    go_ret
    exact ⟨rfl, hB⟩
  · have f1 : decide ((20000 : Int) < (a0.size : Int)) = false := by simp; omega
    have hn : ∃ n, (runeL a0).length = n := ⟨_, rfl⟩
    obtain ⟨n, hn⟩ := hn
    have hnl : n ≤ 20000 := by rw [← hn, runeL_length]; have := allL_length a0; omega
    have Hn := hide hn
    clear hn
    go_enter Try.func5, Try.ntmps5
    go_wp2_with fail
    go_loopw [4] (fun iv wr => ∃ (i : Nat) (g c : Nat → Nat) (vs : Nat → Value), iv = .int .i64 (i : Nat) ∧ i ≤ 3 ∧ Hid (T1 w n i g c vs ((runeL a0).map (Value.int .i32)) wr)) (fun iv _ => 3 - (RowKit.intOf iv).toNat)
    case atStart => exact ⟨0, _, _, _, rfl, by omega, hide (T1.start w n _)⟩
    case round =>
      obtain ⟨i, g, c, vs, rfl, hi3, ht⟩ := hrel
      by_cases hi : i < 3
      · have i1 : (i : Int) < 3 := by omega
        go_wp2_with fail
        refine (runes_in a0 (by omega) _).mono ?_
        rintro e W2 ⟨v, rfl, ho, hB, cap, rfl⟩
        rw [unhide Hn] at ho ⊢
        have ha := own_below (unhide ht).arr hB
        have ce : W2.cell? ⟨w.heap.size, i, none⟩ = some (vs i) := by rw [ha.cellAt i (by omega)]; exact list3_get vs hi
        have cf : W2.frozen? ⟨w.heap.size, i, none⟩ = false := ha.frozenAt i
        have ht2 := hide ((unhide ht).step hi hB ho)
        clear ha ht ho hB
        go_wp2
        go_roundw
        case rel => exact ⟨i + 1, _, _, _, by simp, by omega, ht2⟩
        case measure => simp [RowKit.intOf]; omega
      · have i3 : i = 3 := by omega
        have ht3 := hide (T1.done (i3 ▸ unhide ht))
        have i1 : (3 : Int) ≤ (i : Int) := by omega
        have d1 : decide ((i : Int) < 3) = false := by simp; omega
        clear ht i3
        have c0 := (unhide ht3).elem (i := 0) (by omega)
        have c1 := (unhide ht3).elem (i := 1) (by omega)
        have c2 := (unhide ht3).elem (i := 2) (by omega)
        have hr : ∀ j, j < 3 → RS wr (.slice (some ⟨g j, 0, none⟩) n (c j)) (runeL a0) := fun j hj => RS.of_owns (by rw [unhide Hn]; exact (unhide ht3).own j hj)
        have Hr := hide hr
        clear hr
        go_wp2_with fail
        refine (same_in _ _ _ _ _ (unhide Hr 0 (by omega)) (unhide Hr 1 (by omega)) (by rw [unhide Hn]; omega) (by rw [unhide Hn]; omega)).mono ?_
        rintro e w2 ⟨rfl, m1, rfl⟩
        rw [show decide (runeL a0 = runeL a0) = true from by simp]
        have hr2 : ∀ j, j < 3 → RS (wr.drewN m1) (.slice (some ⟨g j, 0, none⟩) n (c j)) (runeL a0) := fun j hj => RS.below (below_drewN (Below.refl _ _) _) (unhide Hr j hj)
        have Hr2 := hide hr2
        have c1' : (wr.drewN m1).cell? ⟨w.heap.size, 1, none⟩ = _ := c1
        have c2' : (wr.drewN m1).cell? ⟨w.heap.size, 2, none⟩ = _ := c2
        clear hr2 c0 c1 c2
        go_wp2_with fail
        refine (same_in _ _ _ _ _ (unhide Hr2 1 (by omega)) (unhide Hr2 2 (by omega)) (by rw [unhide Hn]; omega) (by rw [unhide Hn]; omega)).mono ?_
        rintro e w2 ⟨rfl, m2, rfl⟩
        rw [show decide (runeL a0 = runeL a0) = true from by simp]
        have ht4 := hide ((unhide ht3).below (below_drewN (below_drewN (Below.refl _ wr) m1) m2))
        clear ht3 Hr Hr2 c1' c2'
        generalize (wr.drewN m1).drewN m2 = wq at *
        clear hi3 hi i1 d1
        go_wp2_with fail
        go_loopw [5] (fun iv wr => ∃ (i : Nat) (xs : Nat → List Value), iv = .int .i64 (i : Nat) ∧ i ≤ 3 ∧ Hid (T3 w n g c xs wr) ∧ Hid (Said n xs i 0)) (fun iv _ => 3 - (RowKit.intOf iv).toNat)
        case atStart => exact ⟨0, _, rfl, by omega, ht4, hide ⟨fun j hj => by omega, fun q hq => by omega⟩⟩
        case round =>
          obtain ⟨i, xs, rfl, hi3, ht, hsd⟩ := hrel
          by_cases hi : i < 3
          · have i1 : (i : Int) < 3 := by omega
            go_wp2_with fail
            go_loopw [6] (fun kv wr => ∃ (k : Nat) (xs : Nat → List Value), kv = .int .i64 (k : Nat) ∧ k ≤ n ∧ Hid (T3 w n g c xs wr) ∧ Hid (Said n xs i k)) (fun kv _ => n - (RowKit.intOf kv).toNat)
            case atStart => exact ⟨0, xs, rfl, by omega, ht, hsd⟩
            case round =>
              clear ht hsd
              obtain ⟨k, xs2, rfl, hkn, ht, hsd⟩ := hrel
              have ce := (unhide ht).elem hi
              by_cases hk : k < n
              · have k1 : (k : Int) < (n : Int) := by omega
                have hlx : (xs2 i).length = n := by have := ((unhide ht).own i hi).1; omega
                obtain ⟨y, hy⟩ : ∃ y, (xs2 i)[k]? = some y := ⟨_, List.getElem?_eq_getElem (by omega)⟩
                have cc := ((unhide ht).cell hi hk).trans hy
                have cf := (unhide ht).frozen (k := k) hi
                have ht2 := hide ((unhide ht).store hi k (.int .i32 (1 + (i : Int))))
                have hsd2 := hide ((unhide hsd).store (by omega))
                clear ht hsd hy
                go_wp2
                go_roundw
                case rel => exact ⟨k + 1, _, by simp, by omega, ht2, hsd2⟩
                case measure => simp [RowKit.intOf]; omega
              · obtain rfl : k = n := by omega
                go_wp2
                go_roundw
                case rel => exact ⟨i + 1, _, by simp, by omega, ht, hide (unhide hsd).next⟩
                case measure => simp [RowKit.intOf]; omega
          · have i1 : (3 : Int) ≤ (i : Int) := by omega
            have d1 : decide ((i : Int) < 3) = false := by simp; omega
            have hsd3 : Hid (Said n xs 3 0) := by
              have e : i = 3 := by omega
              rw [← e]; exact hsd
            clear hi hi3 ht4 hsd
            go_wp2_with fail
            clear i1 d1
            go_loopw [7] (fun iv wr => ∃ (i : Nat), iv = .int .i64 (i : Nat) ∧ i ≤ 3 ∧ Hid (T3 w n g c xs wr)) (fun iv _ => 3 - (RowKit.intOf iv).toNat)
            case atStart => exact ⟨0, rfl, by omega, ht⟩
            case round =>
              clear ht
              obtain ⟨i, rfl, hi3, ht⟩ := hrel
              by_cases hi : i < 3
              · have i1 : (i : Int) < 3 := by omega
                have ce := (unhide ht).elem hi
                go_wp2_with fail
                go_loopw [8, 9] (fun gv kv wr => ∃ (k h cap : Nat) (ys : List Value), gv = .slice (some ⟨h, 0, none⟩) (n + k) cap ∧ kv = .int .i64 (k : Nat) ∧ k ≤ 20 ∧ Hid (T3 w n g c xs wr) ∧ Hid (GV w n i k g c xs wr h cap ys)) (fun _ kv _ => 20 - (RowKit.intOf kv).toNat)
                case atStart => exact ⟨0, _, _, _, rfl, rfl, by omega, ht, hide (GV.start (unhide ht) hi)⟩
                case round =>
                  clear ht ce
                  obtain ⟨k, h, cap, ys, rfl, rfl, hk20, ht, hv⟩ := hrel
                  obtain ⟨i0, hi0, hz0, hz1, hz2⟩ := info_parts info32o
                  by_cases hk : k < 20
                  · have k1 : (k : Int) < 20 := by omega
                    have hyl : ys.length = (n + k) * 1 := (unhide hv).own.1
                    by_cases hc : n + k + 1 ≤ cap
                    · go_wp2_with (at_builtin; refine wpList_append_fits _ rfl _ _ 22 rfl w.heap.size 21 i0 1 Try.underlying22 hi0 hz1 h (n + k) cap ys rfl ((unhide hv).own.alloc _) ⟨wr.heap.size, 0, none⟩ 1 1 [.int .i32 (11 + (i : Int))] rfl rfl (cell_one_new _ _ _) (by simp [Value.oneCell']) (by omega) ?_)
                      intro W5 ho5 hg5
                      obtain ⟨t5, v5⟩ := GV.fits (unhide ht) hi (unhide hv) ho5 hg5
                      have T5 := hide t5
                      have V5 := hide v5
                      clear ho5 hg5 t5 v5 ht hv
                      go_wp2
                      go_roundw
                      case rel => exact ⟨k + 1, h, cap, _, rfl, by simp, by omega, T5, V5⟩
                      case measure => simp [RowKit.intOf]; omega
                    · go_wp2_with (at_builtin; refine wpList_append_grows _ rfl _ _ 22 rfl 21 i0 (.int .i32 0) 1 4 Try.underlying22 hi0 hz0 hz1 hz2 rfl (by decide) (some ⟨h, 0, none⟩) (n + k) cap ys rfl (by simp) hyl (fun b hb j u hj => by cases hb; exact ((unhide hv).own.alloc _).cells rfl j u hj) ⟨wr.heap.size, 0, none⟩ 1 1 [.int .i32 (11 + (i : Int))] rfl rfl (cell_one_new _ _ _) (by simp [Value.oneCell']) (by omega) (by unfold maxLen; omega) (by omega) ?_)
                      intro v5 W5 ho5 hg5
                      obtain ⟨h', cap', rfl⟩ := ownsRow_succ' ho5
                      obtain ⟨t5, v5⟩ := GV.grows (i := i) (h := h) (cap := cap) (unhide ht) ho5 hg5
                      have T5 := hide t5
                      have V5 := hide v5
                      clear ho5 hg5 t5 v5 ht hv
                      go_wp2
                      go_roundw
                      case rel => exact ⟨k + 1, h', cap', _, rfl, by simp, by omega, T5, V5⟩
                      case measure => simp [RowKit.intOf]; omega
                  · obtain rfl : k = 20 := by omega
                    go_wp2
                    go_roundw
                    case rel => exact ⟨i + 1, by simp, by omega, ht⟩
                    case measure => simp [RowKit.intOf]; omega
              · have i1 : (3 : Int) ≤ (i : Int) := by omega
                have d1 : decide ((i : Int) < 3) = false := by simp; omega
                clear hi hi3
                go_wp2_with fail
                clear i1 d1
                go_loopw [10] (fun iv w3 => ∃ (i : Nat), iv = .int .i64 (i : Nat) ∧ i ≤ 3 ∧ w3 = wr) (fun iv _ => 3 - (RowKit.intOf iv).toNat)
                case atStart => exact ⟨0, rfl, by omega, rfl⟩
                case round =>
                  obtain ⟨i, rfl, hi3, rfl⟩ := hrel
                  by_cases hi : i < 3
                  · have i1 : (i : Int) < 3 := by omega
                    have ce := (unhide ht).elem hi
                    go_wp2_with fail
                    go_loopw [11] (fun kv w3 => ∃ (k : Nat), kv = .int .i64 (k : Nat) ∧ k ≤ n ∧ w3 = wr) (fun kv _ => n - (RowKit.intOf kv).toNat)
                    case atStart => exact ⟨0, rfl, by omega, rfl⟩
                    case round =>
                      obtain ⟨k, rfl, hkn, rfl⟩ := hrel
                      by_cases hk : k < n
                      · have k1 : (k : Int) < (n : Int) := by omega
                        have cc := ((unhide ht).cell hi hk).trans ((unhide hsd3).1 i hi k hk)
                        have q1 : ((1 + (i : Int)) != (1 + (i : Int))) = false := by simp
                        go_wp2
                        go_roundw
                        case rel => exact ⟨k + 1, by simp, by omega, by simp⟩
                        case measure => simp [RowKit.intOf]; omega
                      · obtain rfl : k = n := by omega
                        go_wp2
                        go_roundw
                        case rel => exact ⟨i + 1, by simp, by omega, by simp⟩
                        case measure => simp [RowKit.intOf]; omega
                  · have i1 : (3 : Int) ≤ (i : Int) := by omega
                    have d1 : decide ((i : Int) < 3) = false := by simp; omega
                    have hbel := (unhide ht).bel
                    clear hi hi3 ht hsd3
                    go_wp2_with fail
                    refine (runes_in a0 (by omega) _).mono ?_
                    rintro e W5 ⟨v0, rfl, ho0, hB5, cap0, hv0⟩
                    have hr0 := RS.of_owns ho0
                    clear ho0 hv0
                    go_wp2_with fail
                    refine (text_in _ _ _ hr0).mono ?_
                    rintro e w' ⟨rfl, rfl⟩
                    clear hr0
                    go_wp2_with fail
                    refine (mend_in a0 (by omega) _).mono ?_
                    rintro e W6 ⟨rfl, hB6⟩
                    go_wp2_with fail
                    refine (known_in _).mono ?_
                    rintro e W7 ⟨rfl, hB7⟩
                    have s5 := hB5.size
                    have s6 := hB6.size
                    have s0 := hbel.size
                    go_wp2
                    go_ret
                    exact ⟨rfl, ((hbel.trans (hB5.mono s0)).trans (hB6.mono (by omega))).trans (hB7.mono (by omega))⟩

theorem own : ownKnob Try.prog.godebug = none := by kernel_rfl

set_option maxRecDepth 100000 in
theorem lifted (os : Os) (started : os.Started) (H : Type) (enc : TypeId × Value → H) :
    ReturnsInHanded {} Try.checked os 5 .any (Rows.glyphOwnSpec.pre6 enc Try.prog Try.f5 Rows.glyphOwnRow.domain false) (Rows.glyphOwnSpec.post enc Try.prog Try.f5 false true false false) := by
  refine returnsInHanded_of_change (C := Try.checked) own started (by kernel_rfl) Try.func5
    (ChangeSpec.witness6 (enc := enc) (C := Try.checked) false ⟨#[], #[.string ByteArray.empty], []⟩ 8 (by kernel_rfl) (by kernel_rfl) (by kernel_rfl) (by kernel_rfl)) ?_
  intro W base args ds gs before hval0 hW hcnd _
  have hval : ∀ (j : Nat) t v, Try.f5.params[j]? = some t → args[j]? = some v → Value.okWide Try.prog W .any base t v := hval0
  have hW' := hW
  obtain ⟨p, q, hA0, hV, rfl, hfz, hnd⟩ := hW
  have hA : DataW.TrodAll enc Try.prog W 0 (fun _ => true) true Try.f5.params.toList args.toList ds p := hA0
  rw [Try.params5] at hA hval
  obtain ⟨v0, vs0, d0, ds0, p0, q0, hargs, rfl, rfl, h0, r0⟩ := trodAll_cons hA
  obtain ⟨rfl, rfl, rfl⟩ := trodAll_nil r0
  obtain rfl : args = #[v0] := by cases args; simp_all
  obtain ⟨rfl, rfl⟩ := trodVars_none hV
  obtain ⟨a0, rfl, rfl, rfl, w0⟩ := open_string Try.underlying9 (hval 0 9 v0 rfl rfl) h0
  clear hA0 hval0
  simp only [List.append_nil] at hW'
  refine (walk a0 w0 W).mono fun e W' ⟨he, bel⟩ => ?_
  subst he
  exact ⟨_, rfl, _, _, _, [], _, [], hW', trodAll_mk1 (shut_bool Try.underlying4 _), (trodAll_cons_mk (shut_string Try.underlying9 w0) trodAll_mk0), rfl, bel.frame _, fun h => by cases h⟩

theorem over : Rows.glyphOwnRow.holds Try.pinned (OpenSpec.ofChange Rows.glyphOwnSpec) :=
  OpenClaim.holds_of_wide 5 Try.f5 rfl rfl rfl rfl rfl rfl rfl ⟨rfl, rfl, rfl, rfl, rfl⟩ rfl rfl rfl rfl rfl (by kernel_rfl) Try.func5 (by kernel_rfl)
    (of_decide_eq_true (by kernel_rfl)) (by unfold Func.isWrapper; first | (rw [if_pos (by decide +kernel)]; kernel_rfl) | (rw [if_neg (by decide +kernel)]; exact ⟨rfl, rfl⟩))
    (fun os started H enc _ => lifted os started H enc)

end LGlyphOwn

theorem glyphOwn_holds : Rows.GlyphOwnSaid := LGlyphOwn.over

end Go.Proofs.Ytnejgbjidonpiab
