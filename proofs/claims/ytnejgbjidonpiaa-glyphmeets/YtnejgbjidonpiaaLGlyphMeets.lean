/-
  Chapter 1's law GlyphMeets returns true for every text, and leaves its argument as it was; no condition.
-/
import Derived.Test.YtnejgbjidonpiaaRows
import Derived.WalkKit
import Derived.ProofKit
import Derived.OpenShut
import Derived.ShutString
import Derived.ChangeOld
import Derived.Below
import Derived.Test.YtnejgbjidonpiaaKnown
import Derived.Test.YtnejgbjidonpiaaRt2
import Derived.Test.YtnejgbjidonpiaaSync
import Derived.Maps.AppendAt
set_option linter.unusedVariables false
set_option linter.unusedSimpArgs false
namespace Go.Proofs.Ytnejgbjidonpiaa
namespace LGlyphMeets
open Go.ChangeShapes Go.WideShapes Go.ChangeAt Go.RowKit Go.Lib
open Go.ChangeMaps (open_string shut_string)

theorem info64 : (Try.prog.info? 3).map (fun i => (i.zero, i.size, i.bytes)) = some (some (.int .i64 0), 1, 8) := by kernel_rfl
theorem encode_q (r : Int) (w : World) : Calls Try.prog 25 #[.int .i32 r] w fun e w' => e = .returned (.string (Utf8.encode r)) ∧ w' = w := (encode_any r w).mono fun _ _ h => ⟨h.1, h.2.symm⟩
theorem owns_form {W : World} {B e n : Nat} {v : Value} {xs : List Value} (h : W.ownsRow B e 1 v n xs) : ∃ a c, v = .slice a n c := by
  rcases h.2 with ⟨rfl, rfl⟩ | ⟨g, cap, cur, rfl, _⟩
  · exact ⟨_, _, rfl⟩
  · exact ⟨_, _, rfl⟩
theorem bL_eq (b : ByteArray) : b.toList = bL b := toList_data b
theorem below_drewN {B : Nat} {a w : World} (h : Below B a w) (n : Nat) : Below B a (w.drewN n) := ⟨h.os, h.tape, h.output, h.size, h.block⟩
theorem owns_drewN {W : World} {B e n : Nat} {v : Value} {xs : List Value} (h : W.ownsRow B e 1 v n xs) (d : Nat) : (W.drewN d).ownsRow B e 1 v n xs := h
theorem enc_same {s : ByteArray} {k : Nat} (hk : k < s.size) (ho : okR s k = true) : ((Utf8.encode (rn s k : Nat)).toList == (s.extract k (k + wd s k)).toList) = true := by
  have h := enc_ok s k hk ho
  rw [bL_eq (Utf8.encode _), extract_toList, show k + wd s k - k = wd s k from by omega]
  rw [beq_iff_eq]
  exact h

set_option maxRecDepth 100000 in
set_option maxHeartbeats 4000000 in
theorem walk (a0 : ByteArray) (w0 : a0.size ≤ maxLen) (w : World) :
    Calls Try.prog 7 #[.string a0] w fun e w' => e = .returned (.bool true) ∧ Below w.heap.size w w' := by
  have w0' := w0
  unfold maxLen at w0
  obtain ⟨i0, hi, hz0, hz1, hz2⟩ := info_parts info64
  by_cases hbig : 20000 < a0.size
  · go_enter Try.func7, Try.ntmps7
    go_wp2_with (go_at_call 9; refine (known_in _).mono ?_; rintro e w' ⟨rfl, hB⟩)
    go_ret
    exact ⟨rfl, hB⟩
  · have f1 : decide ((20000 : Int) < (a0.size : Int)) = false := by simp; omega
    go_enter Try.func7, Try.ntmps7
    go_wp2
    go_loopw [3, 4] (fun ev av wr => ∃ (l : List Nat) (pos f : Nat), av = .int .i64 pos ∧ Hid (l ++ posL a0 f pos = allL a0) ∧ a0.size ≤ pos + f ∧ pos ≤ a0.size ∧ Hid (Chain a0 l pos) ∧ wr.ownsRow w.heap.size 3 1 ev l.length ((endsL a0 l).map (Value.int .i64)) ∧ Below w.heap.size w wr) (fun _ av _ => a0.size - (RowKit.intOf av).toNat)
    case atStart => exact ⟨[], 0, a0.size, rfl, hide rfl, by omega, by omega, hide (chain_nil a0), World.ownsRow_nil _ _ _ _, Below.refl _ _⟩
    case round =>
      obtain ⟨l, pos, f, rfl, hall, hfu, hps, hch, hrow, hB⟩ := hrel
      have hll : l.length ≤ a0.size := by
        have h1 := allL_length a0
        have h2 := congrArg List.length (unhide hall)
        rw [List.length_append] at h2
        omega
      by_cases hlt : pos < a0.size
      · have hp := wd_pos a0 pos hlt
        have hl := wd_le a0 pos hlt
        obtain ⟨hl1, hl2⟩ := hl
        have q1 : decide ((wd a0 pos : Int) < 1) = false := by simp; omega
        have q2 : decide ((4 : Int) < (wd a0 pos : Int)) = false := by simp; omega
        have q3 : decide ((a0.size : Int) < (pos : Int) + (wd a0 pos : Int)) = false := by simp; omega
        have i1 : (0 : Int) ≤ (pos : Int) := by omega
        have i2 : (pos : Int) + (wd a0 pos : Int) ≤ (a0.size : Int) := by omega
        have i3 : (pos : Int) ≤ (pos : Int) + (wd a0 pos : Int) := by omega
        obtain ⟨g, rfl⟩ : ∃ g, f = g + 1 := ⟨f - 1, by omega⟩
        have hsz := hB.size
        cases ho : okR a0 pos with
        | true =>
          have heq := enc_same hlt ho
          go_wp2_with (go_at_call 10; refine (decode_in a0 pos _ w0' hlt).mono ?_; rintro e w' ⟨rfl, rfl⟩)
          go_quiet ((go_at_call 25; exact Calls.quiet_of_same (encode_q _ _)))
          go_wp2_with (at_builtin; refine wpList_append_own _ rfl _ _ 46 rfl w.heap.size 3 i0 (.int .i64 0) 1 8 Try.underlying46 hi hz0 hz1 hz2 rfl (by decide) u3 l.length ((endsL a0 l).map (Value.int .i64)) rfl ((owns_drewN hrow nq).alloc _) ⟨wr.heap.size, 0, none⟩ 1 1 [.int .i64 ((pos : Int) + (wd a0 pos : Int))] rfl rfl (cell_one_new _ _ _) (by simp [Value.oneCell']) (by unfold maxLen; omega) (by omega) (by simp; omega) ?_; intro v4 W4 ho4 hg4 _)
          go_roundw
          case rel =>
            refine ⟨l ++ [pos], pos + wd a0 pos, g, by simp, hide ?_, by omega, by omega, hide (chain_next (unhide hch) hlt), by simpa [endsL] using ho4, ((below_drewN hB nq).alloc (by simpa using hsz) _).grown hg4 (by simp; omega) (fun k e => (hrow.lt k e).1)⟩
            rw [← unhide hall, posL_step a0 g pos hlt]; simp
          case measure => simp [RowKit.intOf]; omega
        | false =>
          have hbd := ok_false_iff ho
          have q4 : ((wd a0 pos : Int) != 1) = false := by rw [hbd.2]; rfl
          have q5 : ((rn a0 pos : Int) != 65533) = false := by rw [hbd.1]; rfl
          clear hbd
          go_wp2_with (go_at_call 10; refine (decode_in a0 pos _ w0' hlt).mono ?_; rintro e w' ⟨rfl, rfl⟩)
          go_quiet ((go_at_call 25; exact Calls.quiet_of_same (encode_q _ _)))
          go_wp2_with (at_builtin; refine wpList_append_own _ rfl _ _ 46 rfl w.heap.size 3 i0 (.int .i64 0) 1 8 Try.underlying46 hi hz0 hz1 hz2 rfl (by decide) u3 l.length ((endsL a0 l).map (Value.int .i64)) rfl ((owns_drewN hrow nq).alloc _) ⟨wr.heap.size, 0, none⟩ 1 1 [.int .i64 ((pos : Int) + (wd a0 pos : Int))] rfl rfl (cell_one_new _ _ _) (by simp [Value.oneCell']) (by unfold maxLen; omega) (by omega) (by simp; omega) ?_; intro v4 W4 ho4 hg4 _)
          go_roundw
          case rel =>
            refine ⟨l ++ [pos], pos + wd a0 pos, g, by simp, hide ?_, by omega, by omega, hide (chain_next (unhide hch) hlt), by simpa [endsL] using ho4, ((below_drewN hB nq).alloc (by simpa using hsz) _).grown hg4 (by simp; omega) (fun k e => (hrow.lt k e).1)⟩
            rw [← unhide hall, posL_step a0 g pos hlt]; simp
          case measure => simp [RowKit.intOf]; omega
      · obtain rfl : pos = a0.size := by omega
        have hl : l = allL a0 := by
          have h := unhide hall
          rw [posL_end a0 f a0.size hlt, List.append_nil] at h
          exact h
        have hcnt : ((allL a0).length : Int) = (l.length : Int) := by rw [← hl]
        have Hcnt := hide hcnt
        have hcc : ((l.length : Int) == (l.length : Int)) = true := by simp
        have hel : (endsL a0 l).length = l.length := by simp [endsL]
        clear hl hcnt hall hfu
        obtain ⟨a3, c3, rfl⟩ := owns_form hrow
        go_wp2
        go_loop [8] (fun iv => iv = .int .i64 (-1) ∨ ∃ j : Nat, j < l.length ∧ iv = .int .i64 j) (fun iv => (RowKit.intOf iv + 1).toNat)
        case atStart =>
          by_cases h0 : l.length = 0
          · left; rw [h0]; rfl
          · right; exact ⟨l.length - 1, by omega, by congr 1; omega⟩
        case round =>
          rcases hrel with rfl | ⟨j, hj, rfl⟩
          · go_wp2_with (first | (go_at_call 18; refine (count_in _ (by omega) _).mono ?_; rintro e w2 ⟨rfl, hB2⟩; rw [unhide Hcnt]) | (go_at_call 9; refine (known_in _).mono ?_; rintro e w3 ⟨rfl, hB3⟩))
            go_ret
            exact ⟨rfl, (hB.trans (hB2.mono hB.size)).trans (hB3.mono (Nat.le_trans hB.size hB2.size))⟩
          · obtain ⟨hs1, hs2, hs3, hs4⟩ := unhide hch
            obtain ⟨g3, rfl⟩ : ∃ g3, a3 = some ⟨g3, 0, none⟩ := by
              rcases hrow.2 with ⟨e1, e2⟩ | ⟨g3, cap, cur, e1, _⟩
              · omega
              · exact ⟨g3, by simpa using (congrArg (fun v => match v with | Value.slice a _ _ => a | _ => none) e1)⟩
            obtain ⟨st, hst⟩ : ∃ st, l[j]? = some st := ⟨_, List.getElem?_eq_getElem hj⟩
            have hmem : st ∈ l := List.mem_of_getElem? hst
            obtain ⟨hst1, hst2⟩ := hs2 st hmem
            have hp := wd_pos a0 st hst1
            have hl := wd_le a0 st hst1
            have ce : wr.cell? ⟨g3, j, none⟩ = some (.int .i64 ((st : Int) + (wd a0 st : Int))) := by
              rw [hrow.cellAt j (by omega)]
              simp [endsL, hst]
            have x1 := lR_sync hst2 hst1
            have x2 := lN_sync hst2 hst1
            have x3 := lK_sync hst2 hst1
            have X1 := hide x1
            have X2 := hide x2
            have X3 := hide x3
            clear x1 x2 x3
            have i1 : (j : Int) < (l.length : Int) := by omega
            have r1 : ((rn a0 st : Int) != (rn a0 st : Int)) = false := by simp
            have r2 : ((wd a0 st : Int) != (wd a0 st : Int)) = false := by simp
            have r3 : (okR a0 st != okR a0 st) = false := by simp
            have r4 : ((wd a0 st : Int) != ((st : Int) + (wd a0 st : Int) - (st : Int))) = false := by
              rw [show ((st : Int) + (wd a0 st : Int) - (st : Int)) = (wd a0 st : Int) from by omega]; simp
            cases j with
            | zero =>
              have h0 : st = 0 := by
                have h := hs4
                rw [hst] at h
                simpa using h
              have y1 : dR a0 0 = (rn a0 st : Int) := by rw [h0]; exact dR_in a0 0 (by omega)
              have y2 : dN a0 0 = (wd a0 st : Int) := by rw [h0]; exact dN_in a0 0 (by omega)
              have y3 : dK a0 0 = okR a0 st := by rw [h0]; exact dK_in a0 0 (by omega)
              have Y1 := hide y1
              have Y2 := hide y2
              have Y3 := hide y3
              have r5 : ((wd a0 st : Int) != ((st : Int) + (wd a0 st : Int))) = false := by rw [h0]; simp
              clear y1 y2 y3 hs1 hs2 hs3 hs4 hst hmem h0
              go_wp2_with fail
              refine (last_any _ _ _ w0').mono ?_
              rintro e w' ⟨rfl, rfl⟩
              rw [unhide X1, unhide X2, unhide X3]
              go_wp2_with fail
              refine (decode_any _ _ _ w0').mono ?_
              rintro e w' ⟨rfl, rfl⟩
              rw [unhide Y1, unhide Y2, unhide Y3]
              go_wp2
              go_round
              case rel => exact .inl rfl
              case measure => simp [RowKit.intOf]
            | succ m =>
              have cp : wr.cell? ⟨g3, m, none⟩ = some (.int .i64 (st : Int)) := by
                have h := hs3 m (by omega)
                rw [hst] at h
                rw [hrow.cellAt m (by omega), List.getElem?_map, h]
                rfl
              clear hs1 hs2 hs3 hs4 hst hmem
              go_wp2_with fail
              refine (last_any _ _ _ w0').mono ?_
              rintro e w' ⟨rfl, rfl⟩
              rw [unhide X1, unhide X2, unhide X3]
              go_wp2_with fail
              refine (decode_in a0 st _ w0' hst1).mono ?_
              rintro e w' ⟨rfl, rfl⟩
              go_wp2
              go_round
              case rel => exact .inr ⟨m, by omega, by simp⟩
              case measure => simp [RowKit.intOf]; omega

theorem own : ownKnob Try.prog.godebug = none := by kernel_rfl

set_option maxRecDepth 100000 in
theorem lifted (os : Os) (started : os.Started) (H : Type) (enc : TypeId × Value → H) :
    ReturnsInHanded {} Try.checked os 7 .any (Rows.glyphMeetsSpec.pre6 enc Try.prog Try.f7 Rows.glyphMeetsRow.domain false) (Rows.glyphMeetsSpec.post enc Try.prog Try.f7 false true false false) := by
  refine returnsInHanded_of_change (C := Try.checked) own started (by kernel_rfl) Try.func7
    (ChangeSpec.witness6 (enc := enc) (C := Try.checked) false ⟨#[], #[.string ByteArray.empty], []⟩ 8 (by kernel_rfl) (by kernel_rfl) (by kernel_rfl) (by kernel_rfl)) ?_
  intro W base args ds gs before hval0 hW hcnd _
  have hval : ∀ (j : Nat) t v, Try.f7.params[j]? = some t → args[j]? = some v → Value.okWide Try.prog W .any base t v := hval0
  have hW' := hW
  obtain ⟨p, q, hA0, hV, rfl, hfz, hnd⟩ := hW
  have hA : DataW.TrodAll enc Try.prog W 0 (fun _ => true) true Try.f7.params.toList args.toList ds p := hA0
  rw [Try.params7] at hA hval
  obtain ⟨v0, vs0, d0, ds0, p0, q0, hargs, rfl, rfl, h0, r0⟩ := trodAll_cons hA
  obtain ⟨rfl, rfl, rfl⟩ := trodAll_nil r0
  obtain rfl : args = #[v0] := by cases args; simp_all
  obtain ⟨rfl, rfl⟩ := trodVars_none hV
  obtain ⟨a0, rfl, rfl, rfl, w0⟩ := open_string Try.underlying9 (hval 0 9 v0 rfl rfl) h0
  clear hA0 hval0
  simp only [List.append_nil] at hW'
  refine (walk a0 w0 W).mono fun e W' ⟨he, bel⟩ => ?_
  subst he
  exact ⟨_, rfl, _, _, _, [], _, [], hW', trodAll_mk1 (shut_bool Try.underlying4 _), (trodAll_cons_mk (shut_string Try.underlying9 w0) trodAll_mk0), rfl, bel.frame _, fun h => by cases h⟩

theorem over : Rows.glyphMeetsRow.holds Try.pinned (OpenSpec.ofChange Rows.glyphMeetsSpec) :=
  OpenClaim.holds_of_wide 7 Try.f7 rfl rfl rfl rfl rfl rfl rfl ⟨rfl, rfl, rfl, rfl, rfl⟩ rfl rfl rfl rfl rfl (by kernel_rfl) Try.func7 (by kernel_rfl)
    (of_decide_eq_true (by kernel_rfl)) (by unfold Func.isWrapper; first | (rw [if_pos (by decide +kernel)]; kernel_rfl) | (rw [if_neg (by decide +kernel)]; exact ⟨rfl, rfl⟩))
    (fun os started H enc _ => lifted os started H enc)

end LGlyphMeets

theorem glyphMeets_holds : Rows.GlyphMeetsSaid := LGlyphMeets.over

end Go.Proofs.Ytnejgbjidonpiaa
