/-
  Chapter 1's law GlyphTexts returns true for every list of runes, and leaves its argument as it was; no condition.
-/
import Derived.Test.YtnejgbjidonpiaaRows
import Derived.WalkKit
import Derived.ProofKit
import Derived.OpenShut
import Derived.ShutString
import Derived.ChangeOld
import Derived.Below
import Derived.Test.YtnejgbjidonpiaaKnown
import Derived.Test.YtnejgbjidonpiaaRefTxt
import Derived.Maps.AppendAt
import Derived.Deep.RegionWith
set_option linter.unusedVariables false
set_option linter.unusedSimpArgs false
namespace Go.Proofs.Ytnejgbjidonpiaa
namespace LGlyphTexts
open Go.ChangeShapes Go.WideShapes Go.ChangeAt Go.RowKit Go.Lib
open Go.ChangeMaps (open_string shut_string)

theorem bcell {W w1 : World} (hb : Below W.heap.size W w1) : (∀ b o, b < W.heap.size → w1.cell? ⟨b, o, none⟩ = W.cell? ⟨b, o, none⟩) := fun b o h => hb.cell (p := ⟨b, o, none⟩) h
theorem cell_lt {W : World} {b o : Nat} {v : Value} (h : W.cell? ⟨b, o, none⟩ = some v) : b < W.heap.size := by
  unfold World.cell? at h
  by_cases hlt : b < W.heap.size
  · exact hlt
  · have : W.heap[b]? = none := by simp; omega
    simp [this] at h
theorem own_cap {W : World} {B e g n c : Nat} {xs : List Value} (h : W.ownsRow B e 1 (.slice (some ⟨g, 0, none⟩) n c) n xs) : n ≤ c := by
  rcases h.2 with ⟨e, _⟩ | ⟨g, cap, cur, e, _, _, h, _⟩
  · cases e
  · simp at e; omega
theorem info32 : (Try.prog.info? 21).map (fun i => (i.zero, i.size, i.bytes)) = some (some (.int .i32 0), 1, 4) := by kernel_rfl

set_option maxRecDepth 100000 in
set_option maxHeartbeats 2000000 in
theorem walk (a0 : Option Addr) (len0 cap0 : Nat) (z0 : List Int) (w : World) (w0 : IsRow .i32 w a0 len0 cap0 z0) :
    Calls Try.prog 5 #[.slice a0 len0 cap0] w fun e w' => e = .returned (.bool true) ∧ Below w.heap.size w w' := by
  obtain ⟨hrs, hlen, hwf⟩ := w0.rs
  have hl63 : len0 ≤ 9223372036854775807 := by
    rcases w0 with ⟨_, h, _⟩ | ⟨_, _, h1, h2, _⟩
    · omega
    · unfold maxLen at h2; omega
  obtain ⟨i0, hi, hz0, hz1, hz2⟩ := info_parts info32
  obtain ⟨zs, hzs⟩ : ∃ zs, z0.take len0 = zs := ⟨_, rfl⟩
  rw [hzs] at hrs hlen hwf
  by_cases hbig : 20000 < len0
  · go_enter Try.func5, Try.ntmps5
    go_wp2_with (go_at_call 9; refine (known_in _).mono ?_; rintro e w' ⟨rfl, hB⟩)
    go_ret
    exact ⟨rfl, hB⟩
  · have f2 : decide ((20000 : Int) < (len0 : Int)) = false := by simp; omega
    have Hrs := hide hrs
    have Hlen := hide hlen
    have Hz := hide hzs
    have Hw := hide w0
    clear hrs hlen hzs w0
    go_enter Try.func5, Try.ntmps5
    go_wp2
    go_loopw [3] (fun iv wr => (∃ k : Nat, k ≤ len0 ∧ iv = .int .i64 k) ∧ Below w.heap.size w wr) (fun iv _ => len0 - (RowKit.intOf iv).toNat)
    case atStart => exact ⟨⟨0, by omega, rfl⟩, Below.refl _ _⟩
    case round =>
      obtain ⟨⟨k, hk, rfl⟩, hB⟩ := hrel
      by_cases hlt : k < len0
      · have hz : k < zs.length := by rw [unhide Hlen]; exact hlt
        obtain ⟨x, hx⟩ : ∃ x, zs[k]? = some x := ⟨_, List.getElem?_eq_getElem hz⟩
        obtain ⟨b1, off1, c1, e1, hc1⟩ := (RS.below hB (unhide Hrs)).resolve_left (fun h => by have := h.1; subst this; simp at hz)
        have d1 := hc1 k hz
        rw [hx] at d1
        simp only [Option.getD_some] at d1
        obtain ⟨ea, -, ec⟩ : a0 = some ⟨b1, off1, none⟩ ∧ len0 = zs.length ∧ cap0 = c1 := by simpa using e1
        subst ea ec
        have hbl := cell_lt d1
        have i1 : (k : Int) < (len0 : Int) := by omega
        have i2 : (0 : Int) ≤ (k : Int) := by omega
        have hq : ((Utf8.encode x).toList == (Utf8.encode x).toList) = true := by simp
        have hsz := hB.size
        clear hc1 e1 hx hz
        go_wp2
        go_region_with (first | (go_at_call 25; refine (encode_any _ _).mono ?_; rintro e w' ⟨rfl, rfl⟩) | (go_at_call 26; refine (refEncode_any _ _).mono ?_; rintro e w2 ⟨rfl, hBx⟩; have hcx := bcell hBx))
        all_goals
          go_wp2
          go_roundw
          case rel => exact ⟨⟨k + 1, by omega, by go_num⟩, hB.trans ((⟨hBx.os, hBx.tape, hBx.output, hBx.size, hBx.block⟩ : Below wr.heap.size wr _).mono hsz)⟩
          case measure => simp [RowKit.intOf]; omega
      · have hsz := hB.size
        have hll : zs.length ≤ 20000 := by rw [unhide Hlen]; omega
        have hqs : ((runesBytes zs).toList == (runesBytes zs).toList) = true := by simp
        have hrl := RS.below hB (unhide Hrs)
        have Hrl := hide hrl
        clear hrl Hrs
        rcases unhide Hw with ⟨rfl, rfl, rfl, rfl⟩ | ⟨x, rfl, hx1, hx2, hx3, hx4, hx5⟩
        · obtain rfl : zs = [] := List.eq_nil_of_length_eq_zero (unhide Hlen)
          go_wp2_with (at_builtin; first | (refine wpList_append_own_none rfl _ _ 31 rfl wr.heap.size 21 i0 1 Try.underlying31 hi (.slice none 0 0) 0 [] rfl (World.ownsRow_nil _ _ _ _) rfl ?_) | (refine wpList_append_own _ rfl _ _ 31 rfl wr.heap.size 21 i0 (.int .i32 0) 1 4 Try.underlying31 hi hz0 hz1 hz2 rfl (by decide) (.slice none 0 0) 0 [] rfl (World.ownsRow_nil _ _ _ _) ⟨wr.heap.size, 0, none⟩ 1 1 [.int .i32 30583] rfl rfl (cell_one_new _ _ _) (by simp [Value.oneCell']) (by decide) (by decide) (by simp) ?_; intro v6 W6 ho6 hg6' _; obtain ⟨g6, c6, rfl⟩ := ownsRow_succ ho6))
          have hBq : Below wr.heap.size wr W6 := ((Below.refl _ wr).alloc (Nat.le_refl _) _).grown hg6' (by simp) (fun k e => by cases e)
          clear hg6'
          have hcap : 0 + 1 ≤ c6 := by
            rcases ho6.2 with ⟨e, _⟩ | ⟨g, cap, cur, e, _, _, h, _⟩
            · cases e
            · simp at e; omega
          have hlz : ([] : List Int).length = 0 := unhide Hlen
          have hr6 : RS W6 (.slice (some ⟨g6, 0, none⟩) 0 c6) ([] : List Int) := .inl ⟨rfl, _, _, rfl⟩
          have hc6 : W6.cell? ⟨g6, 0, none⟩ = some (.int .i32 30583) := by
            have := ho6.cellAt 0 (by omega)
            simpa using this
          have hg6 := cell_lt hc6
          clear ho6
          have Hr6 := hide hr6
          have Hlz := hide hlz
          clear hr6 hlz
          go_wp2_with fail
          refine (text_in _ ([] : List Int) _ (unhide Hr6)).mono ?_
          rintro e w' ⟨rfl, rfl⟩
          go_wp2_with fail
          refine (refText_in _ ([] : List Int) _ (RS.below hBq (unhide Hrl)) (by omega)).mono ?_
          rintro e W7 ⟨rfl, hB7⟩
          have hr7 := RS.below hB7 (unhide Hr6)
          have hq7 := RS.below hB7 (RS.below hBq (unhide Hrl))
          have hc7 := (bcell hB7 g6 0 hg6).trans hc6
          clear hc6
          have hBz := hBq.trans (hB7.mono hBq.size)
          go_wp2_with fail
          refine (same_in _ _ ([] : List Int) ([] : List Int) _ hr7 hq7 (by omega) (by omega)).mono ?_
          rintro e W8 ⟨rfl, nd, rfl⟩
          rw [show decide (([] : List Int) = ([] : List Int)) = true from by simp]
          go_wp2_with fail
          refine (known_in _).mono ?_
          rintro e W9 ⟨rfl, hB9⟩
          go_wp2
          go_ret
          exact ⟨rfl, (hB.trans (hBz.mono hsz)).trans ((⟨hB9.os, hB9.tape, hB9.output, hB9.size, hB9.block⟩ : Below W7.heap.size W7 W9).mono (Nat.le_trans hsz hBz.size))⟩
        · have hcx : ∀ j u, (zs.map (Value.int .i32))[j]? = some u → wr.cell? (x.add j) = some u := by
            intro j u hu
            rw [List.getElem?_map] at hu
            obtain ⟨z, hz, rfl⟩ := Option.map_eq_some_iff.1 hu
            have hz' := hz
            rw [← unhide Hz, List.getElem?_take] at hz'
            have hj : j < len0 := by
              by_cases h : j < len0
              · exact h
              · rw [if_neg h] at hz'; cases hz'
            rw [if_pos hj] at hz'
            have hold := hx4 j (by omega)
            rw [show z0.getD j 0 = z from by simp [List.getD, hz']] at hold
            have hb : (x.add j).block < w.heap.size := by
              unfold World.cell? at hold
              by_cases h : (x.add j).block < w.heap.size
              · exact h
              · have : w.heap[(x.add j).block]? = none := by simp; omega
                simp [this] at hold
            exact (hB.cell hb).trans hold
          have hone : ∀ u ∈ zs.map (Value.int .i32), u.oneCell' = true := by
            intro u hu
            obtain ⟨z, _, rfl⟩ := List.mem_map.1 hu
            rfl
          have hml : (zs.map (Value.int .i32)).length = len0 * 1 := by rw [List.length_map, unhide Hlen]; omega
          have Hcx := hide hcx
          have Hone := hide hone
          have Hml := hide hml
          clear hcx hone hml hx4 hx5
          go_wp2_with (at_builtin; first | (refine wpList_append_own _ rfl _ _ 31 rfl wr.heap.size 21 i0 (.int .i32 0) 1 4 Try.underlying31 hi hz0 hz1 hz2 rfl (by decide) (.slice none 0 0) 0 [] rfl (World.ownsRow_nil _ _ _ _) x len0 cap0 (zs.map (Value.int .i32)) rfl (unhide Hml) (unhide Hcx) (unhide Hone) (by unfold maxLen; omega) (by omega) (Nat.le_refl _) ?_; intro v4 W4 ho4 hg4 hnil4; simp only [Nat.zero_add, List.nil_append] at ho4; have hBp : Below wr.heap.size wr W4 := (Below.refl _ wr).grown hg4 (Nat.le_refl _) (fun k e => by cases e); have hsp := hBp.size; clear hg4 hnil4) | (refine wpList_append_own _ rfl _ _ 31 rfl wr.heap.size 21 i0 (.int .i32 0) 1 4 Try.underlying31 hi hz0 hz1 hz2 rfl (by decide) v4 len0 (zs.map (Value.int .i32)) rfl (ho4.alloc _) ⟨W4.heap.size, 0, none⟩ 1 1 [.int .i32 30583] rfl rfl (cell_one_new _ _ _) (by simp [Value.oneCell']) (by unfold maxLen; omega) (by omega) (by simp; omega) ?_; intro v6 W6 ho6 hg6' _; obtain ⟨g6, c6, rfl⟩ := ownsRow_succ ho6; have hcap0 := own_cap ho6))
          have hBq : Below wr.heap.size wr W6 := (hBp.alloc hsp _).grown hg6' (by simp; omega) (fun k e => (ho4.lt k e).1)
          clear hg6' hBp hsp ho4
          have hcap : len0 + 1 ≤ c6 := by
            rcases ho6.2 with ⟨e, _⟩ | ⟨g, cap, cur, e, _, _, h, _⟩
            · cases e
            · simp at e; omega
          have hlz : (zs).length = len0 := unhide Hlen
          have hr6 : RS W6 (.slice (some ⟨g6, 0, none⟩) len0 c6) (zs) := by
            refine .inr ⟨g6, 0, c6, by rw [hlz], fun j hj => ?_⟩
            rw [Nat.zero_add, ho6.cellAt j (by omega), List.getElem?_append_left (by simpa using hj)]
            simp [List.getElem?_eq_getElem hj]
          have hc6 : W6.cell? ⟨g6, len0, none⟩ = some (.int .i32 30583) := by
            rw [ho6.cellAt len0 (by omega), List.getElem?_append_right (by simp; omega)]
            simp [hlz]
          have hg6 := cell_lt hc6
          clear ho6
          have Hr6 := hide hr6
          have Hlz := hide hlz
          clear hr6 hlz
          go_wp2_with fail
          refine (text_in _ (zs) _ (unhide Hr6)).mono ?_
          rintro e w' ⟨rfl, rfl⟩
          go_wp2_with fail
          refine (refText_in _ (zs) _ (RS.below hBq (unhide Hrl)) (by omega)).mono ?_
          rintro e W7 ⟨rfl, hB7⟩
          have hr7 := RS.below hB7 (unhide Hr6)
          have hq7 := RS.below hB7 (RS.below hBq (unhide Hrl))
          have hc7 := (bcell hB7 g6 len0 hg6).trans hc6
          clear hc6
          have hBz := hBq.trans (hB7.mono hBq.size)
          go_wp2_with fail
          refine (same_in _ _ (zs) (zs) _ hr7 hq7 (by omega) (by omega)).mono ?_
          rintro e W8 ⟨rfl, nd, rfl⟩
          rw [show decide ((zs) = (zs)) = true from by simp]
          go_wp2_with fail
          refine (known_in _).mono ?_
          rintro e W9 ⟨rfl, hB9⟩
          go_wp2
          go_ret
          exact ⟨rfl, (hB.trans (hBz.mono hsz)).trans ((⟨hB9.os, hB9.tape, hB9.output, hB9.size, hB9.block⟩ : Below W7.heap.size W7 W9).mono (Nat.le_trans hsz hBz.size))⟩

theorem own : ownKnob Try.prog.godebug = none := by kernel_rfl
theorem laidOut : laidOutB Try.prog = true := by kernel_rfl

set_option maxRecDepth 100000 in
theorem lifted (os : Os) (started : os.Started) (H : Type) (enc : TypeId × Value → H) :
    ReturnsInHanded {} Try.checked os 5 .any (Rows.glyphTextsSpec.pre6 enc Try.prog Try.f5 Rows.glyphTextsRow.domain false) (Rows.glyphTextsSpec.post enc Try.prog Try.f5 false true false false) := by
  refine returnsInHanded_of_change (C := Try.checked) own started (by kernel_rfl) Try.func5
    (ChangeSpec.witness6 (enc := enc) (C := Try.checked) false ⟨#[], #[.slice none 0 0], []⟩ 8 (by kernel_rfl) (by kernel_rfl) (by kernel_rfl) (by kernel_rfl)) ?_
  intro W base args ds gs before hval0 hW hcnd _
  have hval : ∀ (j : Nat) t v, Try.f5.params[j]? = some t → args[j]? = some v → Value.okWide Try.prog W .any base t v := hval0
  have hW' := hW
  obtain ⟨p, q, hA0, hV, rfl, hfz, hnd⟩ := hW
  have hA : DataW.TrodAll enc Try.prog W 0 (fun _ => true) true Try.f5.params.toList args.toList ds p := hA0
  rw [Try.params5] at hA hval
  obtain ⟨v0, vs0, d0, ds0, p0, q0, hargs, rfl, rfl, h0, r0⟩ := trodAll_cons hA
  obtain ⟨rfl, rfl, rfl⟩ := trodAll_nil r0
  obtain rfl : args = #[v0] := by cases args; simp_all
  obtain ⟨rfl, rfl⟩ := trodVars_none hV
  obtain ⟨a0, len0, cap0, rfl⟩ := okWide_slice Try.underlying31 (hval 0 31 v0 rfl rfl)
  have k0 := h0
  have lt0 : ∀ x ∈ p0, x.block < W.heap.size := by obtain ⟨m, hm⟩ := k0; exact DataW.trod_lt m _ _ _ hm
  obtain ⟨z0, w0⟩ : ∃ zs, IsRow .i32 W a0 len0 cap0 zs := by
    obtain ⟨fuel, hf⟩ := h0
    rcases open_ints Try.underlying31 Try.underlying21 (by kernel_rfl) hf with ⟨hcs, _⟩ | ⟨x, l, c, zs, hcs, _, hl, hm, hz, _, hcell, hwz⟩
    · simp [Value.cells] at hcs
      obtain ⟨rfl, rfl, rfl⟩ := hcs
      exact ⟨[], .inl ⟨rfl, rfl, rfl, rfl⟩⟩
    · simp [Value.cells] at hcs
      obtain ⟨rfl, rfl, rfl⟩ := hcs
      exact ⟨zs, .inr ⟨_, rfl, hl, hm, by simpa using hz, hcell, hwz⟩⟩
  clear hA0 hval0
  refine (walk a0 len0 cap0 z0 W w0).mono fun e W' ⟨he, bel⟩ => ?_
  subst he
  exact ⟨_, rfl, _, _, _, [], _, [], hW', trodAll_mk1 (shut_bool Try.underlying4 _), (trodAll_cons_mk (Below.trod laidOut (by kernel_rfl) (of_decide_eq_true (by kernel_rfl)) k0 bel lt0) trodAll_mk0), rfl, bel.frame _, fun h => by cases h⟩

theorem over : Rows.glyphTextsRow.holds Try.pinned (OpenSpec.ofChange Rows.glyphTextsSpec) :=
  OpenClaim.holds_of_wide 5 Try.f5 rfl rfl rfl rfl rfl rfl rfl ⟨rfl, rfl, rfl, rfl, rfl⟩ rfl rfl rfl rfl rfl (by kernel_rfl) Try.func5 (by kernel_rfl)
    (of_decide_eq_true (by kernel_rfl)) (by unfold Func.isWrapper; first | (rw [if_pos (by decide +kernel)]; kernel_rfl) | (rw [if_neg (by decide +kernel)]; exact ⟨rfl, rfl⟩))
    (fun os started H enc _ => lifted os started H enc)

end LGlyphTexts

theorem glyphTexts_holds : Rows.GlyphTextsSaid := LGlyphTexts.over

end Go.Proofs.Ytnejgbjidonpiaa
