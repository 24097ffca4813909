/-
  Chapter 16's law RollTwo returns true for every two scripts, and leaves its arguments as they were; no condition.
-/
import Derived.Test.YtjcdfjnlpfineaaRows
import Derived.WalkKit
import Derived.ProofKit
import Derived.OpenShut
import Derived.ShutString
import Derived.ChangeOld
import Derived.Below
import Derived.Test.YtjcdfjnlpfineaaZRY
set_option linter.unusedVariables false
set_option linter.unusedSimpArgs false
namespace Go.Proofs.Ytjcdfjnlpfineaa
namespace LRollTwo
open Go.ChangeShapes Go.WideShapes Go.ChangeAt Go.RowKit Go.Lib
open Go.ChangeMaps (open_string shut_string)

set_option maxRecDepth 100000 in
set_option maxHeartbeats 8000000 in
theorem walk (a0 : Option Addr) (len0 cap0 : Nat) (ss : List Stp) (a1 : Option Addr) (len1 cap1 : Nat) (ts : List Stp) (w : World) (w0 : RSt w (.slice a0 len0 cap0) ss ∧ ss.length = len0 ∧ len0 ≤ maxLen ∧ ∀ e ∈ ss, StW e) (w1 : RSt w (.slice a1 len1 cap1) ts ∧ ts.length = len1 ∧ len1 ≤ maxLen ∧ ∀ e ∈ ts, StW e) :
    Calls Try.prog 5 #[.slice a0 len0 cap0, .slice a1 len1 cap1] w fun e W => e = .returned (.bool true) ∧ Below w.heap.size w W := by
  obtain ⟨hr, hln, hmx, -⟩ := w0
  obtain ⟨hr1, hln1, hmx1, -⟩ := w1
  unfold maxLen at hmx hmx1
  have HN := hide (KR.new w)
  have HR := hide (fun W => rNew_in W)
  have HK := hide (fun W => known_in W)
  have Hr := hide hr
  have Hr1 := hide hr1
  have Hln := hide hln
  have Hln1 := hide hln1
  clear hr hr1 hln hln1
  by_cases hbig : 300 < len0
  · have hbig' : (300 : Int) < (len0 : Int) := by omega
    go_enter Try.func5, Try.ntmps5
    go_wp2_with fail
    refine (unhide HK _).mono ?_
    rintro r W2 ⟨rfl, hb2⟩
    go_wp2
    go_ret
    exact ⟨rfl, hb2⟩
  · have hbig' : ¬ (300 : Int) < (len0 : Int) := by omega
    by_cases hbig1 : 300 < len1
    · have hbig1' : (300 : Int) < (len1 : Int) := by omega
      go_enter Try.func5, Try.ntmps5
      go_wp2_with fail
      refine (unhide HK _).mono ?_
      rintro r W2 ⟨rfl, hb2⟩
      go_wp2
      go_ret
      exact ⟨rfl, hb2⟩
    · have hbig1' : ¬ (300 : Int) < (len1 : Int) := by omega
      go_enter Try.func5, Try.ntmps5
      go_wp2_with fail
      refine (unhide HN).mono ?_
      rintro e W1 ⟨rfl, h1⟩
      have H1 := hide h1
      obtain ⟨X, hX⟩ : ∃ X, W1.alloc (.cells #[.int .u32 0, .int .u32 0, .int .i64 0] 44) = X := ⟨_, rfl⟩
      have x1 : RB X W1.heap.size nilS := by rw [← hX]; exact Bx.new _ _ _
      have y1 : Below W1.heap.size W1 X := by rw [← hX]; exact ballc (Below.refl _ _) _
      have X1 := hide x1
      have Y1 := hide y1
      clear h1 HN x1 y1
      go_wp2_with fail
      refine (unhide HR _).mono ?_
      rintro e W2 ⟨rfl, d2, b2⟩
      have D2 := hide d2
      have B2 := hide b2
      clear d2 b2
      go_wp2_with fail
      refine (unhide HR _).mono ?_
      rintro e W3 ⟨rfl, d3, b3⟩
      have h1 := unhide H1
      have hz := h1.bel.size
      have hlt1 := Bx.lt h1.rb
      have hltX := Bx.lt (unhide X1)
      have hlt2 := Bx.lt (unhide D2)
      have hzX := (unhide Y1).size
      have hz2 := (unhide B2).size
      have bX3 := bnext (unhide B2) b3
      have b13 := bnext (unhide Y1) bX3
      have bw := bnext h1.bel b13
      have HJ : Hid (P4 w W3 w.heap.size X.heap.size nilS W1.heap.size W2.heap.size nilS) := ⟨⟨h1.rb.below b13, (unhide D2).below b3, h1.gd, Nat.le_refl _, by omega, by omega, bw⟩, ⟨(unhide X1).below bX3, d3, Gd.nil, by omega, by omega, by omega, bw⟩, by omega, by omega, by omega, by omega⟩
      clear HR d3 b3 H1 h1 hlt1 hz hltX hlt2 hzX hz2 bX3 b13 bw X1 Y1 D2 B2 hX
      generalize w.heap.size = b at *
      generalize W1.heap.size = b2 at *
      generalize X.heap.size = r1 at *
      generalize W2.heap.size = r2 at *
      go_wp2
      go_loopw [9] (fun iv wr => ∃ (i : Nat) (s t : St), iv = .int .i64 (i : Nat) ∧ i ≤ 300 ∧ Hid (P4 w wr b r1 s b2 r2 t)) (fun iv _ => 301 - (RowKit.intOf iv).toNat)
      case atStart => exact ⟨0, _, _, rfl, by omega, HJ⟩
      case round =>
        obtain ⟨i, s, t, rfl, hi, HP⟩ := hrel
        clear HJ
        by_cases hlt : i < len0
        · have hlt' : (i : Int) < (len0 : Int) := by omega
          have hls : i < ss.length := by rw [unhide Hln]; exact hlt
          obtain ⟨x, hx⟩ : ∃ x, ss[i]? = some x := ⟨_, List.getElem?_eq_getElem hls⟩
          obtain ⟨b0, off, rfl, hb0, q0, q1⟩ := RSt.at ((unhide Hr).below (unhide HP).one.bel) hx
          have HS := hide ((unhide HP).step x)
          clear hx HP
          generalize doS s x = T at *
          generalize x.lv = k0 at *
          generalize x.site = k1 at *
          by_cases hlu : i < len1
          · have hlu' : (i : Int) < (len1 : Int) := by omega
            have hlv : i < ts.length := by rw [unhide Hln1]; exact hlu
            obtain ⟨y, hy⟩ : ∃ y, ts[i]? = some y := ⟨_, List.getElem?_eq_getElem hlv⟩
            have hr1 := unhide Hr1
            have HC := hide (fun (X : World) (h : Below w.heap.size w X) => RSt.at (hr1.below h) hy)
            have HS2 := hide (fun X (h : P4 w X b r1 T b2 r2 t) => h.swap.step y)
            clear hy hr1
            generalize doS t y = U at *
            generalize y.lv = m0 at *
            generalize y.site = m1 at *
            go_wp2_with fail
            refine (unhide HS).mono ?_
            rintro e W5 ⟨rfl, h5⟩
            have H5 := hide h5
            obtain ⟨b0', off', rfl, hb0', q0', q1'⟩ := unhide HC W5 h5.one.bel
            clear h5 HS HC
            go_wp2_with fail
            refine (unhide HS2 _ (unhide H5)).mono ?_
            rintro e W6 ⟨rfl, h6⟩
            have H6 := hide h6.swap
            clear h6 HS2
            go_wp2
            go_roundw
            case measure => show 301 - ((i : Int) + 1).toNat < 301 - ((i : Nat) : Int).toNat; omega
            case rel => exact ⟨i + 1, _, _, by go_num, by omega, H6⟩
          · have hlu' : ¬ (i : Int) < (len1 : Int) := by omega
            go_wp2_with fail
            refine (unhide HS).mono ?_
            rintro e W5 ⟨rfl, h5⟩
            have H5 := hide h5
            clear h5 HS
            go_wp2
            go_roundw
            case measure => show 301 - ((i : Int) + 1).toNat < 301 - ((i : Nat) : Int).toNat; omega
            case rel => exact ⟨i + 1, _, _, by go_num, by omega, H5⟩
        · have hlt' : ¬ (i : Int) < (len0 : Int) := by omega
          by_cases hlu : i < len1
          · have hlu' : (i : Int) < (len1 : Int) := by omega
            have hlv : i < ts.length := by rw [unhide Hln1]; exact hlu
            obtain ⟨y, hy⟩ : ∃ y, ts[i]? = some y := ⟨_, List.getElem?_eq_getElem hlv⟩
            obtain ⟨b0', off', rfl, hb0', q0', q1'⟩ := RSt.at ((unhide Hr1).below (unhide HP).one.bel) hy
            have HS2 := hide ((unhide HP).swap.step y)
            clear hy HP
            generalize doS t y = U at *
            generalize y.lv = m0 at *
            generalize y.site = m1 at *
            go_wp2_with fail
            refine (unhide HS2).mono ?_
            rintro e W6 ⟨rfl, h6⟩
            have H6 := hide h6.swap
            clear h6 HS2
            go_wp2
            go_roundw
            case measure => show 301 - ((i : Int) + 1).toNat < 301 - ((i : Nat) : Int).toNat; omega
            case rel => exact ⟨i + 1, _, _, by go_num, by omega, H6⟩
          · have hlu' : ¬ (i : Int) < (len1 : Int) := by omega
            have A1 := hide (unhide HP).one.alike
            have A2 := hide (fun X (h : P4 w X b r1 s b2 r2 t) => h.two.alike)
            have A3 := hide (alike_in (unhide HP).one.rb (unhide HP).one.db (unhide HP).one.gd)
            go_wp2_with fail
            refine (unhide A3).mono ?_
            rintro e W5 ⟨rfl, b5⟩
            have H5 := hide ((unhide HP).below b5)
            clear b5 A1 A3
            go_wp2_with fail
            refine (unhide A2 _ (unhide H5)).mono ?_
            rintro e W6 ⟨rfl, h6⟩
            have H6 := hide h6.bel
            clear h6 A2
            go_wp2_with fail
            refine (unhide HK _).mono ?_
            rintro e W8 ⟨rfl, h8⟩
            go_wp2
            go_ret
            exact ⟨rfl, bnext (unhide H6) h8⟩

theorem own : ownKnob Try.prog.godebug = none := by kernel_rfl
theorem laidOut2 : laidOutB Try.prog = true := by kernel_rfl

set_option maxRecDepth 100000 in
theorem lifted (os : Os) (started : os.Started) (H : Type) (enc : TypeId × Value → H) :
    ReturnsInHanded {} Try.checked os 5 .any (Rows.rollTwoSpec.pre6 enc Try.prog Try.f5 Rows.rollTwoRow.domain false) (Rows.rollTwoSpec.post enc Try.prog Try.f5 false true false false) := by
  refine returnsInHanded_of_change (C := Try.checked) own started (by kernel_rfl) Try.func5
    (ChangeSpec.witness6 (enc := enc) (C := Try.checked) false ⟨#[], #[.slice none 0 0, .slice none 0 0], []⟩ 8 (by kernel_rfl) (by kernel_rfl) (by kernel_rfl) (by kernel_rfl)) ?_
  intro W base args ds gs before hval0 hW hcnd _
  have hval : ∀ (j : Nat) t v, Try.f5.params[j]? = some t → args[j]? = some v → Value.okWide Try.prog W .any base t v := hval0
  have hW' := hW
  obtain ⟨p, q, hA0, hV, rfl, hfz, hnd⟩ := hW
  have hA : DataW.TrodAll enc Try.prog W 0 (fun _ => true) true Try.f5.params.toList args.toList ds p := hA0
  rw [Try.params5] at hA hval
  obtain ⟨v0, vs0, d0, ds0, p0, q0, hargs, rfl, rfl, h0, r0⟩ := trodAll_cons hA
  obtain ⟨v1, vs1, d1, ds1, p1, q1, rfl, rfl, rfl, h1, r1⟩ := trodAll_cons r0
  obtain ⟨rfl, rfl, rfl⟩ := trodAll_nil r1
  obtain rfl : args = #[v0, v1] := by cases args; simp_all
  obtain ⟨rfl, rfl⟩ := trodVars_none hV
  obtain ⟨a0, len0, cap0, rfl⟩ := okWide_slice Try.underlying22 (hval 0 22 v0 rfl rfl)
  have k0 := h0
  have lt0 : ∀ x ∈ p0, x.block < W.heap.size := by obtain ⟨m, hm⟩ := k0; exact DataW.trod_lt m _ _ _ hm
  obtain ⟨z0, w0⟩ : ∃ l : List Stp, RSt W (.slice a0 len0 cap0) l ∧ l.length = len0 ∧ len0 ≤ maxLen ∧ ∀ e ∈ l, StW e := by
    obtain ⟨fuel, hf⟩ := h0
    simp only [Value.cells] at hf
    exact open_steps hf
  obtain ⟨a1, len1, cap1, rfl⟩ := okWide_slice Try.underlying22 (hval 1 22 v1 rfl rfl)
  have k1 := h1
  have lt1 : ∀ x ∈ p1, x.block < W.heap.size := by obtain ⟨m, hm⟩ := k1; exact DataW.trod_lt m _ _ _ hm
  obtain ⟨z1, w1⟩ : ∃ l : List Stp, RSt W (.slice a1 len1 cap1) l ∧ l.length = len1 ∧ len1 ≤ maxLen ∧ ∀ e ∈ l, StW e := by
    obtain ⟨fuel, hf⟩ := h1
    simp only [Value.cells] at hf
    exact open_steps hf
  clear hA0 hval0
  refine (walk a0 len0 cap0 z0 a1 len1 cap1 z1 W w0 w1).mono fun e W' ⟨he, bel⟩ => ?_
  subst he
  exact ⟨_, rfl, _, _, _, [], _, [], hW', trodAll_mk1 (shut_bool Try.underlying4 _), (trodAll_cons_mk (Below.trod laidOut2 (by kernel_rfl) (of_decide_eq_true (by kernel_rfl)) k0 bel lt0) (trodAll_cons_mk (Below.trod laidOut2 (by kernel_rfl) (of_decide_eq_true (by kernel_rfl)) k1 bel lt1) trodAll_mk0)), rfl, bel.frame _, fun h => by cases h⟩

theorem over : Rows.rollTwoRow.holds Try.pinned (OpenSpec.ofChange Rows.rollTwoSpec) :=
  OpenClaim.holds_of_wide 5 Try.f5 rfl rfl rfl rfl rfl rfl rfl ⟨rfl, rfl, rfl, rfl, rfl⟩ rfl rfl rfl rfl rfl (by kernel_rfl) Try.func5 (by kernel_rfl)
    (of_decide_eq_true (by kernel_rfl)) (by unfold Func.isWrapper; first | (rw [if_pos (by decide +kernel)]; kernel_rfl) | (rw [if_neg (by decide +kernel)]; exact ⟨rfl, rfl⟩))
    (fun os started H enc _ => lifted os started H enc)

end LRollTwo

theorem rollTwo_holds : Rows.RollTwoSaid := LRollTwo.over

end Go.Proofs.Ytjcdfjnlpfineaa
