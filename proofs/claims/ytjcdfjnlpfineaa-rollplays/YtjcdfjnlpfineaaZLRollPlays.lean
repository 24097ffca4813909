/-
  Chapter 16's law RollPlays returns true for every script and every number, and leaves its argument as it was; no condition.
-/
import Derived.Test.YtjcdfjnlpfineaaRows
import Derived.WalkKit
import Derived.ProofKit
import Derived.OpenShut
import Derived.ShutString
import Derived.ChangeOld
import Derived.Below
import Derived.Test.YtjcdfjnlpfineaaZRY
set_option linter.unusedVariables false
set_option linter.unusedSimpArgs false
namespace Go.Proofs.Ytjcdfjnlpfineaa
namespace LRollPlays
open Go.ChangeShapes Go.WideShapes Go.ChangeAt Go.RowKit Go.Lib
open Go.ChangeMaps (open_string shut_string)

set_option maxRecDepth 100000 in
set_option maxHeartbeats 8000000 in
theorem walk (a0 : Option Addr) (len0 cap0 : Nat) (ss : List Stp) (n : Int) (w : World) (w0 : RSt w (.slice a0 len0 cap0) ss ∧ ss.length = len0 ∧ len0 ≤ maxLen ∧ ∀ e ∈ ss, StW e) (h1 : (Lit.int .i64 n).wf = true) :
    Calls Try.prog 3 #[.slice a0 len0 cap0, .int .i64 n] w fun e W => e = .returned (.bool true) ∧ Below w.heap.size w W := by
  obtain ⟨hr, hln, hmx, -⟩ := w0
  unfold maxLen at hmx
  have HN := hide (KR.new w)
  have HR := hide (fun W => rNew_in W)
  have HK := hide (fun W => known_in W)
  have Hr := hide hr
  have Hln := hide hln
  clear hr hln h1
  by_cases hbig : 300 < len0
  · have hbig' : (300 : Int) < (len0 : Int) := by omega
    go_enter Try.func3, Try.ntmps3
    go_wp2_with fail
    refine (unhide HK _).mono ?_
    rintro r W2 ⟨rfl, hb2⟩
    go_wp2
    go_ret
    exact ⟨rfl, hb2⟩
  · have hbig' : ¬ (300 : Int) < (len0 : Int) := by omega
    go_enter Try.func3, Try.ntmps3
    go_wp2_with fail
    refine (unhide HN).mono ?_
    rintro e W1 ⟨rfl, h1⟩
    have H1 := hide h1
    clear h1 HN
    go_wp2_with fail
    refine (unhide HR _).mono ?_
    rintro e W2 ⟨rfl, d2, b2⟩
    have h1 := unhide H1
    have hz := h1.bel.size
    have hlt1 := Bx.lt h1.rb
    have HJ : Hid (PJ w W2 w.heap.size W1.heap.size nilS) := ⟨h1.rb.below b2, d2, h1.gd, Nat.le_refl _, by omega, by omega, bnext h1.bel b2⟩
    clear HR d2 b2 H1 h1 hlt1 hz
    generalize w.heap.size = b at *
    generalize W1.heap.size = rr at *
    go_wp2
    go_loopw [7] (fun iv wr => ∃ (i : Nat) (s : St), iv = .int .i64 (i : Nat) ∧ i ≤ len0 ∧ Hid (PJ w wr b rr s)) (fun iv _ => len0 - (RowKit.intOf iv).toNat)
    case atStart => exact ⟨0, _, rfl, by omega, HJ⟩
    case round =>
      obtain ⟨i, s, rfl, hi, HP⟩ := hrel
      clear HJ
      by_cases hlt : i < len0
      · have hlt' : (i : Int) < (len0 : Int) := by omega
        have hls : i < ss.length := by rw [unhide Hln]; exact hlt
        obtain ⟨x, hx⟩ : ∃ x, ss[i]? = some x := ⟨_, List.getElem?_eq_getElem hls⟩
        obtain ⟨b0, off, rfl, hb0, q0, q1⟩ := RSt.at ((unhide Hr).below (unhide HP).bel) hx
        have HS := hide ((unhide HP).step x)
        have HA := hide (fun W (h : PJ w W b rr (doS s x)) => h.alike)
        clear hx HP
        generalize doS s x = T at *
        generalize x.lv = k0 at *
        generalize x.site = k1 at *
        go_wp2_with fail
        refine (unhide HS).mono ?_
        rintro e W5 ⟨rfl, h5⟩
        have H5 := hide h5
        clear h5 HS
        go_wp2_with fail
        refine (unhide HA _ (unhide H5)).mono ?_
        rintro e W6 ⟨rfl, h6⟩
        have H6 := hide h6
        clear h6 HA
        go_wp2
        go_roundw
        case measure => show len0 - ((i : Int) + 1).toNat < len0 - ((i : Nat) : Int).toNat; omega
        case rel => exact ⟨i + 1, _, by go_num, by omega, H6⟩
      · have hlt' : ¬ (i : Int) < (len0 : Int) := by omega
        have HA := hide (unhide HP).alike
        have A1 := hide (fun X (hX : PJ w X b rr s) => Has_in hX.rb n)
        have A2 := hide (fun X (hX : PJ w X b rr s) => rHas_in hX.db n)
        have A3 := hide (fun X (hX : PJ w X b rr s) => Known_in hX.rb n)
        have A4 := hide (fun X (hX : PJ w X b rr s) => rKnown_in hX.db n)
        generalize hasB s n = p at *
        generalize knwB s n = q at *
        have hp : (p == p) = true := by simp
        have hq : (q == q) = true := by simp
        clear HP
        go_wp2_with fail
        refine (unhide HA).mono ?_
        rintro e W5 ⟨rfl, h5⟩
        have H5 := hide h5
        clear h5 HA
        go_wp2_with fail
        refine (unhide A1 _ (unhide H5)).mono ?_
        rintro e W6 ⟨rfl, b6⟩
        have H6 := hide ((unhide H5).below b6)
        clear b6 H5
        go_wp2_with fail
        refine (unhide A2 _ (unhide H6)).mono ?_
        rintro e W6' ⟨rfl, rfl⟩
        go_wp2_with fail
        refine (unhide A3 _ (unhide H6)).mono ?_
        rintro e W7 ⟨rfl, b7⟩
        have H7 := hide ((unhide H6).below b7)
        clear b7 H6
        go_wp2_with fail
        refine (unhide A4 _ (unhide H7)).mono ?_
        rintro e W7' ⟨rfl, rfl⟩
        go_wp2_with fail
        refine (unhide HK _).mono ?_
        rintro e W8 ⟨rfl, h8⟩
        go_wp2
        go_ret
        exact ⟨rfl, bnext (unhide H7).bel h8⟩

theorem own : ownKnob Try.prog.godebug = none := by kernel_rfl
theorem laidOut2 : laidOutB Try.prog = true := by kernel_rfl

set_option maxRecDepth 100000 in
theorem lifted (os : Os) (started : os.Started) (H : Type) (enc : TypeId × Value → H) :
    ReturnsInHanded {} Try.checked os 3 .any (Rows.rollPlaysSpec.pre6 enc Try.prog Try.f3 Rows.rollPlaysRow.domain false) (Rows.rollPlaysSpec.post enc Try.prog Try.f3 false true false false) := by
  refine returnsInHanded_of_change (C := Try.checked) own started (by kernel_rfl) Try.func3
    (ChangeSpec.witness6 (enc := enc) (C := Try.checked) false ⟨#[], #[.slice none 0 0, .int .i64 0], []⟩ 8 (by kernel_rfl) (by kernel_rfl) (by kernel_rfl) (by kernel_rfl)) ?_
  intro W base args ds gs before hval0 hW hcnd _
  have hval : ∀ (j : Nat) t v, Try.f3.params[j]? = some t → args[j]? = some v → Value.okWide Try.prog W .any base t v := hval0
  have hW' := hW
  obtain ⟨p, q, hA0, hV, rfl, hfz, hnd⟩ := hW
  have hA : DataW.TrodAll enc Try.prog W 0 (fun _ => true) true Try.f3.params.toList args.toList ds p := hA0
  rw [Try.params3] at hA hval
  obtain ⟨v0, vs0, d0, ds0, p0, q0, hargs, rfl, rfl, h0, r0⟩ := trodAll_cons hA
  obtain ⟨v1, vs1, d1, ds1, p1, q1, rfl, rfl, rfl, h1, r1⟩ := trodAll_cons r0
  obtain ⟨rfl, rfl, rfl⟩ := trodAll_nil r1
  obtain rfl : args = #[v0, v1] := by cases args; simp_all
  obtain ⟨rfl, rfl⟩ := trodVars_none hV
  obtain ⟨a0, len0, cap0, rfl⟩ := okWide_slice Try.underlying22 (hval 0 22 v0 rfl rfl)
  have k0 := h0
  have lt0 : ∀ x ∈ p0, x.block < W.heap.size := by obtain ⟨m, hm⟩ := k0; exact DataW.trod_lt m _ _ _ hm
  obtain ⟨z0, w0⟩ : ∃ l : List Stp, RSt W (.slice a0 len0 cap0) l ∧ l.length = len0 ∧ len0 ≤ maxLen ∧ ∀ e ∈ l, StW e := by
    obtain ⟨fuel, hf⟩ := h0
    simp only [Value.cells] at hf
    exact open_steps hf
  obtain ⟨a1, rfl, rfl, rfl, w1⟩ := open_int Try.underlying3 (hval 1 3 v1 rfl rfl) h1
  clear hA0 hval0
  refine (walk a0 len0 cap0 z0 a1 W w0 w1).mono fun e W' ⟨he, bel⟩ => ?_
  subst he
  exact ⟨_, rfl, _, _, _, [], _, [], hW', trodAll_mk1 (shut_bool Try.underlying4 _), (trodAll_cons_mk (Below.trod laidOut2 (by kernel_rfl) (of_decide_eq_true (by kernel_rfl)) k0 bel lt0) (trodAll_cons_mk (shut_int Try.underlying3 w1) trodAll_mk0)), rfl, bel.frame _, fun h => by cases h⟩

theorem over : Rows.rollPlaysRow.holds Try.pinned (OpenSpec.ofChange Rows.rollPlaysSpec) :=
  OpenClaim.holds_of_wide 3 Try.f3 rfl rfl rfl rfl rfl rfl rfl ⟨rfl, rfl, rfl, rfl, rfl⟩ rfl rfl rfl rfl rfl (by kernel_rfl) Try.func3 (by kernel_rfl)
    (of_decide_eq_true (by kernel_rfl)) (by unfold Func.isWrapper; first | (rw [if_pos (by decide +kernel)]; kernel_rfl) | (rw [if_neg (by decide +kernel)]; exact ⟨rfl, rfl⟩))
    (fun os started H enc _ => lifted os started H enc)

end LRollPlays

theorem rollPlays_holds : Rows.RollPlaysSaid := LRollPlays.over

end Go.Proofs.Ytjcdfjnlpfineaa
