/-
  Chapter 17's law PeerPlays returns true for every window, every push and every script, and leaves its argument as it was; no condition.
-/
import Derived.Test.YtiekholaheddhaaRows
import Derived.WalkKit
import Derived.ProofKit
import Derived.OpenShut
import Derived.ShutString
import Derived.ChangeOld
import Derived.Below
import Derived.Test.YtiekholaheddhaaZPQ
set_option linter.unusedVariables false
set_option linter.unusedSimpArgs false
namespace Go.Proofs.Ytiekholaheddhaa
namespace LPeerPlays
open Go.ChangeShapes Go.WideShapes Go.ChangeAt Go.RowKit Go.Lib
open Go.ChangeMaps (open_string shut_string)

set_option maxRecDepth 100000 in
set_option maxHeartbeats 8000000 in
theorem walk (ls ms : Int) (a0 : Option Addr) (len0 cap0 : Nat) (ss : List Stp) (w : World) (h0 : (Lit.int .i64 ls).wf = true) (h1 : (Lit.int .i64 ms).wf = true) (w0 : RSt w (.slice a0 len0 cap0) ss ∧ ss.length = len0 ∧ len0 ≤ maxLen ∧ ∀ e ∈ ss, StW e) :
    Calls Try.prog 4 #[.int .i64 ls, .int .i64 ms, .slice a0 len0 cap0] w fun e W => e = .returned (.bool true) ∧ Below w.heap.size w W := by
  obtain ⟨hr, hln, hmx, hst⟩ := w0
  unfold maxLen at hmx
  have HN := hide (New_in ls ms w)
  have HR := hide (fun W => rNew_in ls ms W)
  have HK := hide (fun W => known_in W)
  clear h0 h1
  by_cases hbig : 500 < len0
  · have hbig' : (500 : Int) < (len0 : Int) := by omega
    clear HN HR hr hln hst
    go_enter Try.func4, Try.ntmps4
    go_wp2_with fail
    refine (unhide HK _).mono ?_
    rintro r W2 ⟨rfl, hb2⟩
    go_wp2
    go_ret
    exact ⟨rfl, hb2⟩
  · have hbig' : ¬ (500 : Int) < (len0 : Int) := by omega
    have Hln := hide hln
    have Hr := hide hr
    have Hst := hide hst
    clear hr hst hln
    obtain ⟨B, hB⟩ : ∃ B, newB ls ms = B := ⟨_, rfl⟩
    have HB := hide hB
    clear hB
    go_enter Try.func4, Try.ntmps4
    go_wp2_with fail
    refine (unhide HN).mono ?_
    rintro e W1 ⟨b1, h1⟩
    rw [unhide HB] at h1
    clear HN
    cases B with
    | false =>
      rcases h1 with ⟨h, _⟩ | ⟨_, rfl⟩
      · cases h
      · have B1 := hide b1
        clear b1
        go_wp2_with fail
        refine (unhide HR _).mono ?_
        rintro e W2 ⟨b2, h2⟩
        rw [unhide HB] at h2
        rcases h2 with ⟨h, _⟩ | ⟨_, rfl⟩
        · cases h
        · have B2 := hide (bnext (unhide B1) b2)
          clear HR b2 B1
          go_wp2
          go_loopw [11] (fun iv wr => iv = .int .i64 0 ∧ Hid (Below w.heap.size w wr)) (fun _ _ => 0)
          case atStart => exact ⟨rfl, B2⟩
          case round =>
            obtain ⟨rfl, HBl⟩ := hrel
            by_cases hlt : 0 < len0
            · have hlt' : (0 : Int) < (len0 : Int) := by omega
              go_wp2_with fail
              refine (unhide HK _).mono ?_
              rintro e W4 ⟨rfl, b4⟩
              go_wp2
              go_ret
              exact ⟨rfl, bnext (unhide HBl) b4⟩
            · have hlt' : ¬ (0 : Int) < (len0 : Int) := by omega
              go_wp2_with fail
              refine (unhide HK _).mono ?_
              rintro e W4 ⟨rfl, b4⟩
              go_wp2
              go_ret
              exact ⟨rfl, bnext (unhide HBl) b4⟩
    | true =>
      rcases h1 with ⟨_, rfl, a1⟩ | ⟨h, _⟩
      · have B1 := hide b1
        have A1 := hide a1
        clear b1 a1
        go_wp2_with fail
        refine (unhide HR _).mono ?_
        rintro e W2 ⟨b2, h2⟩
        rw [unhide HB] at h2
        rcases h2 with ⟨_, rfl, a2⟩ | ⟨h, _⟩
        · have HJ : Hid (PJ w W2 w.heap.size W1.heap.size (newS ls ms)) := PJ.new (unhide A1) (unhide B1) b2 a2
          clear HR b2 a2 A1 B1
          generalize W1.heap.size = rr at *
          go_wp2
          go_loopw [11] (fun iv wr => ∃ (i : Nat) (S : St), iv = .int .i64 (i : Nat) ∧ i ≤ len0 ∧ Hid (PJ w wr w.heap.size rr S)) (fun iv _ => len0 - (RowKit.intOf iv).toNat)
          case atStart => exact ⟨0, _, rfl, by omega, HJ⟩
          case round =>
            obtain ⟨i, S, rfl, hi, HP⟩ := hrel
            clear HJ
            by_cases hlt : i < len0
            · have hlt' : (i : Int) < (len0 : Int) := by omega
              have hls : i < ss.length := by rw [unhide Hln]; exact hlt
              obtain ⟨s, hx⟩ : ∃ s, ss[i]? = some s := ⟨_, List.getElem?_eq_getElem hls⟩
              obtain ⟨b0, off, rfl, hb0, q0, q1, q2, q3⟩ := RSt.at ((unhide Hr).below (unhide HP).bel) hx
              have hw := unhide Hst s (List.mem_of_getElem? hx)
              have HS := hide ((unhide HP).step s)
              unfold stC at HS
              obtain ⟨T, hT⟩ : ∃ T, doS S s = T := ⟨_, rfl⟩
              rw [hT] at HS
              clear hx hw hT
              generalize s.kind = k0 at *
              generalize s.num = k1 at *
              generalize s.got = k2 at *
              generalize s.crd = k3 at *
              go_wp2_with fail
              refine (unhide HS).mono ?_
              rintro e W5 ⟨rfl, h5⟩
              have H5 := hide h5
              clear h5 HS
              go_wp2
              go_roundw
              case measure => show len0 - ((i : Int) + 1).toNat < len0 - ((i : Nat) : Int).toNat; omega
              case rel => exact ⟨i + 1, _, by go_num, by omega, H5⟩
            · have hlt' : ¬ (i : Int) < (len0 : Int) := by omega
              go_wp2_with fail
              refine (unhide HK _).mono ?_
              rintro r W5 ⟨rfl, hb5⟩
              go_wp2
              go_ret
              exact ⟨rfl, bnext (unhide HP).bel hb5⟩
        · cases h
      · cases h

theorem own : ownKnob Try.prog.godebug = none := by kernel_rfl
theorem laidOut2 : laidOutB Try.prog = true := by kernel_rfl

set_option maxRecDepth 100000 in
theorem lifted (os : Os) (started : os.Started) (H : Type) (enc : TypeId × Value → H) :
    ReturnsInHanded {} Try.checked os 4 .any (Rows.peerPlaysSpec.pre6 enc Try.prog Try.f4 Rows.peerPlaysRow.domain false) (Rows.peerPlaysSpec.post enc Try.prog Try.f4 false true false false) := by
  refine returnsInHanded_of_change (C := Try.checked) own started (by kernel_rfl) Try.func4
    (ChangeSpec.witness6 (enc := enc) (C := Try.checked) false ⟨#[], #[.int .i64 0, .int .i64 0, .slice none 0 0], []⟩ 8 (by kernel_rfl) (by kernel_rfl) (by kernel_rfl) (by kernel_rfl)) ?_
  intro W base args ds gs before hval0 hW hcnd _
  have hval : ∀ (j : Nat) t v, Try.f4.params[j]? = some t → args[j]? = some v → Value.okWide Try.prog W .any base t v := hval0
  have hW' := hW
  obtain ⟨p, q, hA0, hV, rfl, hfz, hnd⟩ := hW
  have hA : DataW.TrodAll enc Try.prog W 0 (fun _ => true) true Try.f4.params.toList args.toList ds p := hA0
  rw [Try.params4] at hA hval
  obtain ⟨v0, vs0, d0, ds0, p0, q0, hargs, rfl, rfl, h0, r0⟩ := trodAll_cons hA
  obtain ⟨v1, vs1, d1, ds1, p1, q1, rfl, rfl, rfl, h1, r1⟩ := trodAll_cons r0
  obtain ⟨v2, vs2, d2, ds2, p2, q2, rfl, rfl, rfl, h2, r2⟩ := trodAll_cons r1
  obtain ⟨rfl, rfl, rfl⟩ := trodAll_nil r2
  obtain rfl : args = #[v0, v1, v2] := by cases args; simp_all
  obtain ⟨rfl, rfl⟩ := trodVars_none hV
  obtain ⟨a0, rfl, rfl, rfl, w0⟩ := open_int Try.underlying3 (hval 0 3 v0 rfl rfl) h0
  obtain ⟨a1, rfl, rfl, rfl, w1⟩ := open_int Try.underlying3 (hval 1 3 v1 rfl rfl) h1
  obtain ⟨a2, len2, cap2, rfl⟩ := okWide_slice Try.underlying34 (hval 2 34 v2 rfl rfl)
  have k2 := h2
  have lt2 : ∀ x ∈ p2, x.block < W.heap.size := by obtain ⟨m, hm⟩ := k2; exact DataW.trod_lt m _ _ _ hm
  obtain ⟨z2, w2⟩ : ∃ l : List Stp, RSt W (.slice a2 len2 cap2) l ∧ l.length = len2 ∧ len2 ≤ maxLen ∧ ∀ e ∈ l, StW e := by
    obtain ⟨fuel, hf⟩ := h2
    simp only [Value.cells] at hf
    exact open_steps hf
  clear hA0 hval0
  refine (walk a0 a1 a2 len2 cap2 z2 W w0 w1 w2).mono fun e W' ⟨he, bel⟩ => ?_
  subst he
  exact ⟨_, rfl, _, _, _, [], _, [], hW', trodAll_mk1 (shut_bool Try.underlying4 _), (trodAll_cons_mk (shut_int Try.underlying3 w0) (trodAll_cons_mk (shut_int Try.underlying3 w1) (trodAll_cons_mk (Below.trod laidOut2 (by kernel_rfl) (of_decide_eq_true (by kernel_rfl)) k2 bel lt2) trodAll_mk0))), rfl, bel.frame _, fun h => by cases h⟩

theorem over : Rows.peerPlaysRow.holds Try.pinned (OpenSpec.ofChange Rows.peerPlaysSpec) :=
  OpenClaim.holds_of_wide 4 Try.f4 rfl rfl rfl rfl rfl rfl rfl ⟨rfl, rfl, rfl, rfl, rfl⟩ rfl rfl rfl rfl rfl (by kernel_rfl) Try.func4 (by kernel_rfl)
    (of_decide_eq_true (by kernel_rfl)) (by unfold Func.isWrapper; first | (rw [if_pos (by decide +kernel)]; kernel_rfl) | (rw [if_neg (by decide +kernel)]; exact ⟨rfl, rfl⟩))
    (fun os started H enc _ => lifted os started H enc)

end LPeerPlays

theorem peerPlays_holds : Rows.PeerPlaysSaid := LPeerPlays.over

end Go.Proofs.Ytiekholaheddhaa
