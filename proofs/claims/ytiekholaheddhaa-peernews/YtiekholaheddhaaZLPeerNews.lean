/-
  Chapter 17's law PeerNews returns true for every window and every push; no condition.
-/
import Derived.Test.YtiekholaheddhaaRows
import Derived.WalkKit
import Derived.ProofKit
import Derived.OpenShut
import Derived.ShutString
import Derived.ChangeOld
import Derived.Below
import Derived.Test.YtiekholaheddhaaZPQ
set_option linter.unusedVariables false
set_option linter.unusedSimpArgs false
namespace Go.Proofs.Ytiekholaheddhaa
namespace LPeerNews
open Go.ChangeShapes Go.WideShapes Go.ChangeAt Go.RowKit Go.Lib
open Go.ChangeMaps (open_string shut_string)

set_option maxRecDepth 100000 in
set_option maxHeartbeats 8000000 in
theorem walk (ls ms : Int) (w : World) (h0 : (Lit.int .i64 ls).wf = true) (h1 : (Lit.int .i64 ms).wf = true) : Calls Try.prog 3 #[.int .i64 ls, .int .i64 ms] w fun e W => e = .returned (.bool true) ∧ Below w.heap.size w W := by
  have HN := hide (New_in ls ms w)
  have HR := hide (fun W => rNew_in ls ms W)
  have HK := hide (fun W => known_in W)
  clear h0 h1
  obtain ⟨B, hB⟩ : ∃ B, newB ls ms = B := ⟨_, rfl⟩
  have HB := hide hB
  clear hB
  go_enter Try.func3, Try.ntmps3
  go_wp2_with fail
  refine (unhide HN).mono ?_
  rintro e W1 ⟨b1, h1⟩
  rw [unhide HB] at h1
  clear HN
  cases B with
  | true =>
    rcases h1 with ⟨_, rfl, a1⟩ | ⟨h, _⟩
    · have B1 := hide b1
      have A1 := hide a1
      clear b1 a1
      go_wp2_with fail
      refine (unhide HR _).mono ?_
      rintro e W2 ⟨b2, h2⟩
      rw [unhide HB] at h2
      rcases h2 with ⟨_, rfl, a2⟩ | ⟨h, _⟩
      · have HJ : Hid (PJ w W2 w.heap.size W1.heap.size (newS ls ms)) := PJ.new (unhide A1) (unhide B1) b2 a2
        have HA := hide ((unhide HJ).step ⟨0, 0, 0, 0⟩)
        unfold stC at HA
        simp only at HA
        clear HJ
        clear HR b2 a2 A1 B1
        generalize W1.heap.size = r at *
        go_wp2_with fail
        refine (unhide HA).mono ?_
        rintro e W3 ⟨rfl, h3⟩
        have H3 := hide h3.bel
        clear HA h3
        go_wp2_with fail
        refine (unhide HK _).mono ?_
        rintro e W4 ⟨rfl, b4⟩
        go_wp2
        go_ret
        exact ⟨rfl, bnext (unhide H3) b4⟩
      · cases h
    · cases h
  | false =>
    rcases h1 with ⟨h, _⟩ | ⟨_, rfl⟩
    · cases h
    · have B1 := hide b1
      clear b1
      go_wp2_with fail
      refine (unhide HR _).mono ?_
      rintro e W2 ⟨b2, h2⟩
      rw [unhide HB] at h2
      rcases h2 with ⟨h, _⟩ | ⟨_, rfl⟩
      · cases h
      · have B2 := hide (bnext (unhide B1) b2)
        clear HR b2 B1
        go_wp2_with fail
        refine (unhide HK _).mono ?_
        rintro e W4 ⟨rfl, b4⟩
        go_wp2
        go_ret
        exact ⟨rfl, bnext (unhide B2) b4⟩

theorem own : ownKnob Try.prog.godebug = none := by kernel_rfl
theorem laidOut2 : laidOutB Try.prog = true := by kernel_rfl

set_option maxRecDepth 100000 in
theorem lifted (os : Os) (started : os.Started) (H : Type) (enc : TypeId × Value → H) :
    ReturnsInHanded {} Try.checked os 3 .any (Rows.peerNewsSpec.pre6 enc Try.prog Try.f3 Rows.peerNewsRow.domain false) (Rows.peerNewsSpec.post enc Try.prog Try.f3 false true false false) := by
  refine returnsInHanded_of_change (C := Try.checked) own started (by kernel_rfl) Try.func3
    (ChangeSpec.witness6 (enc := enc) (C := Try.checked) false ⟨#[], #[.int .i64 0, .int .i64 0], []⟩ 8 (by kernel_rfl) (by kernel_rfl) (by kernel_rfl) (by kernel_rfl)) ?_
  intro W base args ds gs before hval0 hW hcnd _
  have hval : ∀ (j : Nat) t v, Try.f3.params[j]? = some t → args[j]? = some v → Value.okWide Try.prog W .any base t v := hval0
  have hW' := hW
  obtain ⟨p, q, hA0, hV, rfl, hfz, hnd⟩ := hW
  have hA : DataW.TrodAll enc Try.prog W 0 (fun _ => true) true Try.f3.params.toList args.toList ds p := hA0
  rw [Try.params3] at hA hval
  obtain ⟨v0, vs0, d0, ds0, p0, q0, hargs, rfl, rfl, h0, r0⟩ := trodAll_cons hA
  obtain ⟨v1, vs1, d1, ds1, p1, q1, rfl, rfl, rfl, h1, r1⟩ := trodAll_cons r0
  obtain ⟨rfl, rfl, rfl⟩ := trodAll_nil r1
  obtain rfl : args = #[v0, v1] := by cases args; simp_all
  obtain ⟨rfl, rfl⟩ := trodVars_none hV
  obtain ⟨a0, rfl, rfl, rfl, w0⟩ := open_int Try.underlying3 (hval 0 3 v0 rfl rfl) h0
  obtain ⟨a1, rfl, rfl, rfl, w1⟩ := open_int Try.underlying3 (hval 1 3 v1 rfl rfl) h1
  clear hA0 hval0
  refine (walk a0 a1 W w0 w1).mono fun e W' ⟨he, bel⟩ => ?_
  subst he
  exact ⟨_, rfl, _, _, _, [], _, [], hW', trodAll_mk1 (shut_bool Try.underlying4 _), (trodAll_cons_mk (shut_int Try.underlying3 w0) (trodAll_cons_mk (shut_int Try.underlying3 w1) trodAll_mk0)), rfl, bel.frame _, fun h => by cases h⟩

theorem over : Rows.peerNewsRow.holds Try.pinned (OpenSpec.ofChange Rows.peerNewsSpec) :=
  OpenClaim.holds_of_wide 3 Try.f3 rfl rfl rfl rfl rfl rfl rfl ⟨rfl, rfl, rfl, rfl, rfl⟩ rfl rfl rfl rfl rfl (by kernel_rfl) Try.func3 (by kernel_rfl)
    (of_decide_eq_true (by kernel_rfl)) (by unfold Func.isWrapper; first | (rw [if_pos (by decide +kernel)]; kernel_rfl) | (rw [if_neg (by decide +kernel)]; exact ⟨rfl, rfl⟩))
    (fun os started H enc _ => lifted os started H enc)

end LPeerNews

theorem peerNews_holds : Rows.PeerNewsSaid := LPeerNews.over

end Go.Proofs.Ytiekholaheddhaa
