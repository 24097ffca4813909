/-
  Chapter 17's law PeerNothing returns true for every script, and leaves its argument as it was; no condition.
-/
import Derived.Test.YtiekholaheddhaaRows
import Derived.WalkKit
import Derived.ProofKit
import Derived.OpenShut
import Derived.ShutString
import Derived.ChangeOld
import Derived.Below
import Derived.Test.YtiekholaheddhaaZPQ
set_option linter.unusedVariables false
set_option linter.unusedSimpArgs false
namespace Go.Proofs.Ytiekholaheddhaa
namespace LPeerNothing
open Go.ChangeShapes Go.WideShapes Go.ChangeAt Go.RowKit Go.Lib
open Go.ChangeMaps (open_string shut_string)

set_option maxRecDepth 100000 in
set_option maxHeartbeats 8000000 in
theorem walk (a0 : Option Addr) (len0 cap0 : Nat) (ss : List Stp) (w : World) (w0 : RSt w (.slice a0 len0 cap0) ss ∧ ss.length = len0 ∧ len0 ≤ maxLen ∧ ∀ e ∈ ss, StW e) :
    Calls Try.prog 6 #[.slice a0 len0 cap0] w fun e W => e = .returned (.bool true) ∧ Below w.heap.size w W := by
  obtain ⟨hr, hln, hmx, hst⟩ := w0
  unfold maxLen at hmx
  have HK := hide (fun W => known_in W)
  by_cases hbig : 500 < len0
  · have hbig' : (500 : Int) < (len0 : Int) := by omega
    clear hr hln hst
    go_enter Try.func6, Try.ntmps6
    go_wp2_with fail
    refine (unhide HK _).mono ?_
    rintro r W2 ⟨rfl, hb2⟩
    go_wp2
    go_ret
    exact ⟨rfl, hb2⟩
  · have hbig' : ¬ (500 : Int) < (len0 : Int) := by omega
    have Hln := hide hln
    have Hr := hide hr
    have Hst := hide hst
    clear hr hst hln
    obtain ⟨X, hX⟩ : ∃ X, w.alloc (.cells #[.int .i64 0, .int .i64 0, .int .i64 0, .slice none 0 0, .int .i64 0, .int .i64 0] 39) = X := ⟨_, rfl⟩
    obtain ⟨Y, hY⟩ : ∃ Y, X.alloc (.cells #[.int .i64 0, .int .i64 0, .int .i64 0, .slice none 0 0, .int .i64 0, .int .i64 0] 41) = Y := ⟨_, rfl⟩
    have HJ := hide (zero_pair w hX hY)
    have zX : X.heap.size = w.heap.size + 1 := by rw [← hX]; simp
    go_enter Try.func6, Try.ntmps6
    go_wp2
    go_loopw [6] (fun iv wr => ∃ (i : Nat) (S : St), iv = .int .i64 (i : Nat) ∧ i ≤ len0 ∧ Hid (PJ w wr w.heap.size (w.heap.size + 1) S)) (fun iv _ => len0 - (RowKit.intOf iv).toNat)
    case atStart => exact ⟨0, _, rfl, by omega, HJ⟩
    case round =>
      obtain ⟨i, S, rfl, hi, HP⟩ := hrel
      clear HJ hX hY
      by_cases hlt : i < len0
      · have hlt' : (i : Int) < (len0 : Int) := by omega
        have hls : i < ss.length := by rw [unhide Hln]; exact hlt
        obtain ⟨s, hx⟩ : ∃ s, ss[i]? = some s := ⟨_, List.getElem?_eq_getElem hls⟩
        obtain ⟨b0, off, rfl, hb0, q0, q1, q2, q3⟩ := RSt.at ((unhide Hr).below (unhide HP).bel) hx
        have hw := unhide Hst s (List.mem_of_getElem? hx)
        obtain ⟨V, hV⟩ : ∃ V, wr.alloc (.cells #[.int .i64 s.kind, .int .i64 s.num, .int .i64 s.got, .int .i64 s.crd] 31) = V := ⟨_, rfl⟩
        have bV : Below wr.heap.size wr V := by rw [← hV]; exact ballc (Below.refl _ _) _
        have BV : Bx V wr.heap.size 31 #[.int .i64 s.kind, .int .i64 s.num, .int .i64 s.got, .int .i64 s.crd] := by rw [← hV]; exact Bx.new _ _ _
        have HS := hide ((unhide HP).stepB bV BV (Nat.le_refl _) s)
        have c0 : V.cell? ⟨wr.heap.size, 0, none⟩ = some (.int .i64 s.kind) := BV.cell 0 _ rfl
        have c1 : V.cell? ⟨wr.heap.size, 1, none⟩ = some (.int .i64 s.num) := BV.cell 1 _ rfl
        have c2 : V.cell? ⟨wr.heap.size, 2, none⟩ = some (.int .i64 s.got) := BV.cell 2 _ rfl
        have c3 : V.cell? ⟨wr.heap.size, 3, none⟩ = some (.int .i64 s.crd) := BV.cell 3 _ rfl
        have HO := hide (fun Z => Clear_nil Z)
        have H1 := hide (fun Z => Send_nil s.num Z)
        have H2 := hide (fun Z => Heard_nil s.num s.got s.crd Z)
        have H3 := hide (fun Z => Flight_nil Z)
        have H4 := hide (fun Z => Got_nil Z)
        have H5' := hide (fun Z => Credit_nil Z)
        unfold stC at HS
        obtain ⟨T, hT⟩ : ∃ T, doS S s = T := ⟨_, rfl⟩
        rw [hT] at HS
        clear hx hw hT bV BV
        generalize s.kind = k0 at *
        generalize s.num = k1 at *
        generalize s.got = k2 at *
        generalize s.crd = k3 at *
        generalize hbx : wr.heap.size = bx at *
        go_wp2_with fail
        refine (unhide HO _).mono ?_
        rintro e W6 ⟨rfl, rfl⟩
        go_wp2_with fail
        refine (unhide H1 _).mono ?_
        rintro e W6 ⟨rfl, rfl⟩
        go_wp2_with fail
        refine (unhide HS).mono ?_
        rintro e W5 ⟨rfl, h5, b5⟩
        have H5 := hide h5
        have d1 : W5.cell? ⟨bx, 1, none⟩ = some (.int .i64 k1) := b5.cell 1 _ rfl
        have d2 : W5.cell? ⟨bx, 2, none⟩ = some (.int .i64 k2) := b5.cell 2 _ rfl
        have d3 : W5.cell? ⟨bx, 3, none⟩ = some (.int .i64 k3) := b5.cell 3 _ rfl
        clear h5 HS b5 c0 c1 c2 c3
        go_wp2_with fail
        refine (unhide H2 _).mono ?_
        rintro e W6 ⟨rfl, rfl⟩
        go_wp2_with fail
        refine (unhide H3 _).mono ?_
        rintro e W6 ⟨rfl, rfl⟩
        go_wp2_with fail
        refine (unhide H4 _).mono ?_
        rintro e W6 ⟨rfl, rfl⟩
        go_wp2_with fail
        refine (unhide H5' _).mono ?_
        rintro e W6 ⟨rfl, rfl⟩
        go_wp2
        go_roundw
        case measure => show len0 - ((i : Int) + 1).toNat < len0 - ((i : Nat) : Int).toNat; omega
        case rel => exact ⟨i + 1, _, by go_num, by omega, H5⟩
      · have hlt' : ¬ (i : Int) < (len0 : Int) := by omega
        go_wp2_with fail
        refine (unhide HK _).mono ?_
        rintro r W5 ⟨rfl, hb5⟩
        go_wp2
        go_ret
        exact ⟨rfl, bnext (unhide HP).bel hb5⟩

theorem own : ownKnob Try.prog.godebug = none := by kernel_rfl
theorem laidOut2 : laidOutB Try.prog = true := by kernel_rfl

set_option maxRecDepth 100000 in
theorem lifted (os : Os) (started : os.Started) (H : Type) (enc : TypeId × Value → H) :
    ReturnsInHanded {} Try.checked os 6 .any (Rows.peerNothingSpec.pre6 enc Try.prog Try.f6 Rows.peerNothingRow.domain false) (Rows.peerNothingSpec.post enc Try.prog Try.f6 false true false false) := by
  refine returnsInHanded_of_change (C := Try.checked) own started (by kernel_rfl) Try.func6
    (ChangeSpec.witness6 (enc := enc) (C := Try.checked) false ⟨#[], #[.slice none 0 0], []⟩ 8 (by kernel_rfl) (by kernel_rfl) (by kernel_rfl) (by kernel_rfl)) ?_
  intro W base args ds gs before hval0 hW hcnd _
  have hval : ∀ (j : Nat) t v, Try.f6.params[j]? = some t → args[j]? = some v → Value.okWide Try.prog W .any base t v := hval0
  have hW' := hW
  obtain ⟨p, q, hA0, hV, rfl, hfz, hnd⟩ := hW
  have hA : DataW.TrodAll enc Try.prog W 0 (fun _ => true) true Try.f6.params.toList args.toList ds p := hA0
  rw [Try.params6] at hA hval
  obtain ⟨v0, vs0, d0, ds0, p0, q0, hargs, rfl, rfl, h0, r0⟩ := trodAll_cons hA
  obtain ⟨rfl, rfl, rfl⟩ := trodAll_nil r0
  obtain rfl : args = #[v0] := by cases args; simp_all
  obtain ⟨rfl, rfl⟩ := trodVars_none hV
  obtain ⟨a0, len0, cap0, rfl⟩ := okWide_slice Try.underlying34 (hval 0 34 v0 rfl rfl)
  have k0 := h0
  have lt0 : ∀ x ∈ p0, x.block < W.heap.size := by obtain ⟨m, hm⟩ := k0; exact DataW.trod_lt m _ _ _ hm
  obtain ⟨z0, w0⟩ : ∃ l : List Stp, RSt W (.slice a0 len0 cap0) l ∧ l.length = len0 ∧ len0 ≤ maxLen ∧ ∀ e ∈ l, StW e := by
    obtain ⟨fuel, hf⟩ := h0
    simp only [Value.cells] at hf
    exact open_steps hf
  clear hA0 hval0
  refine (walk a0 len0 cap0 z0 W w0).mono fun e W' ⟨he, bel⟩ => ?_
  subst he
  exact ⟨_, rfl, _, _, _, [], _, [], hW', trodAll_mk1 (shut_bool Try.underlying4 _), (trodAll_cons_mk (Below.trod laidOut2 (by kernel_rfl) (of_decide_eq_true (by kernel_rfl)) k0 bel lt0) trodAll_mk0), rfl, bel.frame _, fun h => by cases h⟩

theorem over : Rows.peerNothingRow.holds Try.pinned (OpenSpec.ofChange Rows.peerNothingSpec) :=
  OpenClaim.holds_of_wide 6 Try.f6 rfl rfl rfl rfl rfl rfl rfl ⟨rfl, rfl, rfl, rfl, rfl⟩ rfl rfl rfl rfl rfl (by kernel_rfl) Try.func6 (by kernel_rfl)
    (of_decide_eq_true (by kernel_rfl)) (by unfold Func.isWrapper; first | (rw [if_pos (by decide +kernel)]; kernel_rfl) | (rw [if_neg (by decide +kernel)]; exact ⟨rfl, rfl⟩))
    (fun os started H enc _ => lifted os started H enc)

end LPeerNothing

theorem peerNothing_holds : Rows.PeerNothingSaid := LPeerNothing.over

end Go.Proofs.Ytiekholaheddhaa
