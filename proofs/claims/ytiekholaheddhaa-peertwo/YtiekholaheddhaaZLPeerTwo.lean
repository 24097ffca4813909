/-
  Chapter 17's law PeerTwo returns true for every window, every push and every two scripts, and leaves its arguments as they were; no condition.
-/
import Derived.Test.YtiekholaheddhaaRows
import Derived.WalkKit
import Derived.ProofKit
import Derived.OpenShut
import Derived.ShutString
import Derived.ChangeOld
import Derived.Below
import Derived.Test.YtiekholaheddhaaZPQ
set_option linter.unusedVariables false
set_option linter.unusedSimpArgs false
namespace Go.Proofs.Ytiekholaheddhaa
namespace LPeerTwo
open Go.ChangeShapes Go.WideShapes Go.ChangeAt Go.RowKit Go.Lib
open Go.ChangeMaps (open_string shut_string)

set_option maxRecDepth 100000 in
set_option maxHeartbeats 8000000 in
theorem walk (ls ms : Int) (a0 : Option Addr) (len0 cap0 : Nat) (ss : List Stp) (a1 : Option Addr) (len1 cap1 : Nat) (st : List Stp) (w : World) (h0 : (Lit.int .i64 ls).wf = true) (h1 : (Lit.int .i64 ms).wf = true) (w0 : RSt w (.slice a0 len0 cap0) ss ∧ ss.length = len0 ∧ len0 ≤ maxLen ∧ ∀ e ∈ ss, StW e) (w1 : RSt w (.slice a1 len1 cap1) st ∧ st.length = len1 ∧ len1 ≤ maxLen ∧ ∀ e ∈ st, StW e) :
    Calls Try.prog 5 #[.int .i64 ls, .int .i64 ms, .slice a0 len0 cap0, .slice a1 len1 cap1] w fun e W => e = .returned (.bool true) ∧ Below w.heap.size w W := by
  obtain ⟨hr, hln, hmx, hst⟩ := w0
  obtain ⟨hr1, hln1, hmx1, hst1⟩ := w1
  unfold maxLen at hmx hmx1
  have HN := hide (New_in ls ms w)
  have HN2 := hide (fun W => New_in 3 4 W)
  have HR := hide (fun W => rNew_in ls ms W)
  have HR2 := hide (fun W => rNew_in 3 4 W)
  have HK := hide (fun W => known_in W)
  have nb : newB 3 4 = true := rfl
  have NB := hide nb
  clear h0 h1 nb
  by_cases hbig : 500 < len0
  · have hbig' : (500 : Int) < (len0 : Int) := by omega
    clear HN HN2 HR HR2 hr hln hst hr1 hln1 hst1
    go_enter Try.func5, Try.ntmps5
    go_wp2_with fail
    refine (unhide HK _).mono ?_
    rintro r W2 ⟨rfl, hb2⟩
    go_wp2
    go_ret
    exact ⟨rfl, hb2⟩
  have hbig' : ¬ (500 : Int) < (len0 : Int) := by omega
  by_cases hbig2 : 500 < len1
  · have hbig2' : (500 : Int) < (len1 : Int) := by omega
    clear HN HN2 HR HR2 hr hln hst hr1 hln1 hst1
    go_enter Try.func5, Try.ntmps5
    go_wp2_with fail
    refine (unhide HK _).mono ?_
    rintro r W2 ⟨rfl, hb2⟩
    go_wp2
    go_ret
    exact ⟨rfl, hb2⟩
  have hbig2' : ¬ (500 : Int) < (len1 : Int) := by omega
  have Hln := hide (And.intro hln hln1)
  have Hr := hide (And.intro hr hr1)
  have Hst := hide (And.intro hst hst1)
  clear hr hst hln hr1 hst1 hln1
  obtain ⟨B, hB⟩ : ∃ B, newB ls ms = B := ⟨_, rfl⟩
  have HB := hide hB
  clear hB
  go_enter Try.func5, Try.ntmps5
  go_wp2_with fail
  refine (unhide HN).mono ?_
  rintro e W1 ⟨b1, h1⟩
  rw [unhide HB] at h1
  clear HN
  cases B with
  | false =>
    rcases h1 with ⟨h, _⟩ | ⟨_, rfl⟩
    · cases h
    have B1 := hide b1
    clear b1
    go_wp2_with fail
    refine (unhide HN2 _).mono ?_
    rintro e W2 ⟨b2, h2⟩
    rw [unhide NB] at h2
    rcases h2 with ⟨_, rfl, f2⟩ | ⟨h, _⟩
    rotate_left
    · cases h
    have B2 := hide (bnext (unhide B1) b2)
    have B2x := hide b2
    have F2 := hide f2
    have Z1 := hide (unhide B1).size
    clear b2 f2 B1 HN2
    go_wp2_with fail
    refine (unhide HR _).mono ?_
    rintro e W3 ⟨b3, h3⟩
    rw [unhide HB] at h3
    rcases h3 with ⟨h, _⟩ | ⟨_, rfl⟩
    · cases h
    have B3 := hide (bnext (unhide B2) b3)
    have F3 := hide (show PL (fun i => W1.heap.size ≤ i ∧ i < W2.heap.size) W3 39 W1.heap.size (newS 3 4) from ((unhide F2).lt).below b3)
    have B23 := hide (bnext (unhide B2x) b3)
    have Z3 := hide b3.size
    clear b3 B2 B2x F2 HR
    go_wp2_with fail
    refine (unhide HR2 _).mono ?_
    rintro e W4 ⟨b4, h4⟩
    rw [unhide NB] at h4
    rcases h4 with ⟨_, rfl, f4⟩ | ⟨h, _⟩
    rotate_left
    · cases h
    have HJ : Hid (TW w W4 false 0 0 W1.heap.size W3.heap.size) := .inr ⟨rfl, _, ⟨_, QA.new (b := W1.heap.size) (w1 := W1) (W2 := W3) (((unhide F3).mono (fun i hi => hi.1))) (unhide B23) b4 f4, fun i hi => ⟨by have := unhide Z1; have := hi.1; omega, hi.2⟩, bnext (unhide B3) b4⟩⟩
    clear b4 f4 B3 F3 B23 HR2 Z1 Z3
    generalize W1.heap.size = bb at *
    generalize W3.heap.size = rb at *
    go_wp2
    go_loopw [17] (fun iv wr => ∃ (i : Nat), iv = .int .i64 (i : Nat) ∧ (i ≤ len0 ∨ i ≤ len1) ∧ Hid (TW w wr false 0 0 bb rb)) (fun iv _ => len0 + len1 - (RowKit.intOf iv).toNat)
    case atStart => exact ⟨0, rfl, by omega, HJ⟩
    case round =>
      obtain ⟨i, rfl, hi, HP⟩ := hrel
      clear HJ
      have HS1 := hide (fun (s : Stp) (hx : ss[i]? = some s) => RSt.at ((unhide Hr).1.below (unhide HP).bel) hx)
      have HS2 := hide (fun (W : World) (hb : Below w.heap.size w W) (s : Stp) (hx : st[i]? = some s) => RSt.at ((unhide Hr).2.below hb) hx)
      by_cases hlt : i < len0
      · have hlt' : (i : Int) < (len0 : Int) := by omega
        have HV := HP
        by_cases hlt2 : i < len1
        · have hlt2' : (i : Int) < (len1 : Int) := by omega
          have hls2 : i < st.length := by rw [(unhide Hln).2]; exact hlt2
          obtain ⟨s2, hx2⟩ : ∃ s, st[i]? = some s := ⟨_, List.getElem?_eq_getElem hls2⟩
          obtain ⟨c0, off2, rfl, hc0, p0, p1, p2, p3⟩ := unhide HS2 _ (unhide HV).bel s2 hx2
          have hw2 := (unhide Hst).2 s2 (List.mem_of_getElem? hx2)
          have HT2 := hide ((unhide HV).two s2)
          unfold stC at HT2
          clear hx2 hw2 HS1 HS2 hls2
          generalize s2.kind = m0 at *
          generalize s2.num = m1 at *
          generalize s2.got = m2 at *
          generalize s2.crd = m3 at *
          go_wp2_with fail
          refine (unhide HT2).mono ?_
          rintro e W6 ⟨rfl, h6⟩
          have H6 := hide h6
          clear h6 HT2
          go_wp2
          go_roundw
          case measure => show len0 + len1 - ((i : Int) + 1).toNat < len0 + len1 - ((i : Nat) : Int).toNat; omega
          case rel => exact ⟨i + 1, by go_num, by omega, H6⟩
        · have hlt2' : ¬ (i : Int) < (len1 : Int) := by omega
          clear HS1 HS2
          go_wp2
          go_roundw
          case measure => show len0 + len1 - ((i : Int) + 1).toNat < len0 + len1 - ((i : Nat) : Int).toNat; omega
          case rel => exact ⟨i + 1, by go_num, by omega, HV⟩
      · have hlt' : ¬ (i : Int) < (len0 : Int) := by omega
        have HV := HP
        by_cases hlt2 : i < len1
        · have hlt2' : (i : Int) < (len1 : Int) := by omega
          have hls2 : i < st.length := by rw [(unhide Hln).2]; exact hlt2
          obtain ⟨s2, hx2⟩ : ∃ s, st[i]? = some s := ⟨_, List.getElem?_eq_getElem hls2⟩
          obtain ⟨c0, off2, rfl, hc0, p0, p1, p2, p3⟩ := unhide HS2 _ (unhide HV).bel s2 hx2
          have hw2 := (unhide Hst).2 s2 (List.mem_of_getElem? hx2)
          have HT2 := hide ((unhide HV).two s2)
          unfold stC at HT2
          clear hx2 hw2 HS1 HS2 hls2
          generalize s2.kind = m0 at *
          generalize s2.num = m1 at *
          generalize s2.got = m2 at *
          generalize s2.crd = m3 at *
          go_wp2_with fail
          refine (unhide HT2).mono ?_
          rintro e W6 ⟨rfl, h6⟩
          have H6 := hide h6
          clear h6 HT2
          go_wp2
          go_roundw
          case measure => show len0 + len1 - ((i : Int) + 1).toNat < len0 + len1 - ((i : Nat) : Int).toNat; omega
          case rel => exact ⟨i + 1, by go_num, by omega, H6⟩
        · have hlt2' : ¬ (i : Int) < (len1 : Int) := by omega
          clear HS1 HS2 HV
          go_wp2_with fail
          refine (unhide HK _).mono ?_
          rintro r W5 ⟨rfl, hb5⟩
          go_wp2
          go_ret
          exact ⟨rfl, bnext (unhide HP).bel hb5⟩
  | true =>
    rcases h1 with ⟨_, rfl, f1⟩ | ⟨h, _⟩
    rotate_left
    · cases h
    have B1 := hide b1
    have F1 := hide f1
    clear b1 f1
    go_wp2_with fail
    refine (unhide HN2 _).mono ?_
    rintro e W2 ⟨b2, h2⟩
    rw [unhide NB] at h2
    rcases h2 with ⟨_, rfl, f2⟩ | ⟨h, _⟩
    rotate_left
    · cases h
    have B2 := hide b2
    have F2 := hide f2
    clear b2 f2 HN2
    go_wp2_with fail
    refine (unhide HR _).mono ?_
    rintro e W3 ⟨b3, h3⟩
    rw [unhide HB] at h3
    rcases h3 with ⟨_, rfl, f3⟩ | ⟨h, _⟩
    rotate_left
    · cases h
    have B3 := hide b3
    have F3 := hide f3
    clear b3 f3 HR
    go_wp2_with fail
    refine (unhide HR2 _).mono ?_
    rintro e W4 ⟨b4, h4⟩
    rw [unhide NB] at h4
    rcases h4 with ⟨_, rfl, f4⟩ | ⟨h, _⟩
    rotate_left
    · cases h
    have HJ : Hid (TW w W4 true w.heap.size W2.heap.size W1.heap.size W3.heap.size) := .inl ⟨rfl, _, _, P4.new (unhide B1) (unhide B2) (unhide B3) b4 (unhide F1) (unhide F2) (unhide F3) f4⟩
    clear b4 f4 B1 B2 B3 F1 F2 F3 HR2
    generalize W1.heap.size = bb at *
    generalize W2.heap.size = ra at *
    generalize W3.heap.size = rb at *
    go_wp2
    go_loopw [17] (fun iv wr => ∃ (i : Nat), iv = .int .i64 (i : Nat) ∧ (i ≤ len0 ∨ i ≤ len1) ∧ Hid (TW w wr true w.heap.size ra bb rb)) (fun iv _ => len0 + len1 - (RowKit.intOf iv).toNat)
    case atStart => exact ⟨0, rfl, by omega, HJ⟩
    case round =>
      obtain ⟨i, rfl, hi, HP⟩ := hrel
      clear HJ
      have HS1 := hide (fun (s : Stp) (hx : ss[i]? = some s) => RSt.at ((unhide Hr).1.below (unhide HP).bel) hx)
      have HS2 := hide (fun (W : World) (hb : Below w.heap.size w W) (s : Stp) (hx : st[i]? = some s) => RSt.at ((unhide Hr).2.below hb) hx)
      by_cases hlt : i < len0
      · have hlt' : (i : Int) < (len0 : Int) := by omega
        have hls : i < ss.length := by rw [(unhide Hln).1]; exact hlt
        obtain ⟨s, hx⟩ : ∃ s, ss[i]? = some s := ⟨_, List.getElem?_eq_getElem hls⟩
        obtain ⟨b0, off, rfl, hb0, q0, q1, q2, q3⟩ := unhide HS1 s hx
        have hw := (unhide Hst).1 s (List.mem_of_getElem? hx)
        have HT := hide ((unhide HP).one s)
        unfold stC at HT
        clear hx hw hls
        generalize s.kind = k0 at *
        generalize s.num = k1 at *
        generalize s.got = k2 at *
        generalize s.crd = k3 at *
        go_wp2_with fail
        refine (unhide HT).mono ?_
        rintro e W5 ⟨rfl, h5⟩
        have HV := hide h5
        clear h5 HT q0 q1 q2 q3
        by_cases hlt2 : i < len1
        · have hlt2' : (i : Int) < (len1 : Int) := by omega
          have hls2 : i < st.length := by rw [(unhide Hln).2]; exact hlt2
          obtain ⟨s2, hx2⟩ : ∃ s, st[i]? = some s := ⟨_, List.getElem?_eq_getElem hls2⟩
          obtain ⟨c0, off2, rfl, hc0, p0, p1, p2, p3⟩ := unhide HS2 _ (unhide HV).bel s2 hx2
          have hw2 := (unhide Hst).2 s2 (List.mem_of_getElem? hx2)
          have HT2 := hide ((unhide HV).two s2)
          unfold stC at HT2
          clear hx2 hw2 HS1 HS2 hls2
          generalize s2.kind = m0 at *
          generalize s2.num = m1 at *
          generalize s2.got = m2 at *
          generalize s2.crd = m3 at *
          go_wp2_with fail
          refine (unhide HT2).mono ?_
          rintro e W6 ⟨rfl, h6⟩
          have H6 := hide h6
          clear h6 HT2
          go_wp2
          go_roundw
          case measure => show len0 + len1 - ((i : Int) + 1).toNat < len0 + len1 - ((i : Nat) : Int).toNat; omega
          case rel => exact ⟨i + 1, by go_num, by omega, H6⟩
        · have hlt2' : ¬ (i : Int) < (len1 : Int) := by omega
          clear HS1 HS2
          go_wp2
          go_roundw
          case measure => show len0 + len1 - ((i : Int) + 1).toNat < len0 + len1 - ((i : Nat) : Int).toNat; omega
          case rel => exact ⟨i + 1, by go_num, by omega, HV⟩
      · have hlt' : ¬ (i : Int) < (len0 : Int) := by omega
        have HV := HP
        by_cases hlt2 : i < len1
        · have hlt2' : (i : Int) < (len1 : Int) := by omega
          have hls2 : i < st.length := by rw [(unhide Hln).2]; exact hlt2
          obtain ⟨s2, hx2⟩ : ∃ s, st[i]? = some s := ⟨_, List.getElem?_eq_getElem hls2⟩
          obtain ⟨c0, off2, rfl, hc0, p0, p1, p2, p3⟩ := unhide HS2 _ (unhide HV).bel s2 hx2
          have hw2 := (unhide Hst).2 s2 (List.mem_of_getElem? hx2)
          have HT2 := hide ((unhide HV).two s2)
          unfold stC at HT2
          clear hx2 hw2 HS1 HS2 hls2
          generalize s2.kind = m0 at *
          generalize s2.num = m1 at *
          generalize s2.got = m2 at *
          generalize s2.crd = m3 at *
          go_wp2_with fail
          refine (unhide HT2).mono ?_
          rintro e W6 ⟨rfl, h6⟩
          have H6 := hide h6
          clear h6 HT2
          go_wp2
          go_roundw
          case measure => show len0 + len1 - ((i : Int) + 1).toNat < len0 + len1 - ((i : Nat) : Int).toNat; omega
          case rel => exact ⟨i + 1, by go_num, by omega, H6⟩
        · have hlt2' : ¬ (i : Int) < (len1 : Int) := by omega
          clear HS1 HS2 HV
          go_wp2_with fail
          refine (unhide HK _).mono ?_
          rintro r W5 ⟨rfl, hb5⟩
          go_wp2
          go_ret
          exact ⟨rfl, bnext (unhide HP).bel hb5⟩

theorem own : ownKnob Try.prog.godebug = none := by kernel_rfl
theorem laidOut2 : laidOutB Try.prog = true := by kernel_rfl

set_option maxRecDepth 100000 in
theorem lifted (os : Os) (started : os.Started) (H : Type) (enc : TypeId × Value → H) :
    ReturnsInHanded {} Try.checked os 5 .any (Rows.peerTwoSpec.pre6 enc Try.prog Try.f5 Rows.peerTwoRow.domain false) (Rows.peerTwoSpec.post enc Try.prog Try.f5 false true false false) := by
  refine returnsInHanded_of_change (C := Try.checked) own started (by kernel_rfl) Try.func5
    (ChangeSpec.witness6 (enc := enc) (C := Try.checked) false ⟨#[], #[.int .i64 0, .int .i64 0, .slice none 0 0, .slice none 0 0], []⟩ 8 (by kernel_rfl) (by kernel_rfl) (by kernel_rfl) (by kernel_rfl)) ?_
  intro W base args ds gs before hval0 hW hcnd _
  have hval : ∀ (j : Nat) t v, Try.f5.params[j]? = some t → args[j]? = some v → Value.okWide Try.prog W .any base t v := hval0
  have hW' := hW
  obtain ⟨p, q, hA0, hV, rfl, hfz, hnd⟩ := hW
  have hA : DataW.TrodAll enc Try.prog W 0 (fun _ => true) true Try.f5.params.toList args.toList ds p := hA0
  rw [Try.params5] at hA hval
  obtain ⟨v0, vs0, d0, ds0, p0, q0, hargs, rfl, rfl, h0, r0⟩ := trodAll_cons hA
  obtain ⟨v1, vs1, d1, ds1, p1, q1, rfl, rfl, rfl, h1, r1⟩ := trodAll_cons r0
  obtain ⟨v2, vs2, d2, ds2, p2, q2, rfl, rfl, rfl, h2, r2⟩ := trodAll_cons r1
  obtain ⟨v3, vs3, d3, ds3, p3, q3, rfl, rfl, rfl, h3, r3⟩ := trodAll_cons r2
  obtain ⟨rfl, rfl, rfl⟩ := trodAll_nil r3
  obtain rfl : args = #[v0, v1, v2, v3] := by cases args; simp_all
  obtain ⟨rfl, rfl⟩ := trodVars_none hV
  obtain ⟨a0, rfl, rfl, rfl, w0⟩ := open_int Try.underlying3 (hval 0 3 v0 rfl rfl) h0
  obtain ⟨a1, rfl, rfl, rfl, w1⟩ := open_int Try.underlying3 (hval 1 3 v1 rfl rfl) h1
  obtain ⟨a2, len2, cap2, rfl⟩ := okWide_slice Try.underlying34 (hval 2 34 v2 rfl rfl)
  have k2 := h2
  have lt2 : ∀ x ∈ p2, x.block < W.heap.size := by obtain ⟨m, hm⟩ := k2; exact DataW.trod_lt m _ _ _ hm
  obtain ⟨z2, w2⟩ : ∃ l : List Stp, RSt W (.slice a2 len2 cap2) l ∧ l.length = len2 ∧ len2 ≤ maxLen ∧ ∀ e ∈ l, StW e := by
    obtain ⟨fuel, hf⟩ := h2
    simp only [Value.cells] at hf
    exact open_steps hf
  obtain ⟨a3, len3, cap3, rfl⟩ := okWide_slice Try.underlying34 (hval 3 34 v3 rfl rfl)
  have k3 := h3
  have lt3 : ∀ x ∈ p3, x.block < W.heap.size := by obtain ⟨m, hm⟩ := k3; exact DataW.trod_lt m _ _ _ hm
  obtain ⟨z3, w3⟩ : ∃ l : List Stp, RSt W (.slice a3 len3 cap3) l ∧ l.length = len3 ∧ len3 ≤ maxLen ∧ ∀ e ∈ l, StW e := by
    obtain ⟨fuel, hf⟩ := h3
    simp only [Value.cells] at hf
    exact open_steps hf
  clear hA0 hval0
  refine (walk a0 a1 a2 len2 cap2 z2 a3 len3 cap3 z3 W w0 w1 w2 w3).mono fun e W' ⟨he, bel⟩ => ?_
  subst he
  exact ⟨_, rfl, _, _, _, [], _, [], hW', trodAll_mk1 (shut_bool Try.underlying4 _), (trodAll_cons_mk (shut_int Try.underlying3 w0) (trodAll_cons_mk (shut_int Try.underlying3 w1) (trodAll_cons_mk (Below.trod laidOut2 (by kernel_rfl) (of_decide_eq_true (by kernel_rfl)) k2 bel lt2) (trodAll_cons_mk (Below.trod laidOut2 (by kernel_rfl) (of_decide_eq_true (by kernel_rfl)) k3 bel lt3) trodAll_mk0)))), rfl, bel.frame _, fun h => by cases h⟩

theorem over : Rows.peerTwoRow.holds Try.pinned (OpenSpec.ofChange Rows.peerTwoSpec) :=
  OpenClaim.holds_of_wide 5 Try.f5 rfl rfl rfl rfl rfl rfl rfl ⟨rfl, rfl, rfl, rfl, rfl⟩ rfl rfl rfl rfl rfl (by kernel_rfl) Try.func5 (by kernel_rfl)
    (of_decide_eq_true (by kernel_rfl)) (by unfold Func.isWrapper; first | (rw [if_pos (by decide +kernel)]; kernel_rfl) | (rw [if_neg (by decide +kernel)]; exact ⟨rfl, rfl⟩))
    (fun os started H enc _ => lifted os started H enc)

end LPeerTwo

theorem peerTwo_holds : Rows.PeerTwoSaid := LPeerTwo.over

end Go.Proofs.Ytiekholaheddhaa
