/-
  Chapter 16's law RollBack returns true for every two scripts, and leaves its arguments as they were; no condition.
-/
import Derived.Test.YtjcdfjnlpfineaaRows
import Derived.WalkKit
import Derived.ProofKit
import Derived.OpenShut
import Derived.ShutString
import Derived.ChangeOld
import Derived.Below
import Derived.Test.YtjcdfjnlpfineaaZRT
set_option linter.unusedVariables false
set_option linter.unusedSimpArgs false
namespace Go.Proofs.Ytjcdfjnlpfineaa
namespace LRollBack
open Go.ChangeShapes Go.WideShapes Go.ChangeAt Go.RowKit Go.Lib
open Go.ChangeMaps (open_string shut_string)

set_option maxRecDepth 100000 in
set_option maxHeartbeats 8000000 in
theorem walk (a0 : Option Addr) (len0 cap0 : Nat) (ss : List Stp) (a1 : Option Addr) (len1 cap1 : Nat) (ts : List Stp) (w : World) (w0 : RSt w (.slice a0 len0 cap0) ss ∧ ss.length = len0 ∧ len0 ≤ maxLen ∧ ∀ e ∈ ss, StW e) (w1 : RSt w (.slice a1 len1 cap1) ts ∧ ts.length = len1 ∧ len1 ≤ maxLen ∧ ∀ e ∈ ts, StW e) :
    Calls Try.prog 8 #[.slice a0 len0 cap0, .slice a1 len1 cap1] w fun e W => e = .returned (.bool true) ∧ Below w.heap.size w W := by
  obtain ⟨hr, hln, hmx, -⟩ := w0
  obtain ⟨hr1, hln1, hmx1, -⟩ := w1
  unfold maxLen at hmx hmx1
  have HN := hide (KR.new w)
  have HK := hide (fun W => known_in W)
  have Hr := hide hr
  have Hr1 := hide hr1
  have Hln := hide hln
  have Hln1 := hide hln1
  clear hr hr1 hln hln1
  by_cases hbig : 300 < len0
  · have hbig' : (300 : Int) < (len0 : Int) := by omega
    go_enter Try.func8, Try.ntmps8
    go_wp2_with fail
    refine (unhide HK _).mono ?_
    rintro r W2 ⟨rfl, hb2⟩
    go_wp2
    go_ret
    exact ⟨rfl, hb2⟩
  · have hbig' : ¬ (300 : Int) < (len0 : Int) := by omega
    by_cases hbig1 : 300 < len1
    · have hbig1' : (300 : Int) < (len1 : Int) := by omega
      go_enter Try.func8, Try.ntmps8
      go_wp2_with fail
      refine (unhide HK _).mono ?_
      rintro r W2 ⟨rfl, hb2⟩
      go_wp2
      go_ret
      exact ⟨rfl, hb2⟩
    · have hbig1' : ¬ (300 : Int) < (len1 : Int) := by omega
      obtain ⟨b, hb⟩ : ∃ b, w.heap.size = b := ⟨_, rfl⟩
      rw [hb] at HN
      clear hb
      go_enter Try.func8, Try.ntmps8
      go_wp2_with fail
      refine (unhide HN).mono ?_
      rintro e W1 ⟨rfl, h1⟩
      have H1 := hide h1
      clear h1 HN
      go_wp2
      go_loopw [6] (fun iv wr => ∃ (i : Nat) (s : St), iv = .int .i64 (i : Nat) ∧ i ≤ len0 ∧ Hid (KR w wr b s)) (fun iv _ => len0 - (RowKit.intOf iv).toNat)
      case atStart => exact ⟨0, _, rfl, by omega, H1⟩
      case round =>
        obtain ⟨i, s, rfl, hi, HP⟩ := hrel
        clear H1
        by_cases hlt : i < len0
        · have hlt' : (i : Int) < (len0 : Int) := by omega
          have hls : i < ss.length := by rw [unhide Hln]; exact hlt
          obtain ⟨x, hx⟩ : ∃ x, ss[i]? = some x := ⟨_, List.getElem?_eq_getElem hls⟩
          obtain ⟨b0, off, rfl, hb0, q0, q1⟩ := RSt.at ((unhide Hr).below (unhide HP).bel) hx
          have HS := hide ((unhide HP).do x)
          obtain ⟨D, hD⟩ : ∃ D, doB s x = D := ⟨_, rfl⟩
          rw [hD] at HS
          clear hx hD HP
          generalize doS s x = T at *
          generalize x.lv = k0 at *
          generalize x.site = k1 at *
          go_wp2_with fail
          refine (unhide HS).mono ?_
          rintro e W5 ⟨rfl, h5⟩
          have H5 := hide h5
          clear h5 HS
          go_wp2
          go_roundw
          case measure => show len0 - ((i : Int) + 1).toNat < len0 - ((i : Nat) : Int).toNat; omega
          case rel => exact ⟨i + 1, _, by go_num, by omega, H5⟩
        · have hlt' : ¬ (i : Int) < (len0 : Int) := by omega
          have hP := unhide HP
          have hj := hP.gd.ge
          have hj2 := hP.gd.le
          have M1 := hide (Joined_in hP.rb hP.gd)
          have M2 := hide (fun X (hX : Below wr.heap.size wr X) => Left_in (hP.rb.below hX) hP.gd)
          have M3 := hide (fun X (hX : Below wr.heap.size wr X) => Epoch_in (hP.rb.below hX))
          have M4 := hide (fun (X : World) (aj al : Option Addr) (cj cl : Nat) (hj : RN X (.slice aj (lsW s.j).length cj) (lsW s.j)) (hl : RN X (.slice al (lsW s.l).length cl) (lsW s.l)) => Load_in hj hl (lsW_small _) (lsW_small _) s.e (by unfold in64; omega))
          rw [err_back hP.gd] at M4
          unfold Told at M1 M2
          have M5 := hide (fun (X : World) (c : Nat) (p : Value) (hl : LoadA X c (lsW s.j) (lsW s.l) s.e p) => load_back hP.gd hl)
          clear hP hj hj2
          obtain ⟨ee, hee⟩ : ∃ ee, s.e = ee := ⟨_, rfl⟩
          rw [hee] at M3 M4 M5
          generalize (lsW s.j).length = nj at *
          generalize (lsW s.l).length = nl at *
          clear hee
          go_wp2_with fail
          refine (unhide M1).mono ?_
          rintro e W2 ⟨aj, cj, rfl, o2, b2⟩
          have B2 := hide b2
          have O2 := hide (OwN.row o2)
          clear M1 b2 o2
          go_wp2_with fail
          refine (unhide M2 _ (unhide B2)).mono ?_
          rintro e W3 ⟨al, cl, rfl, o3, b3⟩
          have B3 := hide (bnext (unhide B2) b3)
          have O3 := hide ((unhide O2).below b3)
          have P3 := hide (OwN.row o3)
          clear M2 b3 o3 O2 B2
          go_wp2_with fail
          refine (unhide M3 _ (unhide B3)).mono ?_
          rintro e W3' ⟨rfl, rfl⟩
          clear M3
          go_wp2_with fail
          refine (unhide M4 _ _ _ _ _ (unhide O3) (unhide P3)).mono ?_
          rintro e W4 ⟨p4, rfl, l4, b4⟩
          obtain ⟨rfl, r4⟩ := unhide M5 _ _ _ l4
          have hP := unhide HP
          have H2 : Hid (K2 w W4 b s W3.heap.size s) := ⟨(hP.below (unhide B3)).below b4, ⟨r4, hP.gd, by have := hP.bel.size; have := (unhide B3).size; omega, bnext (bnext hP.bel (unhide B3)) b4⟩, by have := Bx.lt hP.rb; have := (unhide B3).size; omega⟩
          clear M4 M5 l4 r4 b4 O3 P3 B3 HP hP
          generalize W3.heap.size = b2 at *
          go_wp2
          go_loopw [9] (fun iv wr => ∃ (i : Nat) (s : St), iv = .int .i64 (i : Nat) ∧ i ≤ len1 ∧ Hid (K2 w wr b s b2 s)) (fun iv _ => len1 - (RowKit.intOf iv).toNat)
          case atStart => exact ⟨0, _, rfl, by omega, H2⟩
          case round =>
            obtain ⟨k, t, rfl, hk, HQ⟩ := hrel
            clear H2
            by_cases hltk : k < len1
            · have hltk' : (k : Int) < (len1 : Int) := by omega
              have hls : k < ts.length := by rw [unhide Hln1]; exact hltk
              obtain ⟨x, hx⟩ : ∃ x, ts[k]? = some x := ⟨_, List.getElem?_eq_getElem hls⟩
              have hr1 := unhide Hr1
              obtain ⟨b0, off, rfl, hb0, q0, q1⟩ := RSt.at (hr1.below (unhide HQ).one.bel) hx
              have HS := hide ((unhide HQ).do x)
              have HS2 := hide (fun X (h : K2 w X b (doS t x) b2 t) => h.swap.do x)
              have HC := hide (fun (X : World) (h : Below w.heap.size w X) => RSt.at (hr1.below h) hx)
              obtain ⟨D, hD⟩ : ∃ D, doB t x = D := ⟨_, rfl⟩
              rw [hD] at HS HS2
              clear hx hD HQ hr1
              generalize doS t x = T at *
              generalize x.lv = k0 at *
              generalize x.site = k1 at *
              go_wp2_with fail
              refine (unhide HS).mono ?_
              rintro e W5 ⟨rfl, h5⟩
              have H5 := hide h5
              obtain ⟨b0', off', e', hb0', q0', q1'⟩ := unhide HC W5 h5.one.bel
              simp at e'
              obtain ⟨rfl, rfl⟩ := e'
              clear h5 HS HC
              go_wp2_with fail
              refine (unhide HS2 _ (unhide H5)).mono ?_
              rintro e W6 ⟨rfl, h6⟩
              have H6 := hide h6.swap
              clear h6 HS2
              have hDD : (D != D) = false := by simp
              go_wp2
              go_roundw
              case measure => show len1 - ((k : Int) + 1).toNat < len1 - ((k : Nat) : Int).toNat; omega
              case rel => exact ⟨k + 1, _, by go_num, by omega, H6⟩
            · have hltk' : ¬ (k : Int) < (len1 : Int) := by omega
              have HS := hide (unhide HQ).same
              have E1 := hide (fun X (h : K2 w X b t b2 t) => Epoch_in h.one.rb)
              have E2 := hide (fun X (h : K2 w X b t b2 t) => Epoch_in h.two.rb)
              clear HQ
              go_wp2_with fail
              refine (unhide HS).mono ?_
              rintro e W5 ⟨rfl, h5⟩
              have H5 := hide h5
              clear h5 HS
              go_wp2_with fail
              refine (unhide E1 _ (unhide H5)).mono ?_
              rintro e W5' ⟨rfl, rfl⟩
              go_wp2_with fail
              refine (unhide E2 _ (unhide H5)).mono ?_
              rintro e W5' ⟨rfl, rfl⟩
              have hee : (t.e == t.e) = true := by simp
              go_wp2_with fail
              refine (unhide HK _).mono ?_
              rintro e W6 ⟨rfl, h6⟩
              go_wp2
              go_ret
              exact ⟨rfl, bnext (unhide H5).one.bel h6⟩

theorem own : ownKnob Try.prog.godebug = none := by kernel_rfl
theorem laidOut2 : laidOutB Try.prog = true := by kernel_rfl

set_option maxRecDepth 100000 in
theorem lifted (os : Os) (started : os.Started) (H : Type) (enc : TypeId × Value → H) :
    ReturnsInHanded {} Try.checked os 8 .any (Rows.rollBackSpec.pre6 enc Try.prog Try.f8 Rows.rollBackRow.domain false) (Rows.rollBackSpec.post enc Try.prog Try.f8 false true false false) := by
  refine returnsInHanded_of_change (C := Try.checked) own started (by kernel_rfl) Try.func8
    (ChangeSpec.witness6 (enc := enc) (C := Try.checked) false ⟨#[], #[.slice none 0 0, .slice none 0 0], []⟩ 8 (by kernel_rfl) (by kernel_rfl) (by kernel_rfl) (by kernel_rfl)) ?_
  intro W base args ds gs before hval0 hW hcnd _
  have hval : ∀ (j : Nat) t v, Try.f8.params[j]? = some t → args[j]? = some v → Value.okWide Try.prog W .any base t v := hval0
  have hW' := hW
  obtain ⟨p, q, hA0, hV, rfl, hfz, hnd⟩ := hW
  have hA : DataW.TrodAll enc Try.prog W 0 (fun _ => true) true Try.f8.params.toList args.toList ds p := hA0
  rw [Try.params8] at hA hval
  obtain ⟨v0, vs0, d0, ds0, p0, q0, hargs, rfl, rfl, h0, r0⟩ := trodAll_cons hA
  obtain ⟨v1, vs1, d1, ds1, p1, q1, rfl, rfl, rfl, h1, r1⟩ := trodAll_cons r0
  obtain ⟨rfl, rfl, rfl⟩ := trodAll_nil r1
  obtain rfl : args = #[v0, v1] := by cases args; simp_all
  obtain ⟨rfl, rfl⟩ := trodVars_none hV
  obtain ⟨a0, len0, cap0, rfl⟩ := okWide_slice Try.underlying22 (hval 0 22 v0 rfl rfl)
  have k0 := h0
  have lt0 : ∀ x ∈ p0, x.block < W.heap.size := by obtain ⟨m, hm⟩ := k0; exact DataW.trod_lt m _ _ _ hm
  obtain ⟨z0, w0⟩ : ∃ l : List Stp, RSt W (.slice a0 len0 cap0) l ∧ l.length = len0 ∧ len0 ≤ maxLen ∧ ∀ e ∈ l, StW e := by
    obtain ⟨fuel, hf⟩ := h0
    simp only [Value.cells] at hf
    exact open_steps hf
  obtain ⟨a1, len1, cap1, rfl⟩ := okWide_slice Try.underlying22 (hval 1 22 v1 rfl rfl)
  have k1 := h1
  have lt1 : ∀ x ∈ p1, x.block < W.heap.size := by obtain ⟨m, hm⟩ := k1; exact DataW.trod_lt m _ _ _ hm
  obtain ⟨z1, w1⟩ : ∃ l : List Stp, RSt W (.slice a1 len1 cap1) l ∧ l.length = len1 ∧ len1 ≤ maxLen ∧ ∀ e ∈ l, StW e := by
    obtain ⟨fuel, hf⟩ := h1
    simp only [Value.cells] at hf
    exact open_steps hf
  clear hA0 hval0
  refine (walk a0 len0 cap0 z0 a1 len1 cap1 z1 W w0 w1).mono fun e W' ⟨he, bel⟩ => ?_
  subst he
  exact ⟨_, rfl, _, _, _, [], _, [], hW', trodAll_mk1 (shut_bool Try.underlying4 _), (trodAll_cons_mk (Below.trod laidOut2 (by kernel_rfl) (of_decide_eq_true (by kernel_rfl)) k0 bel lt0) (trodAll_cons_mk (Below.trod laidOut2 (by kernel_rfl) (of_decide_eq_true (by kernel_rfl)) k1 bel lt1) trodAll_mk0)), rfl, bel.frame _, fun h => by cases h⟩

theorem over : Rows.rollBackRow.holds Try.pinned (OpenSpec.ofChange Rows.rollBackSpec) :=
  OpenClaim.holds_of_wide 8 Try.f8 rfl rfl rfl rfl rfl rfl rfl ⟨rfl, rfl, rfl, rfl, rfl⟩ rfl rfl rfl rfl rfl (by kernel_rfl) Try.func8 (by kernel_rfl)
    (of_decide_eq_true (by kernel_rfl)) (by unfold Func.isWrapper; first | (rw [if_pos (by decide +kernel)]; kernel_rfl) | (rw [if_neg (by decide +kernel)]; exact ⟨rfl, rfl⟩))
    (fun os started H enc _ => lifted os started H enc)

end LRollBack

theorem rollBack_holds : Rows.RollBackSaid := LRollBack.over

end Go.Proofs.Ytjcdfjnlpfineaa
