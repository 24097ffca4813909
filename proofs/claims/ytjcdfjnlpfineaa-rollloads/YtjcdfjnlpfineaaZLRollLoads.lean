/-
  Chapter 16's law RollLoads returns true for every two lists, every number and every script, and leaves its arguments as they were; no condition.
-/
import Derived.Test.YtjcdfjnlpfineaaRows
import Derived.WalkKit
import Derived.ProofKit
import Derived.OpenShut
import Derived.ShutString
import Derived.ChangeOld
import Derived.Below
import Derived.Deep.CutRange
import Derived.Deep.RegionWith
import Derived.Test.YtjcdfjnlpfineaaZRLm
import Derived.Test.YtjcdfjnlpfineaaZRS
set_option linter.unusedVariables false
set_option linter.unusedSimpArgs false
namespace Go.Proofs.Ytjcdfjnlpfineaa
namespace LRollLoads
open Go.ChangeShapes Go.WideShapes Go.ChangeAt Go.RowKit Go.Lib
open Go.ChangeMaps (open_string shut_string)

set_option maxRecDepth 100000 in
set_option maxHeartbeats 16000000 in
theorem walk (a0 : Option Addr) (len0 cap0 : Nat) (jl : List Int) (a1 : Option Addr) (len1 cap1 : Nat) (ll : List Int) (ep : Int) (a3 : Option Addr) (len3 cap3 : Nat) (ss : List Stp) (w : World) (w0 : RN w (.slice a0 len0 cap0) jl ∧ jl.length = len0 ∧ len0 ≤ maxLen ∧ ∀ e ∈ jl, in64 e) (w1 : RN w (.slice a1 len1 cap1) ll ∧ ll.length = len1 ∧ len1 ≤ maxLen ∧ ∀ e ∈ ll, in64 e) (h2 : (Lit.int .i64 ep).wf = true) (w3 : RSt w (.slice a3 len3 cap3) ss ∧ ss.length = len3 ∧ len3 ≤ maxLen ∧ ∀ e ∈ ss, StW e) :
    Calls Try.prog 4 #[.slice a0 len0 cap0, .slice a1 len1 cap1, .int .i64 ep, .slice a3 len3 cap3] w fun e W => e = .returned (.bool true) ∧ Below w.heap.size w W := by
  obtain ⟨hr0, hln0, hmx0, -⟩ := w0
  obtain ⟨hr1, hln1, hmx1, -⟩ := w1
  obtain ⟨hr3, hln3, hmx3, -⟩ := w3
  have hep := wf64 h2
  clear h2
  unfold maxLen at hmx0 hmx1 hmx3
  have HK := hide (fun W => known_in W)
  have Hr0 := hide hr0
  have Hr1 := hide hr1
  have Hr3 := hide hr3
  have Hl0 := hide hln0
  have Hl1 := hide hln1
  have Hl3 := hide hln3
  have Hep := hide hep
  clear hr0 hr1 hr3 hln0 hln1 hln3 hep
  by_cases hbig : 300 < len0
  · have hbig' : (300 : Int) < (len0 : Int) := by omega
    go_enter Try.func4, Try.ntmps4
    go_wp2_with fail
    refine (unhide HK _).mono ?_
    rintro r W2 ⟨rfl, hb2⟩
    go_wp2
    go_ret
    exact ⟨rfl, hb2⟩
  have hbig0 : ¬ (300 : Int) < (len0 : Int) := by omega
  by_cases hbig1 : 300 < len1
  · have hbig' : (300 : Int) < (len1 : Int) := by omega
    go_enter Try.func4, Try.ntmps4
    go_wp2_with fail
    refine (unhide HK _).mono ?_
    rintro r W2 ⟨rfl, hb2⟩
    go_wp2
    go_ret
    exact ⟨rfl, hb2⟩
  have hbig1' : ¬ (300 : Int) < (len1 : Int) := by omega
  by_cases hbig3 : 300 < len3
  · have hbig' : (300 : Int) < (len3 : Int) := by omega
    go_enter Try.func4, Try.ntmps4
    go_wp2_with fail
    refine (unhide HK _).mono ?_
    rintro r W2 ⟨rfl, hb2⟩
    go_wp2
    go_ret
    exact ⟨rfl, hb2⟩
  have hbig3' : ¬ (300 : Int) < (len3 : Int) := by omega
  obtain ⟨x1, y1, W1, gj, cj, W2, p1, p2, mk1, u1, u2⟩ := mark_nums w a0 cap0 jl (by rw [unhide Hl0]; exact unhide Hr0) (by rw [unhide Hl0]; omega)
  have hrl : RN W2 (.slice a1 ll.length cap1) ll := by rw [unhide Hl1]; exact (unhide Hr1).below u2
  obtain ⟨x2, y2, W3, gl, cl, W4, p3, p4, mk2, u3, u4⟩ := mark_nums W2 a1 cap1 ll hrl (by rw [unhide Hl1]; omega)
  have bw4 := bnext u2 u4
  have m1 := mk1.below u4
  have cpj := mk1.cap
  have cpl := mk2.cap
  have loj := mk1.lo
  have lol := mk2.lo
  have z2 := u2.size
  have z4 := u4.size
  rw [unhide Hl0] at p1 p2 cpj
  rw [unhide Hl1] at p3 p4 cpl
  have P1 := hide p1
  have P2 := hide p2
  have P3 := hide p3
  have P4 := hide p4
  have HLo := hide (show w.heap.size ≤ gj ∧ w.heap.size ≤ gl from ⟨loj.1, by omega⟩)
  have hslj := fun W n => sl_toNt W (some ⟨gj, 0, none⟩) n cj len0 (by omega)
  have hsll := fun W n => sl_toNt W (some ⟨gl, 0, none⟩) n cl len1 (by omega)
  have BW4 := hide bw4
  have rj : ∀ X, Below W4.heap.size W4 X → RN X (.slice (some ⟨gj, 0, none⟩) len0 cj) jl := fun X hX => by
    have := (m1.below hX).rn
    rwa [unhide Hl0] at this
  have rl : ∀ X, Below W4.heap.size W4 X → RN X (.slice (some ⟨gl, 0, none⟩) len1 cl) ll := fun X hX => by
    have := (mk2.below hX).rn
    rwa [unhide Hl1] at this
  have RJ := hide rj
  have RLl := hide rl
  have HLoad : Hid (∀ X, Below W4.heap.size W4 X → _) := fun X hX => Load_in (rj X hX) (rl X hX) (by rw [unhide Hl0]; omega) (by rw [unhide Hl1]; omega) ep (unhide Hep)
  have HRLoad : Hid (∀ X, Below w.heap.size w X → _) := fun X hX => rLoad_in ((unhide Hr0).below hX) ((unhide Hr1).below hX) (by rw [unhide Hl0]; omega) (by rw [unhide Hl1]; omega) ep (unhide Hep)
  have HIj : Hid (∀ X, Below W4.heap.size W4 X → Calls Try.prog 20 #[.slice (some ⟨gj, 0, none⟩) len0 cj, .slice a0 len0 cap0] X fun e X' => e = .returned (.bool true) ∧ Below X.heap.size X X') := fun X hX => by
    have := ints_in _ _ jl jl X (rj X hX) ((unhide Hr0).below (bnext bw4 hX)) (by rw [unhide Hl0]; omega) (by rw [unhide Hl0]; omega)
    rwa [decide_eq_true rfl] at this
  have HIl : Hid (∀ X, Below W4.heap.size W4 X → Calls Try.prog 20 #[.slice (some ⟨gl, 0, none⟩) len1 cl, .slice a1 len1 cap1] X fun e X' => e = .returned (.bool true) ∧ Below X.heap.size X X') := fun X hX => by
    have := ints_in _ _ ll ll X (rl X hX) ((unhide Hr1).below (bnext bw4 hX)) (by rw [unhide Hl1]; omega) (by rw [unhide Hl1]; omega)
    rwa [decide_eq_true rfl] at this
  have HMj : Hid (∀ X, Below W4.heap.size W4 X → X.cell? ⟨gj, len0, none⟩ = some (.int .i64 77) ∧ OwX X 3 1 (.slice (some ⟨gj, 0, none⟩) (len0 + 1) cj) (len0 + 1)) := fun X hX => by
    have h1 := (m1.below hX).md
    have h2 := (m1.below hX).ox
    rw [unhide Hl0] at h1 h2
    exact ⟨h1, h2⟩
  have HMl : Hid (∀ X, Below W4.heap.size W4 X → X.cell? ⟨gl, len1, none⟩ = some (.int .i64 77) ∧ OwX X 3 1 (.slice (some ⟨gl, 0, none⟩) (len1 + 1) cl) (len1 + 1)) := fun X hX => by
    have h1 := (mk2.below hX).md
    have h2 := (mk2.below hX).ox
    rw [unhide Hl1] at h1 h2
    exact ⟨h1, h2⟩
  have hlj : (len0 : Int) < ((len0 + 1 : Nat) : Int) := by omega
  have hll : (len1 : Int) < ((len1 + 1 : Nat) : Int) := by omega
  clear p1 p2 p3 p4 mk1 mk2 u1 u2 u3 u4 hrl bw4 m1 rj rl loj lol z2 z4
  obtain ⟨E, hE⟩ : ∃ E, errL jl ll ep = E := ⟨_, rfl⟩
  have HE := hide hE
  rw [hE] at HLoad HRLoad
  clear hE
  go_enter Try.func4, Try.ntmps4
  go_upto_region 9 with (at_builtin; first | (have H1 := P1; clear P1; refine wpList_append_eq rfl _ _ _ _ rfl _ _ _ _ rfl rfl (unhide H1) ?_; clear H1) | (have H2 := P2; clear P2; refine wpList_append_eq rfl _ _ _ _ rfl _ _ _ _ rfl rfl (unhide H2) ?_; clear H2) | (have H3 := P3; clear P3; refine wpList_append_eq rfl _ _ _ _ rfl _ _ _ _ rfl rfl (unhide H3) ?_; clear H3) | (have H4 := P4; clear P4; refine wpList_append_eq rfl _ _ _ _ rfl _ _ _ _ rfl rfl (unhide H4) ?_; clear H4))
  go_region_with (go_at_call 18; refine (unhide HLoad _ (Below.refl _ _).drew).mono ?_; rintro r W5 ⟨p5, rfl, l5, b5⟩; have L5 : Hid (LoadA W5 W4.heap.size jl ll ep p5) := l5; have B5 := hide (bnext (Below.refl _ W4).drew b5); clear l5 b5 HLoad)
  all_goals (
    have hEE : (E != E) = false := by simp
    go_wp2_with fail
    refine (unhide HRLoad _ (bnext (unhide BW4) (unhide B5))).mono ?_
    rintro r W6 ⟨p6, rfl, c6, lo6, l6, b6⟩
    have z4 := (unhide BW4).size
    have z5 := (unhide B5).size
    have hpair := load_pair (unhide L5) l6 b6 z4 lo6 (bnext (bnext (unhide BW4) (unhide B5)) b6)
    have B6 := hide (bnext (unhide B5) b6)
    rw [unhide HE] at hpair
    have HI1 := hide (unhide HIj _ (unhide B6))
    clear l6 b6 lo6 z4 z5 HRLoad L5 B5
    rcases hpair with ⟨hne, rfl, rfl⟩ | ⟨h0, rfl, rfl, s, hP⟩)
  · have hnz : (E != 0) = true := by rw [bne_iff_ne]; exact hne
    clear hne
    have B6 := B6
    go_wp2_with fail
    refine (unhide HI1).mono ?_
    rintro r W7 ⟨rfl, b7⟩
    have B7 := hide (bnext (unhide B6) b7)
    have HI2 := hide (unhide HIl _ (unhide B7))
    clear b7 HI1 B6
    go_wp2_with fail
    refine (unhide HI2).mono ?_
    rintro r W8 ⟨rfl, b8⟩
    have B8 := hide (bnext (unhide B7) b8)
    have c8 := (unhide HMj _ (unhide B8)).1
    have d8 := (unhide HMl _ (unhide B8)).1
    clear b8 HI2 B7
    go_wp2_with fail
    refine (unhide HK _).mono ?_
    rintro e W9 ⟨rfl, b9⟩
    go_wp2
    go_ret
    exact ⟨rfl, bnext (bnext (unhide BW4) (unhide B8)) b9⟩
  · have HP := hide hP
    clear hP
    subst h0
    have B6 := B6
    go_wp2_with fail
    refine (unhide HI1).mono ?_
    rintro r W7 ⟨rfl, b7⟩
    have B7 := hide (bnext (unhide B6) b7)
    have HI2 := hide (unhide HIl _ (unhide B7))
    have HP7 := hide ((unhide HP).below b7)
    clear b7 HI1 B6
    go_wp2_with fail
    refine (unhide HI2).mono ?_
    rintro r W8 ⟨rfl, b8⟩
    have B8 := hide (bnext (unhide B7) b8)
    have c8 := (unhide HMj _ (unhide B8)).1
    have d8 := (unhide HMl _ (unhide B8)).1
    have HP8 := hide ((unhide HP7).below b8)
    have HO1 := hide (unhide HMj _ (unhide B8)).2
    have HO2 := hide (unhide HMl _ (unhide B8)).2
    clear b8 HI2 B7
    go_wp2
    generalize W4.heap.size = bb at *
    clear HMj HMl HIj HIl RJ RLl c8 d8 hslj hsll B8 hlj hll
    go_loopw [15] (fun iv wr => ∃ i : Nat, iv = .int .i64 (i : Nat) ∧ i ≤ len0 + 1 ∧ Hid (PJ w wr bb c6 s ∧ OwX wr 3 1 (.slice (some ⟨gj, 0, none⟩) (len0 + 1) cj) (len0 + 1) ∧ OwX wr 3 1 (.slice (some ⟨gl, 0, none⟩) (len1 + 1) cl) (len1 + 1))) (fun iv _ => len0 + 1 - (RowKit.intOf iv).toNat)
    case atStart => exact ⟨0, rfl, Nat.zero_le _, hide ⟨unhide HP8, unhide HO1, unhide HO2⟩⟩
    case round =>
      obtain ⟨i, rfl, hi, HI⟩ := hrel
      clear HP8 HO1 HO2
      by_cases hlt : i < len0 + 1
      · have hlt' : (i : Int) < ((len0 + 1 : Nat) : Int) := by omega
        obtain ⟨hp, ho1, ho2⟩ := unhide HI
        obtain ⟨g, eg, hgl, hfz, hcl, cur, hcur⟩ := ho1.at (by omega)
        simp at eg
        subst eg
        obtain ⟨u, hu⟩ := hcl i (by omega)
        have hf := hfz i
        have R := hide (show PJ w (wr.setCell ⟨gj, i, none⟩ (.int .i64 5)) bb c6 s ∧ OwX (wr.setCell ⟨gj, i, none⟩ (.int .i64 5)) 3 1 (.slice (some ⟨gj, 0, none⟩) (len0 + 1) cj) (len0 + 1) ∧ OwX (wr.setCell ⟨gj, i, none⟩ (.int .i64 5)) 3 1 (.slice (some ⟨gl, 0, none⟩) (len1 + 1) cl) (len1 + 1) from ⟨hp.put hcur (unhide HLo).1 _, ho1.ss (SS.set _ _ _ _), ho2.ss (SS.set _ _ _ _)⟩)
        clear hp ho1 ho2 hfz hcl hcur HI
        go_wp2
        go_roundw
        case rel => exact ⟨i + 1, by go_num, by omega, R⟩
        case measure => show len0 + 1 - ((i : Int) + 1).toNat < len0 + 1 - ((i : Nat) : Int).toNat; omega
      · have hlt' : ¬ (i : Int) < ((len0 + 1 : Nat) : Int) := by omega
        go_wp2
        go_loopw [16] (fun iv wr => ∃ i : Nat, iv = .int .i64 (i : Nat) ∧ i ≤ len1 + 1 ∧ Hid (PJ w wr bb c6 s ∧ OwX wr 3 1 (.slice (some ⟨gl, 0, none⟩) (len1 + 1) cl) (len1 + 1))) (fun iv _ => len1 + 1 - (RowKit.intOf iv).toNat)
        case atStart => exact ⟨0, rfl, Nat.zero_le _, hide ⟨(unhide HI).1, (unhide HI).2.2⟩⟩
        case round =>
          obtain ⟨k, rfl, hk, HJ⟩ := hrel
          clear HI
          by_cases hltk : k < len1 + 1
          · have hltk' : (k : Int) < ((len1 + 1 : Nat) : Int) := by omega
            obtain ⟨hp, ho2⟩ := unhide HJ
            obtain ⟨g, eg, hgl, hfz, hcl, cur, hcur⟩ := ho2.at (by omega)
            simp at eg
            subst eg
            obtain ⟨u, hu⟩ := hcl k (by omega)
            have hf := hfz k
            have R := hide (show PJ w (wr.setCell ⟨gl, k, none⟩ (.int .i64 6)) bb c6 s ∧ OwX (wr.setCell ⟨gl, k, none⟩ (.int .i64 6)) 3 1 (.slice (some ⟨gl, 0, none⟩) (len1 + 1) cl) (len1 + 1) from ⟨hp.put hcur (unhide HLo).2 _, ho2.ss (SS.set _ _ _ _)⟩)
            clear hp ho2 hfz hcl hcur HJ
            go_wp2
            go_roundw
            case rel => exact ⟨k + 1, by go_num, by omega, R⟩
            case measure => show len1 + 1 - ((k : Int) + 1).toNat < len1 + 1 - ((k : Nat) : Int).toNat; omega
          · have hltk' : ¬ (k : Int) < ((len1 + 1 : Nat) : Int) := by omega
            go_wp2
            go_loopw [17] (fun iv wr => ∃ (i : Nat) (t : St), iv = .int .i64 (i : Nat) ∧ i ≤ len3 ∧ Hid (PJ w wr bb c6 t)) (fun iv _ => len3 - (RowKit.intOf iv).toNat)
            case atStart => exact ⟨0, _, rfl, Nat.zero_le _, hide (unhide HJ).1⟩
            case round =>
              obtain ⟨q, t, rfl, hq, HQ⟩ := hrel
              clear HJ
              by_cases hltq : q < len3
              · have hltq' : (q : Int) < (len3 : Int) := by omega
                have hls : q < ss.length := by rw [unhide Hl3]; exact hltq
                obtain ⟨x, hx⟩ : ∃ x, ss[q]? = some x := ⟨_, List.getElem?_eq_getElem hls⟩
                have hr3 := unhide Hr3
                have HC := hide (fun (X : World) (h : Below w.heap.size w X) => RSt.at (hr3.below h) hx)
                have HA := hide (unhide HQ).alike
                have HS := hide (fun W (h : PJ w W bb c6 t) => h.step x)
                clear hx HQ hr3
                generalize doS t x = T at *
                generalize x.lv = k0 at *
                generalize x.site = k1 at *
                go_wp2_with fail
                refine (unhide HA).mono ?_
                rintro e V5 ⟨rfl, h5⟩
                have H5 := hide h5
                obtain ⟨b0, off, rfl, hb0, q0, q1⟩ := unhide HC V5 h5.bel
                clear h5 HA HC
                go_wp2_with fail
                refine (unhide HS _ (unhide H5)).mono ?_
                rintro e V6 ⟨rfl, h6⟩
                have H6 := hide h6
                clear h6 HS
                go_wp2
                go_roundw
                case measure => show len3 - ((q : Int) + 1).toNat < len3 - ((q : Nat) : Int).toNat; omega
                case rel => exact ⟨q + 1, _, by go_num, by omega, H6⟩
              · have hltq' : ¬ (q : Int) < (len3 : Int) := by omega
                have HA := hide (unhide HQ).alike
                go_wp2_with fail
                refine (unhide HA).mono ?_
                rintro e V5 ⟨rfl, h5⟩
                have H5 := hide h5.bel
                clear h5 HA HQ
                go_wp2_with fail
                refine (unhide HK _).mono ?_
                rintro e V6 ⟨rfl, h6⟩
                go_wp2
                go_ret
                exact ⟨rfl, bnext (unhide H5) h6⟩

theorem own : ownKnob Try.prog.godebug = none := by kernel_rfl
theorem laidOut2 : laidOutB Try.prog = true := by kernel_rfl

set_option maxRecDepth 100000 in
theorem lifted (os : Os) (started : os.Started) (H : Type) (enc : TypeId × Value → H) :
    ReturnsInHanded {} Try.checked os 4 .any (Rows.rollLoadsSpec.pre6 enc Try.prog Try.f4 Rows.rollLoadsRow.domain false) (Rows.rollLoadsSpec.post enc Try.prog Try.f4 false true false false) := by
  refine returnsInHanded_of_change (C := Try.checked) own started (by kernel_rfl) Try.func4
    (ChangeSpec.witness6 (enc := enc) (C := Try.checked) false ⟨#[], #[.slice none 0 0, .slice none 0 0, .int .i64 0, .slice none 0 0], []⟩ 8 (by kernel_rfl) (by kernel_rfl) (by kernel_rfl) (by kernel_rfl)) ?_
  intro W base args ds gs before hval0 hW hcnd _
  have hval : ∀ (j : Nat) t v, Try.f4.params[j]? = some t → args[j]? = some v → Value.okWide Try.prog W .any base t v := hval0
  have hW' := hW
  obtain ⟨p, q, hA0, hV, rfl, hfz, hnd⟩ := hW
  have hA : DataW.TrodAll enc Try.prog W 0 (fun _ => true) true Try.f4.params.toList args.toList ds p := hA0
  rw [Try.params4] at hA hval
  obtain ⟨v0, vs0, d0, ds0, p0, q0, hargs, rfl, rfl, h0, r0⟩ := trodAll_cons hA
  obtain ⟨v1, vs1, d1, ds1, p1, q1, rfl, rfl, rfl, h1, r1⟩ := trodAll_cons r0
  obtain ⟨v2, vs2, d2, ds2, p2, q2, rfl, rfl, rfl, h2, r2⟩ := trodAll_cons r1
  obtain ⟨v3, vs3, d3, ds3, p3, q3, rfl, rfl, rfl, h3, r3⟩ := trodAll_cons r2
  obtain ⟨rfl, rfl, rfl⟩ := trodAll_nil r3
  obtain rfl : args = #[v0, v1, v2, v3] := by cases args; simp_all
  obtain ⟨rfl, rfl⟩ := trodVars_none hV
  obtain ⟨a0, len0, cap0, rfl⟩ := okWide_slice Try.underlying34 (hval 0 34 v0 rfl rfl)
  have k0 := h0
  have lt0 : ∀ x ∈ p0, x.block < W.heap.size := by obtain ⟨m, hm⟩ := k0; exact DataW.trod_lt m _ _ _ hm
  obtain ⟨z0, w0⟩ : ∃ l : List Int, RN W (.slice a0 len0 cap0) l ∧ l.length = len0 ∧ len0 ≤ maxLen ∧ ∀ e ∈ l, in64 e := by
    obtain ⟨fuel, hf⟩ := h0
    simp only [Value.cells] at hf
    exact open_nums hf
  obtain ⟨a1, len1, cap1, rfl⟩ := okWide_slice Try.underlying34 (hval 1 34 v1 rfl rfl)
  have k1 := h1
  have lt1 : ∀ x ∈ p1, x.block < W.heap.size := by obtain ⟨m, hm⟩ := k1; exact DataW.trod_lt m _ _ _ hm
  obtain ⟨z1, w1⟩ : ∃ l : List Int, RN W (.slice a1 len1 cap1) l ∧ l.length = len1 ∧ len1 ≤ maxLen ∧ ∀ e ∈ l, in64 e := by
    obtain ⟨fuel, hf⟩ := h1
    simp only [Value.cells] at hf
    exact open_nums hf
  obtain ⟨a2, rfl, rfl, rfl, w2⟩ := open_int Try.underlying3 (hval 2 3 v2 rfl rfl) h2
  obtain ⟨a3, len3, cap3, rfl⟩ := okWide_slice Try.underlying22 (hval 3 22 v3 rfl rfl)
  have k3 := h3
  have lt3 : ∀ x ∈ p3, x.block < W.heap.size := by obtain ⟨m, hm⟩ := k3; exact DataW.trod_lt m _ _ _ hm
  obtain ⟨z3, w3⟩ : ∃ l : List Stp, RSt W (.slice a3 len3 cap3) l ∧ l.length = len3 ∧ len3 ≤ maxLen ∧ ∀ e ∈ l, StW e := by
    obtain ⟨fuel, hf⟩ := h3
    simp only [Value.cells] at hf
    exact open_steps hf
  clear hA0 hval0
  refine (walk a0 len0 cap0 z0 a1 len1 cap1 z1 a2 a3 len3 cap3 z3 W w0 w1 w2 w3).mono fun e W' ⟨he, bel⟩ => ?_
  subst he
  exact ⟨_, rfl, _, _, _, [], _, [], hW', trodAll_mk1 (shut_bool Try.underlying4 _), (trodAll_cons_mk (Below.trod laidOut2 (by kernel_rfl) (of_decide_eq_true (by kernel_rfl)) k0 bel lt0) (trodAll_cons_mk (Below.trod laidOut2 (by kernel_rfl) (of_decide_eq_true (by kernel_rfl)) k1 bel lt1) (trodAll_cons_mk (shut_int Try.underlying3 w2) (trodAll_cons_mk (Below.trod laidOut2 (by kernel_rfl) (of_decide_eq_true (by kernel_rfl)) k3 bel lt3) trodAll_mk0)))), rfl, bel.frame _, fun h => by cases h⟩

theorem over : Rows.rollLoadsRow.holds Try.pinned (OpenSpec.ofChange Rows.rollLoadsSpec) :=
  OpenClaim.holds_of_wide 4 Try.f4 rfl rfl rfl rfl rfl rfl rfl ⟨rfl, rfl, rfl, rfl, rfl⟩ rfl rfl rfl rfl rfl (by kernel_rfl) Try.func4 (by kernel_rfl)
    (of_decide_eq_true (by kernel_rfl)) (by unfold Func.isWrapper; first | (rw [if_pos (by decide +kernel)]; kernel_rfl) | (rw [if_neg (by decide +kernel)]; exact ⟨rfl, rfl⟩))
    (fun os started H enc _ => lifted os started H enc)

end LRollLoads

theorem rollLoads_holds : Rows.RollLoadsSaid := LRollLoads.over

end Go.Proofs.Ytjcdfjnlpfineaa
