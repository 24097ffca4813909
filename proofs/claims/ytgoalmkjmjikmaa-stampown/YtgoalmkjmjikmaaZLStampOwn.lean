/-
  Chapter 6's law StampOwn returns true for every list of items and every list of identifiers, and leaves its arguments as they were; no condition.
-/
import Derived.Test.YtgoalmkjmjikmaaRows
import Derived.WalkKit
import Derived.ProofKit
import Derived.OpenShut
import Derived.ShutString
import Derived.ChangeOld
import Derived.Below
import Derived.Test.YtgoalmkjmjikmaaZFB
import Derived.Test.YtgoalmkjmjikmaaZLY2
import Derived.Test.YtgoalmkjmjikmaaZEQ
import Derived.Test.YtgoalmkjmjikmaaZQB
import Derived.Test.YtgoalmkjmjikmaaZOp
set_option linter.unusedVariables false
set_option linter.unusedSimpArgs false
namespace Go.Proofs.Ytgoalmkjmjikmaa
namespace LStampOwn
open Go.ChangeShapes Go.WideShapes Go.ChangeAt Go.RowKit Go.Lib
open Go.ChangeMaps (open_string shut_string)

open O

theorem wItm_len (s : List Nat × Int) {x : Bool × Int × ByteArray} (h : x.2.2.size ≤ 50000) : (wItm s x).1.length ≤ s.1.length + 50011 := by
  unfold wItm
  split
  · unfold wTxt
    split
    · omega
    · have := num_len x.2.2.size
      simp only [List.length_append, sB_len]; omega
  · unfold wNum
    split
    · omega
    · split
      · simp only; omega
      · have := num_len x.2.1.toNat
        simp only [List.length_append]; omega

theorem packF_len (l : List (Int × Int)) : (packF l).length ≤ l.length := by
  have h := (stP_inv (sortI l) (sortI_sorted l)).1.len
  rw [packF_stP, (sortI_perm l).length_eq] at h
  exact h

theorem own_addr {W : World} {B e s n c : Nat} {ag : Option Addr} {xs : List Value} (h : W.ownsRow B e s (.slice ag n c) n xs) : (ag = none ∧ n = 0 ∧ c = 0) ∨ ∃ g, ag = some ⟨g, 0, none⟩ := by
  rcases h.2 with ⟨e0, _⟩ | ⟨g, cap, cur, e1, _⟩
  · simp only [Value.slice.injEq] at e0
    exact .inl e0
  · simp only [Value.slice.injEq] at e1
    exact .inr ⟨g, e1.1⟩
theorem new_cells (W : World) (cs : Array Value) (t : TypeId) : ∀ j u, cs.toList[j]? = some u → (W.alloc (.cells cs t)).cell? ((⟨W.heap.size, 0, none⟩ : Addr).add j) = some u := by
  intro j u h
  rw [Addr.add_lit, Nat.zero_add]
  exact (Bx.new W t cs).cell j u (by simpa using h)

abbrev nl : Value := .slice none 0 0
/-- four arrays of nothing -/
theorem H.start (W1 : World) (N M : Nat) : ∃ v n xs, H W1 (fun g => W1.heap.size + g) N M 0 false false 0 0 v n xs ((((W1.alloc (.cells #[nl, nl, nl] 69)).alloc (.cells #[nl, nl, nl] 69)).alloc (.cells #[nl, nl, nl] 70)).alloc (.cells #[nl, nl, nl] 70)) := by
  have b0 := (((box_own W1 W1.heap.size (Nat.le_refl _) 69).alloc (.cells #[nl, nl, nl] 69)).alloc (.cells #[nl, nl, nl] 70)).alloc (.cells #[nl, nl, nl] 70)
  have b1 := ((box_own (W1.alloc (.cells #[nl, nl, nl] 69)) W1.heap.size (by simp) 69).alloc (.cells #[nl, nl, nl] 70)).alloc (.cells #[nl, nl, nl] 70)
  have b2 := (box_own ((W1.alloc (.cells #[nl, nl, nl] 69)).alloc (.cells #[nl, nl, nl] 69)) W1.heap.size (by simp; omega) 70).alloc (.cells #[nl, nl, nl] 70)
  have b3 := box_own (((W1.alloc (.cells #[nl, nl, nl] 69)).alloc (.cells #[nl, nl, nl] 69)).alloc (.cells #[nl, nl, nl] 70)) W1.heap.size (by simp; omega) 70
  simp only [World.size_alloc] at b1 b2 b3
  refine ⟨fun j => if j < 12 then nl else .slice (some ⟨W1.heap.size + (j - 12), 0, none⟩) 3 3, fun j => if j < 12 then 0 else 3, fun j => if j < 12 then [] else [nl, nl, nl], ⟨⟨⟨fun j hj => ?_, fun j k hj hk hne => ?_, ?_⟩, fun g hg => ?_⟩, fun j hj => ?_, fun j hj => (by omega), fun e => (by cases e), fun e => (by cases e), Fb.zero _ _, Fr.zero _ _⟩⟩
  · by_cases h : j < 12
    · simp only [h, if_true]
      exact World.ownsRow_nil _ _ _ _
    · simp only [h, if_false]
      have : j = 12 ∨ j = 13 ∨ j = 14 ∨ j = 15 := by omega
      rcases this with rfl | rfl | rfl | rfl
      · exact b0
      · exact b1
      · exact b2
      · exact b3
  · by_cases h : j < 12
    · simp only [h, if_true]; exact Apart.none _
    · by_cases h2 : k < 12
      · simp only [h2, if_true]; exact (Apart.none _).symm
      · simp only [h, h2, if_false]
        refine .inr fun e => hne ?_
        simp [Value.ownBlock] at e
        rw [show j = k by omega]
  · exact ballc (ballc (ballc (ballc (Below.refl _ _) _) _) _) _
  · have h1 : ¬ 12 + g < 12 := by omega
    simp only [h1, if_false]
    refine ⟨by rw [show 12 + g - 12 = g by omega], trivial, ?_⟩
    have h2 := @oo_lt g
    simp only [tri, show oo g < 12 by omega, show oo g + 1 < 12 by omega, show oo g + 2 < 12 by omega, if_true]
  · simp only [show 6 + j < 12 by omega, if_true]

set_option maxRecDepth 100000 in
set_option maxHeartbeats 8000000 in
theorem walk (a0 : Option Addr) (len0 cap0 : Nat) (z0 : List (Bool × Int × ByteArray)) (a1 : Option Addr) (len1 cap1 : Nat) (z1 : List (Int × Int)) (w : World)
    (w0 : RT w (.slice a0 len0 cap0) z0 ∧ z0.length = len0 ∧ len0 ≤ maxLen ∧ ∀ e ∈ z0, itemIn e) (w1 : RI w (.slice a1 len1 cap1) z1 ∧ z1.length = len1 ∧ len1 ≤ maxLen ∧ ∀ e ∈ z1, idIn e) :
    Calls Try.prog 7 #[.slice a0 len0 cap0, .slice a1 len1 cap1] w fun e W => e = .returned (.bool true) ∧ Below w.heap.size w W := by
  obtain ⟨r0, e0, _, hin0⟩ := w0
  obtain ⟨r1, e1, _, hin1⟩ := w1
  obtain ⟨iB, jBi, jB0, jB1, jB2⟩ := info_parts infoB
  have JBi := hide jBi
  have JB0 := hide jB0
  have JB1 := hide jB1
  have JB2 := hide jB2
  obtain ⟨iR, jRi, jR0, jR1, jR2⟩ := info_parts infoR
  have JRi := hide jRi
  have JR0 := hide jR0
  have JR1 := hide jR1
  have JR2 := hide jR2
  clear jBi jB0 jB1 jB2 jRi jR0 jR1 jR2
  have HK := hide (fun W => known_in W)
  have HM := hide (much_in _ z0 none 0 0 w r0)
  have R0 := hide r0
  have E0 := hide e0
  have E1 := hide e1
  have I0 := hide hin0
  have I1 := hide hin1
  have R1 := hide r1
  clear r0 r1 e0 e1 hin0 hin1
  go_enter Try.func7, Try.ntmps7
  go_wp2_with fail
  refine (unhide HM).mono ?_
  rintro r X ⟨⟨b, rfl, hb⟩, hX⟩
  subst hX
  cases b with
  | true =>
    clear hb
    go_wp2_with fail
    refine (unhide HK _).mono ?_
    rintro r W1 ⟨rfl, hb⟩
    go_wp2
    go_ret
    exact ⟨rfl, hb⟩
  | false =>
  obtain ⟨n0, -, hz⟩ := hb rfl
  by_cases h4 : 400 < len1
  · have h4' : (400 : Int) < (len1 : Int) := by omega
    clear hb HM n0 hz
    go_wp2_with fail
    refine (unhide HK _).mono ?_
    rintro r W1 ⟨rfl, hb⟩
    go_wp2
    go_ret
    exact ⟨rfl, hb⟩
  · have h4' : ¬ (400 : Int) < (len1 : Int) := by omega
    have hs0 : len0 ≤ 400 := by have := unhide E0; omega
    have Hz := hide hz
    clear hb HM n0 hz
    obtain ⟨Y, hY⟩ : ∃ Y, X.alloc (.cells #[.slice none 0 0, .int .i64 0] 68) = Y := ⟨_, rfl⟩
    have HW : Hid (Wr Y X.heap.size (.slice none 0 0) [] 0 ∧ Below X.heap.size X Y) := by rw [← hY]; exact hide ⟨Wr.new X, ballc (Below.refl _ _) _⟩
    go_wp2
    clear hY
    go_loopw [6] (fun iv wr => ∃ (i : Nat) (e : Int) (v : Value) (L : List Nat), iv = .int .i64 (i : Nat) ∧ i ≤ len0 ∧ Hid (L.length ≤ i * 50011 ∧ Wr wr X.heap.size v L e ∧ Below X.heap.size X wr)) (fun iv _ => len0 - (Lib.intOf iv).toNat)
    case atStart => exact ⟨0, 0, _, [], rfl, by omega, hide ⟨by simp, unhide HW⟩⟩
    case round =>
      clear HW
      obtain ⟨i, e, v, L, rfl, hi, hW⟩ := hrel
      by_cases hlt : i < len0
      · have hlt' : (i : Int) < (len0 : Int) := by omega
        obtain ⟨x, hx⟩ : ∃ x, z0[i]? = some x := ⟨_, List.getElem?_eq_getElem (by have := unhide E0; omega)⟩
        obtain ⟨b, off, rfl, hbl, c0, c1, c2⟩ := RT.at (RT.below (unhide R0) (unhide hW).2.2) hx
        have hxs := unhide Hz x (List.mem_of_getElem? hx)
        have hxi := unhide I0 x (List.mem_of_getElem? hx)
        obtain ⟨bt, m, s⟩ := x
        simp only at c0 c1 c2 hxs
        have hlay := lay_in bt m s (unhide hW).2.1 hxi.1 hxs (by have := (unhide hW).1; omega)
        have hwl := wItm_len (L, e) (x := (bt, m, s)) hxs
        have HL := hide hlay
        have Hwl := hide hwl
        clear hlay hwl hxs hxi hx
        go_wp2_with fail
        refine (unhide HL).mono ?_
        rintro r W2 ⟨rfl, v', k1, k2, k3⟩
        have HB := hide (bkp (unhide hW).2.2 (unhide hW).2.1 k2 (Nat.le_refl _))
        have K1 := hide k1
        clear HL k1 k2 k3
        go_wp2
        go_roundw
        case measure => show len0 - ((i : Int) + 1).toNat < len0 - ((i : Nat) : Int).toNat; omega
        case rel => exact ⟨i + 1, _, v', _, by go_num, by omega, hide ⟨by have h1 := unhide Hwl; have h2 := (unhide hW).1; omega, unhide K1, unhide HB⟩⟩
      · have hlt' : ¬ (i : Int) < (len0 : Int) := by omega
        obtain ⟨hL0, hwr, hbw⟩ := unhide hW
        have hLL : L.length ≤ 20004400 := by
          have : i * 50011 ≤ 400 * 50011 := Nat.mul_le_mul_right _ (by omega)
          omega
        have HD := hide (wData_in hwr (by omega))
        have HWr := hide hwr
        have HBw := hide hbw
        clear hL0 hwr hbw hW
        go_wp2_with fail
        refine (unhide HD).mono ?_
        rintro r Wf ⟨fv, rfl, hof, hbf⟩
        have HFi := hide (RC.of_owns hof)
        obtain ⟨fa, fc, rfl⟩ := owns_form hof
        have HWf := hide ((unhide HWr).below hbf)
        have HBf := hide (bnext (unhide HBw) hbf)
        have HRI := hide ((unhide R1).below (unhide HBf))
        obtain ⟨M, hM⟩ : ∃ M, (packF z1).length = M := ⟨_, rfl⟩
        have HD2 := hide (fun (W : World) (h : Below Wf.heap.size Wf W) => wData_in ((unhide HWf).below h) (by omega))
        have HP2 := hide (fun (W : World) (h : Below Wf.heap.size Wf W) => Pack_in _ z1 W ((unhide HRI).below h) (unhide I1) (by have := unhide E1; omega))
        rw [hM] at HP2
        have HFb := hide (fun (W : World) (h : Below Wf.heap.size Wf W) (u : Value) (hu : RB W u L) => bytes_in L L u (.slice fa L.length fc) W hu ((unhide HFi).below h) (by omega) (by omega))
        rw [decide_eq_true (rfl : L = L)] at HFb
        have hML : M ≤ 400 := by have h1 := packF_len z1; have := unhide E1; omega
        obtain ⟨v0, n0, xs0, hS0⟩ := H.start Wf L.length M
        obtain ⟨N, hN⟩ : ∃ N, L.length = N := ⟨_, rfl⟩
        rw [hN] at hS0 HFb hLL HD2 ⊢
        obtain ⟨bk, hbk⟩ : ∃ bk : Nat → Nat, (fun g => Wf.heap.size + g) = bk := ⟨_, rfl⟩
        have q0 : Wf.heap.size = bk 0 := by rw [← hbk]; rfl
        have q1 : Wf.heap.size + 1 = bk 1 := by rw [← hbk]
        have q2 : Wf.heap.size + 1 + 1 = bk 2 := by rw [← hbk]
        have q3 : Wf.heap.size + 1 + 1 + 1 = bk 3 := by rw [← hbk]
        rw [hbk] at hS0
        obtain ⟨W4, hW4⟩ : ∃ W4, ((((Wf.alloc (.cells #[nl, nl, nl] 69)).alloc (.cells #[nl, nl, nl] 69)).alloc (.cells #[nl, nl, nl] 70)).alloc (.cells #[nl, nl, nl] 70)) = W4 := ⟨_, rfl⟩
        rw [hW4] at hS0
        have HS0 := hide hS0
        have HN := hide hN
        have Q0 := hide q0
        have Q1 := hide q1
        have Q2 := hide q2
        have Q3 := hide q3
        clear hof hbf HD HWr HBw hS0 HFi hN hM q0 q1 q2 q3 hbk
        go_wp2_with fail
        rw [unhide Q3, unhide Q2, unhide Q1, unhide Q0]
        clear Q0 Q1 Q2 Q3 hW4
        go_loopw [12] (fun iv wr => ∃ (i : Nat) (v : Nat → Value) (n : Nat → Nat) (xs : Nat → List Value), iv = .int .i64 (i : Nat) ∧ i ≤ 3 ∧ Hid (H Wf bk N M i false false 0 0 v n xs wr)) (fun iv _ => 3 - (Lib.intOf iv).toNat)
        case atStart => exact ⟨0, _, _, _, rfl, by omega, HS0⟩
        case round =>
          clear HS0
          obtain ⟨i, v, n, xs, rfl, hi3, hH⟩ := hrel
          by_cases hi : i < 3
          · have i1 : (i : Int) < 3 := by omega
            have HD3 := hide (unhide HD2 wr (unhide hH).bs.fm.bel)
            go_wp2_with fail
            refine (unhide HD3).mono ?_
            rintro r W5 ⟨u5, rfl, ho5, hb5⟩
            obtain ⟨c5, f5, l5⟩ := ((unhide hH).below hb5).bs.get (g := 0) (by omega) hi
            obtain ⟨v6, n6, xs6, h6, hv6, hx6⟩ := (unhide hH).rows hi hb5 ho5
            obtain ⟨W6, hW6⟩ : ∃ W6, W5.setCell ⟨bk 0, i, none⟩ u5 = W6 := ⟨_, rfl⟩
            rw [hW6] at h6
            obtain ⟨a5, k5, rfl⟩ := owns_form ho5
            have H6 := hide h6
            have HP3 := hide (unhide HP2 W6 (unhide H6).bs.fm.bel)
            clear ho5 hb5 hH h6 HD3
            go_wp2_with fail
            clear hW6 c5 f5 l5
            refine (unhide HP3).mono ?_
            rintro r W7 ⟨u7, rfl, ho7, hb7⟩
            obtain ⟨c7, f7, l7⟩ := ((unhide H6).below hb7).bs.get (g := 2) (by omega) hi
            obtain ⟨v8, n8, xs8, h8, hv8, hv8', hx8⟩ := (unhide H6).packs hi hb7 ho7
            obtain ⟨W8, hW8⟩ : ∃ W8, W7.setCell ⟨bk 2, i, none⟩ u7 = W8 := ⟨_, rfl⟩
            rw [hW8] at h8
            obtain ⟨a7, k7, rfl⟩ := owns_form ho7
            have hrb : RB W8 (.slice a5 N k5) L := by
              have h := RC.of_owns (h8.bs.fm.own i (by omega))
              rw [hv8', hv6, h8.r1 rfl, hx8, hx6] at h
              unfold RB
              rw [unhide HN]
              exact h
            obtain ⟨c8, -, -⟩ := h8.bs.get (g := 0) (by omega) hi
            rw [show oo 0 + i = i from Nat.zero_add i, hv8', hv6] at c8
            have H8 := hide h8
            have HB8 := hide (unhide HFb W8 (unhide H8).bs.fm.bel _ hrb)
            have V8 := hide (show v8 i = .slice a5 N k5 ∧ v8 (3 + i) = .slice a7 M k7 from ⟨hv8'.trans hv6, hv8⟩)
            clear ho7 hb7 h8 HP3 H6 hrb hv8 hv8' hx8 hv6 hx6
            go_wp2_with fail
            refine (unhide HB8).mono ?_
            rintro r W9 ⟨rfl, k9, hW9⟩
            have H9 : Hid (H Wf bk N M i true true 0 0 v8 n8 xs8 W9) := by rw [hW9]; exact hide ((unhide H8).below (bdrew (Below.refl _ _) k9))
            clear hW9 H8 HB8 c7 f7 l7 c8 hW8
            go_wp2
            go_loopw [13] (fun kv wr => ∃ (k : Nat) (xs : Nat → List Value), kv = .int .i64 (k : Nat) ∧ k ≤ N ∧ Hid (H Wf bk N M i true true k 0 v8 n8 xs wr)) (fun kv _ => N - (Lib.intOf kv).toNat)
            case atStart => exact ⟨0, _, rfl, by omega, H9⟩
            case round =>
              clear H9
              obtain ⟨k, xk, rfl, hk, hH⟩ := hrel
              obtain ⟨ce, fe, le⟩ := (unhide hH).bs.get (g := 0) (by omega) hi
              rw [show oo 0 + i = i from Nat.zero_add i, (unhide V8).1] at ce
              by_cases hkn : k < N
              · have k1 : (k : Int) < (N : Int) := by omega
                have hrow := (unhide hH).bs.fm.own i (by omega)
                rw [(unhide V8).1, (unhide hH).r1 rfl, (ee_b hi).1, (ee_b hi).2] at hrow
                obtain ⟨g, c, hvg⟩ := own_some hrow (by omega)
                simp only [Value.slice.injEq, true_and] at hvg
                obtain ⟨rfl, rfl⟩ := hvg
                have hl := hrow.1
                obtain ⟨y0, hy0⟩ : ∃ y, (xk i)[k]? = some y := ⟨_, List.getElem?_eq_getElem (by omega)⟩
                have d0 := (hrow.cellAt k (by omega)).trans hy0
                have f0 := hrow.frozenAt k
                have l0 := (hrow.lt g rfl).2
                have hHn := hide ((unhide hH).byte hi hkn (unhide V8).1)
                clear hH hrow hl hy0
                go_wp2
                go_roundw
                case rel => exact ⟨k + 1, _, by go_num, by omega, hHn⟩
                case measure => show N - ((k : Int) + 1).toNat < N - ((k : Nat) : Int).toNat; omega
              · have k1 : ¬ (k : Int) < (N : Int) := by omega
                have hke : k = N := by omega
                have H10 : Hid (H Wf bk N M i true true N 0 v8 n8 xk wr) := hke ▸ hH
                clear hH hk hke hkn
                go_wp2
                clear ce fe le k1
                go_loopw [14] (fun kv wr => ∃ (k : Nat) (xs : Nat → List Value), kv = .int .i64 (k : Nat) ∧ k ≤ M ∧ Hid (H Wf bk N M i true true N k v8 n8 xs wr)) (fun kv _ => M - (Lib.intOf kv).toNat)
                case atStart => exact ⟨0, _, rfl, by omega, H10⟩
                case round =>
                  clear H10
                  obtain ⟨k, xk, rfl, hk, hH⟩ := hrel
                  obtain ⟨ce, fe, le⟩ := (unhide hH).bs.get (g := 2) (by omega) hi
                  rw [show oo 2 = 3 from rfl, (unhide V8).2] at ce
                  by_cases hkn : k < M
                  · have k1 : (k : Int) < (M : Int) := by omega
                    have hrow := (unhide hH).bs.fm.own (3 + i) (by omega)
                    rw [(unhide V8).2, (unhide hH).r2 rfl, (ee_r hi).1, (ee_r hi).2] at hrow
                    obtain ⟨g, c, hvg⟩ := own_some hrow (by omega)
                    simp only [Value.slice.injEq, true_and] at hvg
                    obtain ⟨rfl, rfl⟩ := hvg
                    have hl := hrow.1
                    obtain ⟨y0, hy0⟩ : ∃ y, (xk (3 + i))[k * 3]? = some y := ⟨_, List.getElem?_eq_getElem (by omega)⟩
                    obtain ⟨y1, hy1⟩ : ∃ y, (xk (3 + i))[k * 3 + 1]? = some y := ⟨_, List.getElem?_eq_getElem (by omega)⟩
                    obtain ⟨y2, hy2⟩ : ∃ y, (xk (3 + i))[k * 3 + 2]? = some y := ⟨_, List.getElem?_eq_getElem (by omega)⟩
                    have d0 := (hrow.cellAt (k * 3) (by omega)).trans hy0
                    have d1 := (hrow.cellAt (k * 3 + 1) (by omega)).trans hy1
                    have d2 := (hrow.cellAt (k * 3 + 2) (by omega)).trans hy2
                    have f0 := hrow.frozenAt (k * 3)
                    have f1 := hrow.frozenAt (k * 3 + 1)
                    have f2 := hrow.frozenAt (k * 3 + 2)
                    have l0 := (hrow.lt g rfl).2
                    have hHn := hide ((unhide hH).run hi hkn (unhide V8).2 (.int .i64 0) (.int .i64 0))
                    clear hH hrow hl hy0 hy1 hy2
                    go_wp2
                    go_roundw
                    case rel => exact ⟨k + 1, _, by go_num, by omega, hHn⟩
                    case measure => show M - ((k : Int) + 1).toNat < M - ((k : Nat) : Int).toNat; omega
                  · have k1 : ¬ (k : Int) < (M : Int) := by omega
                    have hke : k = M := by omega
                    have H11 : Hid (H Wf bk N M (i + 1) false false 0 0 v8 n8 xk wr) := hide (unhide (hke ▸ hH : Hid (H Wf bk N M i true true N M v8 n8 xk wr))).next
                    clear hH hk hke hkn
                    go_wp2
                    go_roundw
                    case rel => exact ⟨i + 1, _, _, _, by go_num, by omega, H11⟩
                    case measure => show 3 - ((i : Int) + 1).toNat < 3 - ((i : Nat) : Int).toNat; omega
          · have i1 : ¬ (i : Int) < 3 := by omega
            have hie : i = 3 := by omega
            have HK0 : Hid (K Wf bk N M 0 false false 0 0 v n xs wr) := hide (K.start (unhide (hie ▸ hH : Hid (H Wf bk N M 3 false false 0 0 v n xs wr))))
            clear hH hi hi3 hie HP2 HRI
            go_wp2
            clear i1
            go_loopw [15] (fun iv wr => ∃ (i : Nat) (v : Nat → Value) (n : Nat → Nat) (xs : Nat → List Value), iv = .int .i64 (i : Nat) ∧ i ≤ 3 ∧ Hid (K Wf bk N M i false false 0 0 v n xs wr)) (fun iv _ => 3 - (Lib.intOf iv).toNat)
            case atStart => exact ⟨0, _, _, _, rfl, by omega, HK0⟩
            case round =>
              clear HK0
              obtain ⟨i, v, n, xs, rfl, hi3, hH⟩ := hrel
              by_cases hi : i < 3
              · have i1 : (i : Int) < 3 := by omega
                obtain ⟨c0, f0, l0⟩ := (unhide hH).bs.get (g := 0) (by omega) hi
                obtain ⟨c1, f1, l1⟩ := (unhide hH).bs.get (g := 1) (by omega) hi
                rw [show oo 0 + i = i from Nat.zero_add i] at c0
                have ho0 := (unhide hH).bs.fm.own i (by omega)
                obtain ⟨a0', k0', hv0⟩ := own_formO ho0
                rw [((unhide hH).dn i hi).1] at hv0
                obtain ⟨v1, n1, xs1, h1, hv1⟩ := (unhide hH).longs hi
                rw [hv0] at c0 h1 hv1
                obtain ⟨W1, hW1⟩ : ∃ W1, wr.setCell ⟨bk 1, i, none⟩ (.slice a0' N k0') = W1 := ⟨_, rfl⟩
                rw [hW1] at h1
                obtain ⟨c2, f2, l2⟩ := h1.bs.get (g := 2) (by omega) hi
                obtain ⟨c3, f3, l3⟩ := h1.bs.get (g := 3) (by omega) hi
                rw [show oo 2 = 3 from rfl] at c2
                have ho2 := h1.bs.fm.own (3 + i) (by omega)
                obtain ⟨a2', k2', hv2⟩ := own_formO ho2
                rw [(h1.dn i hi).2.1] at hv2
                obtain ⟨v2, n2, xs2, h2, hv2'⟩ := h1.more hi
                rw [hv2] at c2 h2 hv2'
                obtain ⟨W2, hW2⟩ : ∃ W2, W1.setCell ⟨bk 3, i, none⟩ (.slice a2' M k2') = W2 := ⟨_, rfl⟩
                rw [hW2] at h2
                have H2 := hide h2
                clear h1 h2 ho0 ho2 hv0 hv1 hv2 hv2' hH
                go_wp2
                clear hW1 hW2 c0 f0 l0 c1 f1 l1 c2 f2 l2 c3 f3 l3
                go_loopw [16] (fun kv wr => ∃ (k : Nat) (v : Nat → Value) (n : Nat → Nat) (xs : Nat → List Value), kv = .int .i64 (k : Nat) ∧ k ≤ 40 ∧ Hid (K Wf bk N M i true true k k v n xs wr)) (fun kv _ => 40 - (Lib.intOf kv).toNat)
                case atStart => exact ⟨0, _, _, _, rfl, by omega, H2⟩
                case round =>
                  clear H2
                  obtain ⟨k, v, n, xs, rfl, hk, hH⟩ := hrel
                  by_cases hkn : k < 40
                  · have k1 : (k : Int) < 40 := by omega
                    obtain ⟨ce, fe, le⟩ := (unhide hH).bs.get (g := 1) (by omega) hi
                    have hrow := (unhide hH).bs.fm.own (6 + i) (by omega)
                    rw [((unhide hH).q1 rfl).1, (ee_b6 hi).1, (ee_b6 hi).2] at hrow
                    obtain ⟨ag, cg, hform⟩ := own_formO hrow
                    rw [show oo 1 = 6 from rfl, hform] at ce
                    rw [hform] at hrow
                    have Hrow := hide hrow
                    have hlo := hrow.1
                    have Hform := hide hform
                    clear hrow hform
                    by_cases hc : N + k + 1 ≤ cg
                    · obtain ⟨g, rfl⟩ : ∃ g, ag = some ⟨g, 0, none⟩ := by
                        rcases own_addr (unhide Hrow) with ⟨_, _, h0⟩ | h
                        · omega
                        · exact h
                      go_upto_region 37 with (at_builtin; refine wpList_append_fits _ rfl _ _ 45 rfl Wf.heap.size 5 iB 1 Try.underlying45 (unhide JBi) (unhide JB1) g (N + k) cg (xs (6 + i)) rfl (World.ownsRow.alloc (unhide Hrow) _) ⟨wr.heap.size, 0, none⟩ 1 1 [.int .u8 (100 + (i : Int))] rfl rfl (new_cells _ #[_] _) (by simp [Value.oneCell']) hc ?_; intro Z5 ho5 hg5; obtain ⟨v5, n5, xs5, h5, hv5, c5, f5, l5⟩ := ((unhide hH).alloc _).fitsB hi (unhide Hform) ho5 hg5; obtain ⟨Y5, hY5⟩ : ∃ Y, Z5.setCell ⟨bk 1, i, none⟩ (.slice (some ⟨g, 0, none⟩) (N + k + 1) cg) = Y := ⟨_, rfl⟩; rw [hY5] at h5; have H5 := hide h5; clear ho5 hg5 h5 hv5 hH)
                      clear hY5 ce fe le c5 f5 l5 Hrow hlo Hform hc
                      obtain ⟨ce, fe, le⟩ := (unhide H5).bs.get (g := 3) (by omega) hi
                      have hrow := (unhide H5).bs.fm.own (9 + i) (by omega)
                      rw [((unhide H5).q2 rfl).1, (ee_r9 hi).1, (ee_r9 hi).2] at hrow
                      obtain ⟨ag, cg, hform⟩ := own_formO hrow
                      rw [show oo 3 = 9 from rfl, hform] at ce
                      rw [hform] at hrow
                      have Hrow := hide hrow
                      have hlo := hrow.1
                      have Hform := hide hform
                      clear hrow hform
                      by_cases hc : M + k + 1 ≤ cg
                      · obtain ⟨g, rfl⟩ : ∃ g, ag = some ⟨g, 0, none⟩ := by
                          rcases own_addr (unhide Hrow) with ⟨_, _, h0⟩ | h
                          · omega
                          · exact h
                        go_wp2_with (at_builtin; refine wpList_append_fits _ rfl _ _ 22 rfl Wf.heap.size 28 iR 3 Try.underlying22 (unhide JRi) (unhide JR1) g (M + k) cg (xs5 (9 + i)) rfl (World.ownsRow.alloc (unhide Hrow) _) ⟨Y5.heap.size, 0, none⟩ 1 1 [.int .i64 0, .int .i64 0, .int .i64 (100 + (i : Int))] rfl rfl (new_cells _ #[_, _, _] _) (by simp [Value.oneCell']) hc ?_; intro Z7 ho7 hg7; obtain ⟨v7, n7, xs7, h7, hv7, c7, f7, l7⟩ := ((unhide H5).alloc _).fitsR hi (.int .i64 0) (.int .i64 0) (unhide Hform) ho7 hg7; obtain ⟨Y7, hY7⟩ : ∃ Y, Z7.setCell ⟨bk 3, i, none⟩ (.slice (some ⟨g, 0, none⟩) (M + k + 1) cg) = Y := ⟨_, rfl⟩; rw [hY7] at h7; have H7 := hide h7; clear ho7 hg7 h7 hv7 H5)
                        go_wp2
                        go_roundw
                        case rel => exact ⟨k + 1, _, _, _, by go_num, by omega, H7⟩
                        case measure => show 40 - ((k : Int) + 1).toNat < 40 - ((k : Nat) : Int).toNat; omega
                      · have hnone : ag = none → M + k = 0 ∧ cg = 0 := fun e1 => by
                          rcases own_addr (unhide Hrow) with ⟨_, h0, h1⟩ | ⟨g, h⟩
                          · exact ⟨h0, h1⟩
                          · rw [e1] at h; cases h
                        have holds : ∀ (o : Obj) (b' : Addr), ag = some b' → ∀ j u, (xs5 (9 + i))[j]? = some u → (Y5.alloc o).cell? (b'.add j) = some u := fun o b' e1 j u hj => by
                          rcases own_addr (unhide Hrow) with ⟨h0, _⟩ | ⟨g, h⟩
                          · rw [e1] at h0; cases h0
                          · obtain rfl : b' = ⟨g, 0, none⟩ := by rw [e1] at h; simpa using h
                            exact (World.ownsRow.alloc (unhide Hrow) o).cells (by rw [e1]; rfl) j u hj
                        go_wp2_with (at_builtin; refine wpList_append_grows _ rfl _ _ 22 rfl 28 iR _ 3 24 Try.underlying22 (unhide JRi) (unhide JR0) (unhide JR1) (unhide JR2) rfl (by decide) ag (M + k) cg (xs5 (9 + i)) rfl hnone hlo (holds _) ⟨Y5.heap.size, 0, none⟩ 1 1 [.int .i64 0, .int .i64 0, .int .i64 (100 + (i : Int))] rfl rfl (new_cells _ #[_, _, _] _) (by simp [Value.oneCell']) (by omega) (by unfold maxLen; omega) (by omega) ?_; intro z7 Z7 ho7 hg7; obtain ⟨za7, zc7, hz7⟩ := own_formO ho7; subst hz7; obtain ⟨v7, n7, xs7, h7, hv7, c7, f7, l7⟩ := ((unhide H5).alloc _).growsR hi (.int .i64 0) (.int .i64 0) ho7 hg7; obtain ⟨Y7, hY7⟩ : ∃ Y, Z7.setCell ⟨bk 3, i, none⟩ (.slice za7 (M + k + 1) zc7) = Y := ⟨_, rfl⟩; rw [hY7] at h7; have H7 := hide h7; clear ho7 hg7 h7 hv7 H5)
                        go_wp2
                        go_roundw
                        case rel => exact ⟨k + 1, _, _, _, by go_num, by omega, H7⟩
                        case measure => show 40 - ((k : Int) + 1).toNat < 40 - ((k : Nat) : Int).toNat; omega
                    · have hnone : ag = none → N + k = 0 ∧ cg = 0 := fun e1 => by
                        rcases own_addr (unhide Hrow) with ⟨_, h0, h1⟩ | ⟨g, h⟩
                        · exact ⟨h0, h1⟩
                        · rw [e1] at h; cases h
                      have holds : ∀ (o : Obj) (b' : Addr), ag = some b' → ∀ j u, (xs (6 + i))[j]? = some u → (wr.alloc o).cell? (b'.add j) = some u := fun o b' e1 j u hj => by
                        rcases own_addr (unhide Hrow) with ⟨h0, _⟩ | ⟨g, h⟩
                        · rw [e1] at h0; cases h0
                        · obtain rfl : b' = ⟨g, 0, none⟩ := by rw [e1] at h; simpa using h
                          exact (World.ownsRow.alloc (unhide Hrow) o).cells (by rw [e1]; rfl) j u hj
                      go_upto_region 37 with (at_builtin; refine wpList_append_grows _ rfl _ _ 45 rfl 5 iB _ 1 1 Try.underlying45 (unhide JBi) (unhide JB0) (unhide JB1) (unhide JB2) rfl (by decide) ag (N + k) cg (xs (6 + i)) rfl hnone hlo (holds _) ⟨wr.heap.size, 0, none⟩ 1 1 [.int .u8 (100 + (i : Int))] rfl rfl (new_cells _ #[_] _) (by simp [Value.oneCell']) (by omega) (by unfold maxLen; omega) (by omega) ?_; intro z5 Z5 ho5 hg5; obtain ⟨za5, zc5, hz5⟩ := own_formO ho5; subst hz5; obtain ⟨v5, n5, xs5, h5, hv5, c5, f5, l5⟩ := ((unhide hH).alloc _).growsB hi ho5 hg5; obtain ⟨Y5, hY5⟩ : ∃ Y, Z5.setCell ⟨bk 1, i, none⟩ (.slice za5 (N + k + 1) zc5) = Y := ⟨_, rfl⟩; rw [hY5] at h5; have H5 := hide h5; clear ho5 hg5 h5 hv5 hH)
                      clear hY5 ce fe le c5 f5 l5 Hrow hlo Hform hc
                      obtain ⟨ce, fe, le⟩ := (unhide H5).bs.get (g := 3) (by omega) hi
                      have hrow := (unhide H5).bs.fm.own (9 + i) (by omega)
                      rw [((unhide H5).q2 rfl).1, (ee_r9 hi).1, (ee_r9 hi).2] at hrow
                      obtain ⟨ag, cg, hform⟩ := own_formO hrow
                      rw [show oo 3 = 9 from rfl, hform] at ce
                      rw [hform] at hrow
                      have Hrow := hide hrow
                      have hlo := hrow.1
                      have Hform := hide hform
                      clear hrow hform
                      by_cases hc : M + k + 1 ≤ cg
                      · obtain ⟨g, rfl⟩ : ∃ g, ag = some ⟨g, 0, none⟩ := by
                          rcases own_addr (unhide Hrow) with ⟨_, _, h0⟩ | h
                          · omega
                          · exact h
                        go_wp2_with (at_builtin; refine wpList_append_fits _ rfl _ _ 22 rfl Wf.heap.size 28 iR 3 Try.underlying22 (unhide JRi) (unhide JR1) g (M + k) cg (xs5 (9 + i)) rfl (World.ownsRow.alloc (unhide Hrow) _) ⟨Y5.heap.size, 0, none⟩ 1 1 [.int .i64 0, .int .i64 0, .int .i64 (100 + (i : Int))] rfl rfl (new_cells _ #[_, _, _] _) (by simp [Value.oneCell']) hc ?_; intro Z7 ho7 hg7; obtain ⟨v7, n7, xs7, h7, hv7, c7, f7, l7⟩ := ((unhide H5).alloc _).fitsR hi (.int .i64 0) (.int .i64 0) (unhide Hform) ho7 hg7; obtain ⟨Y7, hY7⟩ : ∃ Y, Z7.setCell ⟨bk 3, i, none⟩ (.slice (some ⟨g, 0, none⟩) (M + k + 1) cg) = Y := ⟨_, rfl⟩; rw [hY7] at h7; have H7 := hide h7; clear ho7 hg7 h7 hv7 H5)
                        go_wp2
                        go_roundw
                        case rel => exact ⟨k + 1, _, _, _, by go_num, by omega, H7⟩
                        case measure => show 40 - ((k : Int) + 1).toNat < 40 - ((k : Nat) : Int).toNat; omega
                      · have hnone : ag = none → M + k = 0 ∧ cg = 0 := fun e1 => by
                          rcases own_addr (unhide Hrow) with ⟨_, h0, h1⟩ | ⟨g, h⟩
                          · exact ⟨h0, h1⟩
                          · rw [e1] at h; cases h
                        have holds : ∀ (o : Obj) (b' : Addr), ag = some b' → ∀ j u, (xs5 (9 + i))[j]? = some u → (Y5.alloc o).cell? (b'.add j) = some u := fun o b' e1 j u hj => by
                          rcases own_addr (unhide Hrow) with ⟨h0, _⟩ | ⟨g, h⟩
                          · rw [e1] at h0; cases h0
                          · obtain rfl : b' = ⟨g, 0, none⟩ := by rw [e1] at h; simpa using h
                            exact (World.ownsRow.alloc (unhide Hrow) o).cells (by rw [e1]; rfl) j u hj
                        go_wp2_with (at_builtin; refine wpList_append_grows _ rfl _ _ 22 rfl 28 iR _ 3 24 Try.underlying22 (unhide JRi) (unhide JR0) (unhide JR1) (unhide JR2) rfl (by decide) ag (M + k) cg (xs5 (9 + i)) rfl hnone hlo (holds _) ⟨Y5.heap.size, 0, none⟩ 1 1 [.int .i64 0, .int .i64 0, .int .i64 (100 + (i : Int))] rfl rfl (new_cells _ #[_, _, _] _) (by simp [Value.oneCell']) (by omega) (by unfold maxLen; omega) (by omega) ?_; intro z7 Z7 ho7 hg7; obtain ⟨za7, zc7, hz7⟩ := own_formO ho7; subst hz7; obtain ⟨v7, n7, xs7, h7, hv7, c7, f7, l7⟩ := ((unhide H5).alloc _).growsR hi (.int .i64 0) (.int .i64 0) ho7 hg7; obtain ⟨Y7, hY7⟩ : ∃ Y, Z7.setCell ⟨bk 3, i, none⟩ (.slice za7 (M + k + 1) zc7) = Y := ⟨_, rfl⟩; rw [hY7] at h7; have H7 := hide h7; clear ho7 hg7 h7 hv7 H5)
                        go_wp2
                        go_roundw
                        case rel => exact ⟨k + 1, _, _, _, by go_num, by omega, H7⟩
                        case measure => show 40 - ((k : Int) + 1).toNat < 40 - ((k : Nat) : Int).toNat; omega
                  · have k1 : ¬ (k : Int) < 40 := by omega
                    have hke : k = 40 := by omega
                    have H3 : Hid (K Wf bk N M (i + 1) false false 0 0 v n xs wr) := hide (unhide (hke ▸ hH : Hid (K Wf bk N M i true true 40 40 v n xs wr))).next
                    clear hH hk hke hkn
                    go_wp2
                    go_roundw
                    case rel => exact ⟨i + 1, _, _, _, by go_num, by omega, H3⟩
                    case measure => show 3 - ((i : Int) + 1).toNat < 3 - ((i : Nat) : Int).toNat; omega
              · have i1 : ¬ (i : Int) < 3 := by omega
                have hie : i = 3 := by omega
                have HK3 : Hid (K Wf bk N M 3 false false 0 0 v n xs wr) := hie ▸ hH
                clear hH hi hi3 hie
                obtain ⟨W3, hW3⟩ : ∃ W, W = wr := ⟨_, rfl⟩
                subst hW3
                go_wp2
                clear i1
                go_loopw [17] (fun iv w3 => ∃ (i : Nat), iv = .int .i64 (i : Nat) ∧ i ≤ 3 ∧ Hid (Below W3.heap.size W3 w3)) (fun iv _ => 3 - (Lib.intOf iv).toNat)
                case atStart => exact ⟨0, rfl, by omega, hide (Below.refl _ _)⟩
                case round =>
                  obtain ⟨i, rfl, hi3, HB⟩ := hrel
                  by_cases hi : i < 3
                  · have i1 : (i : Int) < 3 := by omega
                    go_wp2
                    go_loopw [18] (fun kv w4 => ∃ (k : Nat), kv = .int .i64 (k : Nat) ∧ k ≤ N + 40 ∧ Hid (Below W3.heap.size W3 w4)) (fun kv _ => N + 40 - (Lib.intOf kv).toNat)
                    case atStart => exact ⟨0, rfl, by omega, HB⟩
                    case round =>
                      clear HB
                      obtain ⟨k, rfl, hk, HB⟩ := hrel
                      have hKw := (unhide HK3).below (unhide HB)
                      obtain ⟨ce, fe, le⟩ := hKw.bs.get (g := 1) (by omega) hi
                      obtain ⟨cd, fd, ld⟩ := hKw.bs.get (g := 0) (by omega) hi
                      have hrow := hKw.bs.fm.own (6 + i) (by omega)
                      rw [((unhide HK3).se i hi).1, (ee_b6 hi).1, (ee_b6 hi).2] at hrow
                      obtain ⟨gl, cl, hfl⟩ := own_some hrow (by omega)
                      have hrow0 := hKw.bs.fm.own (i) (by omega)
                      rw [((unhide HK3).dn i hi).1, (ee_b hi).1, (ee_b hi).2] at hrow0
                      obtain ⟨ar, cr, hfr⟩ := own_formO hrow0
                      rw [show oo 1 = 6 from rfl, hfl] at ce
                      rw [show oo 0 + i = i from Nat.zero_add i, hfr] at cd
                      rw [hfl] at hrow
                      rw [hfr] at hrow0
                      clear hKw
                      by_cases hkn : k < N + 40
                      · have k1 : (k : Int) < ((N + 40 : Nat) : Int) := by omega
                        have k1' : (k : Int) < ((N : Nat) : Int) + 40 := by omega
                        have hl1 := hrow.1
                        have hl2 := hrow0.1
                        have lg := (hrow.lt gl rfl).2
                        by_cases hkN : k < N
                        · have k2 : ((k : Nat) : Int) < ((N : Nat) : Int) := by omega
                          have k2' : ¬ ((N : Nat) : Int) ≤ ((k : Nat) : Int) := by omega
                          have x1 : wr.cell? ⟨gl, k, none⟩ = some (.int .u8 (10 + (i : Int))) := (hrow.cellAt (k) (by omega)).trans ((((unhide HK3).se i hi).2.2.1).1 k hkN)
                          obtain ⟨gr, cr', hfr'⟩ := own_some hrow0 (by omega)
                          simp only [Value.slice.injEq, true_and] at hfr'
                          obtain ⟨rfl, rfl⟩ := hfr'
                          have x2 : wr.cell? ⟨gr, k, none⟩ = some (.int .u8 (10 + (i : Int))) := (hrow0.cellAt (k) (by omega)).trans ((((unhide HK3).dn i hi).2.2.1) k hkN)
                          have lr := (hrow0.lt gr rfl).2
                          clear hrow hrow0 hl1 hl2 hfl hfr
                          go_wp2
                          go_roundw
                          case rel => exact ⟨k + 1, by go_num, by omega, HB⟩
                          case measure => show N + 40 - ((k : Int) + 1).toNat < N + 40 - ((k : Nat) : Int).toNat; omega
                        · have k2 : ¬ ((k : Nat) : Int) < ((N : Nat) : Int) := by omega
                          have k2' : ((N : Nat) : Int) ≤ ((k : Nat) : Int) := by omega
                          have x1 : wr.cell? ⟨gl, k, none⟩ = some (.int .u8 (100 + (i : Int))) := (hrow.cellAt (k) (by omega)).trans ((((unhide HK3).se i hi).2.2.1).2 k (by omega) hkn)
                          clear hrow hrow0 hl1 hl2 hfl hfr
                          go_wp2
                          go_roundw
                          case rel => exact ⟨k + 1, by go_num, by omega, HB⟩
                          case measure => show N + 40 - ((k : Int) + 1).toNat < N + 40 - ((k : Nat) : Int).toNat; omega
                      · have k1 : ¬ (k : Int) < ((N + 40 : Nat) : Int) := by omega
                        have k1' : ¬ (k : Int) < ((N : Nat) : Int) + 40 := by omega
                        clear hrow hrow0 hfl hfr
                        go_wp2
                        clear ce fe le cd fd ld k1 k1'
                        go_loopw [20] (fun kv w4 => ∃ (k : Nat), kv = .int .i64 (k : Nat) ∧ k ≤ M + 40 ∧ Hid (Below W3.heap.size W3 w4)) (fun kv _ => M + 40 - (Lib.intOf kv).toNat)
                        case atStart => exact ⟨0, rfl, by omega, HB⟩
                        case round =>
                          clear HB
                          obtain ⟨k, rfl, hk, HB⟩ := hrel
                          have hKw := (unhide HK3).below (unhide HB)
                          obtain ⟨ce, fe, le⟩ := hKw.bs.get (g := 3) (by omega) hi
                          obtain ⟨cd, fd, ld⟩ := hKw.bs.get (g := 2) (by omega) hi
                          have hrow := hKw.bs.fm.own (9 + i) (by omega)
                          rw [((unhide HK3).se i hi).2.1, (ee_r9 hi).1, (ee_r9 hi).2] at hrow
                          obtain ⟨gl, cl, hfl⟩ := own_some hrow (by omega)
                          have hrow0 := hKw.bs.fm.own (3 + i) (by omega)
                          rw [((unhide HK3).dn i hi).2.1, (ee_r hi).1, (ee_r hi).2] at hrow0
                          obtain ⟨ar, cr, hfr⟩ := own_formO hrow0
                          rw [show oo 3 = 9 from rfl, hfl] at ce
                          rw [show oo 2 = 3 from rfl, hfr] at cd
                          rw [hfl] at hrow
                          rw [hfr] at hrow0
                          clear hKw
                          by_cases hkn : k < M + 40
                          · have k1 : (k : Int) < ((M + 40 : Nat) : Int) := by omega
                            have k1' : (k : Int) < ((M : Nat) : Int) + 40 := by omega
                            have hl1 := hrow.1
                            have hl2 := hrow0.1
                            have lg := (hrow.lt gl rfl).2
                            by_cases hkN : k < M
                            · have k2 : ((k : Nat) : Int) < ((M : Nat) : Int) := by omega
                              have k2' : ¬ ((M : Nat) : Int) ≤ ((k : Nat) : Int) := by omega
                              have x1 : wr.cell? ⟨gl, k * 3 + 2, none⟩ = some (.int .i64 (10 + (i : Int))) := (hrow.cellAt (k * 3 + 2) (by omega)).trans ((((unhide HK3).se i hi).2.2.2).1 k hkN)
                              obtain ⟨gr, cr', hfr'⟩ := own_some hrow0 (by omega)
                              simp only [Value.slice.injEq, true_and] at hfr'
                              obtain ⟨rfl, rfl⟩ := hfr'
                              have x2 : wr.cell? ⟨gr, k * 3 + 2, none⟩ = some (.int .i64 (10 + (i : Int))) := (hrow0.cellAt (k * 3 + 2) (by omega)).trans ((((unhide HK3).dn i hi).2.2.2) k hkN)
                              have lr := (hrow0.lt gr rfl).2
                              clear hrow hrow0 hl1 hl2 hfl hfr
                              go_wp2
                              go_roundw
                              case rel => exact ⟨k + 1, by go_num, by omega, HB⟩
                              case measure => show M + 40 - ((k : Int) + 1).toNat < M + 40 - ((k : Nat) : Int).toNat; omega
                            · have k2 : ¬ ((k : Nat) : Int) < ((M : Nat) : Int) := by omega
                              have k2' : ((M : Nat) : Int) ≤ ((k : Nat) : Int) := by omega
                              have x1 : wr.cell? ⟨gl, k * 3 + 2, none⟩ = some (.int .i64 (100 + (i : Int))) := (hrow.cellAt (k * 3 + 2) (by omega)).trans ((((unhide HK3).se i hi).2.2.2).2 k (by omega) hkn)
                              clear hrow hrow0 hl1 hl2 hfl hfr
                              go_wp2
                              go_roundw
                              case rel => exact ⟨k + 1, by go_num, by omega, HB⟩
                              case measure => show M + 40 - ((k : Int) + 1).toNat < M + 40 - ((k : Nat) : Int).toNat; omega
                          · have k1 : ¬ (k : Int) < ((M + 40 : Nat) : Int) := by omega
                            have k1' : ¬ (k : Int) < ((M : Nat) : Int) + 40 := by omega
                            clear hrow hrow0 hfl hfr
                            go_wp2
                            go_roundw
                            case rel => exact ⟨i + 1, by go_num, by omega, HB⟩
                            case measure => show 3 - ((i : Int) + 1).toNat < 3 - ((i : Nat) : Int).toNat; omega
                  · have i1 : ¬ (i : Int) < 3 := by omega
                    have HBk := hide (bnext (unhide HK3).bs.fm.bel (unhide HB))
                    have HD3 := hide (unhide HD2 wr (unhide HBk))
                    go_wp2_with fail
                    refine (unhide HD3).mono ?_
                    rintro r W5 ⟨u5, rfl, ho5, hb5⟩
                    have hrb : RB W5 u5 L := by
                      have h := RC.of_owns ho5
                      unfold RB
                      rw [unhide HN]
                      exact h
                    have HBk5 := hide (bnext (unhide HBk) hb5)
                    have HB5 := hide (unhide HFb W5 (unhide HBk5) _ hrb)
                    clear hrb
                    go_wp2_with fail
                    refine (unhide HB5).mono ?_
                    rintro r W6 ⟨rfl, k6, hW6⟩
                    have HB6 : Hid (Below Wf.heap.size Wf W6) := by rw [hW6]; exact hide (bdrew (unhide HBk5) k6)
                    clear hW6
                    go_wp2_with fail
                    refine (unhide HK _).mono ?_
                    rintro r W7 ⟨rfl, hb7⟩
                    go_wp2
                    go_ret
                    exact ⟨rfl, bnext (unhide HBf) (bnext (unhide HB6) hb7)⟩

theorem own : ownKnob Try.prog.godebug = none := by kernel_rfl
theorem laidOut2 : laidOutB Try.prog = true := by kernel_rfl

set_option maxRecDepth 100000 in
theorem lifted (os : Os) (started : os.Started) (H : Type) (enc : TypeId × Value → H) :
    ReturnsInHanded {} Try.checked os 7 .any (Rows.stampOwnSpec.pre6 enc Try.prog Try.f7 Rows.stampOwnRow.domain false) (Rows.stampOwnSpec.post enc Try.prog Try.f7 false true false false) := by
  refine returnsInHanded_of_change (C := Try.checked) own started (by kernel_rfl) Try.func7
    (ChangeSpec.witness6 (enc := enc) (C := Try.checked) false ⟨#[], #[.slice none 0 0, .slice none 0 0], []⟩ 8 (by kernel_rfl) (by kernel_rfl) (by kernel_rfl) (by kernel_rfl)) ?_
  intro W base args ds gs before hval0 hW hcnd _
  have hval : ∀ (j : Nat) t v, Try.f7.params[j]? = some t → args[j]? = some v → Value.okWide Try.prog W .any base t v := hval0
  have hW' := hW
  obtain ⟨p, q, hA0, hV, rfl, hfz, hnd⟩ := hW
  have hA : DataW.TrodAll enc Try.prog W 0 (fun _ => true) true Try.f7.params.toList args.toList ds p := hA0
  rw [Try.params7] at hA hval
  obtain ⟨v0, vs0, d0, ds0, p0, q0, hargs, rfl, rfl, h0, r0⟩ := trodAll_cons hA
  obtain ⟨v1, vs1, d1, ds1, p1, q1, rfl, rfl, rfl, h1, r1⟩ := trodAll_cons r0
  obtain ⟨rfl, rfl, rfl⟩ := trodAll_nil r1
  obtain rfl : args = #[v0, v1] := by cases args; simp_all
  obtain ⟨rfl, rfl⟩ := trodVars_none hV
  obtain ⟨a0, len0, cap0, rfl⟩ := okWide_slice Try.underlying41 (hval 0 41 v0 rfl rfl)
  have k0 := h0
  have lt0 : ∀ x ∈ p0, x.block < W.heap.size := by obtain ⟨m, hm⟩ := k0; exact DataW.trod_lt m _ _ _ hm
  obtain ⟨z0, w0⟩ : ∃ l : List (Bool × Int × ByteArray), RT W (.slice a0 len0 cap0) l ∧ l.length = len0 ∧ len0 ≤ maxLen ∧ ∀ e ∈ l, itemIn e := by
    obtain ⟨fuel, hf⟩ := h0
    simp only [Value.cells] at hf
    exact open_items hf
  obtain ⟨a1, len1, cap1, rfl⟩ := okWide_slice Try.underlying23 (hval 1 23 v1 rfl rfl)
  have k1 := h1
  have lt1 : ∀ x ∈ p1, x.block < W.heap.size := by obtain ⟨m, hm⟩ := k1; exact DataW.trod_lt m _ _ _ hm
  obtain ⟨z1, w1⟩ : ∃ l : List (Int × Int), RI W (.slice a1 len1 cap1) l ∧ l.length = len1 ∧ len1 ≤ maxLen ∧ ∀ e ∈ l, idIn e := by
    obtain ⟨fuel, hf⟩ := h1
    simp only [Value.cells] at hf
    exact open_ids hf
  clear hA0 hval0
  refine (walk a0 len0 cap0 z0 a1 len1 cap1 z1 W w0 w1).mono fun e W' ⟨he, bel⟩ => ?_
  subst he
  exact ⟨_, rfl, _, _, _, [], _, [], hW', trodAll_mk1 (shut_bool Try.underlying4 _), (trodAll_cons_mk (Below.trod laidOut2 (by kernel_rfl) (of_decide_eq_true (by kernel_rfl)) k0 bel lt0) (trodAll_cons_mk (Below.trod laidOut2 (by kernel_rfl) (of_decide_eq_true (by kernel_rfl)) k1 bel lt1) trodAll_mk0)), rfl, bel.frame _, fun h => by cases h⟩

theorem over : Rows.stampOwnRow.holds Try.pinned (OpenSpec.ofChange Rows.stampOwnSpec) :=
  OpenClaim.holds_of_wide 7 Try.f7 rfl rfl rfl rfl rfl rfl rfl ⟨rfl, rfl, rfl, rfl, rfl⟩ rfl rfl rfl rfl rfl (by kernel_rfl) Try.func7 (by kernel_rfl)
    (of_decide_eq_true (by kernel_rfl)) (by unfold Func.isWrapper; first | (rw [if_pos (by decide +kernel)]; kernel_rfl) | (rw [if_neg (by decide +kernel)]; exact ⟨rfl, rfl⟩))
    (fun os started H enc _ => lifted os started H enc)

end LStampOwn

theorem stampOwn_holds : Rows.StampOwnSaid := LStampOwn.over

end Go.Proofs.Ytgoalmkjmjikmaa
