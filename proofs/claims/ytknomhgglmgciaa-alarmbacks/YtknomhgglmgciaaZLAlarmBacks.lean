/-
  Chapter 15's law AlarmBacks returns true for every six numbers; no condition.
-/
import Derived.Test.YtknomhgglmgciaaRows
import Derived.WalkKit
import Derived.ProofKit
import Derived.OpenShut
import Derived.ShutString
import Derived.ChangeOld
import Derived.Below
import Derived.Test.YtknomhgglmgciaaZAX1
import Derived.Test.YtknomhgglmgciaaZAS1
set_option linter.unusedVariables false
set_option linter.unusedSimpArgs false
namespace Go.Proofs.Ytknomhgglmgciaa
namespace LAlarmBacks
open Go.ChangeShapes Go.WideShapes Go.ChangeAt Go.RowKit Go.Lib
open Go.ChangeMaps (open_string shut_string)

theorem b_set1 {ls k now : Int} (h : mayS ls now = true) : setS ls [] k now = [⟨k, ls, now + ls⟩] ∧ setE ls [] k now = 0 := by
  unfold setS setE
  rw [h]
  exact ⟨rfl, rfl⟩
theorem b_set2 {ls k now : Int} {x : Tm} (h : mayS ls now = true) (hk : x.key ≠ k) : setS ls [x] k now = [x, ⟨k, ls, now + ls⟩] ∧ setE ls [x] k now = 0 := by
  have hl : lookL [x] k = none := by unfold lookL; simp [hk]
  unfold setS setE
  rw [h, hl]
  refine ⟨?_, rfl⟩
  simp only [true_and, if_true]
  unfold rstL
  rw [offL_none (fun y hy => by simp at hy; rw [hy]; exact hk)]
  rfl
theorem b_look {x y : Tm} {k : Int} (h : x.key = k) : lookL [x, y] k = some x := by unfold lookL; simp [h]
theorem b_off {x y : Tm} {k : Int} (h1 : x.key ≠ k) (h2 : y.key = k) : offL [x, y] k = [x] := by unfold offL; simp [h1, h2]
/-- two timers, each by itself -/
structure BI (w : World) (b : Nat) (ls ms from_ key other : Int) (gv dv : Value) (t : Nat) (wr : World) (x y : Tm) : Prop where
  ka : KA w wr b ls ms 2 [x, y]
  kx : x.key = key
  ky : y.key = other
  dx : from_ + (t : Int) ≤ x.due
  dy : from_ + (t : Int) ≤ y.due
  gv : gv = .int .i64 x.gap
  dv : dv = .int .i64 x.due
set_option maxRecDepth 100000 in
set_option maxHeartbeats 16000000 in
theorem walk (ls ms from_ key other ticks : Int) (w : World) (h0 : (Lit.int .i64 ls).wf = true) (h1 : (Lit.int .i64 ms).wf = true) (h2 : (Lit.int .i64 from_).wf = true) (h3 : (Lit.int .i64 key).wf = true) (h4 : (Lit.int .i64 other).wf = true) (h5 : (Lit.int .i64 ticks).wf = true) : Calls Try.prog 7 #[.int .i64 ls, .int .i64 ms, .int .i64 from_, .int .i64 key, .int .i64 other, .int .i64 ticks] w fun e W => e = .returned (.bool true) ∧ Below w.heap.size w W := by
  have hk : in64 key := wf64 h3
  have ho : in64 other := wf64 h4
  have HN := hide (New_in ls ms w)
  have HK := hide (fun W => known_in W)
  clear h0 h1 h2 h3 h4 h5
  obtain ⟨B, hB⟩ : ∃ B, newB ls ms = B := ⟨_, rfl⟩
  have HB := hide hB
  cases B with
  | false =>
    clear hB
    go_enter Try.func7, Try.ntmps7
    go_wp2_with fail
    refine (unhide HN).mono ?_
    rintro e W1 ⟨b1, h1⟩
    rw [unhide HB] at h1
    rcases h1 with ⟨h, _⟩ | ⟨_, rfl⟩
    · cases h
    have B1 := hide b1
    clear HN b1
    go_wp2_with fail
    refine (unhide HK _).mono ?_
    rintro e W4 ⟨rfl, b4⟩
    go_wp2
    go_ret
    exact ⟨rfl, bnext (unhide B1) b4⟩
  | true =>
    have hrg : 1 ≤ ls ∧ ls ≤ ms ∧ ms ≤ 4096 := by unfold newB at hB; simpa using hB
    clear hB
    by_cases c0 : from_ < 0
    · have HNW := hide (fun e W (h : NewA (fun i => w.heap.size ≤ i) w ls ms e W) => KA.new h (Below.refl _ _) (unhide HB))
      clear hk ho hrg
      go_enter Try.func7, Try.ntmps7
      go_wp2_with fail
      refine (unhide HN).mono ?_
      intro e W1 h1
      obtain ⟨rfl, k1⟩ := unhide HNW e W1 h1
      replace k1 := hide k1
      clear h1 HN HNW
      go_wp2_with fail
      refine (unhide HK _).mono ?_
      rintro e W4 ⟨rfl, b4⟩
      go_wp2
      go_ret
      exact ⟨rfl, bnext (unhide k1).bel b4⟩
    by_cases c1 : 1000000 < from_
    · have HNW := hide (fun e W (h : NewA (fun i => w.heap.size ≤ i) w ls ms e W) => KA.new h (Below.refl _ _) (unhide HB))
      clear hk ho hrg
      go_enter Try.func7, Try.ntmps7
      go_wp2_with fail
      refine (unhide HN).mono ?_
      intro e W1 h1
      obtain ⟨rfl, k1⟩ := unhide HNW e W1 h1
      replace k1 := hide k1
      clear h1 HN HNW
      go_wp2_with fail
      refine (unhide HK _).mono ?_
      rintro e W4 ⟨rfl, b4⟩
      go_wp2
      go_ret
      exact ⟨rfl, bnext (unhide k1).bel b4⟩
    by_cases c2 : ticks < 0
    · have HNW := hide (fun e W (h : NewA (fun i => w.heap.size ≤ i) w ls ms e W) => KA.new h (Below.refl _ _) (unhide HB))
      clear hk ho hrg
      go_enter Try.func7, Try.ntmps7
      go_wp2_with fail
      refine (unhide HN).mono ?_
      intro e W1 h1
      obtain ⟨rfl, k1⟩ := unhide HNW e W1 h1
      replace k1 := hide k1
      clear h1 HN HNW
      go_wp2_with fail
      refine (unhide HK _).mono ?_
      rintro e W4 ⟨rfl, b4⟩
      go_wp2
      go_ret
      exact ⟨rfl, bnext (unhide k1).bel b4⟩
    by_cases c3 : 3000 < ticks
    · have HNW := hide (fun e W (h : NewA (fun i => w.heap.size ≤ i) w ls ms e W) => KA.new h (Below.refl _ _) (unhide HB))
      clear hk ho hrg
      go_enter Try.func7, Try.ntmps7
      go_wp2_with fail
      refine (unhide HN).mono ?_
      intro e W1 h1
      obtain ⟨rfl, k1⟩ := unhide HNW e W1 h1
      replace k1 := hide k1
      clear h1 HN HNW
      go_wp2_with fail
      refine (unhide HK _).mono ?_
      rintro e W4 ⟨rfl, b4⟩
      go_wp2
      go_ret
      exact ⟨rfl, bnext (unhide k1).bel b4⟩
    by_cases hko : key = other
    · have hkb : (key == other) = true := by simpa using hko
      clear hko
      have HNW := hide (fun e W (h : NewA (fun i => w.heap.size ≤ i) w ls ms e W) => KA.new h (Below.refl _ _) (unhide HB))
      clear hk ho hrg
      go_enter Try.func7, Try.ntmps7
      go_wp2_with fail
      refine (unhide HN).mono ?_
      intro e W1 h1
      obtain ⟨rfl, k1⟩ := unhide HNW e W1 h1
      replace k1 := hide k1
      clear h1 HN HNW
      go_wp2_with fail
      refine (unhide HK _).mono ?_
      rintro e W4 ⟨rfl, b4⟩
      go_wp2
      go_ret
      exact ⟨rfl, bnext (unhide k1).bel b4⟩
    have hkb : (key == other) = false := by simpa using hko
    have mf : mayS ls from_ = true := mayS_iff.2 (by omega)
    obtain ⟨hf, hhf⟩ : ∃ hf, ticks / 2 = hf := ⟨_, rfl⟩
    have hq : Int.tdiv ticks 2 = hf := by rw [Int.tdiv_eq_ediv_of_nonneg (by omega), hhf]
    have mf2 : mayS ls (from_ + hf) = true := mayS_iff.2 (by omega)
    have hz1 : -9223372036854775808 ≤ from_ + hf := by omega
    have hz2 : from_ + hf ≤ 9223372036854775807 := by omega
    have HNW := hide (fun e W (h : NewA (fun i => w.heap.size ≤ i) w ls ms e W) => KA.new h (Below.refl _ _) (unhide HB))
    obtain ⟨b, hbb⟩ : ∃ b, w.heap.size + 1 = b := ⟨_, rfl⟩
    rw [hbb] at HNW
    clear hbb
    have A1 := hide (fun W (h : KA w W b ls ms 0 []) => h.set (by omega) key hk from_)
    rw [(b_set1 mf).1, (b_set1 mf).2] at A1
    have A2 := hide (fun W (h : KA w W b ls ms 1 [⟨key, ls, from_ + ls⟩]) => h.set (by omega) other ho (from_ + hf))
    rw [(b_set2 (x := ⟨key, ls, from_ + ls⟩) mf2 hko).1, (b_set2 (x := ⟨key, ls, from_ + ls⟩) mf2 hko).2] at A2
    have hw1 : -9223372036854775808 ≤ from_ + ls := by omega
    have hw2 : from_ + ls ≤ 9223372036854775807 := by omega
    have hw3 : -9223372036854775808 ≤ from_ + ticks := by omega
    have hw4 : from_ + ticks ≤ 9223372036854775807 := by omega
    have hfr : 0 ≤ hf ∧ hf ≤ 1500 := by omega
    clear mf mf2 hhf
    go_enter Try.func7, Try.ntmps7
    go_wp2_with fail
    refine (unhide HN).mono ?_
    intro e W1 h1
    obtain ⟨rfl, k1⟩ := unhide HNW e W1 h1
    replace k1 := hide k1
    clear h1 HN HNW
    go_wp2_with fail
    refine (unhide A1 _ (unhide k1)).mono ?_
    rintro e W2 ⟨rfl, k2⟩
    replace k2 := hide k2
    clear A1 k1
    go_wp2_with fail
    refine (unhide A2 _ (unhide k2)).mono ?_
    rintro e W3 ⟨rfl, k3⟩
    have HJ : Hid (BI w b ls ms from_ key other (.int .i64 ls) (.int .i64 (from_ + ls)) 0 W3 ⟨key, ls, from_ + ls⟩ ⟨other, ls, from_ + hf + ls⟩) := ⟨k3, rfl, rfl, by show from_ + ((0 : Nat) : Int) ≤ from_ + ls; omega, by show from_ + ((0 : Nat) : Int) ≤ from_ + hf + ls; omega, rfl, rfl⟩
    clear A2 k2 k3 hq
    go_wp2
    go_loopw [15, 16, 17] (fun gv dv nv wr => ∃ (t : Nat) (x y : Tm), (t : Int) ≤ ticks + 1 ∧ nv = .int .i64 (from_ + (t : Int)) ∧ Hid (BI w b ls ms from_ key other gv dv t wr x y)) (fun _ _ nv _ => (from_ + ticks + 1 - RowKit.intOf nv).toNat)
    case atStart => exact ⟨0, _, _, by omega, by simp, HJ⟩
    case round =>
      clear HJ
      obtain ⟨t, x, y, ht, rfl, HI⟩ := hrel
      obtain ⟨ka, kx, ky, dx, dy, rfl, rfl⟩ := unhide HI
      have gl := ka.gl
      by_cases hlt : (t : Int) ≤ ticks
      · have hlt' : from_ + (t : Int) ≤ from_ + ticks := by omega
        obtain ⟨N, hN⟩ : ∃ N, from_ + (t : Int) = N := ⟨_, rfl⟩
        have hNr : 0 ≤ N ∧ N ≤ 2147483647 := by omega
        have HD := hide (ka.due (by omega) N)
        obtain ⟨d2, d1⟩ := du_spec hNr gl
        have hks : ∀ k ∈ (duA ms N [x, y]).1, k = key ∨ k = other := fun k hk => by
          obtain ⟨z, hz, e1, _⟩ := (d1 k).1 hk
          simp at hz
          rcases hz with rfl | rfl
          · exact .inl (by rw [← e1, kx])
          · exact .inr (by rw [← e1, ky])
        have hkey : key ∈ (duA ms N [x, y]).1 ↔ x.due = N := by
          rw [d1]
          constructor
          · rintro ⟨z, hz, e1, e2⟩
            simp at hz
            rcases hz with rfl | rfl
            · omega
            · exact absurd (e1.symm.trans ky) hko
          · intro e
            exact ⟨x, by simp, kx, by omega⟩
        have hkl : (duA ms N [x, y]).1.length ≤ 1000000 := du_len gl (by simp)
        rw [d2] at HD
        have e2 : afterL ms N [x, y] = [aft ms N x, aft ms N y] := rfl
        rw [e2] at HD
        generalize (duA ms N [x, y]).1 = ks at *
        rw [hN] at hlt' ⊢
        have HX := hide (And.intro gl (And.intro kx (And.intro ky (And.intro dx (And.intro dy hN)))))
        have HKS := hide (And.intro hks hkey)
        have hN0 : 0 ≤ N := hNr.1
        have hN1 : N ≤ 2147483647 := hNr.2
        clear gl kx ky dx dy d1 d2 hks hkey e2 ka hN hNr HI
        go_wp2_with fail
        refine (unhide HD).mono ?_
        rintro e W4 ⟨ra, rc, rfl, ho4, k4⟩
        have HO := hide ho4
        have K4 := hide k4
        clear HD ho4 k4
        obtain ⟨m, hm⟩ : ∃ m, ks.length = m := ⟨_, rfl⟩
        have Hm := hide hm
        rw [hm] at hkl
        rw [hm]
        clear hm
        go_wp2
        go_loopw [19, 20] (fun hv iv wr => ∃ i : Nat, i ≤ m ∧ iv = .int .i64 (i : Nat) ∧ hv = .bool (decide (key ∈ ks.take i)) ∧ wr = W4) (fun _ iv _ => m - (RowKit.intOf iv).toNat)
        case atStart => exact ⟨0, Nat.zero_le _, rfl, by simp, rfl⟩
        case round =>
          obtain ⟨i, hi, rfl, rfl, rfl⟩ := hrel
          by_cases hlt2 : i < m
          · have hlt2' : (i : Int) < (m : Int) := by omega
            have hil : i < ks.length := by rw [unhide Hm]; exact hlt2
            have rr := (unhide HO).row
            rw [show (Value.slice ra ks.length rc) = .slice ra m rc by rw [unhide Hm]] at rr
            obtain ⟨g0, o0, rfl, _, q0⟩ := RN.at rr (List.getElem?_eq_getElem hil)
            have hk' := (unhide HKS).1 _ (List.getElem_mem hil)
            have htk : ks.take (i + 1) = ks.take i ++ [ks[i]] := by rw [List.take_add_one, List.getElem?_eq_getElem hil]; rfl
            clear rr
            obtain ⟨hb, hhb⟩ : ∃ hb, decide (key ∈ ks.take i) = hb := ⟨_, rfl⟩
            rw [hhb]
            have Hhb := hide hhb
            by_cases hkk : ks[i] = key
            · have hf : decide (key ∈ ks.take (i + 1)) = true := by rw [htk, decide_eq_true_eq, hkk]; simp
              have Hf := hide hf
              rw [hkk] at q0
              clear hhb hf htk hkk hk'
              have hke : (key == key) = true := by simp
              cases hb
              all_goals (
                go_wp2
                go_roundw
                case measure => show m - ((i : Int) + 1).toNat < m - ((i : Nat) : Int).toNat; omega
                case rel => exact ⟨i + 1, by omega, by go_num, by rw [unhide Hf], (by first | rfl | trivial)⟩)
            · have hko' : ks[i] = other := by
                rcases hk' with h | h
                · exact absurd h hkk
                · exact h
              have hf : decide (key ∈ ks.take (i + 1)) = hb := by
                rw [← hhb, htk]
                congr 1
                rw [List.mem_append, eq_iff_iff]
                simp only [List.mem_singleton]
                constructor
                · rintro (h | h)
                  · exact h
                  · exact absurd h.symm hkk
                · exact fun h => .inl h
              have Hf := hide hf
              rw [hko'] at q0
              have hok : (other == key) = false := by simpa using (fun e => hko e.symm)
              have hok2 : (other != key) = true := by simpa using (fun e => hko e.symm)
              have hok3 : (other != other) = false := by simp
              clear hhb hf htk hkk hk' hko'
              cases hb
              all_goals (
                go_wp2
                go_roundw
                case measure => show m - ((i : Int) + 1).toNat < m - ((i : Nat) : Int).toNat; omega
                case rel => exact ⟨i + 1, by omega, by go_num, by rw [unhide Hf], (by first | rfl | trivial)⟩)
          · have hlt2' : ¬ (i : Int) < (m : Int) := by omega
            obtain ⟨gl, kx, ky, dx, dy, hN⟩ := unhide HX
            have hall : decide (key ∈ ks.take i) = decide (x.due = N) := by
              rw [List.take_of_length_le (by rw [unhide Hm]; omega)]
              exact decide_eq_decide.2 (unhide HKS).2
            rw [hall]
            have hxm := gl.gap x (by simp)
            have hao := again_ok gl (x := x) (by simp)
            have hdy' : N + 1 ≤ (aft ms N y).due := by
              have := after_gt (now := N) gl (aft ms N y) (by show aft ms N y ∈ [aft ms N x, aft ms N y]; simp)
              omega
            by_cases hde : x.due = N
            · have hd : decide (x.due = N) = true := decide_eq_true hde
              rw [hd]
              have hax : aft ms N x = again ms N x := by unfold aft; rw [if_pos (by omega)]
              obtain ⟨Mn, hMn0⟩ : ∃ Mn, min (2 * x.gap) ms = Mn := ⟨_, rfl⟩
              have K4' := unhide K4
              rw [hax] at K4'
              have A3 := hide (K4'.gap key hk)
              have hgA : gapA [again ms N x, aft ms N y] key = .tuple #[.int .i64 Mn, .int .i64 (N + Mn)] := by unfold gapA; rw [b_look (show (again ms N x : Tm).key = key from kx)]; unfold again; simp only [hMn0]
              rw [hgA] at A3
              have hMn : min (2 * x.gap) ms = Mn := hMn0
              have hg1 : ls ≤ Mn := by omega
              have hg2 : Mn ≤ ms := by omega
              have hg3 : 1 ≤ Mn := by omega
              have hif : (if ms < 2 * x.gap then ms else 2 * x.gap) = Mn := by rw [← hMn]; split <;> omega
              have v1 : ¬ Mn < ls := by omega
              have v2 : ¬ ms < Mn := by omega
              have v3 : ¬ N + Mn ≤ N := by omega
              have v4 : -9223372036854775808 ≤ 2 * x.gap := by omega
              have v5 : 2 * x.gap ≤ 9223372036854775807 := by omega
              have v6 : -9223372036854775808 ≤ N + Mn := by omega
              have v7 : N + Mn ≤ 9223372036854775807 := by omega
              have v8 : (N == x.due) = true := by rw [hde]; simp
              have HW := hide (And.intro K4' (And.intro kx (And.intro ky hdy')))
              have HNt := hide hN
              clear hd hax K4' hgA gl kx ky dx dy hN hall hdy' HX HKS HO K4 hxm hao
              go_wp2_with fail
              refine (unhide A3).mono ?_
              rintro e W6 ⟨rfl, b6⟩
              have B6 := hide b6
              clear A3 b6
              go_wp2
              go_roundw
              case measure =>
                show (from_ + ticks + 1 - (N + 1)).toNat < (from_ + ticks + 1 - N).toNat
                omega
              case rel =>
                obtain ⟨q1, q2, q3, q4⟩ := unhide HW
                have hN := unhide HNt
                refine ⟨t + 1, again ms N x, aft ms N y, by omega, by rw [← hN]; congr 1; omega, hide ⟨q1.below (unhide B6), q2, by rw [aft_key]; exact q3, ?_, ?_, by unfold again; simp only [hMn], by unfold again; simp only [hMn]⟩⟩
                · show from_ + ((t + 1 : Nat) : Int) ≤ N + min (2 * x.gap) ms
                  omega
                · show from_ + ((t + 1 : Nat) : Int) ≤ (aft ms N y).due
                  omega
            · have hd : decide (x.due = N) = false := decide_eq_false hde
              rw [hd]
              have hax : aft ms N x = x := by unfold aft; rw [if_neg (by omega)]
              have K4' := unhide K4
              rw [hax] at K4'
              have A3 := hide (K4'.gap key hk)
              have hgA : gapA [x, aft ms N y] key = .tuple #[.int .i64 x.gap, .int .i64 x.due] := by unfold gapA; rw [b_look (show (x : Tm).key = key from kx)]
              rw [hgA] at A3
              have hx1 : N + 1 ≤ x.due := by omega
              have v1 : ¬ x.gap < ls := by omega
              have v2 : ¬ ms < x.gap := by omega
              have v3 : ¬ x.due ≤ N := by omega
              have v8 : (N == x.due) = false := by rw [beq_eq_false_iff_ne]; omega
              have HW := hide (And.intro K4' (And.intro kx (And.intro ky hdy')))
              have HNt := hide hN
              clear hd hax K4' hgA gl kx ky dx dy hN hall hdy' HX HKS HO K4 hxm hao
              go_wp2_with fail
              refine (unhide A3).mono ?_
              rintro e W6 ⟨rfl, b6⟩
              have B6 := hide b6
              clear A3 b6
              go_wp2
              go_roundw
              case measure =>
                show (from_ + ticks + 1 - (N + 1)).toNat < (from_ + ticks + 1 - N).toNat
                omega
              case rel =>
                obtain ⟨q1, q2, q3, q4⟩ := unhide HW
                have hN := unhide HNt
                refine ⟨t + 1, x, aft ms N y, by omega, by rw [← hN]; congr 1; omega, hide ⟨q1.below (unhide B6), q2, by rw [aft_key]; exact q3, ?_, ?_, rfl, rfl⟩⟩
                · show from_ + ((t + 1 : Nat) : Int) ≤ x.due
                  omega
                · show from_ + ((t + 1 : Nat) : Int) ≤ (aft ms N y).due
                  omega
      · have hlt' : ¬ from_ + (t : Int) ≤ from_ + ticks := by omega
        have A3 := hide (ka.off (by omega) other ho)
        rw [b_off (x := x) (y := y) (by rw [kx]; exact hko) ky] at A3
        have A4 := hide (fun W (h : KA w W b ls ms 2 [x]) => h.gap key hk)
        have A5 := hide (fun W (h : KA w W b ls ms 2 [x]) => h.len)
        rw [show gapA [x] key = .tuple #[.int .i64 x.gap, .int .i64 x.due] by unfold gapA lookL; simp [kx]] at A4
        rw [show ([x].length : Int) = 1 from rfl] at A5
        clear ka kx ky dx dy gl HI
        go_wp2_with fail
        refine (unhide A3).mono ?_
        rintro e W5 ⟨rfl, k5⟩
        replace k5 := hide k5
        clear A3
        go_wp2_with fail
        refine (unhide A4 _ (unhide k5)).mono ?_
        rintro e W6 ⟨rfl, b6⟩
        have k6 := hide ((unhide k5).below b6)
        clear A4 k5 b6
        go_wp2_with fail
        refine (unhide A5 _ (unhide k6)).mono ?_
        rintro e W7 ⟨rfl, rfl⟩
        clear A5
        go_wp2_with fail
        refine (unhide HK _).mono ?_
        rintro e W8 ⟨rfl, b8⟩
        go_wp2
        go_ret
        exact ⟨rfl, bnext (unhide k6).bel b8⟩

theorem own : ownKnob Try.prog.godebug = none := by kernel_rfl
theorem laidOut2 : laidOutB Try.prog = true := by kernel_rfl

set_option maxRecDepth 100000 in
theorem lifted (os : Os) (started : os.Started) (H : Type) (enc : TypeId × Value → H) :
    ReturnsInHanded {} Try.checked os 7 .any (Rows.alarmBacksSpec.pre6 enc Try.prog Try.f7 Rows.alarmBacksRow.domain false) (Rows.alarmBacksSpec.post enc Try.prog Try.f7 false true false false) := by
  refine returnsInHanded_of_change (C := Try.checked) own started (by kernel_rfl) Try.func7
    (ChangeSpec.witness6 (enc := enc) (C := Try.checked) false ⟨#[], #[.int .i64 0, .int .i64 0, .int .i64 0, .int .i64 0, .int .i64 0, .int .i64 0], []⟩ 8 (by kernel_rfl) (by kernel_rfl) (by kernel_rfl) (by kernel_rfl)) ?_
  intro W base args ds gs before hval0 hW hcnd _
  have hval : ∀ (j : Nat) t v, Try.f7.params[j]? = some t → args[j]? = some v → Value.okWide Try.prog W .any base t v := hval0
  have hW' := hW
  obtain ⟨p, q, hA0, hV, rfl, hfz, hnd⟩ := hW
  have hA : DataW.TrodAll enc Try.prog W 0 (fun _ => true) true Try.f7.params.toList args.toList ds p := hA0
  rw [Try.params7] at hA hval
  obtain ⟨v0, vs0, d0, ds0, p0, q0, hargs, rfl, rfl, h0, r0⟩ := trodAll_cons hA
  obtain ⟨v1, vs1, d1, ds1, p1, q1, rfl, rfl, rfl, h1, r1⟩ := trodAll_cons r0
  obtain ⟨v2, vs2, d2, ds2, p2, q2, rfl, rfl, rfl, h2, r2⟩ := trodAll_cons r1
  obtain ⟨v3, vs3, d3, ds3, p3, q3, rfl, rfl, rfl, h3, r3⟩ := trodAll_cons r2
  obtain ⟨v4, vs4, d4, ds4, p4, q4, rfl, rfl, rfl, h4, r4⟩ := trodAll_cons r3
  obtain ⟨v5, vs5, d5, ds5, p5, q5, rfl, rfl, rfl, h5, r5⟩ := trodAll_cons r4
  obtain ⟨rfl, rfl, rfl⟩ := trodAll_nil r5
  obtain rfl : args = #[v0, v1, v2, v3, v4, v5] := by cases args; simp_all
  obtain ⟨rfl, rfl⟩ := trodVars_none hV
  obtain ⟨a0, rfl, rfl, rfl, w0⟩ := open_int Try.underlying3 (hval 0 3 v0 rfl rfl) h0
  obtain ⟨a1, rfl, rfl, rfl, w1⟩ := open_int Try.underlying3 (hval 1 3 v1 rfl rfl) h1
  obtain ⟨a2, rfl, rfl, rfl, w2⟩ := open_int Try.underlying3 (hval 2 3 v2 rfl rfl) h2
  obtain ⟨a3, rfl, rfl, rfl, w3⟩ := open_int Try.underlying3 (hval 3 3 v3 rfl rfl) h3
  obtain ⟨a4, rfl, rfl, rfl, w4⟩ := open_int Try.underlying3 (hval 4 3 v4 rfl rfl) h4
  obtain ⟨a5, rfl, rfl, rfl, w5⟩ := open_int Try.underlying3 (hval 5 3 v5 rfl rfl) h5
  clear hA0 hval0
  refine (walk a0 a1 a2 a3 a4 a5 W w0 w1 w2 w3 w4 w5).mono fun e W' ⟨he, bel⟩ => ?_
  subst he
  exact ⟨_, rfl, _, _, _, [], _, [], hW', trodAll_mk1 (shut_bool Try.underlying4 _), (trodAll_cons_mk (shut_int Try.underlying3 w0) (trodAll_cons_mk (shut_int Try.underlying3 w1) (trodAll_cons_mk (shut_int Try.underlying3 w2) (trodAll_cons_mk (shut_int Try.underlying3 w3) (trodAll_cons_mk (shut_int Try.underlying3 w4) (trodAll_cons_mk (shut_int Try.underlying3 w5) trodAll_mk0)))))), rfl, bel.frame _, fun h => by cases h⟩

theorem over : Rows.alarmBacksRow.holds Try.pinned (OpenSpec.ofChange Rows.alarmBacksSpec) :=
  OpenClaim.holds_of_wide 7 Try.f7 rfl rfl rfl rfl rfl rfl rfl ⟨rfl, rfl, rfl, rfl, rfl⟩ rfl rfl rfl rfl rfl (by kernel_rfl) Try.func7 (by kernel_rfl)
    (of_decide_eq_true (by kernel_rfl)) (by unfold Func.isWrapper; first | (rw [if_pos (by decide +kernel)]; kernel_rfl) | (rw [if_neg (by decide +kernel)]; exact ⟨rfl, rfl⟩))
    (fun os started H enc _ => lifted os started H enc)

end LAlarmBacks

theorem alarmBacks_holds : Rows.AlarmBacksSaid := LAlarmBacks.over

end Go.Proofs.Ytknomhgglmgciaa
