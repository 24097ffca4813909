/-
  A change that came in; heavy.
-/
import Derived.Test.YtlbgfcbhpmhhpaaZDS
import Derived.Deep.Slices
import Derived.Deep.Strs
import Derived.OpenShut
set_option linter.unusedSimpArgs false
set_option linter.unusedVariables false
namespace Go.Proofs.Ytlbgfcbhpmhhpaa
open Go.RowKit Go.Lib

/-- numbers of 64 bits, texts that there can be -/
def EdIn (e : Ed) : Prop := -9223372036854775808 ≤ e.1 ∧ e.1 ≤ 9223372036854775807 ∧ -9223372036854775808 ≤ e.2.1 ∧ e.2.1 ≤ 9223372036854775807 ∧ e.2.2.size ≤ maxLen

theorem wf64 {n : Int} (h : (Lit.int .i64 n).wf = true) : -9223372036854775808 ≤ n ∧ n ≤ 9223372036854775807 := by
  simp [Lit.wf, IntKind.min, IntKind.max, IntKind.bits, IntKind.signed] at h
  omega

theorem open_eds {H : Type} {enc : TypeId × Value → H} {w : World} {base : Nat} {spare : Nat → Bool} {held : Bool} {fuel : Nat} {a : Option Addr} {len cap : Nat} {x : DataW H × List MemPlace}
    (h : DataW.trod enc Try.prog w base spare held fuel 23 [.slice a len cap] = some x) : ∃ l : List Ed, RE w (.slice a len cap) l ∧ l.length = len ∧ len ≤ maxLen ∧ ∀ e ∈ l, EdIn e := by
  rcases Go.Deep.open_slice Try.underlying23 h with ⟨h0, _⟩ | ⟨ad, ln, cp, m, n, D, Pl, h0, hb, hl, hm, hmm, _, hx⟩
  · simp only [List.cons.injEq, Value.slice.injEq, and_true] at h0
    obtain ⟨rfl, rfl, rfl⟩ := h0
    exact ⟨[], .inl ⟨rfl, _, _, rfl⟩, rfl, by unfold maxLen; omega, fun e he => by cases he⟩
  · simp only [List.cons.injEq, Value.slice.injEq, and_true] at h0
    obtain ⟨rfl, rfl, rfl⟩ := h0
    have hlm : len ≤ m := by rw [hmm]; split <;> omega
    have each : ∀ i, i < len → ∃ e : Ed, w.cell? (ad.add (i * 3)) = some (.int .i64 e.1) ∧ w.cell? (ad.add (i * 3 + 1)) = some (.int .i64 e.2.1) ∧ w.cell? (ad.add (i * 3 + 2)) = some (.string e.2.2) ∧ EdIn e := by
      intro i hi
      obtain ⟨cs', h1, h2⟩ := hx i (by omega)
      have ce : Try.prog.cellsOf 32 = 3 := by kernel_rfl
      rw [ce] at h1
      obtain ⟨_, hlen, hcell⟩ := World.cells?_some h1
      have hu : ∃ f0 f1 f2 : Field, Try.prog.underlying 32 = some (.struct #[f0, f1, f2]) ∧ f0.offset = 0 ∧ f1.offset = 1 ∧ f2.offset = 2 ∧ f0.type = 3 ∧ f1.type = 3 ∧ f2.type = 9 := ⟨_, _, _, Try.underlying32, rfl, rfl, rfl, rfl, rfl, rfl⟩
      obtain ⟨f0, f1, f2, hu, o0, o1, o2, t0, t1, t2⟩ := hu
      obtain ⟨y0, y1, y2, n', _, _, g0, g1, g2⟩ := Go.Deep.trod_struct3 hu h2
      have ci : Try.prog.cellsOf 3 = 1 := by kernel_rfl
      have cst : Try.prog.cellsOf 9 = 1 := by kernel_rfl
      rw [o0, t0, ci] at g0
      rw [o1, t1, ci] at g1
      rw [o2, t2, cst] at g2
      match cs', hlen with
      | [v0, v1, v2], _ =>
        simp at g0 g1 g2
        obtain ⟨n0, e0, _, w0⟩ := DataW.trod_int Try.underlying3 g0
        obtain ⟨n1, e1, _, w1⟩ := DataW.trod_int Try.underlying3 g1
        obtain ⟨s2, e2, _, w2⟩ := DataW.trod_string Try.underlying9 g2
        simp at e0 e1 e2
        subst e0 e1 e2
        have q0 := hcell 0 (by omega)
        have q1 := hcell 1 (by omega)
        have q2 := hcell 2 (by omega)
        rw [Go.Deep.add_add] at q0 q1 q2
        exact ⟨(n0, n1, s2), by simpa using q0, by simpa using q1, by simpa using q2, (wf64 w0).1, (wf64 w0).2, (wf64 w1).1, (wf64 w1).2, w2⟩
    obtain ⟨q, hq⟩ := Go.Deep.choose_lt each
    have hll : ((List.range len).map q).length = len := by simp
    have hlx : len ≤ maxLen := by omega
    refine ⟨(List.range len).map q, ?_, hll, hlx, fun e he => ?_⟩
    · by_cases h0 : len = 0
      · subst h0; exact .inl ⟨by simp, _, _, rfl⟩
      · obtain ⟨b, off, spot⟩ := ad
        have hspot : spot = none := by simpa [Addr.add] using World.cell?_spot (hq 0 (by omega)).1
        subst hspot
        refine .inr ⟨b, off, cap, by rw [hll], fun j e he => ?_⟩
        have hj : j < len := by have := (List.getElem?_eq_some_iff.1 he).1; rwa [hll] at this
        have hje : q j = e := by
          rw [List.getElem?_map, List.getElem?_range hj] at he
          simpa using he
        obtain ⟨c0, c1, c2, _⟩ := hq j hj
        rw [hje, Go.WideShapes.add_plain] at c0 c1 c2
        exact ⟨c0, by rw [Nat.add_assoc]; exact c1, by rw [Nat.add_assoc]; exact c2⟩
    · obtain ⟨j, hj, rfl⟩ := List.mem_map.1 he
      exact (hq j (List.mem_range.1 hj)).2.2.2

/-- more than is looked at -/
def hvL : Nat → List Ed → Bool
  | _, [] => false
  | n, e :: l => decide (8000 < e.2.2.size) || (decide (8000 < n + e.2.2.size) || hvL (n + e.2.2.size) l)
def hvB (l : List Ed) : Bool := decide (300 < l.length) || hvL 0 l
/-- all texts together -/
def szL : List Ed → Nat
  | [] => 0
  | e :: l => e.2.2.size + szL l
theorem hvL_size : ∀ (l : List Ed) (n : Nat), n ≤ 8000 → hvL n l = false → n + szL l ≤ 8000
  | [], n, h, _ => by simp [szL]; exact h
  | e :: l, n, h, hv => by
    simp [hvL] at hv
    have := hvL_size l (n + e.2.2.size) hv.2.1 hv.2.2
    simp [szL]; omega
theorem szL_mem : ∀ (l : List Ed) (e : Ed), e ∈ l → e.2.2.size ≤ szL l
  | a :: l, e, h => by
    rcases List.mem_cons.1 h with rfl | h
    · simp [szL]
    · have := szL_mem l e h; simp [szL]; omega
theorem hvB_ok {l : List Ed} (h : hvB l = false) : l.length ≤ 300 ∧ szL l ≤ 8000 := by
  simp [hvB] at h
  have := hvL_size l 0 (by omega) h.2
  omega

set_option maxRecDepth 100000 in
set_option maxHeartbeats 4000000 in
theorem heavy_in (l : List Ed) (v : Value) (w : World) (h : RE w v l) (hl : l.length ≤ maxLen) (hok : ∀ e ∈ l, EdIn e) :
    Calls Try.prog 13 #[v] w fun e W => e = .returned (.bool (hvB l)) ∧ W = w := by
  unfold maxLen at hl
  unfold hvB
  rcases h with ⟨rfl, a, cap, rfl⟩ | ⟨b, off, cap, rfl, hc⟩
  · rw [show (decide (300 < ([] : List Ed).length) || hvL 0 []) = false from rfl]
    go_enter Try.func13, Try.ntmps13
    go_wp2
    go_loopw [3, 4] (fun nv iv wr => nv = .int .i64 0 ∧ iv = .int .i64 0 ∧ wr = w) (fun _ _ _ => 0)
    case atStart => exact ⟨rfl, rfl, rfl⟩
    case round =>
      obtain ⟨rfl, rfl, rfl⟩ := hrel
      go_wp2
      go_ret
      exact ⟨rfl, by rfl⟩
  · by_cases hlen : 300 < l.length
    · have d1 : decide ((300 : Int) < ((l.length : Nat) : Int)) = true := by rw [decide_eq_true_iff]; omega
      have hd : (decide (300 < l.length) || hvL 0 l) = true := by simp [hlen]
      rw [hd]
      generalize l.length = L at *
      clear hc hok hd
      go_enter Try.func13, Try.ntmps13
      go_wp2
      go_ret
      exact ⟨rfl, rfl⟩
    · have d1 : decide ((300 : Int) < ((l.length : Nat) : Int)) = false := by rw [decide_eq_false_iff_not]; omega
      have hd : (decide (300 < l.length) || hvL 0 l) = hvL 0 l := by simp [hlen]
      rw [hd]
      have Hc := hide hc
      have Hok := hide hok
      obtain ⟨L, hL⟩ : ∃ L, l.length = L := ⟨_, rfl⟩
      rw [hL] at hl d1 ⊢
      have HL := hide hL
      have hL3 : L ≤ 300 := by omega
      clear hc hok hL hd hlen
      go_enter Try.func13, Try.ntmps13
      go_wp2
      go_loopw [3, 4] (fun nv iv wr => ∃ (i n : Nat), i ≤ L ∧ iv = .int .i64 (i : Nat) ∧ nv = .int .i64 (n : Nat) ∧ n ≤ 8000 ∧ Hid (hvL n (l.drop i) = hvL 0 l) ∧ wr = w) (fun _ iv _ => L - (RowKit.intOf iv).toNat)
      case atStart => exact ⟨0, 0, by omega, rfl, rfl, by omega, hide rfl, rfl⟩
      case round =>
        obtain ⟨i, n, hi, rfl, rfl, hn, hw, rfl⟩ := hrel
        by_cases hlt : i < L
        · have hlt' : i < l.length := by rw [unhide HL]; exact hlt
          obtain ⟨c0, c1, c2⟩ := unhide Hc i _ (List.getElem?_eq_getElem hlt')
          have b0 := World.block_lt_of_cell? _ _ c0
          simp only at b0
          have hstep : hvL n (l.drop i) = (decide (8000 < l[i].2.2.size) || (decide (8000 < n + l[i].2.2.size) || hvL (n + l[i].2.2.size) (l.drop (i + 1)))) := by rw [List.drop_eq_getElem_cons hlt']; rfl
          have hek := unhide Hok _ (List.getElem_mem hlt')
          obtain ⟨⟨k, d, t⟩, he⟩ : ∃ e, l[i] = e := ⟨_, rfl⟩
          rw [he] at c0 c1 c2 hstep hek
          obtain ⟨_, _, _, _, hk5⟩ := hek
          unfold maxLen at hk5
          simp only at c0 c1 c2 hstep hk5
          have i1 : (i : Int) < (L : Int) := by omega
          rw [unhide hw] at hstep
          clear he
          by_cases h1 : 8000 < t.size
          · have d2 : decide ((8000 : Int) < ((t.size : Nat) : Int)) = true := by rw [decide_eq_true_iff]; omega
            have hst : hvL 0 l = true := by rw [hstep]; simp [h1]
            have Hst := hide hst
            clear hstep hst hw h1
            go_wp2
            go_ret
            exact ⟨by rw [unhide Hst]; rfl, by rfl⟩
          · have d2 : decide ((8000 : Int) < ((t.size : Nat) : Int)) = false := by rw [decide_eq_false_iff_not]; omega
            by_cases h2 : 8000 < n + t.size
            · have d3 : decide ((8000 : Int) < ((n : Nat) : Int) + ((t.size : Nat) : Int)) = true := by rw [decide_eq_true_iff]; omega
              have hst : hvL 0 l = true := by rw [hstep]; simp [h2]
              have Hst := hide hst
              clear hstep hst hw h2
              go_wp2
              go_ret
              exact ⟨by rw [unhide Hst]; rfl, by rfl⟩
            · have d3 : decide ((8000 : Int) < ((n : Nat) : Int) + ((t.size : Nat) : Int)) = false := by rw [decide_eq_false_iff_not]; omega
              have hst : hvL (n + t.size) (l.drop (i + 1)) = hvL 0 l := by rw [hstep]; simp [h1, h2]
              have Hst := hide hst
              clear hstep hst hw
              go_wp2
              go_roundw
              case rel => exact ⟨i + 1, n + t.size, by omega, by go_num, by go_num, by omega, hide (unhide Hst), by trivial⟩
              case measure => simp [RowKit.intOf]; omega
        · have hd : l.drop i = [] := List.drop_eq_nil_of_le (by rw [unhide HL]; omega)
          have hr : hvL 0 l = false := by rw [← unhide hw, hd]; rfl
          have Hr := hide hr
          clear hd hr
          go_wp2
          go_ret
          exact ⟨by rw [unhide Hr]; rfl, by rfl⟩

end Go.Proofs.Ytlbgfcbhpmhhpaa
