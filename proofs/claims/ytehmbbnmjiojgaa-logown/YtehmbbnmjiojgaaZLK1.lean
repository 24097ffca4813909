/-
  The law's vectors; a log that is one's own; what the document fixes.
-/
import Derived.Test.YtehmbbnmjiojgaaZLG8
set_option linter.unusedSimpArgs false
set_option linter.unusedVariables false
namespace Go.Proofs.Ytehmbbnmjiojgaa
open Go.RowKit Go.Lib

theorem neqI2 (x y : Int × Int) (w : World) : (binOp .neq 33 (.agg #[.int .i64 x.1, .int .i64 x.2]) (.agg #[.int .i64 y.1, .int .i64 y.2])).run Try.prog w = .ok (.bool (!decide (x = y))) w := neqD x.1 x.2 y.1 y.2 w

set_option maxRecDepth 100000 in
set_option maxHeartbeats 4000000 in
theorem vectors_in (l m : List (Int × Int)) (v u : Value) (w : World) (hv : RI w v l) (hu : RI w u m) (hl : l.length ≤ 140737488355328) (hm : m.length ≤ 140737488355328) :
    Calls Try.prog 13 #[v, u] w fun e W => e = .returned (.bool (decide (l = m))) ∧ ∃ n, W = w.drewN n := by
  obtain ⟨a, c, rfl⟩ := RC.form hv
  obtain ⟨a', c', rfl⟩ := RC.form hu
  by_cases hne : l.length = m.length
  · have Hv := hide hv
    have Hu := hide hu
    obtain ⟨L, hL⟩ : ∃ L, l.length = L := ⟨_, rfl⟩
    rw [← hne] at hm ⊢
    have HM := hide (hne.symm.trans hL)
    rw [hL] at hl hm ⊢
    have HL := hide hL
    obtain ⟨D, hD⟩ : ∃ D, decide (l = m) = D := ⟨_, rfl⟩
    rw [hD]
    replace hD := hide hD
    clear hv hu hL hne
    go_enter Try.func13, Try.ntmps13
    go_wp2
    go_loopw [5] (fun iv wr => ∃ i n : Nat, i ≤ L ∧ iv = .int .i64 (i : Nat) ∧ Hid (l.take i = m.take i) ∧ wr = w.drewN n) (fun iv _ => L - (RowKit.intOf iv).toNat)
    case atStart => exact ⟨0, 0, by omega, rfl, hide rfl, rfl⟩
    case round =>
      obtain ⟨i, nd, hi, rfl, htk, rfl⟩ := hrel
      by_cases hlt : i < L
      · have hlt' : i < l.length := by rw [unhide HL]; exact hlt
        have hlt'' : i < m.length := by rw [unhide HM]; exact hlt
        have hA := unhide Hv
        have hB := unhide Hu
        rw [unhide HL] at hA
        rw [unhide HM] at hB
        obtain ⟨b, off, rfl, b0, c0, c1⟩ := RI.at hA (List.getElem?_eq_getElem hlt')
        obtain ⟨b', off', rfl, b1, d0, d1⟩ := RI.at hB (List.getElem?_eq_getElem hlt'')
        have i1 : (i : Int) < (L : Int) := by omega
        clear hA hB Hv Hu
        have hnq := neqI2 l[i] m[i]
        by_cases he : l[i] = m[i]
        · have hde : decide (l[i] = m[i]) = true := decide_eq_true he
          rw [hde] at hnq
          have htk' : l.take (i + 1) = m.take (i + 1) := by
            rw [List.take_add_one, List.take_add_one, unhide htk, List.getElem?_eq_getElem hlt', List.getElem?_eq_getElem hlt'', he]
          have Htk' := hide htk'
          clear he hde htk'
          generalize l[i] = e at *
          generalize m[i] = e' at *
          obtain ⟨t, s⟩ := e
          obtain ⟨t', s'⟩ := e'
          (try simp only at *)
          go_wp2
          go_quiet (fail)
          go_wp2
          go_roundw
          case rel => exact ⟨i + 1, _, by omega, by go_num, hide (unhide Htk'), rfl⟩
          case measure => simp [RowKit.intOf]; omega
        · have hde : decide (l[i] = m[i]) = false := decide_eq_false he
          rw [hde] at hnq
          have Hfin := hide (show D = false by
            rw [← unhide hD, decide_eq_false_iff_not]
            intro e
            subst e
            exact he rfl)
          clear he hde
          generalize l[i] = e at *
          generalize m[i] = e' at *
          obtain ⟨t, s⟩ := e
          obtain ⟨t', s'⟩ := e'
          (try simp only at *)
          go_wp2
          go_quiet (fail)
          go_wp2
          go_ret
          exact ⟨by rw [unhide Hfin]; rfl, nd + nq, World.drewN_drewN _ _ _⟩
      · have Hfin := hide (show D = true by
          have h := unhide htk
          rw [List.take_of_length_le (by rw [unhide HL]; omega), List.take_of_length_le (by rw [unhide HM]; omega)] at h
          rw [← unhide hD]
          exact decide_eq_true h)
        have i1 : ¬ (i : Int) < (L : Int) := by omega
        go_wp2
        go_ret
        exact ⟨by rw [unhide Hfin]; rfl, nd, rfl⟩
  · have hd : decide (l = m) = false := by rw [decide_eq_false_iff_not]; intro e; exact hne (by rw [e])
    rw [hd]
    have hne' : ((l.length : Int) == (m.length : Int)) = false := by rw [beq_eq_false_iff_ne]; omega
    clear hd hv hu hne
    generalize l.length = L at *
    generalize m.length = M at *
    go_enter Try.func13, Try.ntmps13
    go_wp2
    go_ret
    exact ⟨rfl, 0, rfl⟩


theorem LG.lt {P : Nat → Prop} {W : World} {b : Nat} {vb vh vo : Value} {base hv : List (Int × Int)} {ops : List (Opn × Value × Value)} (h : LG P W b vb vh vo base hv ops) : LG (fun i => P i ∧ i < W.heap.size) W b vb vh vo base hv ops :=
  ⟨h.box, h.rb, h.rh, h.ro, fun e he => (h.re e he).lt, ⟨h.pb, h.box.lt⟩, fun k hk => ⟨h.pvb k hk, (h.rb.lt k hk).2⟩, fun k hk => ⟨h.pvh k hk, (h.rh.lt k hk).2⟩, fun k hk => ⟨h.pvo k hk, (h.ro.lt k hk).2⟩, h.lb, h.lh⟩
theorem LL.lt {P : Nat → Prop} {W : World} {b : Nat} {base hv : List (Int × Int)} {os : List Opn} (h : LL P W b base hv os) : LL (fun i => P i ∧ i < W.heap.size) W b base hv os := by
  obtain ⟨vb, vh, vo, ops, h, e⟩ := h
  exact ⟨vb, vh, vo, ops, h.lt, e⟩
/-- a log in new memory -/
def KS (w W : World) (b : Nat) (base hv : List (Int × Int)) (os : List Opn) : Prop := ∃ P, LL P W b base hv os ∧ (∀ i, P i → w.heap.size ≤ i ∧ i < W.heap.size) ∧ Below w.heap.size w W
theorem KS.bel {w W : World} {b : Nat} {base hv : List (Int × Int)} {os : List Opn} (h : KS w W b base hv os) : Below w.heap.size w W := by
  obtain ⟨_, _, _, h⟩ := h; exact h
theorem KS.below {w W W' : World} {b : Nat} {base hv : List (Int × Int)} {os : List Opn} (h : KS w W b base hv os) (hb : Below W.heap.size W W') : KS w W' b base hv os := by
  obtain ⟨P, h1, h2, h3⟩ := h
  exact ⟨P, h1.below hb, fun i hi => ⟨(h2 i hi).1, Nat.lt_of_lt_of_le (h2 i hi).2 hb.size⟩, bnext h3 hb⟩
theorem KS.new {w W : World} {b : Nat} {base hv : List (Int × Int)} {os : List Opn} {w0 : World} (h : LL (fun i => w.heap.size ≤ i) W b base hv os) (hb : Below w.heap.size w W) (h0 : Below w0.heap.size w0 w) : KS w0 W b base hv os := ⟨_, h.lt, fun i hi => ⟨Nat.le_trans h0.size hi.1, hi.2⟩, bnext h0 hb⟩
theorem KAdd_in {w W : World} {b : Nat} {base hv : List (Int × Int)} {os : List Opn} (h : KS w W b base hv os) (hn : os.length ≤ 1000000) (o : Opn) (ad ag : Option Addr) (cd cg : Nat) (hd : RI W (.slice ad o.deps.length cd) o.deps) (hg : RR W (.slice ag o.gone.length cg) o.gone) (hi : InO o) (h1 : o.deps.length ≤ 1000000) (h2 : o.gone.length ≤ 1000000) (h3 : o.text.size ≤ 1000000) :
    Calls Try.prog 16 #[.pointer (some ⟨b, 0, none⟩), opA o (.slice ad o.deps.length cd) (.slice ag o.gone.length cg)] W fun e W' => e = .returned (.int .i64 (addE hv o)) ∧ KS w W' b base (if addE hv o = 0 then (addV hv (o.ds, o.dq)).1 else hv) (if addE hv o = 0 then os ++ [o] else os) := by
  obtain ⟨P, hL, hP, hb⟩ := h
  refine (LAdd_in hL (fun i hi => (hP i hi).2) hn o ad ag cd cg hd hg hi h1 h2 h3).mono ?_
  rintro e W' ⟨he, hl, k⟩
  refine ⟨he, _, hl.lt, fun i hi => ⟨?_, hi.2⟩, k.below hb (fun i hi => (hP i hi).1)⟩
  rcases hi.1 with h | h
  · exact (hP i h).1
  · exact Nat.le_trans hb.size h
theorem KCut_in {w W0 W : World} {b : Nat} {base hv : List (Int × Int)} {os : List Opn} (h : KS w W0 b base hv os) (hb0 : Below W0.heap.size W0 W) (hn : os.length ≤ 1000000) (v : Value) (l : List (Int × Int)) (hr : RI W v l) (hl : l.length ≤ 1000000) (hap : ∀ k, rb v l.length k → k < w.heap.size ∨ W0.heap.size ≤ k) :
    Calls Try.prog 14 #[.pointer (some ⟨b, 0, none⟩), v] W fun e W' => ∃ v' P, e = .returned (.tuple #[v', .int .i64 (cutE hv l)]) ∧ RL P W' v' (if cutE hv l = 0 then prL l true os else []) ∧ KS w W' b (if cutE hv l = 0 then vec (mrg (sy base) (sy l)) else base) hv (if cutE hv l = 0 then prL l false os else os) := by
  obtain ⟨P, hL, hP, hb⟩ := h
  have hz := hb0.size
  refine (Cut_in (hL.below hb0) (fun i hi => by have := (hP i hi).2; omega) hn v l hr hl (fun k hk h => by have := hap k hk; have := (hP k h).1; have := (hP k h).2; omega)).mono ?_
  rintro e W' ⟨v', M, he, hM1, hM2, hrl, hll, k⟩
  refine ⟨v', _, he, hrl, _, hll.lt, fun i hi => ⟨?_, hi.2⟩, k.below (bnext hb hb0) (fun i hi => (hP i hi).1)⟩
  rcases hi.1 with h | h
  · exact (hP i h).1
  · have := hb.size; omega
theorem KLacks_in {w W : World} {b : Nat} {base hv : List (Int × Int)} {os : List Opn} (h : KS w W b base hv os) (hn : os.length ≤ 1000000) (a : Option Addr) (n c : Nat) (l : List (Int × Int)) (hr : RI W (.slice a n c) l) (hl : l.length ≤ 1000000) :
    Calls Try.prog 17 #[.pointer (some ⟨b, 0, none⟩), .slice a n c] W fun e W' => e = .returned (.int .i64 ((bynd l os).length : Nat)) ∧ Below W.heap.size W W' := by
  obtain ⟨P, hL, hP, hb⟩ := h
  exact Lacks_any W _ a n c P (bynd l os) (by have := bynd_len l os; omega) (fun i hi => (hP i hi).2) (fun W2 hb2 _ => Beyond_in (hL.below hb2) hn _ l (hr.below hb2) hl)
theorem Lacks_nil (w : World) (a : Option Addr) (n c : Nat) : Calls Try.prog 17 #[.pointer none, .slice a n c] w fun e W' => e = .returned (.int .i64 0) ∧ Below w.heap.size w W' := by
  have := Lacks_any w (.pointer none) a n c (fun _ => False) [] (by simp) (fun i hi => hi.elim) (fun W2 hb2 _ => (Beyond_nil a n c W2).mono (fun e W' ⟨h1, h2, h3⟩ => ⟨h1, by
    obtain ⟨v, ops, it, e⟩ := h2
    exact ⟨v, ops, ⟨it.box, it.row, fun e he => (it.re e he).mono (fun i hi => .inr hi), .inr it.pn, fun k hk => .inr (it.pv k hk), it.len⟩, e⟩, h3⟩))
  exact this

end Go.Proofs.Ytehmbbnmjiojgaa
