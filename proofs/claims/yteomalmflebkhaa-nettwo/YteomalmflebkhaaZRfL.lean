/-
  The document's own Net: Alter.
-/
import Derived.Test.YteomalmflebkhaaZRfK
set_option linter.unusedSimpArgs false
set_option linter.unusedVariables false
namespace Go.Proofs.Yteomalmflebkhaa
open Go.RowKit Go.Lib

variable {P N : Nat → Prop} {w W W' X Y : World} {b p f q g n k0 : Nat} {c : Cp} {s : Stn} {v u v1 v2 : Value} {e : Ending} {L : List (Cp × Value × Value)}

set_option maxRecDepth 100000 in
set_option maxHeartbeats 16000000 in
theorem rAlter_some (h : HL P w b s) (k a : Int) (ay : Option Addr) (cy : Nat) (y : List Int) (hy : RB w (.slice ay y.length cy) y) (hyl : y.length ≤ 9223372036854775807) {i : Nat} (hp : plc s.ls k = some i) : Calls Try.prog 31 #[.pointer (some ⟨b, 0, none⟩), .int .i64 k, .int .i64 a, .slice ay y.length cy] w (CH P w b (altS s k a y) (.int .i64 (altE s k a y))) := by
  have HLs := hide h
  obtain ⟨v, L, h⟩ := h
  obtain ⟨c, hc, hf⟩ := fnd_plc h.gd.ris hp
  have hck := fnd_num hf
  obtain ⟨a0, k0, rfl⟩ := h.form
  have hle := h.gd.len'
  have hlen := h.len
  obtain ⟨n, hn⟩ : ∃ n, L.length = n := ⟨_, rfl⟩
  rw [hn] at h
  obtain ⟨⟨c', v1, v2⟩, hx, ex⟩ := h.get hc
  simp only at ex
  subst ex
  obtain ⟨g, ea, _, hgb, _, _⟩ := h.at hx
  subst ea
  have hxm := List.mem_of_getElem? hx
  have hil : i < n := by rw [← hn]; exact (List.getElem?_eq_some_iff.1 hx).1
  have hnb : n ≤ 2147483647 := by omega
  obtain ⟨av, kv, ev⟩ := (h.dat _ hxm).1.1.form
  simp only at ev
  subst ev
  have HP := hide (rplace_in h k)
  rw [show plI s.ls k = (i : Nat) by unfold plI; rw [hp]] at HP
  obtain ⟨X1, X2, hX1, x1, hX2, x2, b2, hcl, rb⟩ := h.load hx
  have c00 := h.c0
  have p0 := hcl 0 _ rfl
  have p1 := hcl 1 _ rfl
  have p2 := hcl 2 _ rfl
  have p3 := hcl 3 _ rfl
  have p4 := hcl 4 _ rfl
  have p5 := hcl 5 _ rfl
  rw [Nat.add_zero] at p0
  have hln := h.gd.ln c' (List.mem_of_getElem? hc)
  have hdl : c'.dat.length ≤ 1000000 := h.gd.dat (List.mem_of_getElem? hc)
  have c20 := cell_below c00 b2
  have z0 := x1.cell 0 _ rfl
  have zf0 := x1.frozen 0
  have z1 := x1.cell 1 _ rfl
  have zf1 := x1.frozen 1
  have z2 := x1.cell 2 _ rfl
  have zf2 := x1.frozen 2
  have z3 := x1.cell 3 _ rfl
  have zf3 := x1.frozen 3
  have z4 := x1.cell 4 _ rfl
  have zf4 := x1.frozen 4
  have z5 := x1.cell 5 _ rfl
  have zf5 := x1.frozen 5
  have y0 := x2.cell 0 _ rfl
  have yf0 := x2.frozen 0
  have y1 := x2.cell 1 _ rfl
  have yf1 := x2.frozen 1
  have y2 := x2.cell 2 _ rfl
  have yf2 := x2.frozen 2
  have y3 := x2.cell 3 _ rfl
  have yf3 := x2.frozen 3
  have y4 := x2.cell 4 _ rfl
  have yf4 := x2.frozen 4
  have y5 := x2.cell 5 _ rfl
  have yf5 := x2.frozen 5
  have hi1 : (i : Int) < (n : Int) := by omega
  have hi2 : ¬ (i : Int) < 0 := by omega
  have hE : altE s k a y = if fitA c' a y = true then (if c'.bad = true then 12 else 0) else 1 := by unfold altE; rw [hf]
  obtain ⟨N1, hN1⟩ : ∃ N1, y.length = N1 := ⟨_, rfl⟩
  by_cases hg : 1 ≤ y.length ∧ y.length ≤ 4 ∧ 0 ≤ a ∧ a ≤ (c'.dat.length : Int) - y.length
  · obtain ⟨z, rfl⟩ : ∃ z : Nat, a = (z : Nat) := ⟨a.toNat, by omega⟩
    have hfe : fitA c' (z : Nat) y = chgB c'.dat (z : Nat) y := by unfold fitA; rw [decide_eq_true hg, Bool.true_and]
    rw [hfe] at hE
    have g1 : ¬ (N1 : Int) < 1 := by omega
    have g2 : ¬ (4 : Int) < (N1 : Int) := by omega
    have g3 : ¬ (z : Int) < 0 := by omega
    have g4 : ¬ (c'.dat.length : Int) - (N1 : Int) < (z : Int) := by omega
    have g5 : (c'.dat.length : Int) - (N1 : Int) ≤ 9223372036854775807 := by omega
    have g6 : -9223372036854775808 ≤ (c'.dat.length : Int) - (N1 : Int) := by omega
    have HC := hide (rchanges_in (w := X2) _ c'.dat rb hdl z _ y (hy.below b2) (by omega))
    rw [hN1] at HC ⊢
    by_cases hch : chgB c'.dat (z : Nat) y = true
    · rw [if_pos hch] at hE
      rw [hch] at HC
      by_cases hbad : c'.bad = true
      · rw [if_pos hbad] at hE
        rw [altS_no (by rw [hE]; decide), hE]
        have FN := hide (fun W3 (hb : Below X2.heap.size X2 W3) => CH.same (unhide HLs) (.int .i64 12) (bnext b2 hb))
        have X5 := hide (fun W3 (hb : Below X2.heap.size X2 W3) => cell_below y5 hb)
        rw [hbad] at X5
        clear HLs h hp hf hck hle hlen hn hx hgb hxm x1 x2 b2 hcl rb hln hdl hc hE hbad hch hfe hg hy hyl
        generalize c'.dat.length = M at *
        obtain ⟨Q, hQ⟩ : ∃ Q : Ending → World → Prop, CH P w b s (.int .i64 12) = Q := ⟨_, rfl⟩
        rw [hQ] at FN ⊢
        clear hQ
        go_enter Try.func31, Try.ntmps31
        go_wp2_with fail
        refine (unhide HP).mono ?_
        rintro e W1 ⟨rfl, rfl⟩
        clear HP
        go_wp2_with fail
        refine (unhide HC).mono ?_
        rintro e W3 ⟨rfl, hb⟩
        have c5 := unhide X5 W3 hb
        have FQ := hide (unhide FN W3 hb)
        clear HC X5 FN hb
        go_wp2
        try go_ret
        exact unhide FQ
      · rw [if_neg hbad] at hE
        have hbad2 : c'.bad = false := by simpa using hbad
        have hdc : c'.dat = c'.cl := by unfold Cp.dat; rw [if_neg hbad]
        have hgd : Gd (updS s c'.num (altC (z : Nat) y)) := by
          have := h.gd.alt k (z : Nat) y
          unfold altS at this
          rw [if_pos hE] at this
          rw [hck]
          exact this
        rw [show altS s k (z : Nat) y = updS s c'.num (altC (z : Nat) y) by unfold altS; rw [if_pos hE, hck], hE]
        obtain ⟨M, hM⟩ : ∃ M, c'.dat.length = M := ⟨_, rfl⟩
        have hMc : c'.cl.length = M := by rw [← hdc]; exact hM
        have hay : z + y.length ≤ c'.cl.length := by omega
        have HA : Hid (∀ W3, Below X2.heap.size X2 W3 → W3.cell? ⟨w.heap.size, 5, none⟩ = some (.bool false) ∧ W3.cell? ⟨w.heap.size, 3, none⟩ = some (.slice av M kv) ∧ Calls Try.prog 50 #[.slice av M kv] W3 fun e W4 => ∃ g2 k3 Z1, e = .returned (.slice (some ⟨g2, 0, none⟩) M k3) ∧ W4.setCell ⟨w.heap.size, 3, none⟩ (.slice (some ⟨g2, 0, none⟩) M k3) = Z1 ∧ Bx W4 w.heap.size 44 #[.int .i64 c'.num, .int .i64 c'.frm, .int .i64 c'.to, .slice av M kv, .int .i64 c'.sent, .bool false] ∧ AL w g2 M k3 c' y z 0 Z1) := by
          intro W3 hb3
          have q3 := x2.below hb3
          rw [hM, hbad2] at q3
          refine ⟨q3.cell 5 _ rfl, q3.cell 3 _ rfl, ?_⟩
          have r3 := rb.below hb3
          rw [hM] at r3
          refine (rtwin_in _ _ W3 r3 hdl).mono ?_
          rintro e W4 ⟨a4, k4, rfl, ho, hb4⟩
          rw [hM] at ho
          obtain ⟨g2, e2⟩ : ∃ g2, a4 = some ⟨g2, 0, none⟩ := by
            rcases ho.2 with ⟨e, e0⟩ | ⟨g, cap, cur, e, _⟩
            · omega
            · simp only [Value.slice.injEq] at e
              exact ⟨g, e.1⟩
          subst e2
          have q4 := q3.below hb4
          have hsz := x2.lt
          have hs3 := hb3.size
          have hog := (ho.lt g2 rfl).1
          obtain ⟨Z1, hZ1⟩ : ∃ Z1, W4.setCell ⟨w.heap.size, 3, none⟩ (.slice (some ⟨g2, 0, none⟩) M k4) = Z1 := ⟨_, rfl⟩
          have kZ1 : Kp (fun i => i = w.heap.size) W4 Z1 := by rw [← hZ1]; exact Kp.set _ _ _ rfl
          refine ⟨g2, k4, Z1, by rw [hM], hZ1, q4, kZ1.below (bnext (bnext b2 hb3) hb4) (fun i e => by omega), ?_, ?_⟩
          · rw [← hZ1]; simpa using q4.set 3 (.slice (some ⟨g2, 0, none⟩) M k4)
          · rw [wrD_zero, ← hdc]
            exact (ho.kp kZ1 (fun i hi e => by have := (ho.lt i hi).1; omega)).wk (by omega)
        have BK : Hid (∀ V g2 k3, AL w g2 M k3 c' y z N1 V → ∃ Z2, V.setCell ⟨w.heap.size, 5, none⟩ (.bool true) = Z2 ∧ Bx V w.heap.size 44 #[.int .i64 c'.num, .int .i64 c'.frm, .int .i64 c'.to, .slice (some ⟨g2, 0, none⟩) M k3, .int .i64 c'.sent, .bool false] ∧ Bx Z2 w.heap.size 44 #[.int .i64 c'.num, .int .i64 c'.frm, .int .i64 c'.to, .slice (some ⟨g2, 0, none⟩) M k3, .int .i64 c'.sent, .bool true] ∧ ∃ Y, ((((((Z2.setCell ⟨g, i * 7, none⟩ (.int .i64 c'.num)).setCell ⟨g, i * 7 + 1, none⟩ (.int .i64 c'.frm)).setCell ⟨g, i * 7 + 2, none⟩ (.int .i64 c'.to)).setCell ⟨g, i * 7 + 3, none⟩ (.slice (some ⟨g2, 0, none⟩) M k3)).setCell ⟨g, i * 7 + 4, none⟩ (.int .i64 c'.sent)).setCell ⟨g, i * 7 + 5, none⟩ (.bool true)) = Y ∧ CH P w b (updS s c'.num (altC (z : Nat) y)) (.int .i64 0) (.returned (.int .i64 0)) Y.drew ∧ Z2.cell? ⟨b, 0, none⟩ = some (.slice (some ⟨g, 0, none⟩) n k0) ∧ (∀ q u, (encH (c', .slice av c'.dat.length kv, v2))[q]? = some u → Z2.cell? ⟨g, i * 7 + q, none⟩ = some u) ∧ ∀ q, Z2.frozen? ⟨g, q, none⟩ = false) := by
          intro V g2 k3 ha
          obtain ⟨Z2, hZ2⟩ : ∃ Z2, V.setCell ⟨w.heap.size, 5, none⟩ (.bool true) = Z2 := ⟨_, rfl⟩
          have q5 : Bx Z2 w.heap.size 44 #[.int .i64 c'.num, .int .i64 c'.frm, .int .i64 c'.to, .slice (some ⟨g2, 0, none⟩) M k3, .int .i64 c'.sent, .bool true] := by rw [← hZ2]; simpa using ha.bx.set 5 (.bool true)
          have kZ2 : Kp (fun i => i = w.heap.size) V Z2 := by rw [← hZ2]; exact Kp.set _ _ _ rfl
          have bZ2 : Below w.heap.size w Z2 := kZ2.below ha.bel (fun i e => by omega)
          have hne : ∀ i, (Value.slice (some ⟨g2, 0, none⟩) M k3).ownBlock = some i → ¬ i = w.heap.size := fun i hi e => by
            obtain ⟨cur, hc⟩ := ha.row.ty i hi
            exact hc.apart ha.bx (by decide) e
          have hu : OwB Z2 w.heap.size 5 (.slice (some ⟨g2, 0, none⟩) M k3) (altC (z : Nat) y c').dat := by
            show OwB Z2 w.heap.size 5 (.slice (some ⟨g2, 0, none⟩) M k3) (c'.cl.take ((z : Nat) : Int).toNat ++ y ++ c'.cl.drop (((z : Nat) : Int).toNat + y.length))
            rw [Int.toNat_natCast, ← wrD_all, hN1]
            exact ha.row.kp kZ2 hne
          exact ⟨Z2, hZ2, ha.bx, q5, h.back hx (f := altC (z : Nat) y) (fun _ => ⟨rfl, rfl, rfl, rfl, rfl, rfl⟩) hgd bZ2 hu⟩
        have HY := hide (fun V g2 k3 q (ha : AL w g2 M k3 c' y z q V) => (hy.below ha.bel))
        obtain ⟨Q, hQ⟩ : ∃ Q : Ending → World → Prop, CH P w b (updS s c'.num (altC (z : Nat) y)) (.int .i64 0) = Q := ⟨_, rfl⟩
        rw [hQ] at BK ⊢
        rw [hN1] at HY
        rw [hbad2] at y5 hX2 p5
        rw [hM] at y3 hX2 p3 BK g4 g5 g6 HC
        have HAY := hide hay
        have HMC := hide hMc
        have hMb : M ≤ 1000000 := by omega
        have hzN : z + N1 ≤ M := by omega
        have HN1 := hide hN1
        clear HLs h hp hf hck hle hlen hn hx hgb hxm x1 x2 b2 hcl rb hln hdl hc hE hbad hbad2 hch hfe hg hy hyl hdc hgd hQ hM hMc hay hN1
        go_enter Try.func31, Try.ntmps31
        go_wp2_with fail
        refine (unhide HP).mono ?_
        rintro e W1 ⟨rfl, rfl⟩
        clear HP
        go_wp2_with fail
        refine (unhide HC).mono ?_
        rintro e W3 ⟨rfl, hb⟩
        obtain ⟨c5, c3, ht⟩ := unhide HA W3 hb
        have HT := hide ht
        clear HC HA hb ht hX2 hX1 z0 z1 z2 z3 z4 z5 zf0 zf1 zf2 zf3 zf4 zf5 y0 y1 y2 y3 y4 y5 yf0 yf1 yf2 yf3 yf4 yf5 p0 p1 p2 p3 p4 p5 c00 c20
        go_wp2_with fail
        refine (unhide HT).mono ?_
        rintro e W4 ⟨g2', k3, Z1, rfl, hZ1, q4, ha⟩
        have q43 := q4.cell 3 _ rfl
        have q4f := q4.frozen 3
        have HAL := hide ha
        clear HT q4 ha c5 c3
        go_wp2
        go_loopw [11] (fun iv wr => ∃ q : Nat, q ≤ N1 ∧ iv = .int .i64 (q : Nat) ∧ Hid (AL w g2' M k3 c' y z q wr)) (fun iv _ => N1 - (RowKit.intOf iv).toNat)
        case atStart => exact ⟨0, Nat.zero_le _, rfl, HAL⟩
        case round =>
          obtain ⟨q, hq, rfl, HQ⟩ := hrel
          clear HAL q43 q4f hZ1
          by_cases hlt : q < N1
          · have hlt' : (q : Int) < (N1 : Int) := by omega
            have hq1 : q < y.length := by rw [unhide HN1]; exact hlt
            have hv := List.getElem?_eq_getElem hq1
            obtain ⟨b1, o1, e1, _, k1⟩ := RB.at (unhide HY _ _ _ _ (unhide HQ)) hv
            subst e1
            obtain ⟨⟨u1, k2⟩, k2f⟩ := (unhide HQ).cells (unhide HMC) (unhide HAY) hq1
            have k3' := (unhide HQ).bx.cell 3 _ rfl
            have HQ2 := hide ((unhide HQ).set (unhide HMC) (unhide HAY) hv)
            have hw1 : (z : Int) + (q : Int) ≤ 9223372036854775807 := by omega
            have hw2 : -9223372036854775808 ≤ (z : Int) + (q : Int) := by omega
            have hw3 : (z : Int) + (q : Int) < (M : Int) := by omega
            have hw4 : (0 : Int) ≤ (z : Int) + (q : Int) := by omega
            have hw5 : ((z : Int) + (q : Int)).toNat = z + q := by omega
            have hwr' : IntKind.i64.wrap ((z : Int) + (q : Int)) = (z : Int) + (q : Int) := by simp only [IntKind.wrap_i64]; omega
            clear hv HQ BK HY
            generalize y[q] = e1 at *
            go_wp2
            go_region
            go_wp2
            go_roundw
            case rel => exact ⟨q + 1, by omega, by go_num, HQ2⟩
            case measure => show N1 - ((q : Int) + 1).toNat < N1 - ((q : Nat) : Int).toNat; omega
          · obtain rfl : q = N1 := by omega
            have hlt' : ¬ (q : Int) < (q : Int) := by omega
            obtain ⟨Z2, hZ2, q4, q5, Y, hY, hfin, cb, cg, fg⟩ := unhide BK _ _ _ (unhide HQ)
            have HF := hide hfin
            have r0 := q4.cell 0 _ rfl
            have rf0 := q4.frozen 0
            have r1 := q4.cell 1 _ rfl
            have rf1 := q4.frozen 1
            have r2 := q4.cell 2 _ rfl
            have rf2 := q4.frozen 2
            have r3 := q4.cell 3 _ rfl
            have rf3 := q4.frozen 3
            have r4 := q4.cell 4 _ rfl
            have rf4 := q4.frozen 4
            have r5 := q4.cell 5 _ rfl
            have rf5 := q4.frozen 5
            have y0 := q5.cell 0 _ rfl
            have yf0 := q5.frozen 0
            have y1 := q5.cell 1 _ rfl
            have yf1 := q5.frozen 1
            have y2 := q5.cell 2 _ rfl
            have yf2 := q5.frozen 2
            have y3 := q5.cell 3 _ rfl
            have yf3 := q5.frozen 3
            have y4 := q5.cell 4 _ rfl
            have yf4 := q5.frozen 4
            have y5 := q5.cell 5 _ rfl
            have yf5 := q5.frozen 5
            have gg0 := cg 0 _ rfl
            have gf0 := fg (i * 7)
            have gg1 := cg 1 _ rfl
            have gf1 := fg (i * 7 + 1)
            have gg2 := cg 2 _ rfl
            have gf2 := fg (i * 7 + 2)
            have gg3 := cg 3 _ rfl
            have gf3 := fg (i * 7 + 3)
            have gg4 := cg 4 _ rfl
            have gf4 := fg (i * 7 + 4)
            have gg5 := cg 5 _ rfl
            have gf5 := fg (i * 7 + 5)
            rw [Nat.add_zero] at gg0
            clear q4 q5 cg fg hfin BK HY HQ HAY HMC HN1
            go_wp2
            go_region
            go_wp2
            try go_ret
            exact unhide HF
    · rw [if_neg hch] at hE
      have hch2 : chgB c'.dat (z : Nat) y = false := by simpa using hch
      rw [hch2] at HC
      rw [altS_no (by rw [hE]; decide), hE]
      have FN := hide (fun W3 (hb : Below X2.heap.size X2 W3) => CH.same (unhide HLs) (.int .i64 1) (bnext b2 hb))
      clear HLs h hp hf hck hle hlen hn hx hgb hxm x1 x2 b2 hcl rb hln hdl hc hE hch hch2 hfe hg hy hyl
      generalize c'.dat.length = M at *
      obtain ⟨Q, hQ⟩ : ∃ Q : Ending → World → Prop, CH P w b s (.int .i64 1) = Q := ⟨_, rfl⟩
      rw [hQ] at FN ⊢
      clear hQ
      go_enter Try.func31, Try.ntmps31
      go_wp2_with fail
      refine (unhide HP).mono ?_
      rintro e W1 ⟨rfl, rfl⟩
      clear HP
      go_wp2_with fail
      refine (unhide HC).mono ?_
      rintro e W3 ⟨rfl, hb⟩
      have FQ := hide (unhide FN W3 hb)
      clear HC FN hb
      go_wp2
      try go_ret
      exact unhide FQ
  · have hfe : fitA c' a y = false := by unfold fitA; rw [decide_eq_false hg, Bool.false_and]
    rw [hfe, if_neg (by decide)] at hE
    rw [altS_no (by rw [hE]; decide), hE]
    rw [hN1] at hg hyl ⊢
    by_cases k1 : N1 < 1
    · have g1 : (N1 : Int) < 1 := by omega
      have FN := hide (CH.same (unhide HLs) (.int .i64 1) b2)
      clear HLs h hp hf hck hle hlen hn hx hgb hxm x1 x2 b2 hcl rb hln hdl hc hE hfe hg hy
      generalize c'.dat.length = M at *
      obtain ⟨Q, hQ⟩ : ∃ Q : Ending → World → Prop, CH P w b s (.int .i64 1) = Q := ⟨_, rfl⟩
      rw [hQ] at FN ⊢
      clear hQ
      go_enter Try.func31, Try.ntmps31
      go_wp2_with fail
      refine (unhide HP).mono ?_
      rintro e W1 ⟨rfl, rfl⟩
      clear HP
      go_wp2
      try go_ret
      exact unhide FN
    · by_cases k2 : 4 < N1
      · have g1 : ¬ (N1 : Int) < 1 := by omega
        have g2 : (4 : Int) < (N1 : Int) := by omega
        have FN := hide (CH.same (unhide HLs) (.int .i64 1) b2)
        clear HLs h hp hf hck hle hlen hn hx hgb hxm x1 x2 b2 hcl rb hln hdl hc hE hfe hg hy
        generalize c'.dat.length = M at *
        obtain ⟨Q, hQ⟩ : ∃ Q : Ending → World → Prop, CH P w b s (.int .i64 1) = Q := ⟨_, rfl⟩
        rw [hQ] at FN ⊢
        clear hQ
        go_enter Try.func31, Try.ntmps31
        go_wp2_with fail
        refine (unhide HP).mono ?_
        rintro e W1 ⟨rfl, rfl⟩
        clear HP
        go_wp2
        try go_ret
        exact unhide FN
      · have g1 : ¬ (N1 : Int) < 1 := by omega
        have g2 : ¬ (4 : Int) < (N1 : Int) := by omega
        by_cases g3 : a < 0
        · have h0 : True := trivial
          have FN := hide (CH.same (unhide HLs) (.int .i64 1) b2)
          clear HLs h hp hf hck hle hlen hn hx hgb hxm x1 x2 b2 hcl rb hln hdl hc hE hfe hg hy
          generalize c'.dat.length = M at *
          obtain ⟨Q, hQ⟩ : ∃ Q : Ending → World → Prop, CH P w b s (.int .i64 1) = Q := ⟨_, rfl⟩
          rw [hQ] at FN ⊢
          clear hQ
          go_enter Try.func31, Try.ntmps31
          go_wp2_with fail
          refine (unhide HP).mono ?_
          rintro e W1 ⟨rfl, rfl⟩
          clear HP
          go_wp2
          try go_ret
          exact unhide FN
        · have g4 : (c'.dat.length : Int) - (N1 : Int) < a := by omega
          have g5 : (c'.dat.length : Int) - (N1 : Int) ≤ 9223372036854775807 := by omega
          have g6 : -9223372036854775808 ≤ (c'.dat.length : Int) - (N1 : Int) := by omega
          have FN := hide (CH.same (unhide HLs) (.int .i64 1) b2)
          clear HLs h hp hf hck hle hlen hn hx hgb hxm x1 x2 b2 hcl rb hln hdl hc hE hfe hg hy
          generalize c'.dat.length = M at *
          obtain ⟨Q, hQ⟩ : ∃ Q : Ending → World → Prop, CH P w b s (.int .i64 1) = Q := ⟨_, rfl⟩
          rw [hQ] at FN ⊢
          clear hQ
          go_enter Try.func31, Try.ntmps31
          go_wp2_with fail
          refine (unhide HP).mono ?_
          rintro e W1 ⟨rfl, rfl⟩
          clear HP
          go_wp2
          try go_ret
          exact unhide FN
theorem rAlter_in (h : HL P w b s) (k a : Int) (ay : Option Addr) (cy : Nat) (y : List Int) (hy : RB w (.slice ay y.length cy) y) (hyl : y.length ≤ 9223372036854775807) : Calls Try.prog 31 #[.pointer (some ⟨b, 0, none⟩), .int .i64 k, .int .i64 a, .slice ay y.length cy] w (CH P w b (altS s k a y) (.int .i64 (altE s k a y))) := by
  cases hp : plc s.ls k with
  | none => exact rAlter_none h k a _ y hp
  | some i => exact rAlter_some h k a ay cy y hy hyl hp

end Go.Proofs.Yteomalmflebkhaa
