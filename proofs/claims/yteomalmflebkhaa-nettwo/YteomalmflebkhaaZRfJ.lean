/-
  The document's own Net: Cut.
-/
import Derived.Test.YteomalmflebkhaaZRfI
import Derived.Test.YteomalmflebkhaaZNQ
set_option linter.unusedSimpArgs false
set_option linter.unusedVariables false
namespace Go.Proofs.Yteomalmflebkhaa
open Go.RowKit Go.Lib

variable {P N : Nat → Prop} {w W W' X Y : World} {b p f q g n k0 : Nat} {c : Cp} {s : Stn} {v u v1 v2 : Value} {e : Ending} {L : List (Cp × Value × Value)}

/-- what lies there when one of the list has been loaded into a variable -/
theorem HM.load (h : HM P w b (.slice (some ⟨g, 0, none⟩) n k0) L s) {i : Nat} {av : Option Addr} {kv : Nat} (hx : L[i]? = some (c, .slice av c.dat.length kv, v2)) : ∃ X1 X2, w.alloc (.cells #[.int .i64 0, .int .i64 0, .int .i64 0, .slice none 0 0, .int .i64 0, .bool false] 44) = X1 ∧ Bx X1 w.heap.size 44 #[.int .i64 0, .int .i64 0, .int .i64 0, .slice none 0 0, .int .i64 0, .bool false] ∧ ((((((X1.setCell ⟨w.heap.size, 0, none⟩ (.int .i64 c.num)).setCell ⟨w.heap.size, 1, none⟩ (.int .i64 c.frm)).setCell ⟨w.heap.size, 2, none⟩ (.int .i64 c.to)).setCell ⟨w.heap.size, 3, none⟩ (.slice av c.dat.length kv)).setCell ⟨w.heap.size, 4, none⟩ (.int .i64 c.sent)).setCell ⟨w.heap.size, 5, none⟩ (.bool c.bad)) = X2 ∧ Bx X2 w.heap.size 44 #[.int .i64 c.num, .int .i64 c.frm, .int .i64 c.to, .slice av c.dat.length kv, .int .i64 c.sent, .bool c.bad] ∧ Below w.heap.size w X2 ∧ (∀ q u, (encH (c, .slice av c.dat.length kv, v2))[q]? = some u → w.cell? ⟨g, i * 7 + q, none⟩ = some u) ∧ RB X2 (.slice av c.dat.length kv) c.dat := by
  obtain ⟨X1, hX1⟩ : ∃ X1, w.alloc (.cells #[.int .i64 0, .int .i64 0, .int .i64 0, .slice none 0 0, .int .i64 0, .bool false] 44) = X1 := ⟨_, rfl⟩
  have x1 : Bx X1 w.heap.size 44 #[.int .i64 0, .int .i64 0, .int .i64 0, .slice none 0 0, .int .i64 0, .bool false] := by rw [← hX1]; exact Bx.new _ _ _
  have b1 : Below w.heap.size w X1 := by rw [← hX1]; exact ballc (Below.refl _ _) _
  obtain ⟨X2, hX2⟩ : ∃ X2, ((((((X1.setCell ⟨w.heap.size, 0, none⟩ (.int .i64 c.num)).setCell ⟨w.heap.size, 1, none⟩ (.int .i64 c.frm)).setCell ⟨w.heap.size, 2, none⟩ (.int .i64 c.to)).setCell ⟨w.heap.size, 3, none⟩ (.slice av c.dat.length kv)).setCell ⟨w.heap.size, 4, none⟩ (.int .i64 c.sent)).setCell ⟨w.heap.size, 5, none⟩ (.bool c.bad)) = X2 := ⟨_, rfl⟩
  obtain ⟨x2, kx2⟩ := set6 x1 _ _ _ _ _ _ hX2
  have b2 : Below w.heap.size w X2 := kx2.below b1 (fun i e => by omega)
  obtain ⟨g', eg, _, _, hcl, _⟩ := h.at hx
  cases eg
  exact ⟨X1, X2, hX1, x1, hX2, x2, b2, hcl, ((h.dat _ (List.mem_of_getElem? hx)).1.1).below b2⟩
/-- and where it is laid back -/
theorem HM.back (h : HM P w b (.slice (some ⟨g, 0, none⟩) n k0) L s) {i : Nat} (hx : L[i]? = some (c, v1, v2)) {f : Cp → Cp} (hf : ∀ c, (f c).num = c.num ∧ (f c).frm = c.frm ∧ (f c).to = c.to ∧ (f c).cl = c.cl ∧ (f c).sent = c.sent ∧ (f c).bad = true) (gd : Gd (updS s c.num f)) (hX : Below w.heap.size w X) (hu : OwB X w.heap.size 5 u (f c).dat) : ∃ Y, ((((((X.setCell ⟨g, i * 7, none⟩ (.int .i64 c.num)).setCell ⟨g, i * 7 + 1, none⟩ (.int .i64 c.frm)).setCell ⟨g, i * 7 + 2, none⟩ (.int .i64 c.to)).setCell ⟨g, i * 7 + 3, none⟩ u).setCell ⟨g, i * 7 + 4, none⟩ (.int .i64 c.sent)).setCell ⟨g, i * 7 + 5, none⟩ (.bool true)) = Y ∧ CH P w b (updS s c.num f) (.int .i64 0) (.returned (.int .i64 0)) Y.drew ∧ X.cell? ⟨b, 0, none⟩ = some (.slice (some ⟨g, 0, none⟩) n k0) ∧ (∀ q u, (encH (c, v1, v2))[q]? = some u → X.cell? ⟨g, i * 7 + q, none⟩ = some u) ∧ ∀ q, X.frozen? ⟨g, q, none⟩ = false := by
  obtain ⟨Y, hY⟩ : ∃ Y, ((((((X.setCell ⟨g, i * 7, none⟩ (.int .i64 c.num)).setCell ⟨g, i * 7 + 1, none⟩ (.int .i64 c.frm)).setCell ⟨g, i * 7 + 2, none⟩ (.int .i64 c.to)).setCell ⟨g, i * 7 + 3, none⟩ u).setCell ⟨g, i * 7 + 4, none⟩ (.int .i64 c.sent)).setCell ⟨g, i * 7 + 5, none⟩ (.bool true)) = Y := ⟨_, rfl⟩
  obtain ⟨h1, k1⟩ := h.put hx hf gd hX hu hY
  have hb : Below Y.heap.size Y Y.drew := (Below.refl _ _).drew
  have hXm := h.kp (N := fun _ => False) (Kp.of_below hX) (fun _ e => e.elim)
  obtain ⟨g', eg, _, _, hcl, hfz⟩ := hXm.at hx
  cases eg
  exact ⟨Y, hY, ⟨rfl, h1.below hb, k1.trans (Kp.of_below (N := fun _ => False) hb) (fun _ e => e.elim)⟩, hXm.c0, hcl, hfz⟩
set_option maxRecDepth 100000 in
set_option maxHeartbeats 4000000 in
theorem rCut_none (h : HL P w b s) (k m : Int) (hp : plc s.ls k = none) : Calls Try.prog 32 #[.pointer (some ⟨b, 0, none⟩), .int .i64 k, .int .i64 m] w (CH P w b (cutS s k m) (.int .i64 (cutE s k m))) := by
  have he : cutE s k m = 11 := by unfold cutE; rw [fnd_plcn hp]
  rw [cutS_no (by rw [he]; decide), he]
  have FN := hide (CH.same h (.int .i64 11) (Below.refl _ _))
  obtain ⟨v, L, h⟩ := h
  have HP := hide (rplace_in h k)
  rw [show plI s.ls k = -1 by unfold plI; rw [hp]] at HP
  clear h hp he
  obtain ⟨Q, hQ⟩ : ∃ Q : Ending → World → Prop, CH P w b s (.int .i64 11) = Q := ⟨_, rfl⟩
  rw [hQ] at FN ⊢
  clear hQ
  go_enter Try.func32, Try.ntmps32
  go_wp2_with fail
  refine (unhide HP).mono ?_
  rintro e W1 ⟨rfl, rfl⟩
  clear HP
  go_wp2
  try go_ret
  exact unhide FN
set_option maxRecDepth 100000 in
set_option maxHeartbeats 8000000 in
theorem rCut_some (h : HL P w b s) (k m : Int) {i : Nat} (hp : plc s.ls k = some i) : Calls Try.prog 32 #[.pointer (some ⟨b, 0, none⟩), .int .i64 k, .int .i64 m] w (CH P w b (cutS s k m) (.int .i64 (cutE s k m))) := by
  have HLs := hide h
  obtain ⟨v, L, h⟩ := h
  obtain ⟨c, hc, hf⟩ := fnd_plc h.gd.ris hp
  have hck := fnd_num hf
  obtain ⟨a0, k0, rfl⟩ := h.form
  have hle := h.gd.len'
  have hlen := h.len
  obtain ⟨n, hn⟩ : ∃ n, L.length = n := ⟨_, rfl⟩
  rw [hn] at h
  obtain ⟨⟨c', v1, v2⟩, hx, ex⟩ := h.get hc
  simp only at ex
  subst ex
  obtain ⟨g, ea, _, hgb, _, _⟩ := h.at hx
  subst ea
  have hxm := List.mem_of_getElem? hx
  have hil : i < n := by rw [← hn]; exact (List.getElem?_eq_some_iff.1 hx).1
  have hnb : n ≤ 2147483647 := by omega
  obtain ⟨av, kv, ev⟩ := (h.dat _ hxm).1.1.form
  simp only at ev
  subst ev
  have HP := hide (rplace_in h k)
  rw [show plI s.ls k = (i : Nat) by unfold plI; rw [hp]] at HP
  obtain ⟨X1, X2, hX1, x1, hX2, x2, b2, hcl, rb⟩ := h.load hx
  have c00 := h.c0
  have p0 := hcl 0 _ rfl
  have p1 := hcl 1 _ rfl
  have p2 := hcl 2 _ rfl
  have p3 := hcl 3 _ rfl
  have p4 := hcl 4 _ rfl
  have p5 := hcl 5 _ rfl
  rw [Nat.add_zero] at p0
  have hln := h.gd.ln c' (List.mem_of_getElem? hc)
  have hdl : c'.dat.length ≤ 1000000 := h.gd.dat (List.mem_of_getElem? hc)
  have c20 := cell_below c00 b2
  have z0 := x1.cell 0 _ rfl
  have zf0 := x1.frozen 0
  have z1 := x1.cell 1 _ rfl
  have zf1 := x1.frozen 1
  have z2 := x1.cell 2 _ rfl
  have zf2 := x1.frozen 2
  have z3 := x1.cell 3 _ rfl
  have zf3 := x1.frozen 3
  have z4 := x1.cell 4 _ rfl
  have zf4 := x1.frozen 4
  have z5 := x1.cell 5 _ rfl
  have zf5 := x1.frozen 5
  have y0 := x2.cell 0 _ rfl
  have yf0 := x2.frozen 0
  have y1 := x2.cell 1 _ rfl
  have yf1 := x2.frozen 1
  have y2 := x2.cell 2 _ rfl
  have yf2 := x2.frozen 2
  have y3 := x2.cell 3 _ rfl
  have yf3 := x2.frozen 3
  have y4 := x2.cell 4 _ rfl
  have yf4 := x2.frozen 4
  have y5 := x2.cell 5 _ rfl
  have yf5 := x2.frozen 5
  have hi1 : (i : Int) < (n : Int) := by omega
  have hi2 : ¬ (i : Int) < 0 := by omega
  have hE : cutE s k m = if fitC c' m = true then (if c'.bad = true then 12 else 0) else 1 := by unfold cutE; rw [hf]
  by_cases hfit : fitC c' m = true
  · have hfit0 := hfit
    unfold fitC at hfit0
    have hfit1 := of_decide_eq_true hfit0
    obtain ⟨z, rfl⟩ : ∃ z : Nat, m = (z : Nat) := ⟨m.toNat, by omega⟩
    have hm1 : ¬ (z : Int) < 0 := by omega
    have hm2 : ¬ (c'.dat.length : Int) ≤ (z : Int) := by omega
    rw [if_pos hfit] at hE
    by_cases hbad : c'.bad = true
    · rw [if_pos hbad] at hE
      rw [cutS_no (by rw [hE]; decide), hE]
      have FN := hide (CH.same (unhide HLs) (.int .i64 12) b2)
      rw [hbad] at y5
      clear HLs h hp hf hck hle hlen hn hx hgb hxm x1 x2 b2 hcl rb hln hdl hc hE hfit hfit0 hfit1
      rw [hbad] at hX2 p5
      clear hbad
      generalize c'.dat.length = M at *
      obtain ⟨Q, hQ⟩ : ∃ Q : Ending → World → Prop, CH P w b s (.int .i64 12) = Q := ⟨_, rfl⟩
      rw [hQ] at FN ⊢
      clear hQ
      go_enter Try.func32, Try.ntmps32
      go_wp2_with fail
      refine (unhide HP).mono ?_
      rintro e W1 ⟨rfl, rfl⟩
      clear HP
      go_wp2
      try go_ret
      exact unhide FN
    · rw [if_neg hbad] at hE
      have hbad2 : c'.bad = false := by simpa using hbad
      have hdc : c'.dat = c'.cl := by unfold Cp.dat; rw [if_neg hbad]
      have hgd : Gd (updS s c'.num (cutC (z : Nat))) := by
        have := h.gd.cut k (z : Nat)
        unfold cutS at this
        rw [if_pos hE] at this
        rw [hck]
        exact this
      rw [show cutS s k (z : Nat) = updS s c'.num (cutC (z : Nat)) by unfold cutS; rw [if_pos hE, hck], hE]
      have hkv : z ≤ kv ∧ (z : Int) ≤ (kv : Int) := by
        rcases rb with ⟨h0, _⟩ | ⟨b1, off, cap, e1, h2, _⟩
        · omega
        · simp only [Value.slice.injEq] at e1
          obtain ⟨_, _, rfl⟩ := e1
          omega
      have hkv1 := hkv.1
      have hkv2 := hkv.2
      have r1 : RB X2 (.slice av z kv) (c'.dat.take z) := RB.take (n := 0) rb (by omega) (fun _ => trivial)
      have hz0 : (c'.dat.take z).length = z := by rw [List.length_take]; omega
      have HT := hide (rtwin_in _ _ X2 r1 (by omega))
      unfold NewB at HT
      rw [hz0] at HT
      have BK : Hid (∀ W3 a3 k3, OwB W3 X2.heap.size 5 (.slice a3 z k3) (c'.dat.take z) → Below X2.heap.size X2 W3 → ∃ Z1 Z2, W3.setCell ⟨w.heap.size, 3, none⟩ (.slice a3 z k3) = Z1 ∧ Bx W3 w.heap.size 44 #[.int .i64 c'.num, .int .i64 c'.frm, .int .i64 c'.to, .slice av c'.dat.length kv, .int .i64 c'.sent, .bool c'.bad] ∧ Bx Z1 w.heap.size 44 #[.int .i64 c'.num, .int .i64 c'.frm, .int .i64 c'.to, .slice a3 z k3, .int .i64 c'.sent, .bool c'.bad] ∧ Z1.setCell ⟨w.heap.size, 5, none⟩ (.bool true) = Z2 ∧ Bx Z2 w.heap.size 44 #[.int .i64 c'.num, .int .i64 c'.frm, .int .i64 c'.to, .slice a3 z k3, .int .i64 c'.sent, .bool true] ∧ ∃ Y, ((((((Z2.setCell ⟨g, i * 7, none⟩ (.int .i64 c'.num)).setCell ⟨g, i * 7 + 1, none⟩ (.int .i64 c'.frm)).setCell ⟨g, i * 7 + 2, none⟩ (.int .i64 c'.to)).setCell ⟨g, i * 7 + 3, none⟩ (.slice a3 z k3)).setCell ⟨g, i * 7 + 4, none⟩ (.int .i64 c'.sent)).setCell ⟨g, i * 7 + 5, none⟩ (.bool true)) = Y ∧ CH P w b (updS s c'.num (cutC (z : Nat))) (.int .i64 0) (.returned (.int .i64 0)) Y.drew ∧ Z2.cell? ⟨b, 0, none⟩ = some (.slice (some ⟨g, 0, none⟩) n k0) ∧ (∀ q u, (encH (c', .slice av c'.dat.length kv, v2))[q]? = some u → Z2.cell? ⟨g, i * 7 + q, none⟩ = some u) ∧ ∀ q, Z2.frozen? ⟨g, q, none⟩ = false) := by
        intro W3 a3 k3 ho hb3
        have q3 := x2.below hb3
        obtain ⟨Z1, hZ1⟩ : ∃ Z1, W3.setCell ⟨w.heap.size, 3, none⟩ (.slice a3 z k3) = Z1 := ⟨_, rfl⟩
        have q4 : Bx Z1 w.heap.size 44 #[.int .i64 c'.num, .int .i64 c'.frm, .int .i64 c'.to, .slice a3 z k3, .int .i64 c'.sent, .bool c'.bad] := by rw [← hZ1]; simpa using q3.set 3 (.slice a3 z k3)
        have kZ1 : Kp (fun i => i = w.heap.size) W3 Z1 := by rw [← hZ1]; exact Kp.set _ _ _ rfl
        obtain ⟨Z2, hZ2⟩ : ∃ Z2, Z1.setCell ⟨w.heap.size, 5, none⟩ (.bool true) = Z2 := ⟨_, rfl⟩
        have q5 : Bx Z2 w.heap.size 44 #[.int .i64 c'.num, .int .i64 c'.frm, .int .i64 c'.to, .slice a3 z k3, .int .i64 c'.sent, .bool true] := by rw [← hZ2]; simpa using q4.set 5 (.bool true)
        have kZ2 : Kp (fun i => i = w.heap.size) W3 Z2 := kZ1.trans (by rw [← hZ2]; exact Kp.set _ _ _ rfl) (fun i hi => .inl hi)
        have hsz := x2.lt
        have bZ2 : Below w.heap.size w Z2 := kZ2.below (bnext b2 hb3) (fun i e => by omega)
        have hu : OwB Z2 w.heap.size 5 (.slice a3 z k3) (cutC (z : Nat) c').dat := by
          show OwB Z2 w.heap.size 5 (.slice a3 z k3) (c'.cl.take ((z : Nat) : Int).toNat)
          rw [Int.toNat_natCast, ← hdc]
          exact (ho.kp kZ2 (fun i hi e => by have := (ho.lt i hi).1; omega)).wk (by omega)
        exact ⟨Z1, Z2, hZ1, q3, q4, hZ2, q5, h.back hx (f := cutC (z : Nat)) (fun _ => ⟨rfl, rfl, rfl, rfl, rfl, rfl⟩) hgd bZ2 hu⟩
      obtain ⟨Q, hQ⟩ : ∃ Q : Ending → World → Prop, CH P w b (updS s c'.num (cutC (z : Nat))) (.int .i64 0) = Q := ⟨_, rfl⟩
      rw [hQ] at BK ⊢
      rw [hbad2] at y5 hX2 p5 BK
      clear HLs h hp hf hck hle hlen hn hx hgb hxm x1 x2 b2 hcl rb hln hdl hc hE hfit hfit0 hfit1 hbad hbad2 hdc hgd hkv r1 hz0 hQ
      generalize c'.dat.length = M at *
      go_enter Try.func32, Try.ntmps32
      go_wp2_with fail
      refine (unhide HP).mono ?_
      rintro e W1 ⟨rfl, rfl⟩
      clear HP
      go_wp2_with fail
      refine (unhide HT).mono ?_
      rintro e W3 ⟨a3, k3, rfl, ho, hb⟩
      obtain ⟨Z1, Z2, hZ1, q3, q4, hZ2, q5, Y, hY, hfin, cb, cg, fg⟩ := unhide BK W3 a3 k3 ho hb
      clear BK HT ho hb hX2 hX1 z0 z1 z2 z3 z4 z5 zf0 zf1 zf2 zf3 zf4 zf5 y0 y1 y2 y3 y4 y5 yf0 yf1 yf2 yf3 yf4 yf5 p0 p1 p2 p3 p4 p5 c00 c20
      have HF := hide hfin
      have t0 := q3.cell 0 _ rfl
      have tf0 := q3.frozen 0
      have t1 := q3.cell 1 _ rfl
      have tf1 := q3.frozen 1
      have t2 := q3.cell 2 _ rfl
      have tf2 := q3.frozen 2
      have t3 := q3.cell 3 _ rfl
      have tf3 := q3.frozen 3
      have t4 := q3.cell 4 _ rfl
      have tf4 := q3.frozen 4
      have t5 := q3.cell 5 _ rfl
      have tf5 := q3.frozen 5
      have r0 := q4.cell 0 _ rfl
      have rf0 := q4.frozen 0
      have r1 := q4.cell 1 _ rfl
      have rf1 := q4.frozen 1
      have r2 := q4.cell 2 _ rfl
      have rf2 := q4.frozen 2
      have r3 := q4.cell 3 _ rfl
      have rf3 := q4.frozen 3
      have r4 := q4.cell 4 _ rfl
      have rf4 := q4.frozen 4
      have r5 := q4.cell 5 _ rfl
      have rf5 := q4.frozen 5
      have y0 := q5.cell 0 _ rfl
      have yf0 := q5.frozen 0
      have y1 := q5.cell 1 _ rfl
      have yf1 := q5.frozen 1
      have y2 := q5.cell 2 _ rfl
      have yf2 := q5.frozen 2
      have y3 := q5.cell 3 _ rfl
      have yf3 := q5.frozen 3
      have y4 := q5.cell 4 _ rfl
      have yf4 := q5.frozen 4
      have y5 := q5.cell 5 _ rfl
      have yf5 := q5.frozen 5
      have g0 := cg 0 _ rfl
      have gf0 := fg (i * 7)
      have g1 := cg 1 _ rfl
      have gf1 := fg (i * 7 + 1)
      have g2 := cg 2 _ rfl
      have gf2 := fg (i * 7 + 2)
      have g3 := cg 3 _ rfl
      have gf3 := fg (i * 7 + 3)
      have g4 := cg 4 _ rfl
      have gf4 := fg (i * 7 + 4)
      have g5 := cg 5 _ rfl
      have gf5 := fg (i * 7 + 5)
      rw [Nat.add_zero] at g0
      clear q3 q4 q5 cg fg hfin
      go_wp2
      go_region
      go_wp2
      try go_ret
      exact unhide HF
  · rw [if_neg hfit] at hE
    rw [cutS_no (by rw [hE]; decide), hE]
    have FN := hide (CH.same (unhide HLs) (.int .i64 1) b2)
    have hm : m < 0 ∨ (¬ m < 0 ∧ (c'.dat.length : Int) ≤ m) := by
      by_cases h0 : m < 0
      · exact .inl h0
      · refine .inr ⟨h0, ?_⟩
        by_cases h1 : m < (c'.dat.length : Int)
        · exact absurd (by unfold fitC; exact decide_eq_true ⟨by omega, h1⟩) hfit
        · omega
    clear HLs h hp hf hck hle hlen hn hx hgb hxm x1 x2 b2 hcl rb hln hdl hc hE hfit
    generalize c'.dat.length = M at *
    obtain ⟨Q, hQ⟩ : ∃ Q : Ending → World → Prop, CH P w b s (.int .i64 1) = Q := ⟨_, rfl⟩
    rw [hQ] at FN ⊢
    clear hQ
    rcases hm with hm | ⟨hm0, hm⟩
    all_goals (
      go_enter Try.func32, Try.ntmps32
      go_wp2_with fail
      refine (unhide HP).mono ?_
      rintro e W1 ⟨rfl, rfl⟩
      clear HP
      go_wp2
      try go_ret
      exact unhide FN)
theorem rCut_in (h : HL P w b s) (k m : Int) : Calls Try.prog 32 #[.pointer (some ⟨b, 0, none⟩), .int .i64 k, .int .i64 m] w (CH P w b (cutS s k m) (.int .i64 (cutE s k m))) := by
  cases hp : plc s.ls k with
  | none => exact rCut_none h k m hp
  | some i => exact rCut_some h k m hp

end Go.Proofs.Yteomalmflebkhaa
