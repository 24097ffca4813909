/-
  The document's own Net: Deliver.
-/
import Derived.Test.YteomalmflebkhaaZRfF
set_option linter.unusedSimpArgs false
set_option linter.unusedVariables false
namespace Go.Proofs.Yteomalmflebkhaa
open Go.RowKit Go.Lib

variable {P N : Nat → Prop} {w W W' X : World} {b p f q : Nat} {c : Cp} {s : Stn} {v u : Value} {e : Ending} {L : List (Cp × Value × Value)}
def TkH (P : Nat → Prop) (w : World) (b : Nat) (s : Stn) (k : Int) (e : Ending) (W : World) : Prop := ∃ a n, e = .returned (.tuple #[cpV (tkC s k) (.slice a (tkC s k).dat.length n), .int .i64 (tkE s k)]) ∧ OwB W w.heap.size 5 (.slice a (tkC s k).dat.length n) (tkC s k).dat ∧ HL (fun i => P i ∨ w.heap.size ≤ i) W b (tkS s k) ∧ Kp P w W
set_option maxRecDepth 100000 in
set_option maxHeartbeats 4000000 in
theorem rDeliver_none (h : HL P w b s) (k : Int) (hp : plc s.ls k = none) : Calls Try.prog 28 #[.pointer (some ⟨b, 0, none⟩), .int .i64 k] w (TkH P w b s k) := by
  have hf := fnd_plcn hp
  have HLs := hide h
  obtain ⟨v, L, h⟩ := h
  obtain ⟨X0, hX0⟩ : ∃ X0, w.alloc (.cells #[.int .i64 0, .int .i64 0, .int .i64 0, .slice none 0 0, .int .i64 0, .bool false] 44) = X0 := ⟨_, rfl⟩
  have x0 : Bx X0 w.heap.size 44 #[.int .i64 0, .int .i64 0, .int .i64 0, .slice none 0 0, .int .i64 0, .bool false] := by rw [← hX0]; exact Bx.new _ _ _
  have b0 : Below w.heap.size w X0 := by rw [← hX0]; exact ballc (Below.refl _ _) _
  have HP := hide (rplace_in (h.kp (N := fun _ => False) (Kp.of_below b0) (fun _ e => e.elim)) k)
  rw [show plI s.ls k = -1 by unfold plI; rw [hp]] at HP
  obtain ⟨Y, hY⟩ : ∃ Y, ((((((X0.setCell ⟨w.heap.size, 0, none⟩ (.int .i64 0)).setCell ⟨w.heap.size, 1, none⟩ (.int .i64 0)).setCell ⟨w.heap.size, 2, none⟩ (.int .i64 0)).setCell ⟨w.heap.size, 3, none⟩ (.slice none 0 0)).setCell ⟨w.heap.size, 4, none⟩ (.int .i64 0)).setCell ⟨w.heap.size, 5, none⟩ (.bool false)) = Y := ⟨_, rfl⟩
  obtain ⟨y0, ky⟩ := set6 x0 _ _ _ _ _ _ hY
  have bY : Below w.heap.size w Y := ky.below b0 (fun i e => by omega)
  have FN : Hid (TkH P w b s k (.returned (.tuple #[.agg #[.int .i64 0, .int .i64 0, .int .i64 0, .slice none 0 0, .int .i64 0, .bool false], .int .i64 11])) Y) := by
    refine ⟨none, 0, ?_, ?_, ?_, Kp.of_below bY⟩
    · unfold tkC tkE; rw [hf]; rfl
    · unfold tkC; rw [hf]; exact OwB.nil _ _ _
    · rw [tk_none hf]; exact ((unhide HLs).below bY).mono (fun i hi => .inl hi)
  have HbY := hide y0
  have z0 := x0.cell 0 _ rfl
  have zf0 := x0.frozen 0
  have z1 := x0.cell 1 _ rfl
  have zf1 := x0.frozen 1
  have z2 := x0.cell 2 _ rfl
  have zf2 := x0.frozen 2
  have z3 := x0.cell 3 _ rfl
  have zf3 := x0.frozen 3
  have z4 := x0.cell 4 _ rfl
  have zf4 := x0.frozen 4
  have z5 := x0.cell 5 _ rfl
  have zf5 := x0.frozen 5
  have yy0 := y0.cell 0 _ rfl
  have y1 := y0.cell 1 _ rfl
  have y2 := y0.cell 2 _ rfl
  have y3 := y0.cell 3 _ rfl
  have y4 := y0.cell 4 _ rfl
  have y5 := y0.cell 5 _ rfl
  clear h hf hp x0 b0 y0 ky bY HLs
  unfold TkH at FN ⊢
  obtain ⟨Q, hQ⟩ : ∃ Q : Ending → World → Prop, (fun e W => ∃ a n, e = .returned (.tuple #[cpV (tkC s k) (.slice a (tkC s k).dat.length n), .int .i64 (tkE s k)]) ∧ OwB W w.heap.size 5 (.slice a (tkC s k).dat.length n) (tkC s k).dat ∧ HL (fun i => P i ∨ w.heap.size ≤ i) W b (tkS s k) ∧ Kp P w W) = Q := ⟨_, rfl⟩
  have FQ : Hid (Q (.returned (.tuple #[.agg #[.int .i64 0, .int .i64 0, .int .i64 0, .slice none 0 0, .int .i64 0, .bool false], .int .i64 11])) Y) := by rw [← hQ]; exact unhide FN
  change Calls Try.prog 28 #[.pointer (some ⟨b, 0, none⟩), .int .i64 k] w (fun e W => ∃ a n, e = .returned (.tuple #[cpV (tkC s k) (.slice a (tkC s k).dat.length n), .int .i64 (tkE s k)]) ∧ OwB W w.heap.size 5 (.slice a (tkC s k).dat.length n) (tkC s k).dat ∧ HL (fun i => P i ∨ w.heap.size ≤ i) W b (tkS s k) ∧ Kp P w W)
  rw [hQ]
  clear FN hQ
  go_enter Try.func28, Try.ntmps28
  go_wp2_with fail
  refine (unhide HP).mono ?_
  rintro e W1 ⟨rfl, rfl⟩
  clear HP
  go_wp2
  refine bodyPost_ret (results_ct rfl _ _ w.heap.size _ _ _ _ rfl (unhide HbY) Try.underlying44 rfl sizeC) rfl ?_
  exact unhide FQ

set_option maxRecDepth 100000 in
set_option maxHeartbeats 8000000 in
theorem rDeliver_some (h : HL P w b s) (k : Int) {i : Nat} (hp : plc s.ls k = some i) : Calls Try.prog 28 #[.pointer (some ⟨b, 0, none⟩), .int .i64 k] w (TkH P w b s k) := by
  obtain ⟨v, L, h⟩ := h
  obtain ⟨c, hc, hf⟩ := fnd_plc h.gd.ris hp
  have hck := fnd_num hf
  obtain ⟨a0, k0, rfl⟩ := h.form
  have hle := h.gd.len'
  have hlen := h.len
  obtain ⟨n, hn⟩ : ∃ n, L.length = n := ⟨_, rfl⟩
  rw [hn] at h
  obtain ⟨⟨c', v1, v2⟩, hx, ex⟩ := h.get hc
  simp only at ex
  subst ex
  obtain ⟨g, ea, _, hgb, _, _⟩ := h.at hx
  subst ea
  have hxm := List.mem_of_getElem? hx
  have hil : i < n := by rw [← hn]; exact (List.getElem?_eq_some_iff.1 hx).1
  have hnb : n ≤ 2147483647 := by omega
  obtain ⟨av, kv, ev⟩ := (h.dat _ hxm).1.1.form
  simp only at ev
  subst ev
  obtain ⟨X0, hX0⟩ : ∃ X0, w.alloc (.cells #[.int .i64 0, .int .i64 0, .int .i64 0, .slice none 0 0, .int .i64 0, .bool false] 44) = X0 := ⟨_, rfl⟩
  have x0 : Bx X0 w.heap.size 44 #[.int .i64 0, .int .i64 0, .int .i64 0, .slice none 0 0, .int .i64 0, .bool false] := by rw [← hX0]; exact Bx.new _ _ _
  have b0 : Below w.heap.size w X0 := by rw [← hX0]; exact ballc (Below.refl _ _) _
  have h0 := h.kp (N := fun _ => False) (Kp.of_below b0) (fun _ e => e.elim)
  have HP := hide (rplace_in h0 k)
  rw [show plI s.ls k = (i : Nat) by unfold plI; rw [hp]] at HP
  obtain ⟨g', eg, _, _, hcl, _⟩ := h0.at hx
  cases eg
  have c00 := h0.c0
  have p0 := hcl 0 _ rfl
  have p1 := hcl 1 _ rfl
  have p2 := hcl 2 _ rfl
  have p3 := hcl 3 _ rfl
  have p4 := hcl 4 _ rfl
  have p5 := hcl 5 _ rfl
  rw [Nat.add_zero] at p0
  obtain ⟨X1, hX1⟩ : ∃ X1, X0.alloc (.cells #[.int .i64 0, .int .i64 0, .int .i64 0, .slice none 0 0, .int .i64 0, .bool false] 44) = X1 := ⟨_, rfl⟩
  have x1 : Bx X1 X0.heap.size 44 #[.int .i64 0, .int .i64 0, .int .i64 0, .slice none 0 0, .int .i64 0, .bool false] := by rw [← hX1]; exact Bx.new _ _ _
  have b1 : Below X0.heap.size X0 X1 := by rw [← hX1]; exact ballc (Below.refl _ _) _
  obtain ⟨X2, hX2⟩ : ∃ X2, ((((((X1.setCell ⟨X0.heap.size, 0, none⟩ (.int .i64 c'.num)).setCell ⟨X0.heap.size, 1, none⟩ (.int .i64 c'.frm)).setCell ⟨X0.heap.size, 2, none⟩ (.int .i64 c'.to)).setCell ⟨X0.heap.size, 3, none⟩ (.slice av c'.dat.length kv)).setCell ⟨X0.heap.size, 4, none⟩ (.int .i64 c'.sent)).setCell ⟨X0.heap.size, 5, none⟩ (.bool c'.bad)) = X2 := ⟨_, rfl⟩
  obtain ⟨x2, kx2⟩ := set6 x1 _ _ _ _ _ _ hX2
  have b2 : Below X0.heap.size X0 X2 := kx2.below b1 (fun i e => by omega)
  have bw2 := bnext b0 b2
  have h2 := h.kp (N := fun _ => False) (Kp.of_below bw2) (fun _ e => e.elim)
  obtain ⟨a1, k1, Y1, ad, a2, k2, Y2, r1, sl1, sl2, r2, row, by1, by2⟩ := h2.off hn hx
  have c20 := h2.c0
  have c21 := cell_below c20 by1
  have bxY2 := h2.bx.below by2
  have cY2 := bxY2.cell 0 _ rfl
  have fY2 := bxY2.frozen 0
  obtain ⟨Z, hZ⟩ : ∃ Z, Y2.setCell ⟨b, 0, none⟩ (.slice a2 (n - 1) k2) = Z := ⟨_, rfl⟩
  have bxZ : Bx Z b 62 #[.slice a2 (n - 1) k2, .int .i64 s.la] := by rw [← hZ]; simpa using bxY2.set 0 (.slice a2 (n - 1) k2)
  have kZ : Kp (fun j => j = b) Y2 Z := by rw [← hZ]; exact Kp.set _ _ _ rfl
  have hbw := h.bx.lt
  have hs0 := b0.size
  have hs2 := bw2.size
  have x2Z := (x2.below by2).kp kZ (by omega)
  have x0Z := ((x0.below b2).below by2).kp kZ (by omega)
  have kwZ : Kp (fun j => j = b) w Z := (Kp.of_below (bnext bw2 by2)).trans kZ (fun i hi => .inl hi)
  have rowZ := owns_kp row kZ (fun i hi e => by have := (World.ownsRow.lt row i hi).1; omega)
  have hm2 := (h.mono (P' := fun i => P i ∧ i < w.heap.size) (fun i hi hl => ⟨hi, hl⟩)).kp (N := fun _ => False) (Kp.of_below bw2) (fun _ e => e.elim)
  have k2Z : Kp (fun j => j = b) X2 Z := (Kp.of_below by2).trans kZ (fun i hi => .inl hi)
  obtain ⟨hHL, hKp2⟩ := hm2.taken hc k2Z bxZ (by rw [hn]; exact owns_wk rowZ (Nat.zero_le _)) (fun j hj => (World.ownsRow.lt rowZ j hj).1)
  have hKp : Kp P w Z := (Kp.of_below bw2).trans hKp2 (fun i hi => .inl hi.1)
  rw [hck] at hHL
  have hX2s : w.heap.size < X2.heap.size := ((x0.below b2)).lt
  have hln := h.gd.ln c' (List.mem_of_getElem? hc)
  have datZ := ((h.dat _ hxm).1.kpw kwZ (fun i hi e => by obtain ⟨cur, hc⟩ := (h.dat _ hxm).2 i hi; exact h.far hc (.inl e))).1
  have HT := hide (rtold_in c' (.slice av c'.dat.length kv) Z datZ (by unfold Cp.dat; split <;> omega))
  have hkZs := kwZ.size
  have FN : Hid (∀ W3 a3 k3 Y, OwB W3 Z.heap.size 5 (.slice a3 c'.dat.length k3) c'.dat → Below Z.heap.size Z W3 → Kp (fun j => j = w.heap.size) W3 Y → TkH P w b s k (.returned (.tuple #[.agg #[(.int .i64 c'.num), (.int .i64 c'.frm), (.int .i64 c'.to), (.slice a3 c'.dat.length k3), (.int .i64 c'.sent), (.bool c'.bad)], .int .i64 0])) Y) := by
    intro W3 a3 k3 Y ho hb hk
    refine ⟨a3, k3, ?_, ?_, ?_, ?_⟩
    · unfold tkC tkE; rw [hf]; rfl
    · unfold tkC; rw [hf]
      exact (ho.kp hk (fun i hi e => by have := (ho.lt i hi).1; have := x0Z.lt; omega)).wk hkZs
    · exact ((hHL.below hb).kp hk (fun i hi e => by rcases e with e | e <;> omega)).mono (fun i hi => by
        rcases hi with e | e
        · exact .inl e.1
        · exact .inr (by omega))
    · exact (hKp.trans (Kp.of_below (N := fun _ => False) hb) (fun _ e => e.elim)).trans hk (fun i hi => .inr (by omega))
  have HA1 := hide r1
  have HA2 := hide r2
  have X0Z := hide (fun W3 (hb : Below Z.heap.size Z W3) => x0Z.below hb)
  have hi1 : (i : Int) < (n : Int) := by omega
  have hi2 : ¬ (i : Int) < 0 := by omega
  have z0 := x1.cell 0 _ rfl
  have zf0 := x1.frozen 0
  have z1 := x1.cell 1 _ rfl
  have zf1 := x1.frozen 1
  have z2 := x1.cell 2 _ rfl
  have zf2 := x1.frozen 2
  have z3 := x1.cell 3 _ rfl
  have zf3 := x1.frozen 3
  have z4 := x1.cell 4 _ rfl
  have zf4 := x1.frozen 4
  have z5 := x1.cell 5 _ rfl
  have zf5 := x1.frozen 5
  have q0 := x2Z.cell 0 _ rfl
  have q1 := x2Z.cell 1 _ rfl
  have q2 := x2Z.cell 2 _ rfl
  have q3 := x2Z.cell 3 _ rfl
  have q4 := x2Z.cell 4 _ rfl
  have q5 := x2Z.cell 5 _ rfl
  obtain ⟨Q, hQ⟩ : ∃ Q : Ending → World → Prop, TkH P w b s k = Q := ⟨_, rfl⟩
  rw [hQ] at FN ⊢
  unfold TelA cpV at HT
  obtain ⟨m, hm⟩ : ∃ m, c'.dat.length = m := ⟨_, rfl⟩
  rw [hm] at HT FN hX2 p3 q3
  clear h hp hf hck hle hlen hn hx hgb hxm x0 b0 h0 hcl x1 b1 x2 kx2 b2 bw2 h2 r1 r2 row by1 by2 bxY2 bxZ kZ hbw hs0 hs2 x2Z x0Z kwZ rowZ hm2 k2Z hHL hKp2 hKp hX2s hln datZ hkZs hc hQ hm
  go_enter Try.func28, Try.ntmps28
  go_wp2_with fail
  refine (unhide HP).mono ?_
  rintro e W1 ⟨rfl, rfl⟩
  clear HP
  go_wp2_with (first | (at_builtin; refine wpList_append_eq rfl _ _ 60 60 rfl _ _ _ _ rfl rfl (unhide HA1) ?_) | (at_builtin; refine wpList_append_eq rfl _ _ 60 60 rfl _ _ _ _ rfl rfl (unhide HA2) ?_))
  refine (unhide HT).mono ?_
  rintro e W3 ⟨a3, k3, rfl, ho, hb⟩
  have b3 := unhide X0Z W3 hb
  obtain ⟨Y, hY⟩ : ∃ Y, ((((((W3.setCell ⟨w.heap.size, 0, none⟩ (.int .i64 c'.num)).setCell ⟨w.heap.size, 1, none⟩ (.int .i64 c'.frm)).setCell ⟨w.heap.size, 2, none⟩ (.int .i64 c'.to)).setCell ⟨w.heap.size, 3, none⟩ (.slice a3 m k3)).setCell ⟨w.heap.size, 4, none⟩ (.int .i64 c'.sent)).setCell ⟨w.heap.size, 5, none⟩ (.bool c'.bad)) = Y := ⟨_, rfl⟩
  obtain ⟨bY, kY⟩ := set6 b3 _ _ _ _ _ _ hY
  have FQ := hide (unhide FN W3 a3 k3 Y ho hb kY)
  have HbY := hide bY
  have y0 := b3.cell 0 _ rfl
  have yf0 := b3.frozen 0
  have y1 := b3.cell 1 _ rfl
  have yf1 := b3.frozen 1
  have y2 := b3.cell 2 _ rfl
  have yf2 := b3.frozen 2
  have y3 := b3.cell 3 _ rfl
  have yf3 := b3.frozen 3
  have y4 := b3.cell 4 _ rfl
  have yf4 := b3.frozen 4
  have y5 := b3.cell 5 _ rfl
  have yf5 := b3.frozen 5
  clear HT FN ho hb b3 bY kY X0Z
  go_wp2
  refine bodyPost_ret (results_ct rfl _ _ w.heap.size _ _ _ _ rfl (unhide HbY) Try.underlying44 rfl sizeC) rfl ?_
  exact unhide FQ

end Go.Proofs.Yteomalmflebkhaa
