/-
  The document's Peer in memory: Send.
-/
import Derived.Test.YtiekholaheddhaaZPF
set_option linter.unusedSimpArgs false
set_option linter.unusedVariables false
namespace Go.Proofs.Ytiekholaheddhaa
open Go.RowKit Go.Lib

variable {P N : Nat → Prop} {w W W' : World} {t : TypeId} {b : Nat} {v : Value} {s : St}
/-- append to the flight and store it -/
theorem fl_app {X0 X1 : World} (x : Int) (pb : P b) (bx0 : Bx X0 b 41 (pC s v)) (r0 : RdN X0 v s.fl) (pk : ∀ k, v.ownBlock = some k → P k) (b1 : Below X0.heap.size X0 X1) (bx1 : Bx X1 X0.heap.size 3 #[.int .i64 x]) (hl : s.fl.length ≤ 1000) :
    ∃ a2 c2 X2, (Builtin.append_ #[37, 37] 37 #[v, .slice (some ⟨X0.heap.size, 0, none⟩) 1 1]).run Try.prog X1 = .ok (.slice a2 (s.fl.length + 1) c2) X2 ∧ X2.frozen? ⟨b, 3, none⟩ = false ∧ X2.cell? ⟨b, 3, none⟩ = some v ∧ X2.cell? ⟨b, 2, none⟩ = some (.int .i64 s.la) ∧ ∀ X3, X2.setCell ⟨b, 3, none⟩ (.slice a2 (s.fl.length + 1) c2) = X3 → Bx X3 b 41 (pC { s with fl := s.fl ++ [x] } (.slice a2 (s.fl.length + 1) c2)) ∧ RdN X3 (.slice a2 (s.fl.length + 1) c2) (s.fl ++ [x]) ∧ (∀ i, (Value.slice a2 (s.fl.length + 1) c2).ownBlock = some i → P i ∨ X0.heap.size ≤ i) ∧ Kp P X0 X3 ∧ X3.cell? ⟨b, 2, none⟩ = some (.int .i64 s.la) := by
  have hne : ∀ i, v.ownBlock = some i → i ≠ b := fun i hi e => by
    obtain ⟨cur, hcur⟩ := r0.kind i hi
    exact Bx.apart hcur bx0 (by decide) e
  obtain ⟨v2, X2, hap, r2, g2, o2⟩ := RdN.app (W := X1) (v := v) 37 x X0.heap.size (r0.kp (N := fun _ => False) (Kp.of_below b1) (fun _ _ e => e)) bx1 (by omega)
  obtain ⟨a2, c2, rfl, hc2⟩ := r2.form
  have hll : (s.fl ++ [x]).length = s.fl.length + 1 := by simp
  rw [hll] at hap r2 o2
  have z1 := b1.size
  have bx2 : Bx X2 b 41 (pC s v) := (bx0.below b1).kp (Kp.of_grown (N := fun i => v.ownBlock = some i) g2 (fun i hi => hi)) (fun e => hne _ e rfl)
  have hne2 : ∀ i, (Value.slice a2 (s.fl.length + 1) c2).ownBlock = some i → i ≠ b := fun i hi e => by
    obtain ⟨cur, hcur⟩ := r2.kind i hi
    exact Bx.apart hcur bx2 (by decide) e
  refine ⟨a2, c2, X2, hap, bx2.frozen 3, bx2.cell 3 _ rfl, bx2.cell 2 _ rfl, fun X3 hX3 => ?_⟩
  have bx3 : Bx X3 b 41 (pC { s with fl := s.fl ++ [x] } (.slice a2 (s.fl.length + 1) c2)) := by rw [← hX3]; exact PM.setfl bx2 _ _
  refine ⟨bx3, ?_, fun i hi => ?_, ?_, bx3.cell 2 _ rfl⟩
  · rw [← hX3]
    exact r2.kp (Kp.set (N := fun i => i = b) _ _ _ rfl) (fun i hi e => hne2 i hi e)
  · rcases o2 with o | o
    · rw [hi] at o; exact .inl (pk i o.symm)
    · rw [hi] at o; simp at o; subst o; exact .inr (by omega)
  · rw [← hX3]
    exact ((Kp.of_below (N := P) b1).trans (Kp.of_grown (N := P) g2 (fun i hi => pk i hi)) (fun i hi => .inl hi)).trans (Kp.set (N := P) _ _ _ pb) (fun i hi => .inl hi)
theorem last_ne {s : St} (h : Gd s) : s.fl.getLastD 0 < nxtS s ↔ s.fl.getLastD 0 ≠ nxtS s := by
  obtain ⟨h1, h2, h3⟩ := h.nxt
  by_cases h0 : s.fl = []
  · rw [h0]; show (0 : Int) < nxtS s ↔ (0 : Int) ≠ nxtS s; omega
  · have := (h.le _ (last_mem h0)).2
    omega
set_option maxRecDepth 100000 in
set_option maxHeartbeats 8000000 in
theorem rSend_in (h : PL P w 41 b s) (k : Int) : Calls Try.prog 21 #[.pointer (some ⟨b, 0, none⟩), .int .i64 k] w (CP P w 41 b (sndS s k) (.tuple #[.int .i64 (sndN s k), .int .i64 (sndC s k)])) := by
  obtain ⟨v, h⟩ := h
  have c0 := h.c0
  by_cases hk : k < 1
  · have HF := hide (h.off (s := s) (offB_k hk) 0)
    clear h
    generalize s.wd = wd at *
    go_enter Try.func21, Try.ntmps21
    go_wp2
    refine bodyPost_ret (results_tmp2 rfl _ _ _) rfl ?_
    exact unhide HF
  by_cases hw : s.wd = 0
  · rw [hw] at c0
    have HF := hide (h.off (offB_wd hw k) 0)
    clear h hw
    go_enter Try.func21, Try.ntmps21
    go_wp2
    refine bodyPost_ret (results_tmp2 rfl _ _ _) rfl ?_
    exact unhide HF
  have hno := offB_no hk hw
  have eN : sndN s k = numS s := by unfold sndN; rw [hno]; rfl
  have eC : sndC s k = min (max s.cr 1) (min s.ps k) := by unfold sndC; rw [hno]; show cntS s k = _; unfold cntS; omega
  rw [eN]
  have hm3 := fun W ts t x y z => run_min3 W ts t x y z
  have c1 := h.c1
  have c3 := h.c3
  have c5 := h.c5
  have hw' : (s.wd == 0) = false := by simpa using hw
  obtain ⟨a, c, rfl, hc⟩ := h.row.form
  have hln := h.len
  by_cases hf : (s.fl.length : Int) = s.wd
  · have e1 : sndS s k = s := by unfold sndS; rw [if_pos (.inr hf)]
    have e2 : numS s = s.fl.headD 0 := by unfold numS; rw [if_pos hf]
    have hpos : 0 < s.fl.length := by have := h.gd.w0; omega
    obtain ⟨g, o, rfl, hg, q0⟩ := RN.at h.row.rn (i := 0) (x := s.fl.headD 0) (by cases hx : s.fl with
      | nil => rw [hx] at hpos; simp at hpos
      | cons y r => rfl)
    simp only [Nat.add_zero] at q0
    have hf' : s.wd ≤ (s.fl.length : Int) := by omega
    have hpos' : (0 : Int) < (s.fl.length : Int) := by omega
    rw [e1, e2]
    have HF := hide (fun n => show CP P w 41 b s (.tuple #[.int .i64 (s.fl.headD 0), .int .i64 (sndC s k)]) (.returned (.tuple #[.int .i64 (s.fl.headD 0), .int .i64 (min (max s.cr 1) (min s.ps k))])) (w.drewN n) by
      rw [eC]
      exact ⟨rfl, ⟨_, (h.mono (fun _ => .inl)).kp (N := fun _ => False) (Kp.of_below (bdrew (Below.refl _ _) n)) (fun _ e => e.elim)⟩, Kp.of_below (bdrew (Below.refl _ _) n)⟩)
    clear h hf e1 e2 eN eC hno hw hc hln hpos
    generalize s.fl.headD 0 = x0 at *
    generalize s.fl.length = n at *
    generalize s.wd = wd at *
    generalize s.ps = ps at *
    generalize s.cr = cr at *
    go_enter Try.func21, Try.ntmps21
    go_wp2
    go_region
    go_wp2
    refine bodyPost_ret (results_tmp2 rfl _ _ _) rfl ?_
    exact unhide HF 1
  have e1 : sndS s k = givS s := by unfold sndS; rw [if_neg (by rw [hno]; simp [hf])]
  have e2 : numS s = nxtS s := by unfold numS; rw [if_neg hf]
  have hf' : ¬ s.wd ≤ (s.fl.length : Int) := by have := h.gd.ln; omega
  have hnx : min (s.la + 1) 2147483647 = nxtS s := rfl
  have hla0 := h.gd.l0
  have hla1 := h.gd.l1
  have c2 := h.c2
  have fz := h.fz 2
  have hgv := h.gd.giv hf
  have HFin := hide (fun (X : World) (v' : Value) (hX : Kp P w X) (hb : Bx X b 41 (pC (givS s) v')) (hr : RdN X v' (givS s).fl) (hv : ∀ i, v'.ownBlock = some i → P i ∨ w.heap.size ≤ i) => show CP P w 41 b (givS s) (.tuple #[.int .i64 (nxtS s), .int .i64 (sndC s k)]) (.returned (.tuple #[.int .i64 (nxtS s), .int .i64 (min (max s.cr 1) (min s.ps k))])) X by
    rw [eC]
    exact ⟨rfl, ⟨v', .inl h.pb, hb, hr, hv, hgv⟩, hX⟩)
  rw [e1, e2]
  have hls := last_ne h.gd
  by_cases hmx : s.la < 2147483647
  · have hnx1 : nxtS s = s.la + 1 := by unfold nxtS; omega
    obtain ⟨X0, hX0⟩ : ∃ X0, w.setCell ⟨b, 2, none⟩ (.int .i64 (nxtS s)) = X0 := ⟨_, rfl⟩
    have k0 : Kp P w X0 := by rw [← hX0]; exact Kp.set (N := P) _ _ _ h.pb
    have kw : Kp (N := fun i => i = b) w X0 := by rw [← hX0]; exact Kp.set (N := fun i => i = b) _ _ _ rfl
    have bx0 : Bx X0 b 41 (pC { s with la := nxtS s } (.slice a s.fl.length c)) := by
      rw [← hX0]
      exact PM.setla h _
    have r0 : RdN X0 (.slice a s.fl.length c) s.fl := h.row.kp kw (fun i hi e => h.ner i hi e)
    have d0 : X0.cell? ⟨b, 3, none⟩ = some (.slice a s.fl.length c) := bx0.cell 3 _ rfl
    have d2 : X0.cell? ⟨b, 2, none⟩ = some (.int .i64 (nxtS s)) := bx0.cell 2 _ rfl
    have hX1b : Below X0.heap.size X0 (X0.alloc (.cells #[.int .i64 (nxtS s)] 3)).drew.drew.drew := bdrew (ballc (Below.refl _ _) _) 3
    obtain ⟨a2, c2', X2, hap, fz2, p3, p2, hX3⟩ := fl_app (s := { s with la := nxtS s }) (X1 := (X0.alloc (.cells #[.int .i64 (nxtS s)] 3)).drew.drew.drew) (nxtS s) h.pb bx0 r0 (fun i hi => h.pk i hi) hX1b (Bx.new X0 _ _) (by show s.fl.length ≤ 1000; omega)
    have zX0 := k0.size
    obtain ⟨X3, hX3e⟩ : ∃ X3, X2.setCell ⟨b, 3, none⟩ (.slice a2 (s.fl.length + 1) c2') = X3 := ⟨_, rfl⟩
    obtain ⟨bx3, r3, hP3, k3, p2'⟩ := hX3 X3 hX3e
    have HApp : Hid (s.fl.getLastD 0 < nxtS s → CP P w 41 b (givS s) (.tuple #[.int .i64 (nxtS s), .int .i64 (sndC s k)]) (.returned (.tuple #[.int .i64 (nxtS s), .int .i64 (min (max s.cr 1) (min s.ps k))])) X3) := fun hlt => by
      have e : givS s = { s with la := nxtS s, fl := s.fl ++ [nxtS s] } := by unfold givS; rw [if_pos hlt]
      exact unhide HFin X3 _ (k0.trans k3 (fun i hi => .inl hi)) (by rw [e]; exact bx3) (by rw [e]; exact r3) (fun i hi => by rcases hP3 i hi with q | q; exact .inl q; exact .inr (by omega))
    have HNo : Hid (¬ s.fl.getLastD 0 < nxtS s → CP P w 41 b (givS s) (.tuple #[.int .i64 (nxtS s), .int .i64 (sndC s k)]) (.returned (.tuple #[.int .i64 (nxtS s), .int .i64 (min (max s.cr 1) (min s.ps k))])) (X0.drewN 2)) := fun hlt => by
      have e : givS s = { s with la := nxtS s } := by unfold givS; rw [if_neg hlt]
      have kd : Below X0.heap.size X0 (X0.drewN 2) := bdrew (Below.refl _ _) _
      exact unhide HFin (X0.drewN 2) _ (k0.trans (Kp.of_below (N := P) kd) (fun i hi => .inl hi)) (by rw [e]; exact bx0.below kd) (by rw [e]; exact r0.kp (N := fun _ => False) (Kp.of_below kd) (fun _ _ e => e)) (fun i hi => .inl (h.pk i hi))
    have hap' := hide hap
    have hnxt := h.gd.nxt
    have HQ := hide (fun i x (hx : s.fl[i]? = some x) => RN.at r0.rn hx)
    by_cases h0 : s.fl = []
    · have HF := hide (unhide HApp (by rw [h0]; show (0 : Int) < nxtS s; omega))
      have hz : ((s.fl.length : Int) == 0) = true := by rw [h0]; rfl
      clear h hf e1 e2 eN eC hno hw hc hln hgv HFin k0 kw bx0 r0 hX1b hX3 zX0 bx3 r3 hP3 k3 HApp HNo hnxt HQ hap hls
      obtain ⟨nx, hnxe⟩ : ∃ nx, nxtS s = nx := ⟨_, rfl⟩
      rw [hnxe] at hap' HF d2 p2 p2' hX0 ⊢
      have hsl : s.la + 1 = nx := by rw [← hnx1, hnxe]
      clear hnx1 hnxe hnx h0
      generalize s.fl.length = n at *
      generalize s.wd = wd at *
      generalize s.ps = ps at *
      generalize s.cr = cr at *
      generalize s.la = la at *
      have ca3 := cell_below d0 (ballc (Below.refl _ _) (.cells #[.int .i64 nx] 3))
      go_enter Try.func21, Try.ntmps21
      go_wp2
      go_region
      all_goals (
        go_wp2
        go_region
        all_goals (
          go_wp2
          go_region_law (refine step_append_eq rfl (.tmp 86) (.tmp 91) 37 rfl _ _ _ (by simp [Act.eval, Act.put]) (by simp [Act.eval, Act.put]) (unhide hap') ?_)
          all_goals (
            go_wp2
            refine bodyPost_ret (results_tmp2 rfl _ _ _) rfl ?_
            exact unhide HF)))
    · obtain ⟨m, hm⟩ : ∃ m, s.fl.length = m + 1 := by
        cases e : s.fl with
        | nil => exact absurd e h0
        | cons y r => exact ⟨r.length, rfl⟩
      have hlast : s.fl[m]? = some (s.fl.getLastD 0) := by
        rw [List.getLastD_eq_getLast?, List.getLast?_eq_getElem?, hm, Nat.add_sub_cancel]
        rw [List.getElem?_eq_getElem (by omega)]
        rfl
      obtain ⟨g, o, rfl, hg, q0⟩ := unhide HQ m _ hlast
      have hm1 : ((m : Int) + 1 == 0) = false := by rw [beq_eq_false_iff_ne]; omega
      have hm2 : ((m : Int) < (m : Int) + 1) := by omega
      have hmb : m ≤ 63 := by omega
      have hmw : IntKind.i64.wrap ((m : Int) + 1 - 1) = (m : Int) := by simp only [IntKind.wrap_i64]; omega
      have hmw2 : IntKind.i64.wrap (m : Int) = (m : Int) := by simp only [IntKind.wrap_i64]; omega
      have hf2 : ¬ s.wd ≤ (m : Int) + 1 := by omega
      clear hlast
      by_cases hlt : s.fl.getLastD 0 = nxtS s
      · have hlt0 : ¬ s.fl.getLastD 0 < nxtS s := by omega
        have HF := hide (unhide HNo hlt0)
        have hnb : (s.fl.getLastD 0 != nxtS s) = false := bne_eq_false_iff_eq.2 hlt
        clear h hf e1 e2 eN eC hno hw hc hln hgv HFin k0 kw bx0 r0 hX1b hX3 zX0 bx3 r3 hP3 k3 HApp HNo hnxt HQ hap hls hlt hlt0 hg
        rw [hm] at hap' c3 d0 p3 hX3e
        clear hm hf'
        obtain ⟨nx, hnxe⟩ : ∃ nx, nxtS s = nx := ⟨_, rfl⟩
        rw [hnxe] at hap' HF d2 p2 p2' hnb hX0 ⊢
        have hsl : s.la + 1 = nx := by rw [← hnx1, hnxe]
        clear hnx1 hnxe hnx h0
        generalize s.fl.getLastD 0 = ls at *
        generalize s.wd = wd at *
        generalize s.ps = ps at *
        generalize s.cr = cr at *
        generalize s.la = la at *
        go_enter Try.func21, Try.ntmps21
        go_wp2
        go_region
        all_goals (
          go_wp2
          go_region
          all_goals (
            go_wp2
            refine bodyPost_ret (results_tmp2 rfl _ _ _) rfl ?_
            exact unhide HF))
      · have hlt0 :  s.fl.getLastD 0 < nxtS s := by exact hls.2 hlt
        have HF := hide (unhide HApp hlt0)
        have hnb : (s.fl.getLastD 0 != nxtS s) = true := bne_iff_ne.2 hlt
        clear h hf e1 e2 eN eC hno hw hc hln hgv HFin k0 kw bx0 r0 hX1b hX3 zX0 bx3 r3 hP3 k3 HApp HNo hnxt HQ hap hls hlt hlt0 hg
        rw [hm] at hap' c3 d0 p3 hX3e
        clear hm hf'
        obtain ⟨nx, hnxe⟩ : ∃ nx, nxtS s = nx := ⟨_, rfl⟩
        rw [hnxe] at hap' HF d2 p2 p2' hnb hX0 ⊢
        have hsl : s.la + 1 = nx := by rw [← hnx1, hnxe]
        clear hnx1 hnxe hnx h0
        generalize s.fl.getLastD 0 = ls at *
        generalize s.wd = wd at *
        generalize s.ps = ps at *
        generalize s.cr = cr at *
        generalize s.la = la at *
        have ca3 := cell_below d0 (ballc (Below.refl _ _) (.cells #[.int .i64 nx] 3))
        go_enter Try.func21, Try.ntmps21
        go_wp2
        go_region
        all_goals (
          go_wp2
          go_region
          all_goals (
            go_wp2
            go_region_law (refine step_append_eq rfl (.tmp 86) (.tmp 91) 37 rfl _ _ _ (by simp [Act.eval, Act.put]) (by simp [Act.eval, Act.put]) (unhide hap') ?_)
            all_goals (
              go_wp2
              refine bodyPost_ret (results_tmp2 rfl _ _ _) rfl ?_
              exact unhide HF)))
  · have hnx1 : nxtS s = s.la := by unfold nxtS; omega
    obtain ⟨X0, hX0⟩ : ∃ X0 : World, w = X0 := ⟨_, rfl⟩
    have k0 : Kp P w X0 := by rw [← hX0]; exact Kp.refl P w
    have kw : Kp (N := fun i => i = b) w X0 := by rw [← hX0]; exact Kp.refl _ w
    have bx0 : Bx X0 b 41 (pC { s with la := nxtS s } (.slice a s.fl.length c)) := by
      rw [← hX0, hnx1]
      exact h.bx
    have r0 : RdN X0 (.slice a s.fl.length c) s.fl := h.row.kp kw (fun i hi e => h.ner i hi e)
    have d0 : X0.cell? ⟨b, 3, none⟩ = some (.slice a s.fl.length c) := bx0.cell 3 _ rfl
    have d2 : X0.cell? ⟨b, 2, none⟩ = some (.int .i64 (nxtS s)) := bx0.cell 2 _ rfl
    have hX1b : Below X0.heap.size X0 (X0.alloc (.cells #[.int .i64 (nxtS s)] 3)).drew.drew.drew := bdrew (ballc (Below.refl _ _) _) 3
    obtain ⟨a2, c2', X2, hap, fz2, p3, p2, hX3⟩ := fl_app (s := { s with la := nxtS s }) (X1 := (X0.alloc (.cells #[.int .i64 (nxtS s)] 3)).drew.drew.drew) (nxtS s) h.pb bx0 r0 (fun i hi => h.pk i hi) hX1b (Bx.new X0 _ _) (by show s.fl.length ≤ 1000; omega)
    have zX0 := k0.size
    obtain ⟨X3, hX3e⟩ : ∃ X3, X2.setCell ⟨b, 3, none⟩ (.slice a2 (s.fl.length + 1) c2') = X3 := ⟨_, rfl⟩
    obtain ⟨bx3, r3, hP3, k3, p2'⟩ := hX3 X3 hX3e
    have HApp : Hid (s.fl.getLastD 0 < nxtS s → CP P w 41 b (givS s) (.tuple #[.int .i64 (nxtS s), .int .i64 (sndC s k)]) (.returned (.tuple #[.int .i64 (nxtS s), .int .i64 (min (max s.cr 1) (min s.ps k))])) X3) := fun hlt => by
      have e : givS s = { s with la := nxtS s, fl := s.fl ++ [nxtS s] } := by unfold givS; rw [if_pos hlt]
      exact unhide HFin X3 _ (k0.trans k3 (fun i hi => .inl hi)) (by rw [e]; exact bx3) (by rw [e]; exact r3) (fun i hi => by rcases hP3 i hi with q | q; exact .inl q; exact .inr (by omega))
    have HNo : Hid (¬ s.fl.getLastD 0 < nxtS s → CP P w 41 b (givS s) (.tuple #[.int .i64 (nxtS s), .int .i64 (sndC s k)]) (.returned (.tuple #[.int .i64 (nxtS s), .int .i64 (min (max s.cr 1) (min s.ps k))])) (X0.drewN 2)) := fun hlt => by
      have e : givS s = { s with la := nxtS s } := by unfold givS; rw [if_neg hlt]
      have kd : Below X0.heap.size X0 (X0.drewN 2) := bdrew (Below.refl _ _) _
      exact unhide HFin (X0.drewN 2) _ (k0.trans (Kp.of_below (N := P) kd) (fun i hi => .inl hi)) (by rw [e]; exact bx0.below kd) (by rw [e]; exact r0.kp (N := fun _ => False) (Kp.of_below kd) (fun _ _ e => e)) (fun i hi => .inl (h.pk i hi))
    have hap' := hide hap
    have hnxt := h.gd.nxt
    have HQ := hide (fun i x (hx : s.fl[i]? = some x) => RN.at r0.rn hx)
    by_cases h0 : s.fl = []
    · have HF := hide (unhide HApp (by rw [h0]; show (0 : Int) < nxtS s; omega))
      have hz : ((s.fl.length : Int) == 0) = true := by rw [h0]; rfl
      clear h hf e1 e2 eN eC hno hw hc hln hgv HFin k0 kw bx0 r0 hX1b hX3 zX0 bx3 r3 hP3 k3 HApp HNo hnxt HQ hap hls
      obtain ⟨nx, hnxe⟩ : ∃ nx, nxtS s = nx := ⟨_, rfl⟩
      rw [hnxe] at hap' HF d2 p2 p2'  ⊢
      have hsl : s.la = nx := by rw [← hnx1, hnxe]
      clear hnx1 hnxe hnx h0
      rw [hsl] at c2 hmx hla0 hla1
      clear hsl
      generalize s.fl.length = n at *
      generalize s.wd = wd at *
      generalize s.ps = ps at *
      generalize s.cr = cr at *
      subst hX0
      have ca3 := cell_below d0 (ballc (Below.refl _ _) (.cells #[.int .i64 nx] 3))
      go_enter Try.func21, Try.ntmps21
      go_wp2
      go_region
      all_goals (
        go_wp2
        go_region
        all_goals (
          go_wp2
          go_region_law (refine step_append_eq rfl (.tmp 86) (.tmp 91) 37 rfl _ _ _ (by simp [Act.eval, Act.put]) (by simp [Act.eval, Act.put]) (unhide hap') ?_)
          all_goals (
            go_wp2
            refine bodyPost_ret (results_tmp2 rfl _ _ _) rfl ?_
            exact unhide HF)))
    · obtain ⟨m, hm⟩ : ∃ m, s.fl.length = m + 1 := by
        cases e : s.fl with
        | nil => exact absurd e h0
        | cons y r => exact ⟨r.length, rfl⟩
      have hlast : s.fl[m]? = some (s.fl.getLastD 0) := by
        rw [List.getLastD_eq_getLast?, List.getLast?_eq_getElem?, hm, Nat.add_sub_cancel]
        rw [List.getElem?_eq_getElem (by omega)]
        rfl
      obtain ⟨g, o, rfl, hg, q0⟩ := unhide HQ m _ hlast
      have hm1 : ((m : Int) + 1 == 0) = false := by rw [beq_eq_false_iff_ne]; omega
      have hm2 : ((m : Int) < (m : Int) + 1) := by omega
      have hmb : m ≤ 63 := by omega
      have hmw : IntKind.i64.wrap ((m : Int) + 1 - 1) = (m : Int) := by simp only [IntKind.wrap_i64]; omega
      have hmw2 : IntKind.i64.wrap (m : Int) = (m : Int) := by simp only [IntKind.wrap_i64]; omega
      have hf2 : ¬ s.wd ≤ (m : Int) + 1 := by omega
      clear hlast
      by_cases hlt : s.fl.getLastD 0 = nxtS s
      · have hlt0 : ¬ s.fl.getLastD 0 < nxtS s := by omega
        have HF := hide (unhide HNo hlt0)
        have hnb : (s.fl.getLastD 0 != nxtS s) = false := bne_eq_false_iff_eq.2 hlt
        clear h hf e1 e2 eN eC hno hw hc hln hgv HFin k0 kw bx0 r0 hX1b hX3 zX0 bx3 r3 hP3 k3 HApp HNo hnxt HQ hap hls hlt hlt0 hg
        rw [hm] at hap' c3 d0 p3 hX3e
        clear hm hf'
        obtain ⟨nx, hnxe⟩ : ∃ nx, nxtS s = nx := ⟨_, rfl⟩
        rw [hnxe] at hap' HF d2 p2 p2' hnb  ⊢
        have hsl : s.la = nx := by rw [← hnx1, hnxe]
        clear hnx1 hnxe hnx h0
        rw [hsl] at c2 hmx hla0 hla1
        clear hsl
        generalize s.fl.getLastD 0 = ls at *
        generalize s.wd = wd at *
        generalize s.ps = ps at *
        generalize s.cr = cr at *
        subst hX0
        go_enter Try.func21, Try.ntmps21
        go_wp2
        go_region
        all_goals (
          go_wp2
          go_region
          all_goals (
            go_wp2
            refine bodyPost_ret (results_tmp2 rfl _ _ _) rfl ?_
            exact unhide HF))
      · have hlt0 :  s.fl.getLastD 0 < nxtS s := by exact hls.2 hlt
        have HF := hide (unhide HApp hlt0)
        have hnb : (s.fl.getLastD 0 != nxtS s) = true := bne_iff_ne.2 hlt
        clear h hf e1 e2 eN eC hno hw hc hln hgv HFin k0 kw bx0 r0 hX1b hX3 zX0 bx3 r3 hP3 k3 HApp HNo hnxt HQ hap hls hlt hlt0 hg
        rw [hm] at hap' c3 d0 p3 hX3e
        clear hm hf'
        obtain ⟨nx, hnxe⟩ : ∃ nx, nxtS s = nx := ⟨_, rfl⟩
        rw [hnxe] at hap' HF d2 p2 p2' hnb  ⊢
        have hsl : s.la = nx := by rw [← hnx1, hnxe]
        clear hnx1 hnxe hnx h0
        rw [hsl] at c2 hmx hla0 hla1
        clear hsl
        generalize s.fl.getLastD 0 = ls at *
        generalize s.wd = wd at *
        generalize s.ps = ps at *
        generalize s.cr = cr at *
        subst hX0
        have ca3 := cell_below d0 (ballc (Below.refl _ _) (.cells #[.int .i64 nx] 3))
        go_enter Try.func21, Try.ntmps21
        go_wp2
        go_region
        all_goals (
          go_wp2
          go_region
          all_goals (
            go_wp2
            go_region_law (refine step_append_eq rfl (.tmp 86) (.tmp 91) 37 rfl _ _ _ (by simp [Act.eval, Act.put]) (by simp [Act.eval, Act.put]) (unhide hap') ?_)
            all_goals (
              go_wp2
              refine bodyPost_ret (results_tmp2 rfl _ _ _) rfl ?_
              exact unhide HF)))

end Go.Proofs.Ytiekholaheddhaa
