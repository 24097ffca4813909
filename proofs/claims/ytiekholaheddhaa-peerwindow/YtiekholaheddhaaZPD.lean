/-
  A Peer in memory: Send.
-/
import Derived.Test.YtiekholaheddhaaZPC
set_option linter.unusedSimpArgs false
set_option linter.unusedVariables false
namespace Go.Proofs.Ytiekholaheddhaa
open Go.RowKit Go.Lib

variable {P N : Nat → Prop} {w W W' : World} {t : TypeId} {b : Nat} {v : Value} {s : St}
theorem run_min3 (W : World) (ts : Array TypeId) (t : TypeId) (x y z : Int) : (Builtin.min_ ts t #[.int .i64 x, .int .i64 y, .int .i64 z]).run Try.prog W = .ok (.int .i64 (min (min x y) z)) W := by
  have e : ∀ x y : Int, (if y < x then y else x) = min x y := fun x y => by
    rw [Int.min_def]
    split <;> split <;> omega
  simp [Builtin.min_, Builtin.min2, e]
/-- the last number is told anew -/
theorem PM.setla (h : PM P W t b v s) (x : Int) : Bx (W.setCell ⟨b, 2, none⟩ (.int .i64 x)) b t (pC { s with la := x } v) := by
  have := h.bx.set 2 (.int .i64 x)
  simpa [pC] using this
theorem PM.same (h : PM P W t b v s) : CP P W t b s v (.returned v) W := ⟨rfl, ⟨v, h.mono (fun _ => .inl)⟩, Kp.refl _ _⟩
theorem offB_wd (h : s.wd = 0) (k : Int) : offB s k = true := decide_eq_true (.inr h)
theorem offB_k {k : Int} (h : k < 1) : offB s k = true := decide_eq_true (.inl h)
theorem offB_no {k : Int} (h : ¬ k < 1) (h2 : s.wd ≠ 0) : offB s k = false := decide_eq_false (by omega)
theorem PM.off (h : PM P W t b v s) {k : Int} (ho : offB s k = true) (n : Nat) : CP P W t b (sndS s k) (.tuple #[.int .i64 (sndN s k), .int .i64 (sndC s k)]) (.returned (.tuple #[.int .i64 0, .int .i64 0])) (W.drewN n) := by
  unfold sndS sndN sndC
  rw [if_pos (.inl ho), if_pos ho, if_pos ho]
  exact ⟨rfl, ⟨v, (h.mono (fun _ => .inl)).kp (N := fun _ => False) (Kp.of_below (bdrew (Below.refl _ _) n)) (fun _ e => e.elim)⟩, Kp.of_below (bdrew (Below.refl _ _) n)⟩
set_option maxRecDepth 100000 in
set_option maxHeartbeats 4000000 in
theorem Send_in (h : PL P w 39 b s) (k : Int) : Calls Try.prog 14 #[.pointer (some ⟨b, 0, none⟩), .int .i64 k] w (CP P w 39 b (sndS s k) (.tuple #[.int .i64 (sndN s k), .int .i64 (sndC s k)])) := by
  obtain ⟨v, h⟩ := h
  have c0 := h.c0
  have H := hide h
  by_cases hw : s.wd = 0
  · rw [hw] at c0
    have HF := hide (h.off (offB_wd hw k) 0)
    clear h hw
    go_enter Try.func14, Try.ntmps14
    go_wp2
    refine bodyPost_ret (results_tmp2 rfl _ _ _) rfl ?_
    exact unhide HF
  by_cases hk : k < 1
  · have HF := hide (h.off (s := s) (offB_k hk) 0)
    have hw' : (s.wd == 0) = false := by simpa using hw
    clear h hw
    generalize s.wd = wd at *
    go_enter Try.func14, Try.ntmps14
    go_wp2
    refine bodyPost_ret (results_tmp2 rfl _ _ _) rfl ?_
    exact unhide HF
  have hno := offB_no hk hw
  have eN : sndN s k = numS s := by unfold sndN; rw [hno]; rfl
  have eC : sndC s k = cntS s k := by unfold sndC; rw [hno]; rfl
  have eC2 := eC
  unfold cntS at eC2
  rw [eN]
  have hm3 := fun W ts t x y z => run_min3 W ts t x y z
  have c1 := h.c1
  have c3 := h.c3
  have c5 := h.c5
  have hw' : (s.wd == 0) = false := by simpa using hw
  obtain ⟨a, c, rfl, hc⟩ := h.row.form
  have hln := h.len
  by_cases hf : (s.fl.length : Int) = s.wd
  · have e1 : sndS s k = s := by unfold sndS; rw [if_pos (.inr hf)]
    have e2 : numS s = s.fl.headD 0 := by unfold numS; rw [if_pos hf]
    have hpos : 0 < s.fl.length := by have := h.gd.w0; omega
    obtain ⟨g, o, rfl, hg, q0⟩ := RN.at h.row.rn (i := 0) (x := s.fl.headD 0) (by cases hx : s.fl with
      | nil => rw [hx] at hpos; simp at hpos
      | cons y r => rfl)
    simp only [Nat.add_zero] at q0
    have hf' : ((s.fl.length : Int) == s.wd) = true := by simpa using hf
    have hpos' : (0 : Int) < (s.fl.length : Int) := by omega
    rw [e1, e2]
    have HF := hide (fun n => show CP P w 39 b s (.tuple #[.int .i64 (s.fl.headD 0), .int .i64 (sndC s k)]) (.returned (.tuple #[.int .i64 (s.fl.headD 0), .int .i64 (min k (min s.ps (max s.cr 1)))])) (w.drewN n) by
      rw [eC2]
      exact ⟨rfl, ⟨_, (h.mono (fun _ => .inl)).kp (N := fun _ => False) (Kp.of_below (bdrew (Below.refl _ _) n)) (fun _ e => e.elim)⟩, Kp.of_below (bdrew (Below.refl _ _) n)⟩)
    clear h hf e1 e2 eN eC eC2 hno H hw hc hln hpos
    generalize s.fl.headD 0 = x0 at *
    generalize s.fl.length = n at *
    generalize s.wd = wd at *
    generalize s.ps = ps at *
    generalize s.cr = cr at *
    go_enter Try.func14, Try.ntmps14
    go_wp2
    go_region
    go_wp2
    refine bodyPost_ret (results_tmp2 rfl _ _ _) rfl ?_
    exact unhide HF 1
  · have e1 : sndS s k = givS s := by unfold sndS; rw [if_neg (by rw [hno]; simp [hf])]
    have e2 : numS s = nxtS s := by unfold numS; rw [if_neg hf]
    have hf' : ((s.fl.length : Int) == s.wd) = false := by simpa using hf
    have hr := h.row.rn
    have hnx : min (s.la + 1) 2147483647 = nxtS s := rfl
    have hla0 := h.gd.l0
    have hla1 := h.gd.l1
    have c2 := h.c2
    have fz := h.fz 2
    have fz3 := h.fz 3
    have hgv := h.gd.giv hf
    have HFin := hide (fun (X : World) (v' : Value) (hX : Kp P w X) (hb : Bx X b 39 (pC (givS s) v')) (hr : RdN X v' (givS s).fl) (hv : ∀ i, v'.ownBlock = some i → P i ∨ w.heap.size ≤ i) => show CP P w 39 b (givS s) (.tuple #[.int .i64 (nxtS s), .int .i64 (sndC s k)]) (.returned (.tuple #[.int .i64 (nxtS s), .int .i64 (min k (min s.ps (max s.cr 1)))])) X by
      rw [eC2]
      exact ⟨rfl, ⟨v', .inl h.pb, hb, hr, hv, hgv⟩, hX⟩)
    rw [e1, e2]
    -- the world behind the store of the last number
    obtain ⟨X0, hX0⟩ : ∃ X0, w.drew.setCell ⟨b, 2, none⟩ (.int .i64 (nxtS s)) = X0 := ⟨_, rfl⟩
    have k0 : Kp P w X0 := by rw [← hX0]; exact ((Kp.refl P w).drew).trans (Kp.set (N := P) _ _ _ h.pb) (fun i hi => .inl hi)
    have kw : Kp (N := fun i => i = b) w X0 := by rw [← hX0]; exact ((Kp.refl (fun i => i = b) w).drew).trans (Kp.set (N := fun i => i = b) _ _ _ rfl) (fun i hi => .inl hi)
    have bx0 : Bx X0 b 39 (pC { s with la := nxtS s } (.slice a s.fl.length c)) := by
      rw [← hX0]
      exact PM.setla (W := w.drew) (h.kp (N := fun _ => False) (Kp.of_below (bdrew (Below.refl _ _) 1)) (fun _ e => e.elim)) _
    have hne : ∀ i, (Value.slice a s.fl.length c).ownBlock = some i → i ≠ b := fun i hi e => by
      obtain ⟨cur, hcur⟩ := h.row.kind i hi
      exact Bx.apart hcur h.bx (by decide) e
    have r0 : RdN X0 (.slice a s.fl.length c) s.fl := h.row.kp kw (fun i hi e => hne i hi e)
    have d0 : X0.cell? ⟨b, 3, none⟩ = some (.slice a s.fl.length c) := bx0.cell 3 _ rfl
    have gz3 : X0.frozen? ⟨b, 3, none⟩ = false := bx0.frozen 3
    -- and behind the append
    obtain ⟨X1, hX1⟩ : ∃ X1, X0.alloc (.cells #[.int .i64 (nxtS s)] 3) = X1 := ⟨_, rfl⟩
    have b1 : Below X0.heap.size X0 X1 := by rw [← hX1]; exact ballc (Below.refl _ _) _
    have bx1 : Bx X1 X0.heap.size 3 #[.int .i64 (nxtS s)] := by rw [← hX1]; exact Bx.new _ _ _
    obtain ⟨v2, X2, hap, r2, g2, o2⟩ := RdN.app (W := X1) (v := .slice a s.fl.length c) 37 (nxtS s) X0.heap.size (r0.kp (N := fun _ => False) (Kp.of_below b1) (fun _ _ e => e)) bx1 (by omega)
    obtain ⟨a2, c2', rfl, hc2⟩ := r2.form
    have zX0 := k0.size
    have k2 : Kp P w X2 := (k0.trans (Kp.of_below (N := P) b1) (fun i hi => .inl hi)).trans (Kp.of_grown (N := P) g2 (fun i hi => h.pk i hi)) (fun i hi => .inl hi)
    have bx2 : Bx X2 b 39 (pC { s with la := nxtS s } (.slice a s.fl.length c)) := (bx0.below b1).kp (Kp.of_grown (N := fun i => (Value.slice a s.fl.length c).ownBlock = some i) g2 (fun i hi => hi)) (fun e => hne _ e rfl)
    have fz2 : X2.frozen? ⟨b, 3, none⟩ = false := bx2.frozen 3
    have e2' : X2.cell? ⟨b, 3, none⟩ = some (.slice a s.fl.length c) := bx2.cell 3 _ rfl
    have zX1 : X0.heap.size ≤ X1.heap.size := b1.size
    have hP2 : ∀ i, (Value.slice a2 (s.fl ++ [nxtS s]).length c2').ownBlock = some i → P i ∨ w.heap.size ≤ i := fun i hi => by
      rcases o2 with o | o
      · rw [hi] at o; exact .inl (h.pk i o.symm)
      · rw [hi] at o; simp at o; subst o; exact .inr (by omega)
    obtain ⟨X3, hX3⟩ : ∃ X3, X2.setCell ⟨b, 3, none⟩ (.slice a2 (s.fl ++ [nxtS s]).length c2') = X3 := ⟨_, rfl⟩
    have k3 : Kp P w X3 := by rw [← hX3]; exact k2.trans (Kp.set (N := P) _ _ _ h.pb) (fun i hi => .inl hi)
    have bx3 : Bx X3 b 39 (pC { s with la := nxtS s, fl := s.fl ++ [nxtS s] } (.slice a2 (s.fl ++ [nxtS s]).length c2')) := by
      rw [← hX3]
      have := bx2.set 3 (.slice a2 (s.fl ++ [nxtS s]).length c2')
      simpa [pC] using this
    have hne2 : ∀ i, (Value.slice a2 (s.fl ++ [nxtS s]).length c2').ownBlock = some i → i ≠ b := fun i hi e => by
      obtain ⟨cur, hcur⟩ := r2.kind i hi
      exact Bx.apart hcur bx2 (by decide) e
    have r3 : RdN X3 (.slice a2 (s.fl ++ [nxtS s]).length c2') (s.fl ++ [nxtS s]) := by
      rw [← hX3]
      exact r2.kp (Kp.set (N := fun i => i = b) _ _ _ rfl) (fun i hi e => hne2 i hi e)
    have HApp : Hid (s.fl.getLastD 0 < nxtS s → CP P w 39 b (givS s) (.tuple #[.int .i64 (nxtS s), .int .i64 (sndC s k)]) (.returned (.tuple #[.int .i64 (nxtS s), .int .i64 (min k (min s.ps (max s.cr 1)))])) X3) := fun hlt => by
      have e : givS s = { s with la := nxtS s, fl := s.fl ++ [nxtS s] } := by unfold givS; rw [if_pos hlt]
      exact unhide HFin X3 _ k3 (by rw [e]; exact bx3) (by rw [e]; exact r3) hP2
    have HNo : Hid (¬ s.fl.getLastD 0 < nxtS s → CP P w 39 b (givS s) (.tuple #[.int .i64 (nxtS s), .int .i64 (sndC s k)]) (.returned (.tuple #[.int .i64 (nxtS s), .int .i64 (min k (min s.ps (max s.cr 1)))])) X0) := fun hlt => by
      have e : givS s = { s with la := nxtS s } := by unfold givS; rw [if_neg hlt]
      exact unhide HFin X0 _ k0 (by rw [e]; exact bx0) (by rw [e]; exact r0) (fun i hi => .inl (h.pk i hi))
    have hap' := hide hap
    have hnxt := h.gd.nxt
    have hQ : ∀ i x, s.fl[i]? = some x → ∃ g o, a = some ⟨g, o, none⟩ ∧ g < X0.heap.size ∧ X0.cell? ⟨g, o + i, none⟩ = some (.int .i64 x) := fun i x hx => RN.at r0.rn hx
    have hX3' := hX3
    obtain ⟨L2, hL2⟩ : ∃ L2, (s.fl ++ [nxtS s]).length = L2 := ⟨_, rfl⟩
    rw [hL2] at hap' hX3'
    have HQ := hide hQ
    have HH := hide h
    by_cases h0 : s.fl = []
    · have HF := hide (unhide HApp (by rw [h0]; show (0 : Int) < nxtS s; omega))
      have hz : ((s.fl.length : Int) == 0) = true := by rw [h0]; rfl
      clear h hf e1 e2 eN eC eC2 hno H hw hc hln hr hgv HFin k0 kw bx0 hne r0 b1 bx1 r2 g2 o2 hc2 k2 bx2 hP2 k3 bx3 hne2 r3 HApp HNo hnxt hQ HQ hL2 hX3 hap zX0 zX1 HH
      generalize nxtS s = nx at *
      generalize s.fl.length = n at *
      generalize s.wd = wd at *
      generalize s.ps = ps at *
      generalize s.cr = cr at *
      generalize s.la = la at *
      go_enter Try.func14, Try.ntmps14
      go_wp2
      go_region
      go_wp2_with (at_builtin; refine wpList_append_eq rfl _ _ _ _ rfl _ _ _ _ rfl rfl (unhide hap') ?_)
      refine bodyPost_ret (results_tmp2 rfl _ _ _) rfl ?_
      exact unhide HF
    · obtain ⟨m, hm⟩ : ∃ m, s.fl.length = m + 1 := by
        cases e : s.fl with
        | nil => exact absurd e h0
        | cons y r => exact ⟨r.length, rfl⟩
      have hlast : s.fl[m]? = some (s.fl.getLastD 0) := by
        rw [List.getLastD_eq_getLast?, List.getLast?_eq_getElem?, hm, Nat.add_sub_cancel]
        rw [List.getElem?_eq_getElem (by omega)]
        rfl
      obtain ⟨g, o, rfl, hg, q0⟩ := hQ m _ hlast
      have hm1 : ((m : Int) + 1 == 0) = false := by rw [beq_eq_false_iff_ne]; omega
      have hm2 : ((m : Int) < (m : Int) + 1) := by omega
      have hmb : m ≤ 63 := by omega
      have hf2 : ((m : Int) + 1 == s.wd) = false := by rw [← hf', hm]; rfl
      clear hlast
      by_cases hlt : s.fl.getLastD 0 < nxtS s
      · have HF := hide (unhide HApp hlt)
        clear h hf e1 e2 eN eC eC2 hno H hw hc hln hr hgv HFin k0 kw bx0 hne r0 b1 bx1 r2 g2 o2 hc2 k2 bx2 hP2 k3 bx3 hne2 r3 HApp HNo hnxt hQ HQ hL2 hX3 hap zX0 zX1 HH h0 hg
        rw [hm] at hap' c3 d0 e2'
        clear hm hf'
        generalize nxtS s = nx at *
        generalize s.fl.getLastD 0 = ls at *
        generalize s.wd = wd at *
        generalize s.ps = ps at *
        generalize s.cr = cr at *
        generalize s.la = la at *
        go_enter Try.func14, Try.ntmps14
        go_wp2
        go_region
        go_wp2_with (at_builtin; refine wpList_append_eq rfl _ _ _ _ rfl _ _ _ _ rfl rfl (unhide hap') ?_)
        refine bodyPost_ret (results_tmp2 rfl _ _ _) rfl ?_
        exact unhide HF
      · have HF := hide (unhide HNo hlt)
        clear h hf e1 e2 eN eC eC2 hno H hw hc hln hr hgv HFin k0 kw bx0 hne r0 b1 bx1 r2 g2 o2 hc2 k2 bx2 hP2 k3 bx3 hne2 r3 HApp HNo hnxt hQ HQ hL2 hX3 hap zX0 zX1 HH h0 hg
        rw [hm] at hap' c3 d0 e2'
        clear hm hf'
        generalize nxtS s = nx at *
        generalize s.fl.getLastD 0 = ls at *
        generalize s.wd = wd at *
        generalize s.ps = ps at *
        generalize s.cr = cr at *
        generalize s.la = la at *
        go_enter Try.func14, Try.ntmps14
        go_wp2
        go_region
        go_wp2
        refine bodyPost_ret (results_tmp2 rfl _ _ _) rfl ?_
        exact unhide HF

end Go.Proofs.Ytiekholaheddhaa
