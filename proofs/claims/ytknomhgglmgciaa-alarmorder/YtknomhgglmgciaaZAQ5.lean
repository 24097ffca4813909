/-
  container/heap: Fix; the row's Push and Pop.
-/
import Derived.Test.YtknomhgglmgciaaZAQ4
set_option linter.unusedSimpArgs false
set_option linter.unusedVariables false
namespace Go.Proofs.Ytknomhgglmgciaa
open Go.RowKit Go.Lib

theorem QG.trans {P : Nat → Prop} {W0 W W' : World} {v : Value} {ps qs rs : List Nat} {t : Nat → Tm} {n : Nat} (h : QG P W0 v ps t n W qs) (k : QG P W v qs t n W' rs) : QG P W0 v ps t n W' rs :=
  ⟨k.q, k.len.trans h.len, fun a => (k.mem a).trans (h.mem a), fun c hc => (k.far c hc).trans (h.far c hc), h.kp.trans k.kp (fun i hi => .inl hi)⟩
set_option maxRecDepth 100000 in
set_option maxHeartbeats 2000000 in
theorem Fix_in {P : Nat → Prop} {W : World} {b : Nat} {v : Value} {ps : List Nat} {t : Nat → Tm} (h : QS P W v ps t) (hb : W.cell? ⟨b, 3, none⟩ = some v) (hnb : ¬ P b) (hl : ps.length ≤ 1000000) (i : Nat) (hi : i < ps.length) (hx : Hx t ps ps.length i) :
    Calls Try.prog 39 #[hI b, .int .i64 (i : Nat)] W fun e W' => e = .returned (.tuple #[]) ∧ ∃ qs, QG P W v ps t ps.length W' qs ∧ Hp t qs ps.length := by
  obtain ⟨a, c, rfl⟩ := h.form
  have hm := meth_len hb
  have hD := hide (down_in h hb hnb hl ps.length i hi hx)
  have HL := hide (qLen_in a ps.length c W)
  have hU := hide (fun X qs (hg : QG P W (.slice a ps.length c) ps t ps.length X qs) (hx : Hx t qs ps.length i) (hd : Dn t qs ps.length i) => up_in hg.q (cell_kp hb hg.kp hnb) hnb (by rw [hg.len]; exact hl) ps.length i hi hx hd)
  have HX := hide hx
  clear h hb hx
  unfold hI at hD hU ⊢
  go_enter Try.func39, Try.ntmps39
  go_wp2_with fail
  refine (unhide HL).mono ?_
  rintro e W1 ⟨rfl, rfl⟩
  clear hm HL
  go_wp2_with fail
  refine (unhide hD).mono ?_
  rintro e W2 ⟨qs, hg, hh⟩
  rcases hh with ⟨rfl, hp⟩ | ⟨rfl, rfl, hd⟩
  · replace hg := hide hg
    replace hp := hide hp
    clear hD hU
    go_wp2
    refine bodyPost_end (results_none rfl _ _ _) rfl ?_
    exact ⟨rfl, qs, unhide hg, unhide hp⟩
  · have HU := hide (unhide hU W2 qs hg (unhide HX) hd)
    replace hg := hide hg
    clear hD hU hd
    go_wp2_with fail
    refine (unhide HU).mono ?_
    rintro e W3 ⟨rfl, rs, hg2, hp⟩
    replace hg2 := hide hg2
    replace hp := hide hp
    clear HU
    go_wp2
    refine bodyPost_end (results_none rfl _ _ _) rfl ?_
    exact ⟨rfl, rs, (unhide hg).trans (unhide hg2), unhide hp⟩

theorem infoP : (Try.prog.info? 60).map (fun i => (i.zero, i.size, i.bytes)) = some (some (.pointer none), 1, 8) := by kernel_rfl
/-- append(q, t) -/
theorem append_p (w : World) (ty : TypeId) (N : Nat) (v : Value) (l : List Nat) (x : Nat) (h : w.ownsRow N 60 1 v l.length (l.map ptrV)) (hN : N ≤ w.heap.size) (hl : l.length ≤ 1000000) :
    ∃ v' w', (Builtin.append_ #[40, 40] ty #[v, .slice (some ⟨w.heap.size, 0, none⟩) 1 1]).run Try.prog (w.alloc (.cells #[.pointer (some ⟨x, 0, none⟩)] 60)) = .ok v' w' ∧ w'.ownsRow N 60 1 v' (l ++ [x]).length ((l ++ [x]).map ptrV) ∧ (w.alloc (.cells #[.pointer (some ⟨x, 0, none⟩)] 60)).grownBy w' v.ownBlock ∧ (v'.ownBlock = v.ownBlock ∨ v'.ownBlock = some (w.heap.size + 1)) := by
  obtain ⟨i0, hi, hz0, hz1, hz2⟩ := info_parts infoP
  have hbx := Bx.new w 60 #[.pointer (some ⟨x, 0, none⟩)]
  obtain ⟨v', w', h1, h2, h3, h4, h5⟩ := run_append_own_at (P := Try.prog) (w.alloc (.cells #[.pointer (some ⟨x, 0, none⟩)] 60)) N 40 ty 60 i0 _ 1 8 Try.underlying40 hi hz0 hz1 hz2 rfl (by decide) v l.length _ (World.ownsRow.alloc h _) ⟨w.heap.size, 0, none⟩ 1 1 [.pointer (some ⟨x, 0, none⟩)] rfl (fun j u hu => by
    rw [Addr.add_lit, Nat.zero_add]
    exact hbx.cell j u (by rw [← hu]; simp)) (fun u hu => by
      simp at hu
      subst hu
      rfl) (by unfold maxLen; omega) (by omega) (by simp; omega)
  refine ⟨v', w', h1, ?_, h3, ?_⟩
  · rw [List.map_append, List.length_append]
    exact h2
  · simpa using h5

theorem assert_p (x : Value) (w : World) : (Instr.typeAssert (.iface 60 x) 20 60 false).run Try.prog w = .ok x w := by kernel_rfl
/-- the Alarm's variable -/
def aB (W : World) (b : Nat) (ls ms : Int) (mv v : Value) : Prop := Bx W b 42 #[.int .i64 ls, .int .i64 ms, mv, v]
set_option maxRecDepth 100000 in
set_option maxHeartbeats 2000000 in
theorem qPush_in {P P' : Nat → Prop} {W : World} {b : Nat} {ls ms : Int} {mv v : Value} {ps : List Nat} {t : Nat → Tm} (h : QS P W v ps t) (hb : aB W b ls ms mv v) (hl : ps.length ≤ 1000000) (c at0 : Nat) (hc : Bx W c 64 (tmV (t c) at0)) (hcn : ∀ i, i < ps.length → pg ps i ≠ c) (hp : ∀ i, P i → P' i) (hpc : P' c) (hpn : ∀ i, W.heap.size ≤ i → P' i) (hnb : ¬ P' b) :
    Calls Try.prog 61 #[.pointer (some ⟨b, 3, none⟩), .iface 60 (ptrV c)] W fun e W' => e = .returned (.tuple #[]) ∧ ∃ v', aB W' b ls ms mv v' ∧ QS P' W' v' (ps ++ [c]) t ∧ Kp (fun i => P' i ∨ i = b) W W' := by
  obtain ⟨a, cp, rfl⟩ := h.form
  have HH := hide h
  have HB := hide hb
  have b3 : W.cell? ⟨b, 3, none⟩ = some (.slice a ps.length cp) := Bx.cell hb 3 _ rfl
  have bf := Bx.frozen hb 3
  have cf := hc.frozen 3
  have cc : W.cell? ⟨c, 3, none⟩ = some (.int .i64 (at0 : Nat)) := hc.cell 3 _ rfl
  unfold ptrV
  have hbc : b ≠ c := Bx.apart hb hc (by decide)
  obtain ⟨X1, hX1⟩ : ∃ X1, W.setCell ⟨c, 3, none⟩ (.int .i64 (ps.length : Nat)) = X1 := ⟨_, rfl⟩
  have k1 : Kp (fun i => i = c) W X1 := hX1 ▸ Kp.set W ⟨c, 3, none⟩ _ rfl
  have c1 : Bx X1 c 64 (tmV (t c) ps.length) := hX1 ▸ hc.set 3 _
  have b1 : Bx X1 b 42 _ := Bx.kp hb k1 hbc
  have o1 := owns_kp h.row k1 (fun i hi e => by
    obtain ⟨_, (⟨h1, _⟩ | ⟨g, cap, cur, h1, _, hg, _⟩)⟩ := h.row
    · rw [h1] at hi; cases hi
    · rw [h1] at hi
      simp [Value.ownBlock] at hi
      subst hi
      exact Bx.apart (show Bx W g 60 cur from hg) hc (by decide) e)
  have b13 : X1.cell? ⟨b, 3, none⟩ = some (.slice a ps.length cp) := b1.cell 3 _ rfl
  have b1f := b1.frozen 3
  obtain ⟨v', X2, hr, o2, g2, hv'⟩ := append_p X1 40 0 _ ps c o1 (Nat.zero_le _) hl
  obtain ⟨a', c', ev'⟩ := owns_form o2
  subst ev'
  have hb1l := b1.lt
  have b2 : Bx X2 b 42 _ := (g2.block b (by simp; omega) (by
    intro e
    have := h.row.lt b (by rw [← e])
    obtain ⟨_, (⟨h1, _⟩ | ⟨g, cap, cur, h1, _, hg, _⟩)⟩ := h.row
    · rw [h1] at e; cases e
    · rw [h1] at e
      simp [Value.ownBlock] at e
      subst e
      exact Bx.apart hb (show Bx W b 60 cur from hg) (by decide) rfl)).trans (b1.below (ballc (Below.refl _ _) _))
  have b2f := b2.frozen 3
  have b2c : X2.cell? ⟨b, 3, none⟩ = some (.slice a ps.length cp) := b2.cell 3 _ rfl
  have FIN : Hid (aB (X2.setCell ⟨b, 3, none⟩ (.slice a' (ps ++ [c]).length c')) b ls ms mv (.slice a' (ps ++ [c]).length c') ∧ QS P' (X2.setCell ⟨b, 3, none⟩ (.slice a' (ps ++ [c]).length c')) (.slice a' (ps ++ [c]).length c') (ps ++ [c]) t ∧ Kp (fun i => P' i ∨ i = b) W (X2.setCell ⟨b, 3, none⟩ (.slice a' (ps ++ [c]).length c'))) := by
    have kA : Kp (fun i => (P i ∨ i = c)) W X2 := by
      refine (k1.wk (N' := fun i => P i ∨ i = c) (fun i hi => .inr hi)).trans (M := fun i => P i) ?_ (fun i hi => .inl (.inl hi))
      have z1 : X1.heap.size = W.heap.size := by rw [← hX1]; simp
      have kal : Kp P X1 (X1.alloc (.cells #[.pointer (some ⟨c, 0, none⟩)] 60)) := Kp.of_below (ballc (Below.refl _ _) _)
      exact kal.trans (Kp.of_grown (N := P) g2 (fun k hk => h.pk k hk)) (fun i hi => .inl hi)
    have kB : Kp (fun i => i = b) X2 (X2.setCell ⟨b, 3, none⟩ (.slice a' (ps ++ [c]).length c')) := Kp.set X2 ⟨b, 3, none⟩ _ rfl
    have hz := kA.size
    have hvP : ∀ k, (Value.slice a' (ps ++ [c]).length c').ownBlock = some k → P' k := fun k hk => by
      rcases hv' with e | e
      · exact hp k (h.pk k (by rw [← e]; exact hk))
      · rw [hk] at e
        simp at e
        exact hpn k (by have : X1.heap.size = W.heap.size := by rw [← hX1]; simp
                        omega)
    refine ⟨?_, ⟨owns_kp o2 kB (fun i hi e => hnb (e ▸ hvP i hi)), hvP, fun i hi => ?_⟩, ?_⟩
    · exact b2.set 3 _
    · rw [List.length_append] at hi
      simp at hi
      by_cases e : i < ps.length
      · rw [pg_app e]
        have hx := h.tm i e
        have hx1 := hx.1.kp k1 (hcn i e)
        have hx2 : Bx X2 (pg ps i) 64 (tmV (t (pg ps i)) i) := (g2.block _ (by have := hx1.lt; simp; omega) (by
          intro e2
          obtain ⟨_, (⟨h1, _⟩ | ⟨g, cap, cur, h1, _, hg, _⟩)⟩ := h.row
          · rw [h1] at e2; cases e2
          · rw [h1] at e2
            simp [Value.ownBlock] at e2
            exact Bx.apart (show Bx W g 60 cur from hg) hx.1 (by decide) e2.symm)).trans (hx1.below (ballc (Below.refl _ _) _))
        exact ⟨hx2.kp kB (fun e2 => hnb (e2 ▸ hp _ hx.2)), hp _ hx.2⟩
      · obtain rfl : i = ps.length := by omega
        rw [pg_last]
        have hx2 : Bx X2 c 64 (tmV (t c) ps.length) := (g2.block _ (by have := c1.lt; simp; omega) (by
          intro e2
          obtain ⟨_, (⟨h1, _⟩ | ⟨g, cap, cur, h1, _, hg, _⟩)⟩ := h.row
          · rw [h1] at e2; cases e2
          · rw [h1] at e2
            simp [Value.ownBlock] at e2
            exact Bx.apart (show Bx W g 60 cur from hg) hc (by decide) e2.symm)).trans (c1.below (ballc (Below.refl _ _) _))
        exact ⟨hx2.kp kB (fun e2 => hbc e2.symm), hpc⟩
    · exact (kA.wk (N' := fun i => P' i ∨ i = b) (fun i hi => .inl (by rcases hi with hi | rfl; exact hp i hi; exact hpc))).trans kB (fun i hi => .inl (.inr hi))
  clear h hb hc k1 c1 b1 o1 o2 g2 hv' hb1l b2 HH HB hcn hp hpc hpn hnb hbc
  go_enter Try.func61, Try.ntmps61
  have ha := assert_p (.pointer (some ⟨c, 0, none⟩)) W
  replace hr := hide hr
  go_wp2_with (at_builtin; refine wpList_append_eq rfl _ _ _ _ rfl _ _ _ _ rfl rfl (unhide hr) ?_)
  refine bodyPost_end (results_none rfl _ _ _) rfl ?_
  have F := unhide FIN
  simp only [List.length_append, List.length_cons, List.length_nil, Nat.zero_add] at F
  exact ⟨rfl, _, F⟩

theorem owns_less {W : World} {B E k n g c : Nat} {C : List Value} (h : W.ownsRow B E k (.slice (some ⟨g, 0, none⟩) (n + 1) c) (n + 1) C) : W.ownsRow B E k (.slice (some ⟨g, 0, none⟩) n c) n (C.take (n * k)) := by
  obtain ⟨h0, (⟨h1, _⟩ | ⟨g', cap, cur, e, hb, hg, h1, h2, h3, h4⟩)⟩ := h
  · cases h1
  · simp at e
    obtain ⟨rfl, rfl⟩ := e
    have hk : n * k ≤ (n + 1) * k := Nat.mul_le_mul_right _ (by omega)
    refine ⟨by rw [List.length_take, h0]; omega, .inr ⟨g, c, cur, rfl, hb, hg, by omega, h2, h3, ?_⟩⟩
    rw [← h4, List.take_take, Nat.min_eq_left hk]
theorem sl_toQ (w : World) (a : Option Addr) (n c k : Nat) (hk : k ≤ c) :
    (Instr.sliceAt 40 (.slice a n c) none (some (.int .i64 (k : Nat))) none).run Try.prog w = .ok (.slice a k c) w := by
  obtain ⟨i0, hi, hz0, hz1, hz2⟩ := info_parts infoP
  have h1 : (k : Int) ≤ (c : Int) := by omega
  simp [Instr.sliceAt, Instr.slice, run_underlying Try.underlying40, sizeOf, typeInfo, hi, hz1, go_sem, h1, hk]
set_option maxRecDepth 100000 in
set_option maxHeartbeats 2000000 in
theorem qPop_in {P : Nat → Prop} {W : World} {b : Nat} {ls ms : Int} {mv v : Value} {ps : List Nat} {t : Nat → Tm} (h : QS P W v ps t) (hb : aB W b ls ms mv v) (hl : ps.length ≤ 1000000) (n : Nat) (hn : ps.length = n + 1) (hnb : ¬ P b) :
    Calls Try.prog 60 #[.pointer (some ⟨b, 3, none⟩)] W fun e W' => ∃ x, e = .returned x ∧ ∃ v', aB W' b ls ms mv v' ∧ QS P W' v' (ps.take n) t ∧ Kp (fun i => P i ∨ i = b) W W' := by
  obtain ⟨a, cp, rfl⟩ := h.form
  obtain ⟨_, g, rfl, cl, fg, hpg, cur, bg⟩ := h.at (i := n) (by omega)
  have hcap : n + 1 ≤ cp := by
    obtain ⟨g', c', e, hc, _⟩ := owns_some h.row (by omega)
    simp at e
    obtain ⟨_, rfl⟩ := e
    omega
  have fgn := fg n
  have b3 : W.cell? ⟨b, 3, none⟩ = some (.slice (some ⟨g, 0, none⟩) (n + 1) cp) := by rw [← hn]; exact Bx.cell hb 3 _ rfl
  have hbg : b ≠ g := Bx.apart hb bg (by decide)
  obtain ⟨X1, hX1⟩ : ∃ X1, W.setCell ⟨g, n, none⟩ (.pointer none) = X1 := ⟨_, rfl⟩
  have k1 : Kp (fun i => i = g) W X1 := hX1 ▸ Kp.set W ⟨g, n, none⟩ _ rfl
  have b1 : Bx X1 b 42 _ := Bx.kp hb k1 hbg
  have b13 : X1.cell? ⟨b, 3, none⟩ = some (.slice (some ⟨g, 0, none⟩) (n + 1) cp) := by rw [← hn]; exact b1.cell 3 _ rfl
  have b1f := b1.frozen 3
  have o1 : X1.ownsRow 0 60 1 (.slice (some ⟨g, 0, none⟩) n cp) n ((ps.take n).map ptrV) := by
    have o0 := h.row
    rw [hn] at o0
    have := owns_less (hX1 ▸ (o0.stored n (.pointer none)).1)
    rwa [Nat.mul_one, List.take_set_of_le (Nat.le_refl _), ← List.map_take] at this
  have kB : Kp (fun i => i = b) X1 (X1.setCell ⟨b, 3, none⟩ (.slice (some ⟨g, 0, none⟩) n cp)) := Kp.set X1 ⟨b, 3, none⟩ _ rfl
  have FIN : Hid (aB (X1.setCell ⟨b, 3, none⟩ (.slice (some ⟨g, 0, none⟩) n cp)) b ls ms mv (.slice (some ⟨g, 0, none⟩) n cp) ∧ QS P (X1.setCell ⟨b, 3, none⟩ (.slice (some ⟨g, 0, none⟩) n cp)) (.slice (some ⟨g, 0, none⟩) n cp) (ps.take n) t ∧ Kp (fun i => P i ∨ i = b) W (X1.setCell ⟨b, 3, none⟩ (.slice (some ⟨g, 0, none⟩) n cp))) := by
    have hlt : (ps.take n).length = n := by rw [List.length_take]; omega
    refine ⟨b1.set 3 _, ⟨?_, fun k hk => ?_, fun i hi => ?_⟩, ?_⟩
    · rw [hlt]
      refine owns_kp o1 kB (fun i hi e => ?_)
      simp [Value.ownBlock] at hi
      omega
    · simp [Value.ownBlock] at hk
      exact hk ▸ hpg
    · rw [hlt] at hi
      rw [pg_take hi]
      have hx := h.tm i (by omega)
      refine ⟨(hx.1.kp k1 (fun e => ?_)).kp kB (fun e => hnb (e ▸ hx.2)), hx.2⟩
      exact Bx.apart bg hx.1 (by decide) e.symm
    · exact (k1.wk (N' := fun i => P i ∨ i = b) (fun i hi => .inl (hi ▸ hpg))).trans kB (fun i hi => .inl (.inr hi))
  unfold ptrV at cl
  have hlt' : (n : Int) < (n : Int) + 1 := by omega
  have hsl := sl_toQ X1 (some ⟨g, 0, none⟩) (n + 1) cp n (by omega)
  have hnl : n ≤ 1000000 := by omega
  clear h hb k1 b1 o1 kB fg bg hbg hpg hnb hl hn
  generalize pg ps n = A at *
  go_enter Try.func60, Try.ntmps60
  go_wp2
  go_ret
  exact ⟨⟨_, rfl⟩, _, unhide FIN⟩

end Go.Proofs.Ytknomhgglmgciaa
