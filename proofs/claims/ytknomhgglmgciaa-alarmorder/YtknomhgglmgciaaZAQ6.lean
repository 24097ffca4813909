/-
  container/heap: Push, Remove.
-/
import Derived.Test.YtknomhgglmgciaaZAQ5
set_option linter.unusedSimpArgs false
set_option linter.unusedVariables false
namespace Go.Proofs.Ytknomhgglmgciaa
open Go.RowKit Go.Lib

theorem aB.cell {W : World} {b : Nat} {ls ms : Int} {mv v : Value} (h : aB W b ls ms mv v) : W.cell? ⟨b, 3, none⟩ = some v := Bx.cell h 3 _ rfl
theorem aB.kp {N : Nat → Prop} {W W' : World} {b : Nat} {ls ms : Int} {mv v : Value} (h : aB W b ls ms mv v) (k : Kp N W W') (hn : ¬ N b) : aB W' b ls ms mv v := Bx.kp h k hn
set_option maxRecDepth 100000 in
set_option maxHeartbeats 2000000 in
theorem HPush_in {P P' : Nat → Prop} {W : World} {b : Nat} {ls ms : Int} {mv v : Value} {ps : List Nat} {t : Nat → Tm} (h : QS P W v ps t) (hb : aB W b ls ms mv v) (hl : ps.length ≤ 999999) (c at0 : Nat) (hc : Bx W c 64 (tmV (t c) at0)) (hcn : ∀ i, i < ps.length → pg ps i ≠ c) (hp : ∀ i, P i → P' i) (hpc : P' c) (hpn : ∀ i, W.heap.size ≤ i → P' i) (hnb : ¬ P' b) (hh : Hp t ps ps.length) :
    Calls Try.prog 32 #[hI b, .iface 60 (ptrV c)] W fun e W' => e = .returned (.tuple #[]) ∧ ∃ v' qs, aB W' b ls ms mv v' ∧ QS P' W' v' qs t ∧ Hp t qs qs.length ∧ qs.length = ps.length + 1 ∧ (∀ a, a ∈ qs ↔ a ∈ ps ∨ a = c) ∧ Kp (fun i => P' i ∨ i = b) W W' := by
  have hP := hide (qPush_in h hb (by omega) c at0 hc hcn hp hpc hpn hnb)
  have hmP := meth_push (.pointer (some ⟨b, 3, none⟩)) W
  obtain ⟨hx0, hd0⟩ := Hp.new (t' := t) (ps' := ps ++ [c]) hh (by simp) (fun i hi => by rw [pg_app hi])
  have HX := hide (And.intro hx0 hd0)
  clear h hb hc hcn hp hpc hpn hx0 hd0 hh
  unfold hI ptrV at *
  go_enter Try.func32, Try.ntmps32
  go_wp2_with fail
  refine (unhide hP).mono ?_
  rintro e W1 ⟨rfl, v', hb1, hq1, hk1⟩
  obtain ⟨a1, c1, rfl⟩ := hq1.form
  have hm1 := meth_len hb1.cell
  have HL := hide (qLen_in a1 (ps ++ [c]).length c1 W1)
  have hU := hide (up_in hq1 hb1.cell hnb (by simp; omega) (ps.length + 1) ps.length (by omega) (unhide HX).1 (unhide HX).2)
  have hlen : (ps ++ [c]).length = ps.length + 1 := by simp
  rw [hlen] at HL hm1
  have F1 := hide (And.intro hb1 (And.intro hq1 hk1))
  clear hb1 hq1 hk1 hmP hP
  unfold hI at hU
  go_wp2_with fail
  refine (unhide HL).mono ?_
  rintro e W2 ⟨rfl, rfl⟩
  clear HL hm1
  go_wp2_with fail
  refine (unhide hU).mono ?_
  rintro e W3 ⟨rfl, qs, hg, hp⟩
  replace hg := hide hg
  replace hp := hide hp
  clear hU
  go_wp2
  refine bodyPost_end (results_none rfl _ _ _) rfl ?_
  obtain ⟨hb1, hq1, hk1⟩ := unhide F1
  have hg' := unhide hg
  refine ⟨rfl, _, qs, hb1.kp hg'.kp hnb, hg'.q, ?_, by rw [hg'.len, hlen], fun a => ?_, hk1.trans hg'.kp (fun i hi => .inl (.inl hi))⟩
  · rw [hg'.len, hlen]; exact unhide hp
  · rw [hg'.mem a]
    simp

/-- what Remove leaves -/
def RmA (P : Nat → Prop) (W : World) (b : Nat) (ls ms : Int) (mv : Value) (ps : List Nat) (t : Nat → Tm) (i : Nat) (e : Ending) (W' : World) : Prop := ∃ x, e = .returned x ∧ ∃ v' qs, aB W' b ls ms mv v' ∧ QS P W' v' qs t ∧ Hp t qs qs.length ∧ qs.length + 1 = ps.length ∧ (∀ a, a ∈ qs ↔ a ∈ ps ∧ a ≠ pg ps i) ∧ Kp (fun i => P i ∨ i = b) W W'
theorem rm_mem {ps : List Nat} {n : Nat} (hn : ps.length = n + 1) (hinj : ∀ i k, i < ps.length → k < ps.length → pg ps i = pg ps k → i = k) (a : Nat) : a ∈ ps.take n ↔ a ∈ ps ∧ a ≠ pg ps n := by
  have hlt : (ps.take n).length = n := by rw [List.length_take]; omega
  constructor
  · intro h
    obtain ⟨j, hj, e⟩ := mem_pg h
    rw [hlt] at hj
    rw [pg_take hj] at e
    refine ⟨e ▸ pg_mem (by omega), fun e2 => ?_⟩
    have := hinj j n (by omega) (by omega) (e.trans e2)
    omega
  · rintro ⟨h, h2⟩
    obtain ⟨j, hj, e⟩ := mem_pg h
    have : j ≠ n := fun e2 => h2 (by rw [← e, e2])
    have hj' : j < n := by omega
    rw [← e, ← pg_take hj']
    exact pg_mem (by omega)
theorem rm_end {P : Nat → Prop} {W W1 W2 : World} {b : Nat} {ls ms : Int} {mv v v' : Value} {ps qs : List Nat} {t : Nat → Tm} {i n : Nat} {x : Value} (hn : ps.length = n + 1) (hq : QS P W1 v qs t) (hlen : qs.length = ps.length) (hmem : ∀ a, a ∈ qs ↔ a ∈ ps) (hlast : pg qs n = pg ps i) (hhp : Hp t qs n) (k1 : Kp P W W1) (hb2 : aB W2 b ls ms mv v') (hq2 : QS P W2 v' (qs.take n) t) (k2 : Kp (fun i => P i ∨ i = b) W1 W2) : RmA P W b ls ms mv ps t i (.returned x) W2 := by
  have hlt : (qs.take n).length = n := by rw [List.length_take]; omega
  refine ⟨x, rfl, v', qs.take n, hb2, hq2, ?_, by omega, fun a => ?_, (k1.wk (fun i hi => .inl hi)).trans k2 (fun i hi => .inl hi)⟩
  · rw [hlt]
    exact hhp.eq (fun c hc => by rw [pg_take hc])
  · rw [rm_mem (by omega) (fun i k hi hk e => hq.inj hi hk e), hmem, hlast]
set_option maxRecDepth 100000 in
set_option maxHeartbeats 4000000 in
theorem HRemove_in {P : Nat → Prop} {W : World} {b : Nat} {ls ms : Int} {mv v : Value} {ps : List Nat} {t : Nat → Tm} (h : QS P W v ps t) (hb : aB W b ls ms mv v) (hl : ps.length ≤ 1000000) (hnb : ¬ P b) (hh : Hp t ps ps.length) (i : Nat) (hi : i < ps.length) :
    Calls Try.prog 29 #[hI b, .int .i64 (i : Nat)] W (RmA P W b ls ms mv ps t i) := by
  obtain ⟨a, c, rfl⟩ := h.form
  obtain ⟨n, hn⟩ : ∃ n, ps.length = n + 1 := ⟨ps.length - 1, by omega⟩
  have HL := hide (qLen_in a ps.length c W)
  have hm := meth_len hb.cell
  rw [hn] at HL hm
  have hPp := hide (fun X qs (q : QS P X (.slice a ps.length c) qs t) (e : qs.length = ps.length) (k : Kp P W X) => qPop_in q (hb.kp k hnb) (by omega) n (by omega) hnb)
  have hmP := fun X => meth_pop (.pointer (some ⟨b, 3, none⟩)) X
  by_cases hin : i = n
  · subst hin
    have hne : ((i : Int) != (i : Int)) = false := by simp
    have hPop := hide (unhide hPp W ps h rfl (Kp.refl _ _))
    have H0 := hide (And.intro h hh)
    have Hn := hide hn
    have hil : i ≤ 1000000 := by omega
    clear h hb hh hPp hn hl hi
    unfold hI
    go_enter Try.func29, Try.ntmps29
    go_wp2_with fail
    refine (unhide HL).mono ?_
    rintro e W1 ⟨rfl, rfl⟩
    clear HL hm
    go_wp2_with fail
    refine (unhide hPop).mono ?_
    rintro e W2 ⟨x, rfl, v', hb2, hq2, k2⟩
    have F2 := hide (And.intro hb2 (And.intro hq2 k2))
    clear hb2 hq2 k2 hPop hmP
    go_wp2
    go_ret
    obtain ⟨hb2, hq2, k2⟩ := unhide F2
    obtain ⟨hq, hh⟩ := unhide H0
    exact rm_end (unhide Hn) hq rfl (fun _ => Iff.rfl) rfl (hh.wk (by have := unhide Hn; omega)) (Kp.refl _ _) hb2 hq2 k2
  · have hne : ((n : Int) != (i : Int)) = true := by simp; omega
    have hmS := meth_swap hb.cell
    have hSw := hide (qSwap_in h hl i n hi (by omega) hin)
    have hcell := hide (fun X (k : Kp P W X) => cell_kp hb.cell k hnb)
    have HI := hide (And.intro h hh)
    have Hn := hide hn
    have hin' : i < n := by omega
    have hil : n + 1 ≤ 1000000 := by omega
    clear h hb hh hl hi
    unfold hI
    rw [hn] at hmS
    go_enter Try.func29, Try.ntmps29
    rw [hn] at hSw
    go_wp2_with fail
    refine (unhide HL).mono ?_
    rintro e W1 ⟨rfl, rfl⟩
    clear HL hm
    go_wp2_with fail
    refine (unhide hSw).mono ?_
    rintro e W2 ⟨rfl, hq2, k2⟩
    obtain ⟨h0, hh0⟩ := unhide HI
    have g2 : QG P W (.slice a (n + 1) c) ps t n W2 (swp ps i n) → True := fun _ => trivial
    have hx2 : Hx t (swp ps i n) n i := Hp.hx (t' := t) (hh0.wk (m := n) (by omega)) (by rw [swp_len]; omega) (fun c hc hci => by rw [pg_swp (by omega) (by omega), if_neg (by omega), if_neg hci])
    have hD := hide (down_in hq2 (by have := unhide hcell W2 k2; rwa [hn] at this) hnb (by rw [swp_len]; omega) n i hin' hx2)
    have F2 := hide (And.intro hq2 (And.intro k2 hx2))
    have hlast : pg (swp ps i n) n = pg ps i := by rw [pg_swp (by omega) (by omega), if_pos rfl]
    have HLa := hide hlast
    have hmm : ∀ a, a ∈ swp ps i n ↔ a ∈ ps := fun a => swp_mem (by omega) (by omega) a
    have HM := hide hmm
    clear hq2 k2 hx2 h0 hh0 hSw hmS g2 hlast hmm
    unfold hI at hD
    go_wp2_with fail
    refine (unhide hD).mono ?_
    rintro e W3 ⟨qs, hg, hres⟩
    obtain ⟨hq2, k2, hx2⟩ := unhide F2
    have k3 := k2.trans hg.kp (fun i hi => .inl hi)
    have el3 : qs.length = ps.length := by rw [hg.len, swp_len]
    rcases hres with ⟨rfl, hp⟩ | ⟨rfl, rfl, hd⟩
    · have hPop := hide (unhide hPp W3 qs (by rw [hn]; exact hg.q) el3 k3)
      have F3 := hide (And.intro hg (And.intro hp (And.intro k3 el3)))
      clear hg hp k3 hq2 k2 hx2 hD hPp hcell el3
      go_wp2_with fail
      refine (unhide hPop).mono ?_
      rintro e W4 ⟨x, rfl, v', hb4, hq4, k4⟩
      have F4 := hide (And.intro hb4 (And.intro hq4 k4))
      clear hb4 hq4 k4 hPop hmP
      go_wp2
      go_ret
      obtain ⟨hb4, hq4, k4⟩ := unhide F4
      obtain ⟨hg, hp, k3, el3⟩ := unhide F3
      exact rm_end (unhide Hn) hg.q el3 (fun a => (hg.mem a).trans (unhide HM a)) ((hg.far n (Nat.le_refl _)).trans (unhide HLa)) hp k3 hb4 hq4 k4
    · have hU := hide (up_in hg.q (by have := unhide hcell W3 k3; rwa [hn] at this) hnb (by rw [swp_len]; omega) n i hin' hx2 hd)
      have F3 := hide (And.intro hg (And.intro k3 el3))
      clear hg k3 hq2 k2 hx2 hD el3 hd
      unfold hI at hU
      go_wp2_with fail
      refine (unhide hU).mono ?_
      rintro e W3 ⟨rfl, rs, hg5, hp5⟩
      obtain ⟨hg, k3, el3⟩ := unhide F3
      have hPop := hide (unhide hPp W3 rs (by rw [hn]; exact hg5.q) (hg5.len.trans el3) (k3.trans hg5.kp (fun i hi => .inl hi)))
      have F5 := hide (And.intro hg5 hp5)
      clear hg hg5 hp5 k3 el3 hU hPp hcell
      go_wp2_with fail
      refine (unhide hPop).mono ?_
      rintro e W4 ⟨x, rfl, v', hb4, hq4, k4⟩
      have F4 := hide (And.intro hb4 (And.intro hq4 k4))
      clear hb4 hq4 k4 hPop hmP
      go_wp2
      go_ret
      obtain ⟨hb4, hq4, k4⟩ := unhide F4
      obtain ⟨hg, k3, el3⟩ := unhide F3
      obtain ⟨hg5, hp5⟩ := unhide F5
      exact rm_end (unhide Hn) hg5.q (hg5.len.trans el3) (fun a => (hg5.mem a).trans (unhide HM a)) ((hg5.far n (Nat.le_refl _)).trans (unhide HLa)) hp5 (k3.trans hg5.kp (fun i hi => .inl hi)) hb4 hq4 k4

end Go.Proofs.Ytknomhgglmgciaa
