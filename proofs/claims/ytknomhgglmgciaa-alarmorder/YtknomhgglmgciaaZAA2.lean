/-
  An Alarm: run.
-/
import Derived.Test.YtknomhgglmgciaaZAA1
import Derived.Deep.RegionLaw
import Derived.Deep.RegionWith
set_option linter.unusedSimpArgs false
set_option linter.unusedVariables false
namespace Go.Proofs.Ytknomhgglmgciaa
open Go.RowKit Go.Lib

/-- one timer is another -/
def setT (t : Nat → Tm) (A : Nat) (x : Tm) : Nat → Tm := fun a => if a = A then x else t a
theorem setT_at (t : Nat → Tm) (A : Nat) (x : Tm) : setT t A x A = x := if_pos rfl
theorem setT_ne {t : Nat → Tm} {A a : Nat} {x : Tm} (h : a ≠ A) : setT t A x a = t a := if_neg h
theorem QS.upd {P : Nat → Prop} {W : World} {v : Value} {ps : List Nat} {t : Nat → Tm} (h : QS P W v ps t) {i : Nat} (hi : i < ps.length) (gap due : Int) : QS P ((W.setCell ⟨pg ps i, 1, none⟩ (.int .i64 gap)).setCell ⟨pg ps i, 2, none⟩ (.int .i64 due)) v ps (setT t (pg ps i) ⟨(t (pg ps i)).key, gap, due⟩) ∧ Kp P W ((W.setCell ⟨pg ps i, 1, none⟩ (.int .i64 gap)).setCell ⟨pg ps i, 2, none⟩ (.int .i64 due)) := by
  have kk : Kp (fun k => k = pg ps i) W ((W.setCell ⟨pg ps i, 1, none⟩ (.int .i64 gap)).setCell ⟨pg ps i, 2, none⟩ (.int .i64 due)) := (Kp.set (N := fun k => k = pg ps i) W ⟨pg ps i, 1, none⟩ _ rfl).trans (Kp.set (N := fun k => k = pg ps i) _ ⟨pg ps i, 2, none⟩ _ rfl) (fun i hi => .inl hi)
  have hx := h.tm i hi
  refine ⟨⟨owns_kp h.row kk (fun k hk e => ?_), h.pk, fun j hj => ?_⟩, kk.wk (fun k hk => hk ▸ hx.2)⟩
  · obtain ⟨a, c, rfl⟩ := h.form
    obtain ⟨_, g, rfl, _, _, _, cur, bg⟩ := h.at hi
    simp [Value.ownBlock] at hk
    subst hk
    exact Bx.apart bg hx.1 (by decide) e
  · by_cases e : j = i
    · subst e
      rw [setT_at]
      exact ⟨(hx.1.set 1 (.int .i64 gap)).set 2 (.int .i64 due), hx.2⟩
    · have hne : pg ps j ≠ pg ps i := fun e2 => e (h.inj hj hi e2)
      rw [setT_ne hne]
      exact ⟨(h.tm j hj).1.kp kk hne, (h.tm j hj).2⟩
theorem Kp.draw {N : Nat → Prop} {W W' : World} (h : Kp N W W') (n : Nat) : Kp N W (W'.drewN n) := ⟨h.os, h.tape, h.output, h.size, h.block⟩
/-- what run leaves -/
def RunA (P : Nat → Prop) (W : World) (v : Value) (ps : List Nat) (t : Nat → Tm) (e : Ending) (W' : World) : Prop := e = .returned (.tuple #[]) ∧ ∃ qs, QS P W' v qs t ∧ Hp t qs qs.length ∧ qs.length = ps.length ∧ (∀ a, a ∈ qs ↔ a ∈ ps) ∧ Kp P W W'
set_option maxRecDepth 100000 in
set_option maxHeartbeats 2000000 in
theorem run_in {P : Nat → Prop} {W : World} {b : Nat} {ls ms : Int} {mv v : Value} {ps : List Nat} {t : Nat → Tm} (h : QS P W v ps t) (hb : aB W b ls ms mv v) (hnb : ¬ P b) (hl : ps.length ≤ 1000000) (hh : Hp t ps ps.length) (i : Nat) (hi : i < ps.length) (gap now : Int) (hg : 0 ≤ gap ∧ gap ≤ 4096) (hw : 0 ≤ now ∧ now ≤ 2147483647) :
    Calls Try.prog 31 #[.pointer (some ⟨b, 0, none⟩), .pointer (some ⟨pg ps i, 0, none⟩), .int .i64 gap, .int .i64 now] W (RunA P W v ps (setT t (pg ps i) ⟨(t (pg ps i)).key, gap, now + gap⟩)) := by
  obtain ⟨q2, k2⟩ := h.upd hi gap (now + gap)
  have hx2 : Hx (setT t (pg ps i) ⟨(t (pg ps i)).key, gap, now + gap⟩) ps ps.length i := hh.hx (Nat.le_refl _) (fun c hc hci => setT_ne (fun e => hci (h.inj hc hi e)))
  obtain ⟨c0, c1, c2, c3, fr⟩ := h.cells hi
  have f1 := fr 1
  have f2 := fr 2
  have hHF := fun (Y : World) (hY : Below _ ((W.setCell ⟨pg ps i, 1, none⟩ (.int .i64 gap)).setCell ⟨pg ps i, 2, none⟩ (.int .i64 (now + gap))) Y) => Fix_in (q2.below hY) (cell_below (cell_kp hb.cell k2 hnb) hY) hnb hl i hi hx2
  have HK := hide k2
  have HF := hide hHF
  have cc3 := (q2.tm i hi).1.cell 3 _ rfl
  clear hHF
  have cc3' : ((W.setCell ⟨pg ps i, 1, none⟩ (.int .i64 gap)).setCell ⟨pg ps i, 2, none⟩ (.int .i64 (now + gap))).cell? ⟨pg ps i, 3, none⟩ = some (.int .i64 (i : Nat)) := cc3
  clear cc3 q2 k2 hx2 h hb hh fr
  obtain ⟨X2, hX2⟩ : ∃ X2, (W.setCell ⟨pg ps i, 1, none⟩ (.int .i64 gap)).setCell ⟨pg ps i, 2, none⟩ (.int .i64 (now + gap)) = X2 := ⟨_, rfl⟩
  rw [hX2] at HK HF cc3'
  generalize hT : setT t (pg ps i) ⟨(t (pg ps i)).key, gap, now + gap⟩ = T at *
  have hw' : now + gap ≤ 9223372036854775807 := by omega
  unfold hI at HF
  generalize pg ps i = A at *
  go_enter Try.func31, Try.ntmps31
  go_wp2
  go_region_with (go_at_call 39; refine (unhide HF _ (Below.refl _ _).drew).mono ?_; rintro e W5 ⟨rfl, qs, H5⟩; clear HF)
  all_goals (
    replace H5 := hide H5
    go_wp2
    refine bodyPost_end (results_none rfl _ _ _) rfl ?_
    obtain ⟨hg5, hp5⟩ := unhide H5
    exact ⟨rfl, qs, hg5.q, by rw [hg5.len]; exact hp5, hg5.len, hg5.mem, (unhide HK).drew.trans hg5.kp (fun i hi => .inl hi)⟩)

end Go.Proofs.Ytknomhgglmgciaa
