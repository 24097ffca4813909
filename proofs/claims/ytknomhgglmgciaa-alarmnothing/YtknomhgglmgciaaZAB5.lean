/-
  The law's step, by its kind.
-/
import Derived.Test.YtknomhgglmgciaaZAB2
import Derived.Deep.RegionLaw
import Derived.Deep.RegionWith
import Derived.Deep.CutRange
set_option linter.unusedSimpArgs false
set_option linter.unusedVariables false
namespace Go.Proofs.Ytknomhgglmgciaa
open Go.RowKit Go.Lib
variable {Pa : Nat → Prop} {W X X' : World} {b n r : Nat} {ls ms : Int} {L M : List Tm} {s : Stp}
set_option maxRecDepth 100000 in
set_option maxHeartbeats 4000000 in
theorem does_2 (h : QA Pa W b n r ls ms L L) (hP : ∀ i, Pa i → i < W.heap.size) (hn : n ≤ 999990) (hk : in64 s.key) (hk1' : s.kind = 2) : Calls Try.prog 13 #[.pointer (some ⟨b, 0, none⟩), .pointer (some ⟨r, 0, none⟩), .agg (stC s)] W (DoA Pa W b (n + 1) r ls ms (doL ls ms L s)) := by
  have gl := h.gl
  have hl := h.ln
  have K0 := hide (DK.start (s := s) h)
  clear h
  have hD : doL ls ms L s = rstS ls L s.key s.now := by unfold doL; simp [hk1']
  rw [hD]
  clear hD
  obtain ⟨X0, hX0⟩ : ∃ X0, W.alloc (.cells #[.int .i64 s.kind, .int .i64 s.key, .int .i64 s.now] 35) = X0 := ⟨_, rfl⟩
  rw [show W.alloc (.cells (stC s) 35) = X0 from hX0] at K0
  obtain ⟨y0, y1, y2⟩ := (unhide K0).y
  have HAl := hide (fun X n' M (h : DK Pa W s b n' r ls ms M M X) (hn : n' ≤ 999999) => h.alike (by omega) hk)
  unfold stC
  have hk1 : (s.kind == 1) = false := by simp [hk1']
  have hk2 : (s.kind == 2) = true := by simp [hk1']
  have hk3 : (s.kind == 3) = false := by simp [hk1']
  have hk4 : (s.kind == 4) = false := by simp [hk1']
  have bxl := (unhide K0).size
  clear hk1'
  have H1 := hide (fun X (h : DK Pa W s b n r ls ms L L X) => h.rst1 hP (by omega) hk)
  have H2 := hide (fun X L' (h : DK Pa W s b (n + 1) r ls ms L' L X) => h.rst2 hP gl (by omega))
  go_enter Try.func13, Try.ntmps13
  go_wp2
  clear y0 y1 y2
  obtain ⟨y0, y1, y2⟩ := ((unhide K0).below (Below.refl _ X0).drew).y
  go_region_with (first | (go_at_call 18; refine (unhide H1 _ ((unhide K0).below (Below.refl _ X0).drew)).mono ?_; rintro e X1 ⟨rfl, D1⟩; obtain ⟨z0, z1, z2⟩ := D1.y; have zl := D1.size; replace D1 := hide D1) | (go_at_call 26; refine (unhide H2 _ _ (unhide D1)).mono ?_; rintro e X2 ⟨rfl, D2⟩; replace D2 := hide D2))
  all_goals (
    clear H1 H2 K0 y0 y1 y2 z0 z1 z2
    have HA := hide (unhide HAl _ _ _ (unhide D2) (by omega))
    clear HAl
    obtain ⟨q0, q1, q2⟩ := (unhide D2).y
    go_wp2_with fail
    refine (unhide HA).mono ?_
    rintro e X9 ⟨rfl, D9⟩
    replace D9 := hide D9
    clear HA
    go_wp2
    go_ret
    exact (unhide D9).fin (by omega))

end Go.Proofs.Ytknomhgglmgciaa
