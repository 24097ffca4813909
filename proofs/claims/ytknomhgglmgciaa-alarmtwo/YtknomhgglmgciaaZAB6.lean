/-
  The law's step, by its kind.
-/
import Derived.Test.YtknomhgglmgciaaZAB2
import Derived.Deep.RegionLaw
import Derived.Deep.RegionWith
import Derived.Deep.CutRange
set_option linter.unusedSimpArgs false
set_option linter.unusedVariables false
namespace Go.Proofs.Ytknomhgglmgciaa
open Go.RowKit Go.Lib
variable {Pa : Nat → Prop} {W X X' : World} {b n r : Nat} {ls ms : Int} {L M : List Tm} {s : Stp}
set_option maxRecDepth 100000 in
set_option maxHeartbeats 4000000 in
theorem does_3 (h : QA Pa W b n r ls ms L L) (hP : ∀ i, Pa i → i < W.heap.size) (hn : n ≤ 999990) (hk : in64 s.key) (hk1' : s.kind = 3) : Calls Try.prog 13 #[.pointer (some ⟨b, 0, none⟩), .pointer (some ⟨r, 0, none⟩), .agg (stC s)] W (DoA Pa W b (n + 1) r ls ms (doL ls ms L s)) := by
  have gl := h.gl
  have hl := h.ln
  have K0 := hide (DK.start (s := s) h)
  clear h
  have hD : doL ls ms L s = offL L s.key := by unfold doL; simp [hk1']
  rw [hD]
  clear hD
  obtain ⟨X0, hX0⟩ : ∃ X0, W.alloc (.cells #[.int .i64 s.kind, .int .i64 s.key, .int .i64 s.now] 35) = X0 := ⟨_, rfl⟩
  rw [show W.alloc (.cells (stC s) 35) = X0 from hX0] at K0
  obtain ⟨y0, y1, y2⟩ := (unhide K0).y
  have HAl := hide (fun X n' M (h : DK Pa W s b n' r ls ms M M X) (hn : n' ≤ 999999) => h.alike (by omega) hk)
  unfold stC
  have hk1 : (s.kind == 1) = false := by simp [hk1']
  have hk2 : (s.kind == 2) = false := by simp [hk1']
  have hk3 : (s.kind == 3) = true := by simp [hk1']
  have hk4 : (s.kind == 4) = false := by simp [hk1']
  have bxl := (unhide K0).size
  clear hk1'
  have H1 := hide ((unhide K0).off1 hP (by omega) hk)
  have H2 := hide (fun X (h : DK Pa W s b n r ls ms (offL L s.key) L X) => h.off2 hP (by omega))
  go_enter Try.func13, Try.ntmps13
  go_wp2_with fail
  refine (unhide H1).mono ?_
  rintro e X1 ⟨rfl, D1⟩
  obtain ⟨z0, z1, z2⟩ := D1.y
  have zl := D1.size
  replace D1 := hide D1
  clear H1 y0 y1 y2
  go_wp2_with fail
  refine (unhide H2 _ (unhide D1)).mono ?_
  rintro e X2 ⟨rfl, D2⟩
  replace D2 := hide D2
  clear H2 z0 z1 z2
  have HA := hide (unhide HAl _ _ _ (unhide D2) (by omega))
  clear HAl
  obtain ⟨q0, q1, q2⟩ := (unhide D2).y
  go_wp2_with fail
  refine (unhide HA).mono ?_
  rintro e X9 ⟨rfl, D9⟩
  replace D9 := hide D9
  clear HA
  go_wp2
  go_ret
  exact (unhide D9).fin (by omega)

set_option maxRecDepth 100000 in
set_option maxHeartbeats 4000000 in
theorem does_4 (h : QA Pa W b n r ls ms L L) (hP : ∀ i, Pa i → i < W.heap.size) (hn : n ≤ 999990) (hk : in64 s.key) (hk1' : s.kind = 4) : Calls Try.prog 13 #[.pointer (some ⟨b, 0, none⟩), .pointer (some ⟨r, 0, none⟩), .agg (stC s)] W (DoA Pa W b (n + 1) r ls ms (doL ls ms L s)) := by
  have gl := h.gl
  have hl := h.ln
  have K0 := hide (DK.start (s := s) h)
  clear h
  have hD : doL ls ms L s = (duA ms s.now L).2 := by unfold doL; simp [hk1']
  rw [hD]
  clear hD
  obtain ⟨X0, hX0⟩ : ∃ X0, W.alloc (.cells #[.int .i64 s.kind, .int .i64 s.key, .int .i64 s.now] 35) = X0 := ⟨_, rfl⟩
  rw [show W.alloc (.cells (stC s) 35) = X0 from hX0] at K0
  obtain ⟨y0, y1, y2⟩ := (unhide K0).y
  have HAl := hide (fun X n' M (h : DK Pa W s b n' r ls ms M M X) (hn : n' ≤ 999999) => h.alike (by omega) hk)
  unfold stC
  have hk1 : (s.kind == 1) = false := by simp [hk1']
  have hk2 : (s.kind == 2) = false := by simp [hk1']
  have hk3 : (s.kind == 3) = false := by simp [hk1']
  have hk4 : (s.kind == 4) = true := by simp [hk1']
  have bxl := (unhide K0).size
  clear hk1'
  have H1 := hide (fun X (h : DK Pa W s b n r ls ms L L X) => h.due1 hP (by omega))
  have hlk : (duA ms s.now L).1.length ≤ 1000000 := du_len gl (by omega)
  have H2 := hide (fun X Y L' v ks (h : DK Pa W s b n r ls ms L' L X) ho hq => h.due2 (Y := Y) (v := v) (ks := ks) ho hq hP gl (by omega))
  have H3 := hide (fun X u v (h : DK Pa W s b n r ls ms (duA ms s.now L).2 (duA ms s.now L).2 X) (hu : RN X u (duA ms s.now L).1) (hv : RN X v (duA ms s.now L).1) => h.ints hu hv hlk)
  go_enter Try.func13, Try.ntmps13
  generalize hks : (duA ms s.now L).1 = ks at *
  generalize hM2 : (duA ms s.now L).2 = M2 at *
  go_wp2
  clear y0 y1 y2
  obtain ⟨y0, y1, y2⟩ := ((unhide K0).below (Below.refl _ X0).drew).y
  go_region_with (first | (go_at_call 19; refine (unhide H1 _ ((unhide K0).below (Below.refl _ X0).drew)).mono ?_; rintro e X1 ⟨a1, c1, rfl, o1, p1, D1⟩; obtain ⟨z0, z1, z2⟩ := D1.y; have zl := D1.size; replace D1 := hide D1; replace o1 := hide o1; replace p1 := hide p1) | (go_at_call 28; refine (unhide H2 _ _ _ _ _ (unhide D1) (unhide o1) (unhide p1)).mono ?_; rintro e X2 ⟨a2, c2, rfl, r1, r2, D2⟩; replace D2 := hide D2; replace r1 := hide r1; replace r2 := hide r2) | (go_at_call 21; refine (unhide H3 _ _ _ (unhide D2) (unhide r1) (unhide r2)).mono ?_; rintro e X3 ⟨rfl, D3⟩; replace D3 := hide D3))
  all_goals (
    clear H1 H2 H3 K0 y0 y1 y2 z0 z1 z2
    have HA := hide (unhide HAl _ _ _ (unhide D3) (by omega))
    clear HAl
    obtain ⟨q0, q1, q2⟩ := (unhide D3).y
    go_wp2_with fail
    refine (unhide HA).mono ?_
    rintro e X9 ⟨rfl, D9⟩
    replace D9 := hide D9
    clear HA
    go_wp2
    go_ret
    exact (unhide D9).fin (by omega))

set_option maxRecDepth 100000 in
set_option maxHeartbeats 4000000 in
theorem does_0 (h : QA Pa W b n r ls ms L L) (hP : ∀ i, Pa i → i < W.heap.size) (hn : n ≤ 999990) (hk : in64 s.key) (n1 : s.kind ≠ 1) (n2 : s.kind ≠ 2) (n3 : s.kind ≠ 3) (n4 : s.kind ≠ 4) : Calls Try.prog 13 #[.pointer (some ⟨b, 0, none⟩), .pointer (some ⟨r, 0, none⟩), .agg (stC s)] W (DoA Pa W b (n + 1) r ls ms (doL ls ms L s)) := by
  have gl := h.gl
  have hl := h.ln
  have K0 := hide (DK.start (s := s) h)
  clear h
  have hD : doL ls ms L s = L := by unfold doL; simp [n1, n2, n3, n4]
  rw [hD]
  clear hD
  obtain ⟨X0, hX0⟩ : ∃ X0, W.alloc (.cells #[.int .i64 s.kind, .int .i64 s.key, .int .i64 s.now] 35) = X0 := ⟨_, rfl⟩
  rw [show W.alloc (.cells (stC s) 35) = X0 from hX0] at K0
  obtain ⟨y0, y1, y2⟩ := (unhide K0).y
  have HAl := hide (fun X n' M (h : DK Pa W s b n' r ls ms M M X) (hn : n' ≤ 999999) => h.alike (by omega) hk)
  unfold stC
  have hk1 : (s.kind == 1) = false := by simp [n1, n2, n3, n4]
  have hk2 : (s.kind == 2) = false := by simp [n1, n2, n3, n4]
  have hk3 : (s.kind == 3) = false := by simp [n1, n2, n3, n4]
  have hk4 : (s.kind == 4) = false := by simp [n1, n2, n3, n4]
  have bxl := (unhide K0).size
  clear n1 n2 n3 n4
  go_enter Try.func13, Try.ntmps13
  have HA := hide (unhide HAl _ _ _ (unhide K0) (by omega))
  clear HAl
  go_wp2_with fail
  refine (unhide HA).mono ?_
  rintro e X9 ⟨rfl, D9⟩
  replace D9 := hide D9
  clear HA
  go_wp2
  go_ret
  exact (unhide D9).fin (by omega)

end Go.Proofs.Ytknomhgglmgciaa
