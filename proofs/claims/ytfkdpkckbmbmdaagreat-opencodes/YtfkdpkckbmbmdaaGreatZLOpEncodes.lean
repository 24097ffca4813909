/-
  Chapter 8's law OpEncodes returns true for every operation and every string, and leaves its arguments as they were; no condition.
-/
import Derived.Test.YtfkdpkckbmbmdaaGreatRows
import Derived.WalkKit
import Derived.ProofKit
import Derived.OpenShut
import Derived.ShutString
import Derived.ChangeOld
import Derived.Below
import Derived.Test.YtfkdpkckbmbmdaaGreatZXT
import Derived.Test.YtfkdpkckbmbmdaaGreatZXRF
import Derived.Test.YtfkdpkckbmbmdaaGreatZQ4
import Derived.Test.YtfkdpkckbmbmdaaGreatZQ5
import Derived.Deep.CutRange
import Derived.Deep.RegionWith
set_option linter.unusedVariables false
set_option linter.unusedSimpArgs false
namespace Go.Proofs.YtfkdpkckbmbmdaaGreat
namespace LOpEncodes
open Go.ChangeShapes Go.WideShapes Go.ChangeAt Go.RowKit Go.Lib
open Go.ChangeMaps (open_string shut_string)

theorem putO_two (L : List Nat) (o : Opn) : (putO (L, 0) o).2 = 0 := by
  by_cases h : okO o = true
  · rw [putO_ob h]
  · unfold putO; rw [if_neg h]

set_option maxRecDepth 100000 in
set_option maxHeartbeats 16000000 in
theorem walk (o : Opn) (ad ag : Option Addr) (cd cg : Nat) (t : ByteArray) (w : World) (w0 : RI w (.slice ad o.deps.length cd) o.deps ∧ RR w (.slice ag o.gone.length cg) o.gone ∧ InA o) (w1 : t.size ≤ maxLen) :
    Calls Tryz.prog 4 #[opA o (.slice ad o.deps.length cd) (.slice ag o.gone.length cg), .string t] w fun e W => e = .returned (.bool true) ∧ Below w.heap.size w W := by
  obtain ⟨hd, hg, hi⟩ := w0
  unfold maxLen at w1
  obtain ⟨X, hX⟩ : ∃ X, w.alloc (.cells #[.int .i64 o.ds, .int .i64 o.dq, .slice ad o.deps.length cd, .int .i64 o.kind, .int .i64 o.it, .int .i64 o.is, .int .i64 o.rt, .int .i64 o.rs, .string o.text, .slice ag o.gone.length cg, .int .i64 o.site] 30) = X := ⟨_, rfl⟩
  have x1 : Bx X w.heap.size 30 #[.int .i64 o.ds, .int .i64 o.dq, .slice ad o.deps.length cd, .int .i64 o.kind, .int .i64 o.it, .int .i64 o.is, .int .i64 o.rt, .int .i64 o.rs, .string o.text, .slice ag o.gone.length cg, .int .i64 o.site] := by rw [← hX]; exact Bx.new w _ _
  have bX : Below w.heap.size w X := by rw [← hX]; exact ballc (Below.refl _ _) _
  have hlt1 := x1.lt
  have HK := hide (fun W => known_in W)
  have HL := hide (fun W => long_in o ad ag cd cg W hi.text)
  have B0 := hide bX
  obtain ⟨p0, p1, p2, p3, p4, p5, p6, p7, p8, p9, p10⟩ := cells_op x1
  cases hlo : longO o
  rotate_left
  · rw [hlo] at HL
    unfold opA at HL ⊢
    clear hlo x1 bX hd hg hi
    go_enter Tryz.func4, Tryz.ntmps4
    go_wp2_with fail
    refine (unhide HL _).mono ?_
    rintro r W1 ⟨rfl, hb⟩
    replace B0 := hide (bnext (unhide B0) hb)
    clear hb
    go_wp2_with fail
    refine (unhide HK _).mono ?_
    rintro r W2 ⟨rfl, hb⟩
    replace B0 := hide (bnext (unhide B0) hb)
    go_wp2
    go_ret
    exact ⟨rfl, unhide B0⟩
  rw [hlo] at HL
  by_cases htl : 60000 < t.size
  · have htl' : (60000 : Int) < ((t.size : Nat) : Int) := by omega
    unfold opA at HL ⊢
    clear hlo x1 bX hd hg hi
    go_enter Tryz.func4, Tryz.ntmps4
    go_wp2_with fail
    refine (unhide HL _).mono ?_
    rintro r W1 ⟨rfl, hb⟩
    replace B0 := hide (bnext (unhide B0) hb)
    clear hb
    go_wp2_with fail
    refine (unhide HK _).mono ?_
    rintro r W2 ⟨rfl, hb⟩
    replace B0 := hide (bnext (unhide B0) hb)
    go_wp2
    go_ret
    exact ⟨rfl, unhide B0⟩
  have htl' : ¬ (60000 : Int) < ((t.size : Nat) : Int) := by omega
  have hin : InO o := by
    unfold longO at hlo
    simp at hlo
    exact hi.fit (by omega) (by omega) (by omega)
  have hsm : o.deps.length ≤ 3000 ∧ o.gone.length ≤ 3000 ∧ o.text.size ≤ 60000 := by unfold longO at hlo; simp at hlo; omega
  obtain ⟨hs1, hs2, hs3⟩ := hsm
  have HA := hide (fun (W : World) (h : Below X.heap.size X W) => show Bx W w.heap.size 30 #[.int .i64 o.ds, .int .i64 o.dq, .slice ad o.deps.length cd, .int .i64 o.kind, .int .i64 o.it, .int .i64 o.is, .int .i64 o.rt, .int .i64 o.rs, .string o.text, .slice ag o.gone.length cg, .int .i64 o.site] ∧ RI W (.slice ad o.deps.length cd) o.deps ∧ RR W (.slice ag o.gone.length cg) o.gone from ⟨x1.below h, (hd.below bX).below h, RC.below (RC.below hg bX) h⟩)
  have HTw := hide (fun (W : World) (h : Below X.heap.size X W) => twin_in o ad ag cd cg W ((hd.below bX).below h) (RC.below (RC.below hg bX) h) (by omega) (by omega))
  have Hin := hide hin
  unfold opA at HL ⊢
  clear hlo x1 bX hd hg hi hin
  go_enter Tryz.func4, Tryz.ntmps4
  go_wp2_with fail
  refine (unhide HL _).mono ?_
  rintro r W1 ⟨rfl, hb1⟩
  obtain ⟨a1, -, -⟩ := unhide HA W1 hb1
  clear p0 p1 p2 p3 p4 p5 p6 p7 p8 p9 p10
  obtain ⟨p0, p1, p2, p3, p4, p5, p6, p7, p8, p9, p10⟩ := cells_op a1
  have HT1 := hide (unhide HTw W1 hb1)
  have Hb1 := hide hb1
  clear hb1 a1 HL HTw
  go_wp2_with fail
  refine (unhide HT1).mono ?_
  rintro r W2 ⟨gd, c1, gg, c2, rfl, htw, hb2⟩
  have hb2' := bnext (unhide Hb1) hb2
  obtain ⟨Y, hY⟩ : ∃ Y, W2.alloc (.cells #[.int .i64 o.ds, .int .i64 o.dq, .slice (some ⟨gd, 0, none⟩) o.deps.length c1, .int .i64 o.kind, .int .i64 o.it, .int .i64 o.is, .int .i64 o.rt, .int .i64 o.rs, .string o.text, .slice (some ⟨gg, 0, none⟩) o.gone.length c2, .int .i64 o.site] 30) = Y := ⟨_, rfl⟩
  have bY : Below W2.heap.size W2 Y := by rw [← hY]; exact ballc (Below.refl _ _) _
  have yt : Bx Y W2.heap.size 30 #[.int .i64 o.ds, .int .i64 o.dq, .slice (some ⟨gd, 0, none⟩) o.deps.length c1, .int .i64 o.kind, .int .i64 o.it, .int .i64 o.is, .int .i64 o.rt, .int .i64 o.rs, .string o.text, .slice (some ⟨gg, 0, none⟩) o.gone.length c2, .int .i64 o.site] := by rw [← hY]; exact Bx.new W2 _ _
  have hbY := bnext hb2' bY
  obtain ⟨a1, a4, a5⟩ := unhide HA Y hbY
  have tY := htw.below bY
  obtain ⟨bt, hbt⟩ : ∃ b, W2.heap.size = b := ⟨_, rfl⟩
  rw [hbt] at yt
  have hbtl := yt.lt
  have hwl := a1.lt
  have HBw := hide (bnext (unhide B0) hbY)
  have HCe := hide (fun (W : World) (h : Below Y.heap.size Y W) => show (W.cell? ⟨w.heap.size, 0, none⟩ = some (.int .i64 o.ds) ∧ W.cell? ⟨w.heap.size, 1, none⟩ = some (.int .i64 o.dq) ∧ W.cell? ⟨w.heap.size, 2, none⟩ = some (.slice ad o.deps.length cd) ∧ W.cell? ⟨w.heap.size, 3, none⟩ = some (.int .i64 o.kind) ∧ W.cell? ⟨w.heap.size, 4, none⟩ = some (.int .i64 o.it) ∧ W.cell? ⟨w.heap.size, 5, none⟩ = some (.int .i64 o.is) ∧ W.cell? ⟨w.heap.size, 6, none⟩ = some (.int .i64 o.rt) ∧ W.cell? ⟨w.heap.size, 7, none⟩ = some (.int .i64 o.rs) ∧ W.cell? ⟨w.heap.size, 8, none⟩ = some (.string o.text) ∧ W.cell? ⟨w.heap.size, 9, none⟩ = some (.slice ag o.gone.length cg) ∧ W.cell? ⟨w.heap.size, 10, none⟩ = some (.int .i64 o.site)) ∧ (W.cell? ⟨bt, 0, none⟩ = some (.int .i64 o.ds) ∧ W.cell? ⟨bt, 1, none⟩ = some (.int .i64 o.dq) ∧ W.cell? ⟨bt, 2, none⟩ = some (.slice (some ⟨gd, 0, none⟩) o.deps.length c1) ∧ W.cell? ⟨bt, 3, none⟩ = some (.int .i64 o.kind) ∧ W.cell? ⟨bt, 4, none⟩ = some (.int .i64 o.it) ∧ W.cell? ⟨bt, 5, none⟩ = some (.int .i64 o.is) ∧ W.cell? ⟨bt, 6, none⟩ = some (.int .i64 o.rt) ∧ W.cell? ⟨bt, 7, none⟩ = some (.int .i64 o.rs) ∧ W.cell? ⟨bt, 8, none⟩ = some (.string o.text) ∧ W.cell? ⟨bt, 9, none⟩ = some (.slice (some ⟨gg, 0, none⟩) o.gone.length c2) ∧ W.cell? ⟨bt, 10, none⟩ = some (.int .i64 o.site)) from ⟨cells_op (a1.below h), cells_op (yt.below h)⟩)
  have HE1 := hide (fun (W : World) (h : Below Y.heap.size Y W) => OEncode_in o _ _ W (tY.below h).ri (tY.below h).rr (unhide Hin) (by omega))
  have HE2 := hide (fun (W : World) (h : Below Y.heap.size Y W) => rEncode_in o ad ag cd cg W (a4.below h) (RC.below a5 h) (unhide Hin) (by omega) (by omega) (by omega))
  have HSt := hide (fun (W : World) (h : Below Y.heap.size Y W) => stands_in o ad ag cd cg _ gd c1 gg c2 W (tY.below h) (a4.below h) (RC.below a5 h) (by omega) (by omega))
  have HO := hide (fun (W : World) (h : Below Y.heap.size Y W) => (show RI W (.slice (some ⟨gd, 0, none⟩) o.deps.length c1) o.deps ∧ RR W (.slice (some ⟨gg, 0, none⟩) o.gone.length c2) o.gone from ⟨(tY.below h).ri, (tY.below h).rr⟩))
  have Hrl := hide (show (∀ k, rb (.slice (some ⟨gd, 0, none⟩) o.deps.length c1) o.deps.length k → k < Y.heap.size) ∧ (∀ k, rb (.slice (some ⟨gg, 0, none⟩) o.gone.length c2) o.gone.length k → k < Y.heap.size) from ⟨fun k hk => RC.rlt tY.ri k hk, fun k hk => RC.rlt tY.rr k hk⟩)
  have HP2 := hide (fun (W : World) (v : Value) (L : List Nat) (h : Below Y.heap.size Y W) (hr : RC W v L.length (bC L)) (hL : L.length ≤ 1000000) => rPut_in o v L ad ag cd cg W hr hL (a4.below h) (RC.below a5 h) (unhide Hin) (by omega) (by omega) (by omega))
  unfold opA at HE1
  obtain ⟨ck, hck⟩ : ∃ c, chkO o = c := ⟨_, rfl⟩
  rw [hck] at HE1 HE2
  obtain ⟨EL, hEL⟩ : ∃ c, encL o = c := ⟨_, rfl⟩
  have hELl : EL.length ≤ 1000000 := by
    rw [← hEL]
    unfold encL
    split
    · have := putO_len ([], 0) o
      simp at this
      omega
    · simp
  rw [hEL] at HE1 HE2
  clear p0 p1 p2 p3 p4 p5 p6 p7 p8 p9 p10 hck hEL tY a1 a4 a5 yt htw hb2 hb2' bY hbY HT1 HA
  have bYY := Below.refl Y.heap.size Y
  obtain ⟨⟨p0, p1, p2, p3, p4, p5, p6, p7, p8, p9, p10⟩, q0, q1, q2, q3, q4, q5, q6, q7, q8, q9, q10⟩ := unhide HCe Y bYY
  have HE1' := hide (unhide HE1 Y bYY)
  clear HE1 bYY
  go_wp2_with fail
  refine (unhide HE1').mono ?_
  rintro r W3 ⟨v3, rfl, ho3, hb3⟩
  obtain ⟨a3, c3, rfl⟩ := owns_form ho3
  have HE2' := hide (unhide HE2 W3 hb3)
  clear HE2 HE1' p0 p1 p2 p3 p4 p5 p6 p7 p8 p9 p10 q0 q1 q2 q3 q4 q5 q6 q7 q8 q9 q10
  obtain ⟨⟨p0, p1, p2, p3, p4, p5, p6, p7, p8, p9, p10⟩, q0, q1, q2, q3, q4, q5, q6, q7, q8, q9, q10⟩ := unhide HCe W3 hb3
  replace ho3 := hide (RC.of_owns ho3)
  replace hb3 := hide hb3
  go_wp2_with fail
  refine (unhide HE2').mono ?_
  rintro r W4 ⟨v4, rfl, ho4, hb4⟩
  obtain ⟨a4, c4, rfl⟩ := ho4.form
  have HB4 := hide (bnext (unhide hb3) hb4)
  have HBy := hide (bytes_in EL EL _ _ W4 (RC.below (unhide ho3) hb4) ho4 (by omega) (by omega))
  rw [show decide (EL = EL) = true by simp] at HBy
  clear HE2' hb3 hb4 ho3 ho4 p0 p1 p2 p3 p4 p5 p6 p7 p8 p9 p10 q0 q1 q2 q3 q4 q5 q6 q7 q8 q9 q10
  go_wp2_with fail
  refine (unhide HBy).mono ?_
  rintro r W5 ⟨rfl, n5, rfl⟩
  have HB5 : Hid (Below Y.heap.size Y (W4.drewN n5)) := hide (bnext (unhide HB4) (bdrew (Below.refl _ _) n5))
  obtain ⟨W5, hW5⟩ : ∃ W5, W4.drewN n5 = W5 := ⟨_, rfl⟩
  rw [hW5] at HB5 ⊢
  clear HBy HB4 hW5
  obtain ⟨⟨p0, p1, p2, p3, p4, p5, p6, p7, p8, p9, p10⟩, q0, q1, q2, q3, q4, q5, q6, q7, q8, q9, q10⟩ := unhide HCe W5 (unhide HB5)
  have HS5 := hide (unhide HSt W5 (unhide HB5))
  go_wp2_with fail
  refine (unhide HS5).mono ?_
  rintro r W6 ⟨rfl, hb6⟩
  have HB6 := hide (bnext (unhide HB5) hb6)
  clear HS5 HB5 hb6 p0 p1 p2 p3 p4 p5 p6 p7 p8 p9 p10 q0 q1 q2 q3 q4 q5 q6 q7 q8 q9 q10
  obtain ⟨W7, hW7⟩ : ∃ W7, W6.alloc (.cells #[.slice none 0 0, .int .i64 0] 49) = W7 := ⟨_, rfl⟩
  have hw7 := Wr.new W6
  rw [hW7] at hw7
  have HB7 := hide (bnext (unhide HB6) (show Below W6.heap.size W6 W7 by rw [← hW7]; exact ballc (Below.refl _ _) _))
  have hpY : Y.heap.size ≤ W6.heap.size := (unhide HB6).size
  obtain ⟨p, hp⟩ : ∃ p, W6.heap.size = p := ⟨_, rfl⟩
  rw [hp] at hw7 hpY
  have HT := hide (wText_in t hw7 (by omega) (by simp))
  have hT1 : wTxt ([], 0) t = (num t.size ++ sB t, 0) := by rw [wTxt_pos]; simp
  rw [hT1] at HT
  obtain ⟨L1, hL1⟩ : ∃ L1, num t.size ++ sB t = L1 := ⟨_, rfl⟩
  rw [hL1] at hT1 HT
  have hl1 : L1.length ≤ 60020 := by
    rw [← hL1, List.length_append, sB_len]
    have := num_len t.size
    omega
  replace hw7 := hide hw7
  replace hT1 := hide hT1
  clear hL1
  go_wp2_with fail
  refine (unhide HT).mono ?_
  rintro r W8 ⟨rfl, v8, hw8, hk8, ho8⟩
  try simp only at hw8
  have HB8 := hide (hk8.below (unhide HB7) (fun i e => by
    rcases e with e | e
    · omega
    · cases e))
  have hr8 := unhide Hrl
  obtain ⟨hri, hrr⟩ := unhide HO W8 (unhide HB8)
  have HP8 := hide (OPut_in (st := (L1, 0)) o (unhide Hin) hw8 hri hrr (by omega) (by show L1.length ≤ _; omega) (fun k hk => ⟨fun e => by
      have := hr8.1 k hk
      rcases e with e | e
      · omega
      · have := (hw8.row.lt k e).1; omega, by have := hr8.1 k hk; have := (unhide HB8).size; omega⟩) (fun k hk => ⟨fun e => by
      have := hr8.2 k hk
      rcases e with e | e
      · omega
      · have := (hw8.row.lt k e).1; omega, by have := hr8.2 k hk; have := (unhide HB8).size; omega⟩))
  have hpo : ∀ i, wOwn p v8 i → Y.heap.size ≤ i := fun i e => by
    rcases e with e | e
    · omega
    · have := (hw8.row.lt i e).1; omega
  replace hpo := hide hpo
  have hl2 := putO_len (L1, 0) o
  have hp2 := putO_two L1 o
  have HP2' := hide (fun (W : World) (v : Value) (h : Below Y.heap.size Y W) (hr : RC W v L1.length (bC L1)) => unhide HP2 W v L1 h hr (by omega))
  obtain ⟨s2, hs2⟩ : ∃ s, putO (L1, 0) o = s := ⟨_, rfl⟩
  rw [hs2] at HP8 hl2 hp2 HP2'
  obtain ⟨L2, e2⟩ := s2
  try simp only at HP8 hl2 hp2 HP2'
  subst hp2
  clear hs2 hw8 hk8 ho8 hri hrr hr8 HT HB7 hw7 HP2
  unfold opA at HP8
  obtain ⟨⟨p0, p1, p2, p3, p4, p5, p6, p7, p8, p9, p10⟩, q0, q1, q2, q3, q4, q5, q6, q7, q8, q9, q10⟩ := unhide HCe W8 (unhide HB8)
  go_wp2_with fail
  refine (unhide HP8).mono ?_
  rintro r W9 ⟨rfl, v9, hw9, hk9, ho9⟩
  have HB9 := hide (hk9.below (unhide HB8) (unhide hpo))
  clear hpo HP8 HB8 hk9 ho9 p0 p1 p2 p3 p4 p5 p6 p7 p8 p9 p10 q0 q1 q2 q3 q4 q5 q6 q7 q8 q9 q10
  have hpo : ∀ i, wOwn p v9 i → Y.heap.size ≤ i := fun i e => by
    rcases e with e | e
    · omega
    · have := (hw9.row.lt i e).1; omega
  replace hpo := hide hpo
  have HN9 := hide (wNumber_in 7 hw9 (by omega) (by omega) (by omega))
  rw [wNum_pos L2 (by omega)] at HN9
  obtain ⟨L3, hL3⟩ : ∃ L3, L2 ++ num (7 : Int).toNat = L3 := ⟨_, rfl⟩
  rw [hL3] at HN9
  try simp only at HN9
  have hl3 : L3.length ≤ 1000000 := by
    rw [← hL3, List.length_append]
    have := num_len (7 : Int).toNat
    omega
  clear hw9
  go_wp2_with fail
  refine (unhide HN9).mono ?_
  rintro r W10 ⟨rfl, v10, hw10, hk10, ho10⟩
  have HB10 := hide (hk10.below (unhide HB9) (unhide hpo))
  have HX10 := hide (refText_in W10 (.slice none 0 0) [] 0 t (.inl ⟨rfl, _, _, rfl⟩) (by omega) (by simp))
  rw [unhide hT1] at HX10
  try simp only at HX10
  replace hw10 := hide hw10
  clear hpo HN9 HB9 hk10 ho10
  go_wp2_with fail
  refine (unhide HX10).mono ?_
  rintro r W11 ⟨v11, rfl, hr11, -, hb11⟩
  obtain ⟨a11, c11, rfl⟩ := hr11.form
  go_upto_region 13 with fail
  obtain ⟨W12, hW12⟩ : ∃ W12, W11.alloc (.cells #[.slice a11 L1.length c11, .int .i64 0] 54) = W12 := ⟨_, rfl⟩
  rw [hW12]
  have hb12 : Below W11.heap.size W11 W12 := by rw [← hW12]; exact ballc (Below.refl _ _) _
  have y12 : Bx W12 W11.heap.size 54 #[.slice a11 L1.length c11, .int .i64 0] := by rw [← hW12]; exact Bx.new W11 _ _
  have HB12 := hide (bnext (bnext (unhide HB10) hb11) hb12)
  have hw12 := hide (((unhide hw10).below hb11).below hb12)
  have hxp : p < W11.heap.size := ((unhide hw10).below hb11).box.lt
  have hvx : ∀ i, v10.ownBlock = some i → i < W11.heap.size := fun i hi => (((unhide hw10).below hb11).row.lt i hi).2
  obtain ⟨x, hx⟩ : ∃ x, W11.heap.size = x := ⟨_, rfl⟩
  rw [hx] at y12 hxp hvx ⊢
  replace hvx := hide hvx
  have hYx : Y.heap.size ≤ x := by rw [← hx]; exact (bnext (unhide HB10) hb11).size
  have HP12 := hide (unhide HP2' W12 (.slice a11 L1.length c11) (unhide HB12) (hr11.below hb12))
  have u0 := y12.cell 0 _ rfl
  have u1 := y12.cell 1 _ rfl
  have hxl := y12.lt
  replace y12 := hide y12
  obtain ⟨⟨p0, p1, p2, p3, p4, p5, p6, p7, p8, p9, p10⟩, q0, q1, q2, q3, q4, q5, q6, q7, q8, q9, q10⟩ := unhide HCe W12 (unhide HB12)
  clear HX10 HB10 hb11 hb12 hr11 hw10 HP2'
  go_wp2_with fail
  refine (unhide HP12).mono ?_
  rintro r W13 ⟨v13, rfl, hr13, hb13⟩
  obtain ⟨a13, c13, rfl⟩ := hr13.form
  have HN13 := hide (refNumber_in W13 _ L2 0 7 hr13 (by omega) (by omega) (by omega))
  rw [wNum_pos L2 (by omega), hL3] at HN13
  try simp only at HN13
  have HB13 := hide (bnext (unhide HB12) hb13)
  have hw13 := hide ((unhide hw12).below hb13)
  have y13 := hide ((unhide y12).below hb13)
  have hx13 : x < W13.heap.size := (unhide y13).lt
  clear HP12 HB12 hw12 y12 hb13 hr13 u0 u1 hxl p0 p1 p2 p3 p4 p5 p6 p7 p8 p9 p10 q0 q1 q2 q3 q4 q5 q6 q7 q8 q9 q10
  go_wp2_with fail
  refine (unhide HN13).mono ?_
  rintro r W14 ⟨v14, rfl, -, ho14, -, hb14⟩
  have ho14 := ho14 (by trivial) (by omega)
  obtain ⟨a14, c14, rfl⟩ := owns_form ho14
  have y14 := (unhide y13).below hb14
  have u0 := y14.cell 0 _ rfl
  have u1 := y14.cell 1 _ rfl
  have f0 := y14.frozen 0
  have f1 := y14.frozen 1
  have hxl := y14.lt
  have HB14 := hide (bnext (unhide HB13) hb14)
  have hw14 := hide ((unhide hw13).below hb14)
  obtain ⟨Z, hZ⟩ : ∃ Z, (W14.setCell ⟨x, 0, none⟩ (.slice a14 L3.length c14)).setCell ⟨x, 1, none⟩ (.int .i64 0) = Z := ⟨_, rfl⟩
  have k1 := Kp.set (N := fun i => i = x) W14 ⟨x, 0, none⟩ (.slice a14 L3.length c14) rfl
  have k2 := Kp.set (N := fun i => i = x) (W14.setCell ⟨x, 0, none⟩ (.slice a14 L3.length c14)) ⟨x, 1, none⟩ (.int .i64 0) rfl
  have k := k1.trans k2 (fun i h => .inl h)
  rw [hZ] at k
  have yZ : Bx Z x 54 #[.slice a14 L3.length c14, .int .i64 0] := by
    rw [← hZ]
    have := (y14.set 0 (.slice a14 L3.length c14)).set 1 (.int .i64 0)
    simpa using this
  have HBZ := hide (k.below (unhide HB14) (fun i e => by omega))
  have hwZ := (unhide hw14).kp k (by omega) (fun i hi e => by have := unhide hvx i hi; omega)
  have hrZ := RC.of_owns (owns_kp ho14 k (fun i hi e => by have := (ho14.lt i hi).1; omega))
  clear k1 k2 k y14
  have HBZd : Hid (Below Z.heap.size Z Z.drew) := hide (Below.refl _ Z).drew
  have HCZ := hide (fun (W : World) (h : Below Z.heap.size Z W) => show ((W.cell? ⟨w.heap.size, 0, none⟩ = some (.int .i64 o.ds) ∧ W.cell? ⟨w.heap.size, 1, none⟩ = some (.int .i64 o.dq) ∧ W.cell? ⟨w.heap.size, 2, none⟩ = some (.slice ad o.deps.length cd) ∧ W.cell? ⟨w.heap.size, 3, none⟩ = some (.int .i64 o.kind) ∧ W.cell? ⟨w.heap.size, 4, none⟩ = some (.int .i64 o.it) ∧ W.cell? ⟨w.heap.size, 5, none⟩ = some (.int .i64 o.is) ∧ W.cell? ⟨w.heap.size, 6, none⟩ = some (.int .i64 o.rt) ∧ W.cell? ⟨w.heap.size, 7, none⟩ = some (.int .i64 o.rs) ∧ W.cell? ⟨w.heap.size, 8, none⟩ = some (.string o.text) ∧ W.cell? ⟨w.heap.size, 9, none⟩ = some (.slice ag o.gone.length cg) ∧ W.cell? ⟨w.heap.size, 10, none⟩ = some (.int .i64 o.site)) ∧ (W.cell? ⟨bt, 0, none⟩ = some (.int .i64 o.ds) ∧ W.cell? ⟨bt, 1, none⟩ = some (.int .i64 o.dq) ∧ W.cell? ⟨bt, 2, none⟩ = some (.slice (some ⟨gd, 0, none⟩) o.deps.length c1) ∧ W.cell? ⟨bt, 3, none⟩ = some (.int .i64 o.kind) ∧ W.cell? ⟨bt, 4, none⟩ = some (.int .i64 o.it) ∧ W.cell? ⟨bt, 5, none⟩ = some (.int .i64 o.is) ∧ W.cell? ⟨bt, 6, none⟩ = some (.int .i64 o.rt) ∧ W.cell? ⟨bt, 7, none⟩ = some (.int .i64 o.rs) ∧ W.cell? ⟨bt, 8, none⟩ = some (.string o.text) ∧ W.cell? ⟨bt, 9, none⟩ = some (.slice (some ⟨gg, 0, none⟩) o.gone.length c2) ∧ W.cell? ⟨bt, 10, none⟩ = some (.int .i64 o.site))) ∧ W.cell? ⟨x, 0, none⟩ = some (.slice a14 L3.length c14) ∧ W.cell? ⟨x, 1, none⟩ = some (.int .i64 0) from ⟨unhide HCe W (bnext (unhide HBZ) h), (yZ.below h).cell 0 _ rfl, (yZ.below h).cell 1 _ rfl⟩)
  have GD : Hid (∀ W : World, Hid (Below Z.heap.size Z W) → Calls Tryz.prog 23 #[.pointer (some ⟨p, 0, none⟩)] W fun r W' => ∃ a c, r = .returned (.slice a L3.length c) ∧ Hid (Below Z.heap.size Z W') ∧ Hid (RC W' (.slice a L3.length c) L3.length (bC L3)) ∧ W'.cell? ⟨x, 0, none⟩ = some (.slice a14 L3.length c14)) := hide (fun W h => (wData_in (hwZ.below (unhide h)) (by omega)).mono (by
    rintro r W' ⟨v', rfl, ho, hb⟩
    obtain ⟨a, c, rfl⟩ := owns_form ho
    have hb' := bnext (unhide h) hb
    exact ⟨a, c, rfl, hide hb', hide (RC.of_owns ho), (unhide HCZ W' hb').2.1⟩))
  have GB : Hid (∀ (W : World) (a : Option Addr) (c : Nat), Hid (Below Z.heap.size Z W) → Hid (RC W (.slice a L3.length c) L3.length (bC L3)) → Calls Tryz.prog 16 #[.slice a L3.length c, .slice a14 L3.length c14] W fun r W' => r = .returned (.bool true) ∧ Hid (Below Z.heap.size Z W') ∧ W'.cell? ⟨x, 1, none⟩ = some (.int .i64 0)) := hide (fun W a c h hr => (bytes_in L3 L3 _ _ W (unhide hr) (RC.below hrZ (unhide h)) (by omega) (by omega)).mono (by
    rintro r W' ⟨rfl, n, rfl⟩
    have hb' := bnext (unhide h) (bdrew (Below.refl _ _) n)
    exact ⟨by simp, hide hb', (unhide HCZ _ hb').2.2⟩))
  have GE : Hid (∀ W : World, Hid (Below Z.heap.size Z W) → Calls Tryz.prog 24 #[.pointer (some ⟨p, 0, none⟩)] W fun r W' => r = .returned (.int .i64 0) ∧ W' = W) := hide (fun W h => (wErr_in (hwZ.below (unhide h))).mono (by
    rintro r W' ⟨rfl, rfl⟩
    exact ⟨rfl, rfl⟩))
  have GS : Hid (∀ W : World, Hid (Below Z.heap.size Z W) → Calls Tryz.prog 13 #[.agg #[.int .i64 o.ds, .int .i64 o.dq, .slice (some ⟨gd, 0, none⟩) o.deps.length c1, .int .i64 o.kind, .int .i64 o.it, .int .i64 o.is, .int .i64 o.rt, .int .i64 o.rs, .string o.text, .slice (some ⟨gg, 0, none⟩) o.gone.length c2, .int .i64 o.site], .agg #[.int .i64 o.ds, .int .i64 o.dq, .slice ad o.deps.length cd, .int .i64 o.kind, .int .i64 o.it, .int .i64 o.is, .int .i64 o.rt, .int .i64 o.rs, .string o.text, .slice ag o.gone.length cg, .int .i64 o.site]] W fun r W' => r = .returned (.bool true) ∧ Hid (Below Z.heap.size Z W')) := hide (fun W h => (unhide HSt W (bnext (unhide HBZ) (unhide h))).mono (by
    rintro r W' ⟨rfl, hb⟩
    exact ⟨rfl, hide (bnext (unhide h) hb)⟩))
  have GK : Hid (∀ W : World, Hid (Below Z.heap.size Z W) → Calls Tryz.prog 7 #[] W fun r W' => r = .returned (.bool true) ∧ Hid (Below Z.heap.size Z W')) := hide (fun W h => (unhide HK W).mono (by
    rintro r W' ⟨rfl, hb⟩
    exact ⟨rfl, hide (bnext (unhide h) hb)⟩))
  have HFin := hide (fun (W : World) (h : Below Z.heap.size Z W) => bnext (bnext (unhide HBw) (unhide HBZ)) h)
  have GC := hide (fun (W : World) (h : Hid (Below Z.heap.size Z W)) => (unhide HCZ W (unhide h)).1)
  have v0 := yZ.cell 0 _ rfl
  have v1 := yZ.cell 1 _ rfl
  replace yZ := hide yZ
  replace hwZ := hide hwZ
  replace hrZ := hide hrZ
  replace ho14 := hide ho14
  clear HN13 HB13 hw13 y13 hb14 HB14 hw14 HCe HSt HK HBw HBZ HCZ HO Hrl hT1 yZ hwZ hrZ ho14
  go_upto_region 14 with fail
  go_region_with (first
    | (go_at_call 23; refine (unhide GD _ (by assumption)).mono ?_; rintro r Wd ⟨ax, cx, rfl, hbd, hrd, v0'⟩)
    | (go_at_call 16; refine (unhide GB _ _ _ (by assumption) (by assumption)).mono ?_; rintro r Wb ⟨rfl, hbb, v1'⟩)
    | (go_at_call 24; refine (unhide GE _ (by assumption)).mono ?_; rintro r We ⟨rfl, rfl⟩; obtain ⟨⟨p0, p1, p2, p3, p4, p5, p6, p7, p8, p9, p10⟩, q0, q1, q2, q3, q4, q5, q6, q7, q8, q9, q10⟩ := unhide GC _ (by assumption))
    | (go_at_call 13; refine (unhide GS _ (by assumption)).mono ?_; rintro r Ws ⟨rfl, hbs⟩)
    | (go_at_call 7; refine (unhide GK _ (by assumption)).mono ?_; rintro r Wk ⟨rfl, hbk⟩))
  all_goals (go_wp2; go_ret; exact ⟨rfl, unhide HFin _ (unhide hbk)⟩)

theorem own : ownKnob Tryz.prog.godebug = none := by kernel_rfl
theorem laidOut2 : laidOutB Tryz.prog = true := by kernel_rfl

set_option maxRecDepth 100000 in
theorem lifted (os : Os) (started : os.Started) (H : Type) (enc : TypeId × Value → H) :
    ReturnsInHanded {} Tryz.checked os 4 .any (Rows.opEncodesSpec.pre6 enc Tryz.prog Tryz.f4 Rows.opEncodesRow.domain false) (Rows.opEncodesSpec.post enc Tryz.prog Tryz.f4 false true false false) := by
  refine returnsInHanded_of_change (C := Tryz.checked) own started (by kernel_rfl) Tryz.func4
    (ChangeSpec.witness6 (enc := enc) (C := Tryz.checked) false ⟨#[], #[.agg #[.int .i64 0, .int .i64 0, .slice none 0 0, .int .i64 0, .int .i64 0, .int .i64 0, .int .i64 0, .int .i64 0, .string ByteArray.empty, .slice none 0 0, .int .i64 0], .string ByteArray.empty], []⟩ 8 (by kernel_rfl) (by kernel_rfl) (by kernel_rfl) (by kernel_rfl)) ?_
  intro W base args ds gs before hval0 hW hcnd _
  have hval : ∀ (j : Nat) t v, Tryz.f4.params[j]? = some t → args[j]? = some v → Value.okWide Tryz.prog W .any base t v := hval0
  have hW' := hW
  obtain ⟨p, q, hA0, hV, rfl, hfz, hnd⟩ := hW
  have hA : DataW.TrodAll enc Tryz.prog W 0 (fun _ => true) true Tryz.f4.params.toList args.toList ds p := hA0
  rw [Tryz.params4] at hA hval
  obtain ⟨v0, vs0, d0, ds0, p0, q0, hargs, rfl, rfl, h0, r0⟩ := trodAll_cons hA
  obtain ⟨v1, vs1, d1, ds1, p1, q1, rfl, rfl, rfl, h1, r1⟩ := trodAll_cons r0
  obtain ⟨rfl, rfl, rfl⟩ := trodAll_nil r1
  obtain rfl : args = #[v0, v1] := by cases args; simp_all
  obtain ⟨rfl, rfl⟩ := trodVars_none hV
  have k0 := h0
  have lt0 : ∀ x ∈ p0, x.block < W.heap.size := by obtain ⟨m, hm⟩ := k0; exact DataW.trod_lt m _ _ _ hm
  obtain ⟨o0, ad0, ag0, cd0, cg0, rfl, w0⟩ := open_op (hval 0 30 v0 rfl rfl) h0
  obtain ⟨a1, rfl, rfl, rfl, w1⟩ := open_string Tryz.underlying9 (hval 1 9 v1 rfl rfl) h1
  clear hA0 hval0
  refine (walk o0 ad0 ag0 cd0 cg0 a1 W w0 w1).mono fun e W' ⟨he, bel⟩ => ?_
  subst he
  exact ⟨_, rfl, _, _, _, [], _, [], hW', trodAll_mk1 (shut_bool Tryz.underlying4 _), (trodAll_cons_mk (Below.trod laidOut2 (by kernel_rfl) (of_decide_eq_true (by kernel_rfl)) k0 bel lt0) (trodAll_cons_mk (shut_string Tryz.underlying9 w1) trodAll_mk0)), rfl, bel.frame _, fun h => by cases h⟩

theorem over : Rows.opEncodesRow.holds Tryz.pinned (OpenSpec.ofChange Rows.opEncodesSpec) :=
  OpenClaim.holds_of_wide 4 Tryz.f4 rfl rfl rfl rfl rfl rfl rfl ⟨rfl, rfl, rfl, rfl, rfl⟩ rfl rfl rfl rfl rfl (by kernel_rfl) Tryz.func4 (by kernel_rfl)
    (of_decide_eq_true (by kernel_rfl)) (by unfold Func.isWrapper; first | (rw [if_pos (by decide +kernel)]; kernel_rfl) | (rw [if_neg (by decide +kernel)]; exact ⟨rfl, rfl⟩))
    (fun os started H enc _ => lifted os started H enc)

end LOpEncodes

theorem opEncodes_holds : Rows.OpEncodesSaid := LOpEncodes.over

end Go.Proofs.YtfkdpkckbmbmdaaGreat
