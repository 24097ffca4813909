/-
  The law's do and same; what the document fixes.
-/
import Derived.Test.YtjcdfjnlpfineaaZRK
set_option linter.unusedSimpArgs false
set_option linter.unusedVariables false
namespace Go.Proofs.Ytjcdfjnlpfineaa
open Go.RowKit Go.Lib
variable {w W W' : World} {b b' : Nat} {s s' : St}

/-- a call -/
structure Stp where
  lv : Bool
  site : Int
def doS (s : St) (x : Stp) : St := if x.lv then lvS s x.site else joS s x.site
def doB (s : St) (x : Stp) : Bool := if x.lv then lvB s x.site else joB s x.site
theorem Gd.doS (h : Gd s) (x : Stp) : Gd (doS s x) := by
  unfold Go.Proofs.Ytjcdfjnlpfineaa.doS
  split
  · exact h.lv _
  · exact h.jo _
set_option maxRecDepth 100000 in
set_option maxHeartbeats 2000000 in
theorem do_in (h : RB w b s) (hg : Gd s) (x : Stp) : Calls Try.prog 28 #[.pointer (some ⟨b, 0, none⟩), .agg #[.bool x.lv, .int .i64 x.site]] w fun e W => e = .returned (.bool (doB s x)) ∧ RB W b (doS s x) ∧ Kp (fun i => i = b) w W := by
  obtain ⟨lv, site⟩ := x
  obtain ⟨X, hX⟩ : ∃ X, w.alloc (.cells #[.bool lv, .int .i64 site] 30) = X := ⟨_, rfl⟩
  have bX : Below w.heap.size w X := by rw [← hX]; exact ballc (Below.refl _ _) _
  have xX : Bx X w.heap.size 30 #[.bool lv, .int .i64 site] := by rw [← hX]; exact Bx.new _ _ _
  have c0 : X.cell? ⟨w.heap.size, 0, none⟩ = some (.bool lv) := xX.cell 0 _ rfl
  have c1 : X.cell? ⟨w.heap.size, 1, none⟩ = some (.int .i64 site) := xX.cell 1 _ rfl
  have lX := xX.lt
  have HB := hide bX
  unfold doB doS
  cases lv with
  | true =>
    simp only [if_true]
    have H1 := hide (Leave_in (h.below bX) hg site)
    generalize lvB s site = R at *
    generalize lvS s site = S' at *
    clear h hg bX xX
    go_enter Try.func28, Try.ntmps28
    go_wp2_with fail
    refine (unhide H1).mono ?_
    rintro e W1 ⟨rfl, r1, k1⟩
    have r1' := hide r1
    have k1' := hide ((Kp.of_below (unhide HB)).trans k1 (fun i hi => .inl hi))
    clear r1 k1
    go_wp2
    go_ret
    exact ⟨rfl, unhide r1', unhide k1'⟩
  | false =>
    simp only [Bool.false_eq_true, if_false]
    have H1 := hide (Join_in (h.below bX) hg site)
    generalize joB s site = R at *
    generalize joS s site = S' at *
    clear h hg bX xX
    go_enter Try.func28, Try.ntmps28
    go_wp2_with fail
    refine (unhide H1).mono ?_
    rintro e W1 ⟨rfl, r1, k1⟩
    have r1' := hide r1
    have k1' := hide ((Kp.of_below (unhide HB)).trans k1 (fun i hi => .inl hi))
    clear r1 k1
    go_wp2
    go_ret
    exact ⟨rfl, unhide r1', unhide k1'⟩

theorem lsW_small (m : Wd) : (lsW m).length ≤ 1000000 := by have := lsW_len m; omega
/-- two lists that were told are held against each other -/
theorem told_ints {m m' : Wd} {a a' : Option Addr} {c c' : Nat} (o : RN W (.slice a (lsW m).length c) (lsW m)) (o' : RN W (.slice a' (lsW m').length c') (lsW m')) : Calls Try.prog 20 #[.slice a (lsW m).length c, .slice a' (lsW m').length c'] W fun e W' => e = .returned (.bool (decide (lsW m = lsW m'))) ∧ Below W.heap.size W W' := ints_in _ _ _ _ W o o' (lsW_small m) (lsW_small m')
set_option maxRecDepth 100000 in
set_option maxHeartbeats 4000000 in
theorem same_in (h : RB w b s) (hg : Gd s) (h' : RB w b' s') (hg' : Gd s') (ej : s.j = s'.j) (el : s.l = s'.l) : Calls Try.prog 29 #[.pointer (some ⟨b, 0, none⟩), .pointer (some ⟨b', 0, none⟩)] w fun e W => e = .returned (.bool true) ∧ Below w.heap.size w W := by
  have M1 := hide (fun X (hX : Below w.heap.size w X) => Members_in (h.below hX) hg)
  have M2 := hide (fun X (hX : Below w.heap.size w X) => Members_in (h'.below hX) hg')
  have J1 := hide (fun X (hX : Below w.heap.size w X) => Joined_in (h.below hX) hg)
  have J2 := hide (fun X (hX : Below w.heap.size w X) => Joined_in (h'.below hX) hg')
  have L1 := hide (fun X (hX : Below w.heap.size w X) => Left_in (h.below hX) hg)
  have L2 := hide (fun X (hX : Below w.heap.size w X) => Left_in (h'.below hX) hg')
  have em : s'.m = s.m := by unfold St.m; rw [ej, el]
  rw [em] at M2
  rw [← ej] at J2
  rw [← el] at L2
  generalize s.m = m at *
  generalize s.j = j at *
  generalize s.l = l at *
  clear h hg h' hg' ej el em
  unfold Told at M1 M2 J1 J2 L1 L2
  have TI := hide (fun (q : Wd) (X : World) (a a' : Option Addr) (c c' : Nat) (o : RN X (.slice a (lsW q).length c) (lsW q)) (o' : RN X (.slice a' (lsW q).length c') (lsW q)) => told_ints o o')
  obtain ⟨nm, hnm⟩ : ∃ n, (lsW m).length = n := ⟨_, rfl⟩
  obtain ⟨nj, hnj⟩ : ∃ n, (lsW j).length = n := ⟨_, rfl⟩
  obtain ⟨nl, hnl⟩ : ∃ n, (lsW l).length = n := ⟨_, rfl⟩
  have T1 := hide (unhide TI m)
  have T2 := hide (unhide TI j)
  have T3 := hide (unhide TI l)
  rw [hnm, decide_eq_true rfl] at T1
  rw [hnj, decide_eq_true rfl] at T2
  rw [hnl, decide_eq_true rfl] at T3
  rw [hnm] at M1 M2
  rw [hnj] at J1 J2
  rw [hnl] at L1 L2
  clear TI hnm hnj hnl
  go_enter Try.func29, Try.ntmps29
  go_wp2_with fail
  refine (unhide M1 _ (Below.refl _ _)).mono ?_
  rintro e W1 ⟨a1, c1, rfl, o1, b1⟩
  have B1 := hide b1
  have O1 := hide (OwN.row o1)
  clear M1 b1 o1
  go_wp2_with fail
  refine (unhide M2 _ (unhide B1)).mono ?_
  rintro e W2 ⟨a2, c2, rfl, o2, b2⟩
  have B2 := hide (bnext (unhide B1) b2)
  have HI := hide (unhide T1 W2 a1 a2 c1 c2 ((unhide O1).below b2) (OwN.row o2))
  clear M2 b2 o2 O1 B1 T1
  go_wp2_with fail
  refine (unhide HI).mono ?_
  rintro e W3 ⟨rfl, b3⟩
  have B3 := hide (bnext (unhide B2) b3)
  clear b3 B2 HI
  go_wp2_with fail
  refine (unhide J1 _ (unhide B3)).mono ?_
  rintro e W4 ⟨a4, c4, rfl, o4, b4⟩
  have B4 := hide (bnext (unhide B3) b4)
  have O4 := hide (OwN.row o4)
  clear J1 b4 o4 B3
  go_wp2_with fail
  refine (unhide J2 _ (unhide B4)).mono ?_
  rintro e W5 ⟨a5, c5, rfl, o5, b5⟩
  have B5 := hide (bnext (unhide B4) b5)
  have HI := hide (unhide T2 W5 a4 a5 c4 c5 ((unhide O4).below b5) (OwN.row o5))
  clear J2 b5 o5 O4 B4 T2
  go_wp2_with fail
  refine (unhide HI).mono ?_
  rintro e W6 ⟨rfl, b6⟩
  have B6 := hide (bnext (unhide B5) b6)
  clear b6 B5 HI
  go_wp2_with fail
  refine (unhide L1 _ (unhide B6)).mono ?_
  rintro e W7 ⟨a7, c7, rfl, o7, b7⟩
  have B7 := hide (bnext (unhide B6) b7)
  have O7 := hide (OwN.row o7)
  clear L1 b7 o7 B6
  go_wp2_with fail
  refine (unhide L2 _ (unhide B7)).mono ?_
  rintro e W8 ⟨a8, c8, rfl, o8, b8⟩
  have B8 := hide (bnext (unhide B7) b8)
  have HI := hide (unhide T3 W8 a7 a8 c7 c8 ((unhide O7).below b8) (OwN.row o8))
  clear L2 b8 o8 O7 B7 T3
  go_wp2_with fail
  refine (unhide HI).mono ?_
  rintro e W9 ⟨rfl, b9⟩
  have B9 := hide (bnext (unhide B8) b9)
  clear b9 B8 HI
  go_wp2
  go_ret
  exact ⟨rfl, unhide B9⟩

/-- a Roll in new memory -/
structure KR (w W : World) (b : Nat) (s : St) : Prop where
  rb : RB W b s
  gd : Gd s
  lo : w.heap.size ≤ b
  bel : Below w.heap.size w W
theorem KR.below (h : KR w W b s) (hb : Below W.heap.size W W') : KR w W' b s := ⟨h.rb.below hb, h.gd, h.lo, bnext h.bel hb⟩
theorem KR.join (h : KR w W b s) (x : Int) : Calls Try.prog 21 #[.pointer (some ⟨b, 0, none⟩), .int .i64 x] W fun e W' => e = .returned (.bool (joB s x)) ∧ KR w W' b (joS s x) := (Join_in h.rb h.gd x).mono fun e W' ⟨h1, h2, h3⟩ => ⟨h1, h2, h.gd.jo x, h.lo, h3.below h.bel (fun i e => by have := h.lo; omega)⟩
theorem KR.leave (h : KR w W b s) (x : Int) : Calls Try.prog 22 #[.pointer (some ⟨b, 0, none⟩), .int .i64 x] W fun e W' => e = .returned (.bool (lvB s x)) ∧ KR w W' b (lvS s x) := (Leave_in h.rb h.gd x).mono fun e W' ⟨h1, h2, h3⟩ => ⟨h1, h2, h.gd.lv x, h.lo, h3.below h.bel (fun i e => by have := h.lo; omega)⟩
theorem KR.do (h : KR w W b s) (x : Stp) : Calls Try.prog 28 #[.pointer (some ⟨b, 0, none⟩), .agg #[.bool x.lv, .int .i64 x.site]] W fun e W' => e = .returned (.bool (doB s x)) ∧ KR w W' b (doS s x) := (do_in h.rb h.gd x).mono fun e W' ⟨h1, h2, h3⟩ => ⟨h1, h2, h.gd.doS x, h.lo, h3.below h.bel (fun i e => by have := h.lo; omega)⟩
theorem KR.new (w : World) : Calls Try.prog 10 #[] w fun e W => e = .returned (.pointer (some ⟨w.heap.size, 0, none⟩)) ∧ KR w W w.heap.size nilS := (New_in w).mono fun e W' ⟨h1, h2, h3⟩ => ⟨h1, h2, Gd.nil, Nat.le_refl _, h3⟩

end Go.Proofs.Ytjcdfjnlpfineaa
