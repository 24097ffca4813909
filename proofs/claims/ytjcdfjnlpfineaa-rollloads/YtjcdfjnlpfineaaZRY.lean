/-
  alike; a pair in new memory, two pairs.
-/
import Derived.Test.YtjcdfjnlpfineaaZRX
set_option linter.unusedSimpArgs false
set_option linter.unusedVariables false
namespace Go.Proofs.Ytjcdfjnlpfineaa
open Go.RowKit Go.Lib
variable {w W W' : World} {b r b' r' : Nat} {s s' : St}

set_option maxRecDepth 100000 in
set_option maxHeartbeats 8000000 in
theorem alike_in (h : RB w b s) (hd : DB w r s) (hg : Gd s) : Calls Try.prog 13 #[.pointer (some ⟨b, 0, none⟩), .pointer (some ⟨r, 0, none⟩)] w fun e W => e = .returned (.bool true) ∧ Below w.heap.size w W := by
  have A1 := hide (fun X (hX : Below w.heap.size w X) (n : Int) => Has_in (h.below hX) n)
  have A2 := hide (fun X (hX : Below w.heap.size w X) (n : Int) => rHas_in (hd.below hX) n)
  have A3 := hide (fun X (hX : Below w.heap.size w X) (n : Int) => Known_in (h.below hX) n)
  have A4 := hide (fun X (hX : Below w.heap.size w X) (n : Int) => rKnown_in (hd.below hX) n)
  have M1 := hide (fun X (hX : Below w.heap.size w X) => Members_in (h.below hX) hg)
  have M2 := hide (fun X (hX : Below w.heap.size w X) => rMembers_in (hd.below hX))
  have J1 := hide (fun X (hX : Below w.heap.size w X) => Joined_in (h.below hX) hg)
  have J2 := hide (fun X (hX : Below w.heap.size w X) => rJoined_in (hd.below hX))
  have L1 := hide (fun X (hX : Below w.heap.size w X) => Left_in (h.below hX) hg)
  have L2 := hide (fun X (hX : Below w.heap.size w X) => rLeft_in (hd.below hX))
  have E1 := hide (fun X (hX : Below w.heap.size w X) => Epoch_in (h.below hX))
  have E2 := hide (fun X (hX : Below w.heap.size w X) => rEpoch_in (hd.below hX))
  clear h hd hg
  unfold Told at M1 M2 J1 J2 L1 L2
  have TI := hide (fun (q : Wd) (X : World) (a a' : Option Addr) (c c' : Nat) (o : RN X (.slice a (lsW q).length c) (lsW q)) (o' : RN X (.slice a' (lsW q).length c') (lsW q)) => told_ints o o')
  have T1 := hide (unhide TI s.m)
  have T2 := hide (unhide TI s.j)
  have T3 := hide (unhide TI s.l)
  obtain ⟨nm, hnm⟩ : ∃ n, (lsW s.m).length = n := ⟨_, rfl⟩
  obtain ⟨nj, hnj⟩ : ∃ n, (lsW s.j).length = n := ⟨_, rfl⟩
  obtain ⟨nl, hnl⟩ : ∃ n, (lsW s.l).length = n := ⟨_, rfl⟩
  rw [hnm, decide_eq_true rfl] at T1
  rw [hnj, decide_eq_true rfl] at T2
  rw [hnl, decide_eq_true rfl] at T3
  rw [hnm] at M1 M2
  rw [hnj] at J1 J2
  rw [hnl] at L1 L2
  clear TI hnm hnj hnl
  have hee : (s.e == s.e) = true := by simp
  go_enter Try.func13, Try.ntmps13
  go_wp2
  go_loopw [5] (fun iv wr => ∃ n : Int, iv = .int .i64 n ∧ -1 ≤ n ∧ n ≤ 18 ∧ Hid (Below w.heap.size w wr)) (fun iv _ => (18 - RowKit.intOf iv).toNat)
  case atStart => exact ⟨-1, rfl, by omega, by omega, hide (Below.refl _ _)⟩
  case round =>
    obtain ⟨n, rfl, hn1, hn2, HB⟩ := hrel
    by_cases hlt : n ≤ 17
    · have P1 := hide (unhide A1 _ (unhide HB) n)
      have P2 := hide (fun X hX => unhide A2 X hX n)
      have P3 := hide (fun X hX => unhide A3 X hX n)
      have P4 := hide (fun X hX => unhide A4 X hX n)
      generalize hasB s n = p at *
      generalize knwB s n = q at *
      have hp : (p != p) = false := by simp
      have hq : (q != q) = false := by simp
      clear A1 A2 A3 A4 M1 M2 J1 J2 L1 L2 E1 E2 T1 T2 T3
      go_wp2_with fail
      refine (unhide P1).mono ?_
      rintro e W1 ⟨rfl, b1⟩
      have B1 := hide (bnext (unhide HB) b1)
      clear b1
      go_wp2_with fail
      refine (unhide P2 _ (unhide B1)).mono ?_
      rintro e W1' ⟨rfl, rfl⟩
      go_wp2_with fail
      refine (unhide P3 _ (unhide B1)).mono ?_
      rintro e W2 ⟨rfl, b2⟩
      have B2 := hide (bnext (unhide B1) b2)
      clear b2
      go_wp2_with fail
      refine (unhide P4 _ (unhide B2)).mono ?_
      rintro e W2' ⟨rfl, rfl⟩
      go_wp2
      go_roundw
      case rel => exact ⟨n + 1, by go_num, by omega, by omega, B2⟩
      case measure => show (18 - (n + 1)).toNat < (18 - n).toNat; omega
    · clear A1 A2 A3 A4
      go_wp2_with fail
      refine (unhide M1 _ (unhide HB)).mono ?_
      rintro e W1 ⟨a1, c1, rfl, o1, b1⟩
      have B1 := hide (bnext (unhide HB) b1)
      have O1 := hide (OwN.row o1)
      clear M1 b1 o1
      go_wp2_with fail
      refine (unhide M2 _ (unhide B1)).mono ?_
      rintro e W2 ⟨a2, c2, rfl, o2, b2⟩
      have B2 := hide (bnext (unhide B1) b2)
      have HI := hide (unhide T1 W2 a1 a2 c1 c2 ((unhide O1).below b2) (OwN.row o2))
      clear M2 b2 o2 O1 B1 T1
      go_wp2_with fail
      refine (unhide HI).mono ?_
      rintro e W3 ⟨rfl, b3⟩
      have B3 := hide (bnext (unhide B2) b3)
      clear b3 B2 HI
      go_wp2_with fail
      refine (unhide J1 _ (unhide B3)).mono ?_
      rintro e W4 ⟨a4, c4, rfl, o4, b4⟩
      have B4 := hide (bnext (unhide B3) b4)
      have O4 := hide (OwN.row o4)
      clear J1 b4 o4 B3
      go_wp2_with fail
      refine (unhide J2 _ (unhide B4)).mono ?_
      rintro e W5 ⟨a5, c5, rfl, o5, b5⟩
      have B5 := hide (bnext (unhide B4) b5)
      have HI := hide (unhide T2 W5 a4 a5 c4 c5 ((unhide O4).below b5) (OwN.row o5))
      clear J2 b5 o5 O4 B4 T2
      go_wp2_with fail
      refine (unhide HI).mono ?_
      rintro e W6 ⟨rfl, b6⟩
      have B6 := hide (bnext (unhide B5) b6)
      clear b6 B5 HI
      go_wp2_with fail
      refine (unhide L1 _ (unhide B6)).mono ?_
      rintro e W7 ⟨a7, c7, rfl, o7, b7⟩
      have B7 := hide (bnext (unhide B6) b7)
      have O7 := hide (OwN.row o7)
      clear L1 b7 o7 B6
      go_wp2_with fail
      refine (unhide L2 _ (unhide B7)).mono ?_
      rintro e W8 ⟨a8, c8, rfl, o8, b8⟩
      have B8 := hide (bnext (unhide B7) b8)
      have HI := hide (unhide T3 W8 a7 a8 c7 c8 ((unhide O7).below b8) (OwN.row o8))
      clear L2 b8 o8 O7 B7 T3
      go_wp2_with fail
      refine (unhide HI).mono ?_
      rintro e W9 ⟨rfl, b9⟩
      have B9 := hide (bnext (unhide B8) b9)
      clear b9 B8 HI
      go_wp2_with fail
      refine (unhide E1 _ (unhide B9)).mono ?_
      rintro e W9' ⟨rfl, rfl⟩
      go_wp2_with fail
      refine (unhide E2 _ (unhide B9)).mono ?_
      rintro e W9' ⟨rfl, rfl⟩
      go_wp2
      go_ret
      exact ⟨rfl, unhide B9⟩

/-- a pair in new memory -/
structure PJ (w W : World) (b r : Nat) (s : St) : Prop where
  rb : RB W b s
  db : DB W r s
  gd : Gd s
  lb : w.heap.size ≤ b
  lr : w.heap.size ≤ r
  ne : b ≠ r
  bel : Below w.heap.size w W
theorem PJ.below (h : PJ w W b r s) (hb : Below W.heap.size W W') : PJ w W' b r s := ⟨h.rb.below hb, h.db.below hb, h.gd, h.lb, h.lr, h.ne, bnext h.bel hb⟩
theorem PJ.step (h : PJ w W b r s) (x : Stp) : Calls Try.prog 12 #[.pointer (some ⟨b, 0, none⟩), .pointer (some ⟨r, 0, none⟩), .agg #[.bool x.lv, .int .i64 x.site]] W fun e W' => e = .returned (.bool true) ∧ PJ w W' b r (doS s x) := (step_in h.rb h.db h.gd h.ne x).mono fun e W' ⟨h1, h2, h3, h4⟩ => ⟨h1, h2, h3, h.gd.doS x, h.lb, h.lr, h.ne, h4.below h.bel (fun i hi => by have := h.lb; have := h.lr; omega)⟩
theorem PJ.alike (h : PJ w W b r s) : Calls Try.prog 13 #[.pointer (some ⟨b, 0, none⟩), .pointer (some ⟨r, 0, none⟩)] W fun e W' => e = .returned (.bool true) ∧ PJ w W' b r s := (alike_in h.rb h.db h.gd).mono fun e W' ⟨h1, h2⟩ => ⟨h1, h.below h2⟩
/-- two pairs in new memory -/
structure P4 (w W : World) (b r : Nat) (s : St) (b' r' : Nat) (s' : St) : Prop where
  one : PJ w W b r s
  two : PJ w W b' r' s'
  n1 : b ≠ b'
  n2 : b ≠ r'
  n3 : r ≠ b'
  n4 : r ≠ r'
theorem P4.swap (h : P4 w W b r s b' r' s') : P4 w W b' r' s' b r s := ⟨h.two, h.one, h.n1.symm, h.n3.symm, h.n2.symm, h.n4.symm⟩
theorem P4.below (h : P4 w W b r s b' r' s') (hb : Below W.heap.size W W') : P4 w W' b r s b' r' s' := ⟨h.one.below hb, h.two.below hb, h.n1, h.n2, h.n3, h.n4⟩
theorem P4.step (h : P4 w W b r s b' r' s') (x : Stp) : Calls Try.prog 12 #[.pointer (some ⟨b, 0, none⟩), .pointer (some ⟨r, 0, none⟩), .agg #[.bool x.lv, .int .i64 x.site]] W fun e W' => e = .returned (.bool true) ∧ P4 w W' b r (doS s x) b' r' s' := (step_in h.one.rb h.one.db h.one.gd h.one.ne x).mono fun e W' ⟨h1, h2, h3, h4⟩ => by
  have hb := h4.below h.one.bel (fun i hi => by have := h.one.lb; have := h.one.lr; omega)
  exact ⟨h1, ⟨h2, h3, h.one.gd.doS x, h.one.lb, h.one.lr, h.one.ne, hb⟩, ⟨h.two.rb.kp h4 (fun e => e.elim h.n1.symm h.n3.symm), h.two.db.kp h4 (fun e => e.elim h.n2.symm h.n4.symm), h.two.gd, h.two.lb, h.two.lr, h.two.ne, hb⟩, h.n1, h.n2, h.n3, h.n4⟩

end Go.Proofs.Ytjcdfjnlpfineaa
