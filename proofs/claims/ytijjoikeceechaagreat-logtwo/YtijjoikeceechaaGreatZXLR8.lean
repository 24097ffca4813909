/-
  The law's step, alike and all.
-/
import Derived.Test.YtijjoikeceechaaGreatZXLS
import Derived.Test.YtijjoikeceechaaGreatZXLT
import Derived.Deep.RegionHeld3

set_option linter.unusedSimpArgs false
set_option linter.unusedVariables false
namespace Go.Proofs.YtijjoikeceechaaGreat
open Go.RowKit Go.Lib

theorem step_in {w W : World} {P R : Nat → Prop} {b : Nat} {B H : List (Int × Int)} {O : List Opn} (h : LL P W b B H O) (hP : ∀ i, P i → w.heap.size ≤ i ∧ i < W.heap.size) (hw : Below w.heap.size w W) (x : Value) (hx : LN R W x B O) (hR : ∀ i, R i → i < W.heap.size ∧ ¬ P i) (hRw : ∀ i, i < w.heap.size → R i) (hST : ST B H O) (hn : O.length ≤ 200) (s : Stp) (hs : StW w s) (h1 : s.op.deps.length ≤ 60000) (h2 : s.op.gone.length ≤ 60000) (h3 : s.op.text.size ≤ 60000) (h4 : s.vec.length ≤ 60000) :
    Calls Tryz.prog 11 #[.pointer (some ⟨b, 0, none⟩), x, stA s] W (StA W P R b (doB s B H) (doH s H) (doO s H O)) := by
  by_cases k1 : s.kind = 1
  · exact step_add h hP hw x hx hR hRw hST hn s hs h1 h2 h3 h4 k1
  by_cases k2 : s.kind = 2
  · exact step_beyond h hP hw x hx hR hRw hST hn s hs h1 h2 h3 h4 k2
  by_cases k3 : s.kind = 3
  · exact step_cut h hP hw x hx hR hRw hST hn s hs h1 h2 h3 h4 k3
  · exact step_else h hP hw x hx hR hRw hST hn s hs h1 h2 h3 h4 ⟨k1, k2, k3⟩

theorem vect_in {l : List (Int × Int)} {V : World} {u u' : Value} (h : RI V u l) (h' : RI V u' l) (hl : l.length ≤ 1000000) : Calls Tryz.prog 10 #[u, u'] V fun e V' => e = .returned (.bool true) ∧ Below V.heap.size V V' := by
  refine (vectors_in l l _ _ V h h' (by omega) (by omega)).mono ?_
  rintro e V' ⟨rfl, n, rfl⟩
  exact ⟨by rw [decide_eq_true rfl], bdrew (Below.refl _ _) _⟩

set_option maxRecDepth 100000 in
set_option maxHeartbeats 8000000 in
theorem alike_in {W : World} {P R : Nat → Prop} {b : Nat} {B H : List (Int × Int)} {O : List Opn} (h : LL P W b B H O) (x : Value) (hx : LN R W x B O) (hST : ST B H O) (hn : O.length ≤ 200) :
    Calls Tryz.prog 12 #[.pointer (some ⟨b, 0, none⟩), x] W fun e W' => e = .returned (.bool true) ∧ Below W.heap.size W W' := by
  obtain ⟨ab, cb, vo, rfl, hB, qB, hO⟩ := hx
  obtain ⟨ao, co, rfl⟩ := rn_form hO
  have lB := ck_len hST.nb
  have lH := ck_len hST.nh
  obtain ⟨X, hX⟩ : ∃ X, W.alloc (.cells #[.slice ab B.length cb, .slice ao O.length co] 35) = X := ⟨_, rfl⟩
  have bX : Below W.heap.size W X := by rw [← hX]; exact ballc (Below.refl _ _) _
  have xX : Bx X W.heap.size 35 #[.slice ab B.length cb, .slice ao O.length co] := by rw [← hX]; exact Bx.new W _ _
  have c0 := xX.cell 0 _ rfl
  have c1 := xX.cell 1 _ rfl
  have hb0 : Hid (Below X.heap.size X X.drew) := hide (Below.refl _ _).drew
  have HBa := hide (fun (V : World) (hb : Hid (Below X.heap.size X V)) => Base_in ((h.below bX).below (unhide hb)))
  have HVe := hide (fun (V : World) (hb : Hid (Below X.heap.size X V)) => Vector_in ((h.below bX).below (unhide hb)))
  have HLe := hide (fun (V : World) (hb : Hid (Below X.heap.size X V)) => Len_in ((h.below bX).below (unhide hb)))
  have HRV := hide (fun (V : World) (hb : Hid (Below X.heap.size X V)) => refVector_in _ _ B O V ((hB.below bX).below (unhide hb)) ((hO.below bX).below (unhide hb)) (by omega) (by omega))
  rw [hST.rvec] at HRV
  have HV1 := hide (fun (V : World) (u : Value) (hu : RI V u B) (hb : Hid (Below X.heap.size X V)) => vect_in hu ((hB.below bX).below (unhide hb)) (by omega))
  have HV2 := hide (fun (V : World) (u u' : Value) (hu : RI V u H) (hu' : RI V u' H) => vect_in hu hu' (by omega))
  have B0 := hide bX
  clear h hB qB hO hST bX xX
  go_enter Tryz.func12, Tryz.ntmps12
  go_wp2_with fail
  go_region_held3 (fun w' => w'.cell? ⟨W.heap.size, 0, none⟩ = some (.slice ab B.length cb) ∧ w'.cell? ⟨W.heap.size, 1, none⟩ = some (.slice ao O.length co) ∧ Hid (Below X.heap.size X w'))
    (first
      | (exact ⟨c0, c1, hb0⟩)
      | (go_split_ands
         exact ⟨cell_below (by assumption) hb, cell_below (by assumption) hb, hide (bnext (unhide (by assumption)) hb)⟩)
      | go_keep)
    (first
      | (go_split_ands; go_at_call 25; refine (unhide HBa _ (by assumption)).mono ?_; rintro e w1 ⟨v1, rfl, o1, hb⟩; obtain ⟨a1, c1, hv1⟩ := o1.form; subst hv1; have r1 := hide o1.row; clear o1)
      | (go_split_ands; go_at_call 36; refine (unhide HVe _ (by assumption)).mono ?_; rintro e w3 ⟨v3, rfl, o3, hb⟩; obtain ⟨a3, c3, hv3⟩ := o3.form; subst hv3; have r3 := hide o3.row; clear o3)
      | (go_split_ands; go_at_call 24; refine (unhide HLe _ (by assumption)).mono ?_; rintro e w6 ⟨rfl, hw6⟩; subst hw6; have hb := Below.refl w5.heap.size w5)
      | (go_split_ands; go_at_call 37; refine (unhide HRV _ (by assumption)).mono ?_; rintro e w4 ⟨v4, rfl, o4, hb⟩; obtain ⟨a4, c4, hv4⟩ := o4.form; subst hv4; have r4 := hide o4.row; have r3' := hide ((unhide r3).below hb); clear o4)
      | (go_split_ands; go_at_call 10; refine (unhide HV2 _ _ _ (unhide r3') (unhide r4)).mono ?_; rintro e w5 ⟨rfl, hb⟩)
      | (go_split_ands; go_at_call 10; refine (unhide HV1 _ _ (unhide r1) (by assumption)).mono ?_; rintro e w2 ⟨rfl, hb⟩))
  go_split_ands
  have HB := hide (bnext (unhide B0) (unhide (by assumption : Hid (Below X.heap.size X _))))
  go_wp2
  go_ret
  exact ⟨rfl, unhide HB⟩

set_option maxRecDepth 100000 in
set_option maxHeartbeats 8000000 in
theorem allP_in {w W : World} {P R : Nat → Prop} {b : Nat} {B H : List (Int × Int)} {O : List Opn} (h : LL P W b B H O) (hP : ∀ i, P i → w.heap.size ≤ i ∧ i < W.heap.size) (hw : Below w.heap.size w W) (x : Value) (hx : LN R W x B O) (hST : ST B H O) (hn : O.length ≤ 200) :
    Calls Tryz.prog 13 #[.pointer (some ⟨b, 0, none⟩), x] W fun e W' => e = .returned (.bool true) ∧ Below W.heap.size W W' := by
  have hx0 := hx
  obtain ⟨ab, cb, vo, rfl, hB, qB, hO⟩ := hx
  obtain ⟨ao, co, rfl⟩ := rn_form hO
  obtain ⟨X, hX⟩ : ∃ X, W.alloc (.cells #[.slice ab B.length cb, .slice ao O.length co] 35) = X := ⟨_, rfl⟩
  have bX : Below W.heap.size W X := by rw [← hX]; exact ballc (Below.refl _ _) _
  have xX : Bx X W.heap.size 35 #[.slice ab B.length cb, .slice ao O.length co] := by rw [← hX]; exact Bx.new W _ _
  have c0 := xX.cell 0 _ rfl
  have c1 := xX.cell 1 _ rfl
  have hb0 : Hid (Below X.heap.size X X.drew) := hide (Below.refl _ _).drew
  have HAl := hide (fun (V : World) (hb : Hid (Below X.heap.size X V)) => alike_in ((h.below bX).below (unhide hb)) _ ((hx0.below bX).below (unhide hb)) hST hn)
  have HBe := hide (fun (V : World) (hb : Hid (Below X.heap.size X V)) => KBeyond_in (w := w) (W := V) (b := b) (base := B) (hv := H) (os := O) ⟨P, (h.below bX).below (unhide hb), fun i p => ⟨(hP i p).1, by have := (hP i p).2; have := bX.size; have := (unhide hb).size; omega⟩, bnext (bnext hw bX) (unhide hb)⟩ (by omega) none 0 0 [] (.inl ⟨rfl, _, _, rfl⟩) (by simp))
  rw [bynd_nil] at HBe
  have HOp := hide (fun (V : World) (u : Value) (P' : Nat → Prop) (hu : RN P' V u O) (hb : Hid (Below X.heap.size X V)) => ops2_in u _ O hu ((hO.below bX).below (unhide hb)) (by omega))
  have B0 := hide bX
  have n2 : (O.length : Int) < 201 := by omega
  unfold itV at HBe
  clear h hB qB hO hST bX xX hx0 hP hw
  go_enter Tryz.func13, Tryz.ntmps13
  go_wp2_with fail
  go_region_held3 (fun w' => w'.cell? ⟨W.heap.size, 0, none⟩ = some (.slice ab B.length cb) ∧ w'.cell? ⟨W.heap.size, 1, none⟩ = some (.slice ao O.length co) ∧ Hid (Below X.heap.size X w'))
    (first
      | (exact ⟨c0, c1, hb0⟩)
      | (go_split_ands
         exact ⟨cell_below (by assumption) hb, cell_below (by assumption) hb, hide (bnext (unhide (by assumption)) hb)⟩)
      | go_keep)
    (first
      | (go_split_ands; go_at_call 12; refine (unhide HAl _ (by assumption)).mono ?_; rintro e w1 ⟨rfl, hb⟩)
      | (go_split_ands; go_at_call 15; refine (unhide HBe _ (by assumption)).mono ?_; rintro e w2 ⟨rfl, hit, hb⟩; have HRe := hide (Krest_in hit 201 n2); clear hit; unfold itV at HRe)
      | (go_split_ands; go_at_call 20; refine (unhide HRe).mono ?_; rintro e w3 ⟨a3, c3, rfl, r3, hb⟩; have R3 := hide r3.rn; clear r3)
      | (go_split_ands; go_at_call 19; refine (unhide HOp _ _ _ (unhide R3) (by assumption)).mono ?_; rintro e w4 ⟨rfl, hb⟩))
  go_split_ands
  have HB := hide (bnext (unhide B0) (unhide (by assumption : Hid (Below X.heap.size X _))))
  go_wp2
  go_ret
  exact ⟨rfl, unhide HB⟩

end Go.Proofs.YtijjoikeceechaaGreat

/-
  A log and the document's, through a script.
-/
set_option linter.unusedSimpArgs false
set_option linter.unusedVariables false
namespace Go.Proofs.YtijjoikeceechaaGreat
open Go.RowKit Go.Lib

/-- a log, and the document's in a variable -/
structure GS (w W : World) (b bx : Nat) (P R : Nat → Prop) (x0 x1 : Value) (B H : List (Int × Int)) (O : List Opn) : Prop where
  ll : LL P W b B H O
  pp : ∀ i, P i → w.heap.size ≤ i ∧ i < W.heap.size
  bel : Below w.heap.size w W
  ln : LN R W (.agg #[x0, x1]) B O
  rr : ∀ i, R i → i < W.heap.size ∧ ¬ P i
  rw' : ∀ i, i < w.heap.size → R i
  st : ST B H O
  bx' : Bx W bx 35 #[x0, x1]
  np : ¬ P bx
  nr : ¬ R bx
theorem GS.below {w W W' : World} {b bx : Nat} {P R : Nat → Prop} {x0 x1 : Value} {B H : List (Int × Int)} {O : List Opn} (h : GS w W b bx P R x0 x1 B H O) (hb : Below W.heap.size W W') : GS w W' b bx P R x0 x1 B H O :=
  ⟨h.ll.below hb, fun i p => ⟨(h.pp i p).1, by have := (h.pp i p).2; have := hb.size; omega⟩, bnext h.bel hb, h.ln.below hb, fun i q => ⟨by have := (h.rr i q).1; have := hb.size; omega, (h.rr i q).2⟩, h.rw', h.st, h.bx'.below hb, h.np, h.nr⟩
theorem LN.cells {Q : Nat → Prop} {W : World} {x : Value} {B : List (Int × Int)} {O : List Opn} (h : LN Q W x B O) : ∃ a c a' c', x = .agg #[.slice a B.length c, .slice a' O.length c'] := by
  obtain ⟨ab, cb, vo, rfl, _, _, h3⟩ := h
  obtain ⟨ao, co, rfl⟩ := rn_form h3
  exact ⟨_, _, _, _, rfl⟩
/-- a step was made, its answer is kept in the variable -/
theorem GS.step {w W W' : World} {b bx : Nat} {P R P' : Nat → Prop} {x0 x1 y0 y1 : Value} {B H B' H' : List (Int × Int)} {O O' : List Opn} (h : GS w W b bx P R x0 x1 B H O) (hl : LL P' W' b B' H' O') (hp : ∀ i, P' i → (P i ∨ W.heap.size ≤ i) ∧ i < W'.heap.size) (hn : LN (fun i => R i ∨ (W.heap.size ≤ i ∧ ¬ P' i)) W' (.agg #[y0, y1]) B' O') (k : Kp P W W') (hs : ST B' H' O') :
    GS w ((W'.setCell ⟨bx, 0, none⟩ y0).setCell ⟨bx, 1, none⟩ y1) b bx P' (fun i => (R i ∨ (W.heap.size ≤ i ∧ ¬ P' i)) ∧ i < W'.heap.size) y0 y1 B' H' O' := by
  have hx := h.bx'.lt
  have hz := k.size
  have bw := h.bel.size
  have hw0 : w.heap.size ≤ bx := by
    rcases Nat.lt_or_ge bx w.heap.size with e | e
    · exact absurd (h.rw' bx e) h.nr
    · exact e
  have kk := kp2 W' bx y0 y1
  have np : ¬ P' bx := fun p => by
    rcases (hp bx p).1 with q | q
    · exact h.np q
    · omega
  have zk := kk.size
  refine ⟨hl.kp kk (fun i e p => by subst e; exact np p), fun i p => ⟨?_, by have := (hp i p).2; omega⟩, kk.below (k.below h.bel (fun i p => (h.pp i p).1)) (fun i e => by omega), ((hn.mono (fun i hi q => ⟨q, hi⟩)).kp kk (fun i e q => ?_)), fun i q => ⟨by have := q.2; omega, fun p => ?_⟩, fun i hi => ⟨.inl (h.rw' i hi), by omega⟩, hs, box2 (h.bx'.kp k h.np) y0 y1, np, fun q => ?_⟩
  · rcases (hp i p).1 with q | q
    · exact (h.pp i q).1
    · omega
  · subst e
    rcases q.1 with q | q
    · exact h.nr q
    · omega
  · rcases q.1 with q | q
    · rcases (hp i p).1 with p | p
      · exact (h.rr i q).2 p
      · have := (h.rr i q).1; omega
    · exact q.2 p
  · rcases q.1 with q | q
    · exact h.nr q
    · omega

theorem GS.round {w W V W7 F : World} {b bx : Nat} {P R P7 N : Nat → Prop} {x0 x1 y0 y1 : Value} {B H B' H' : List (Int × Int)} {O O' : List Opn} (h : GS w W b bx P R x0 x1 B H O) (hV : Below W.heap.size W V) (hl : LL P7 W7 b B' H' O') (hp : ∀ i, P7 i → (P i ∨ V.heap.size ≤ i) ∧ i < W7.heap.size) (hn : LN (fun i => R i ∨ (V.heap.size ≤ i ∧ ¬ P7 i)) W7 (.agg #[y0, y1]) B' O') (k : Kp P V W7) (hs : ST B' H' O') (kF : Kp N W7 F) (hN : ∀ i, N i → W.heap.size ≤ i ∧ ¬ P7 i ∧ (V.heap.size ≤ i → W7.heap.size ≤ i)) :
    GS w ((F.setCell ⟨bx, 0, none⟩ y0).setCell ⟨bx, 1, none⟩ y1) b bx P7 (fun i => (R i ∨ (W.heap.size ≤ i ∧ ¬ P7 i)) ∧ i < F.heap.size) y0 y1 B' H' O' ∧ Bx F bx 35 #[x0, x1] := by
  have zV := hV.size
  have zF := kF.size
  have kk : Kp P W F := ((Kp.of_below hV).trans k (fun i p => .inl p)).trans kF (fun i e => .inr (hN i e).1)
  refine ⟨h.step (hl.kp kF (fun i e => (hN i e).2.1)) (fun i p => ⟨(hp i p).1.imp id (fun e => by omega), by have := (hp i p).2; omega⟩) (((hn.mono (Q' := fun i => (R i ∨ (V.heap.size ≤ i ∧ ¬ P7 i)) ∧ i < W7.heap.size) (fun i hi q => ⟨q, hi⟩)).kp kF (fun i e q => ?_)).mono (fun i _ q => q.1.imp id (fun e => ⟨by omega, e.2⟩))) kk hs, h.bx'.kp kk h.np⟩
  obtain ⟨n1, n2, n3⟩ := hN i e
  rcases q.1 with q' | q'
  · have := (h.rr i q').1; omega
  · have := n3 q'.1; have := q.2; omega

end Go.Proofs.YtijjoikeceechaaGreat

/-
  Two logs, each with the document's.
-/
set_option linter.unusedSimpArgs false
set_option linter.unusedVariables false
namespace Go.Proofs.YtijjoikeceechaaGreat
open Go.RowKit Go.Lib

theorem GS.kp {w W W' : World} {b bx : Nat} {P R N : Nat → Prop} {x0 x1 : Value} {B H : List (Int × Int)} {O : List Opn} (h : GS w W b bx P R x0 x1 B H O) (k : Kp N W W') (hn : ∀ i, N i → w.heap.size ≤ i ∧ ¬ P i ∧ ¬ R i ∧ i ≠ bx) : GS w W' b bx P R x0 x1 B H O :=
  ⟨h.ll.kp k (fun i e => (hn i e).2.1), fun i p => ⟨(h.pp i p).1, by have := (h.pp i p).2; have := k.size; omega⟩, k.below h.bel (fun i e => (hn i e).1), h.ln.kp k (fun i e => (hn i e).2.2.1), fun i q => ⟨by have := (h.rr i q).1; have := k.size; omega, (h.rr i q).2⟩, h.rw', h.st, h.bx'.kp k (fun e => (hn _ e).2.2.2 rfl), h.np, h.nr⟩
/-- what is apart -/
structure DJ (P1 R1 P2 R2 : Nat → Prop) (bx1 bx2 : Nat) : Prop where
  pp : ∀ i, P1 i → ¬ P2 i
  pr : ∀ i, P1 i → ¬ R2 i
  rp : ∀ i, R1 i → ¬ P2 i
  xp : ¬ P2 bx1
  xr : ¬ R2 bx1
  yp : ¬ P1 bx2
  yr : ¬ R1 bx2
  xy : bx1 ≠ bx2
theorem DJ.swap {P1 R1 P2 R2 : Nat → Prop} {bx1 bx2 : Nat} (h : DJ P1 R1 P2 R2 bx1 bx2) : DJ P2 R2 P1 R1 bx2 bx1 :=
  ⟨fun i p q => h.pp i q p, fun i p q => h.rp i q p, fun i p q => h.pr i q p, h.yp, h.yr, h.xp, h.xr, fun e => h.xy e.symm⟩
/-- both -/
def G2 (w W : World) (b1 bx1 : Nat) (B1 H1 : List (Int × Int)) (O1 : List Opn) (b2 bx2 : Nat) (B2 H2 : List (Int × Int)) (O2 : List Opn) : Prop :=
  ∃ P1 R1 P2 R2 x0 x1 y0 y1, GS w W b1 bx1 P1 R1 x0 x1 B1 H1 O1 ∧ GS w W b2 bx2 P2 R2 y0 y1 B2 H2 O2 ∧ DJ P1 R1 P2 R2 bx1 bx2
variable {w W W' : World} {b1 bx1 : Nat} {B1 H1 : List (Int × Int)} {O1 : List Opn} {b2 bx2 : Nat} {B2 H2 : List (Int × Int)} {O2 : List Opn}
theorem G2.swap (h : G2 w W b1 bx1 B1 H1 O1 b2 bx2 B2 H2 O2) : G2 w W b2 bx2 B2 H2 O2 b1 bx1 B1 H1 O1 := by
  obtain ⟨P1, R1, P2, R2, x0, x1, y0, y1, g1, g2, d⟩ := h
  exact ⟨P2, R2, P1, R1, y0, y1, x0, x1, g2, g1, d.swap⟩
theorem G2.below (h : G2 w W b1 bx1 B1 H1 O1 b2 bx2 B2 H2 O2) (hb : Below W.heap.size W W') : G2 w W' b1 bx1 B1 H1 O1 b2 bx2 B2 H2 O2 := by
  obtain ⟨P1, R1, P2, R2, x0, x1, y0, y1, g1, g2, d⟩ := h
  exact ⟨P1, R1, P2, R2, x0, x1, y0, y1, g1.below hb, g2.below hb, d⟩
theorem G2.bel (h : G2 w W b1 bx1 B1 H1 O1 b2 bx2 B2 H2 O2) : Below w.heap.size w W := by
  obtain ⟨P1, R1, P2, R2, x0, x1, y0, y1, g1, g2, d⟩ := h
  exact g1.bel
/-- what is in the first one's variable -/
theorem G2.box (h : G2 w W b1 bx1 B1 H1 O1 b2 bx2 B2 H2 O2) : ∃ a c a' c', Bx W bx1 35 #[.slice a B1.length c, .slice a' O1.length c'] := by
  obtain ⟨P1, R1, P2, R2, x0, x1, y0, y1, g1, g2, d⟩ := h
  obtain ⟨a, c, a', c', e⟩ := g1.ln.cells
  simp only [Value.agg.injEq, Array.mk.injEq, List.cons.injEq, and_true] at e
  obtain ⟨rfl, rfl⟩ := e
  exact ⟨a, c, a', c', g1.bx'⟩
/-- a step of the first one -/
theorem G2.step_in (h : G2 w W b1 bx1 B1 H1 O1 b2 bx2 B2 H2 O2) (x0 x1 : Value) (hx : Bx W bx1 35 #[x0, x1]) (hn : O1.length ≤ 200) (s : Stp) (hs : StW w s) (h1 : s.op.deps.length ≤ 60000) (h2 : s.op.gone.length ≤ 60000) (h3 : s.op.text.size ≤ 60000) (h4 : s.vec.length ≤ 60000) {V : World} (hV : Below W.heap.size W V) :
    Calls Tryz.prog 11 #[.pointer (some ⟨b1, 0, none⟩), .agg #[x0, x1], stA s] V fun e W' => ∃ a c a' c', e = .returned (.tuple #[.agg #[.slice a (doB s B1 H1).length c, .slice a' (doO s H1 O1).length c'], .bool true]) ∧ Bx W' bx1 35 #[x0, x1] ∧ G2 w ((W'.setCell ⟨bx1, 0, none⟩ (.slice a (doB s B1 H1).length c)).setCell ⟨bx1, 1, none⟩ (.slice a' (doO s H1 O1).length c')) b1 bx1 (doB s B1 H1) (doH s H1) (doO s H1 O1) b2 bx2 B2 H2 O2 := by
  obtain ⟨P1, R1, P2, R2, u0, u1, y0, y1, g1, g2, d⟩ := h
  have e : W.heap[bx1]? = some (.cells #[x0, x1] 35 (0, 0)) := hx
  have e' : W.heap[bx1]? = some (.cells #[u0, u1] 35 (0, 0)) := g1.bx'
  rw [e] at e'
  simp only [Option.some.injEq, Obj.cells.injEq, Array.mk.injEq, List.cons.injEq, and_true] at e'
  obtain ⟨rfl, rfl⟩ := e'
  have gV := g1.below hV
  refine (Go.Proofs.YtijjoikeceechaaGreat.step_in gV.ll gV.pp gV.bel _ gV.ln gV.rr gV.rw' gV.st hn s hs h1 h2 h3 h4).mono ?_
  rintro r W7 ⟨x7, P7, rfl, l7, p7, n7, k7⟩
  obtain ⟨a, c, a', c', rfl⟩ := n7.cells
  have kF : Kp (fun _ => False) W7 W7 := Kp.refl _ _
  obtain ⟨gn, bF⟩ := GS.round g1 hV l7 p7 n7 k7 (g1.st.do s) kF (fun i e => e.elim)
  have zV := hV.size
  have z7 := k7.size
  have kb : Kp (fun i => P1 i ∨ i = bx1) W ((W7.setCell ⟨bx1, 0, none⟩ (.slice a (doB s B1 H1).length c)).setCell ⟨bx1, 1, none⟩ (.slice a' (doO s H1 O1).length c')) := (((Kp.of_below hV).trans k7 (fun i p => .inl (.inl p))).trans (kp2 W7 bx1 _ _) (fun i e => .inl (.inr e)))
  have w1 : w.heap.size ≤ bx1 := by
    rcases Nat.lt_or_ge bx1 w.heap.size with e | e
    · exact absurd (g1.rw' bx1 e) g1.nr
    · exact e
  have g2n := g2.kp kb (fun i e => by
    rcases e with p | rfl
    · exact ⟨(g1.pp i p).1, d.pp i p, d.pr i p, fun e => d.yp (by rw [← e]; exact p)⟩
    · exact ⟨w1, d.xp, d.xr, d.xy⟩)
  have q2 : ∀ i, P2 i → i < W.heap.size := fun i p => (g2.pp i p).2
  have r2 : ∀ i, R2 i → i < W.heap.size := fun i p => (g2.rr i p).1
  have l2 := g2.bx'.lt
  have l1 := g1.bx'.lt
  refine ⟨a, c, a', c', rfl, bF, ⟨P7, _, P2, R2, _, _, y0, y1, gn, g2n, ⟨fun i p q => ?_, fun i p q => ?_, fun i p q => ?_, d.xp, d.xr, fun p => ?_, fun q => ?_, d.xy⟩⟩⟩
  · rcases (p7 i p).1 with p | p
    · exact d.pp i p q
    · have := q2 i q; omega
  · rcases (p7 i p).1 with p | p
    · exact d.pr i p q
    · have := r2 i q; omega
  · rcases p.1 with p | p
    · exact d.rp i p q
    · have := q2 i q; have := p.1; omega
  · rcases (p7 _ p).1 with p | p
    · exact d.yp p
    · omega
  · rcases q.1 with q | q
    · exact d.yr q
    · have := q.1; omega
theorem G2.alike_in (h : G2 w W b1 bx1 B1 H1 O1 b2 bx2 B2 H2 O2) (x0 x1 : Value) (hx : Bx W bx1 35 #[x0, x1]) (hn : O1.length ≤ 200) : Calls Tryz.prog 12 #[.pointer (some ⟨b1, 0, none⟩), .agg #[x0, x1]] W fun e W' => e = .returned (.bool true) ∧ Below W.heap.size W W' := by
  obtain ⟨P1, R1, P2, R2, u0, u1, y0, y1, g1, g2, d⟩ := h
  have e : W.heap[bx1]? = some (.cells #[x0, x1] 35 (0, 0)) := hx
  have e' : W.heap[bx1]? = some (.cells #[u0, u1] 35 (0, 0)) := g1.bx'
  rw [e] at e'
  simp only [Option.some.injEq, Obj.cells.injEq, Array.mk.injEq, List.cons.injEq, and_true] at e'
  obtain ⟨rfl, rfl⟩ := e'
  exact Go.Proofs.YtijjoikeceechaaGreat.alike_in g1.ll _ g1.ln g1.st hn
theorem G2.all_in (h : G2 w W b1 bx1 B1 H1 O1 b2 bx2 B2 H2 O2) (x0 x1 : Value) (hx : Bx W bx1 35 #[x0, x1]) (hn : O1.length ≤ 200) : Calls Tryz.prog 13 #[.pointer (some ⟨b1, 0, none⟩), .agg #[x0, x1]] W fun e W' => e = .returned (.bool true) ∧ Below W.heap.size W W' := by
  obtain ⟨P1, R1, P2, R2, u0, u1, y0, y1, g1, g2, d⟩ := h
  have e : W.heap[bx1]? = some (.cells #[x0, x1] 35 (0, 0)) := hx
  have e' : W.heap[bx1]? = some (.cells #[u0, u1] 35 (0, 0)) := g1.bx'
  rw [e] at e'
  simp only [Option.some.injEq, Obj.cells.injEq, Array.mk.injEq, List.cons.injEq, and_true] at e'
  obtain ⟨rfl, rfl⟩ := e'
  exact allP_in g1.ll g1.pp g1.bel _ g1.ln g1.st hn

end Go.Proofs.YtijjoikeceechaaGreat
