/-
  A Net in new memory; what the document fixes.
-/
import Derived.Test.YteomalmflebkhaaZNW
import Derived.Lib.SmallJoins
set_option linter.unusedSimpArgs false
set_option linter.unusedVariables false
namespace Go.Proofs.Yteomalmflebkhaa
open Go.RowKit Go.Lib

variable {P N S S' : Nat → Prop} {w W W' : World} {b p f m B : Nat} {c : Cp} {s s' : Stn} {v u : Value} {e : Ending}
/-- a Net in new memory, in the blocks of S -/
structure KN (w : World) (S : Nat → Prop) (W : World) (b : Nat) (s : Stn) : Prop where
  nl : NL S W b s
  lo : ∀ i, S i → w.heap.size ≤ i ∧ i < W.heap.size
  bel : Below w.heap.size w W
/-- from a world to a world: what is of S may be written, S grows by what is new -/
structure DN (S S' : Nat → Prop) (W W' : World) : Prop where
  gr : ∀ i, S' i → S i ∨ W.heap.size ≤ i
  kp : Kp S W W'
theorem KN.below (h : KN w S W b s) (hb : Below W.heap.size W W') : KN w S W' b s := ⟨h.nl.below hb, fun i hi => ⟨(h.lo i hi).1, by have := (h.lo i hi).2; have := hb.size; omega⟩, bnext h.bel hb⟩
theorem DN.below (hb : Below W.heap.size W W') : DN S S W W' := ⟨fun i hi => .inl hi, Kp.of_below hb⟩
theorem DN.trans {S1 S2 S3 : Nat → Prop} {W1 W2 W3 : World} (h : DN S1 S2 W1 W2) (k : DN S2 S3 W2 W3) : DN S1 S3 W1 W3 := by
  have hz := h.kp.size
  refine ⟨fun i hi => ?_, h.kp.trans k.kp (fun i hi => h.gr i hi)⟩
  rcases k.gr i hi with e | e
  · exact h.gr i e
  · exact .inr (by omega)
theorem KN.call (h : KN w S W b s) (hc : CN S W b s' u e W') : e = .returned u ∧ ∃ S', KN w S' W' b s' ∧ DN S S' W W' := by
  obtain ⟨h1, h2, h3⟩ := hc
  have hz := h.bel.size
  refine ⟨h1, _, ⟨h2.lt, fun i hi => ⟨?_, hi.2⟩, h3.below h.bel (fun i hi => (h.lo i hi).1)⟩, ⟨fun i hi => hi.1, h3⟩⟩
  rcases hi.1 with e | e
  · exact (h.lo i e).1
  · omega
theorem Bx.dn {t : TypeId} {cs : Array Value} (h : Bx W p t cs) (d : DN S S' W W') (hs : ¬ S p) : Bx W' p t cs ∧ ¬ S' p := ⟨h.kp d.kp hs, fun e => by
  rcases d.gr p e with e | e
  · exact hs e
  · have := h.lt; omega⟩
theorem OwB.dn {t : TypeId} {l : List Int} (h : OwB W B t v l) (d : DN S S' W W') (hs : ∀ i, v.ownBlock = some i → ¬ S i) : OwB W' B t v l ∧ ∀ i, v.ownBlock = some i → ¬ S' i := ⟨h.kp d.kp hs, fun i hi e => by
  rcases d.gr i e with e | e
  · exact hs i hi e
  · have := (h.lt i hi).2; omega⟩
theorem KN.take (h : KN w S W b s) {k : Int} (hc : TkA S W b s k e W') : ∃ a n, e = .returned (.tuple #[cpV (tkC s k) (.slice a (tkC s k).dat.length n), .int .i64 (tkE s k)]) ∧ OwB W' W.heap.size 5 (.slice a (tkC s k).dat.length n) (tkC s k).dat ∧ KN w S W' b (tkS s k) ∧ DN S S W W' := by
  obtain ⟨a, n, h1, h2, h3, h4⟩ := hc
  refine ⟨a, n, h1, h2, ⟨h3, fun i hi => ⟨(h.lo i hi).1, by have := (h.lo i hi).2; have := h4.size; omega⟩, h4.below h.bel (fun i hi => (h.lo i hi).1)⟩, ⟨fun i hi => .inl hi, h4⟩⟩
theorem KN.new (w : World) {W1 : World} (h : Below w.heap.size w W) (hn : NL (fun i => W.heap.size ≤ i) W1 b s) (hb : Below W.heap.size W W1) : KN w (fun i => W.heap.size ≤ i ∧ i < W1.heap.size) W1 b s := ⟨hn.lt, fun i hi => ⟨by have := h.size; omega, hi.2⟩, bnext h hb⟩
theorem row_lit (W : World) (l : List Int) {X : World} {n m : Nat} (hX : W.alloc (.cells (bC l).toArray 5 (n, m)) = X) : RB X (.slice (some ⟨W.heap.size, 0, none⟩) l.length l.length) l := by
  refine .inr ⟨W.heap.size, 0, l.length, rfl, Nat.le_refl _, by rw [← hX]; simp, fun j x hx => ?_⟩
  rw [Nat.zero_add, ← hX, World.cell?_alloc_mark]
  simpa using hx
theorem conv_b (w : World) (C : Array Value) (n : Nat) : (convert 30 30 (.slice (some ⟨w.heap.size, 0, none⟩) n n)).run Try.prog (w.alloc (.cells C 5)) = .ok (.slice (some ⟨w.heap.size, 0, none⟩) n n) (w.alloc (.cells C 5 (C.size, C.size + 1))) := Lib.run_convert_bytes_const w 30 5 C n n Try.underlying30 Try.underlying5
def k1 : Stn := ⟨1, [⟨1, 1, 2, [97, 98, 99], 7, false, []⟩]⟩
def k2 : Stn := ⟨1, [⟨1, 1, 2, [97, 98, 99], 7, true, [97, 122, 99]⟩]⟩
def k4 : Stn := ⟨2, [⟨1, 1, 2, [97, 98, 99], 7, true, [97, 122, 99]⟩, ⟨2, 1, 2, [97, 98, 99], 7, false, []⟩]⟩
def k5 : Stn := ⟨2, [⟨2, 1, 2, [97, 98, 99], 7, false, []⟩]⟩
def kc : Cp := ⟨1, 1, 2, [97, 98, 99], 7, true, [97, 122, 99]⟩
def kd : Cp := ⟨2, 1, 2, [97, 98, 99], 7, false, []⟩
theorem e1 : sndS zerS 1 2 [97, 98, 99] 7 = k1 ∧ sndN zerS 1 2 7 = 1 ∧ sndE zerS 1 2 7 = 0 := ⟨rfl, rfl, rfl⟩
theorem e2 : altS k1 1 1 [122] = k2 ∧ altE k1 1 1 [122] = 0 := ⟨rfl, rfl⟩
theorem e3 : cutS k2 1 2 = k2 ∧ cutE k2 1 2 = 12 := ⟨rfl, rfl⟩
theorem e4 : dblS k2 1 = k4 ∧ dblN k2 1 = 2 ∧ dblE k2 1 = 0 := ⟨rfl, rfl, rfl⟩
theorem e5 : tkS k4 1 = k5 ∧ tkC k4 1 = kc ∧ tkE k4 1 = 0 := ⟨rfl, rfl, rfl⟩
theorem e6 : tkS k5 1 = k5 ∧ tkC k5 1 = zCp ∧ tkE k5 1 = 11 := ⟨rfl, rfl, rfl⟩
theorem in1 : in64 1 := ⟨by decide, by decide⟩
set_option maxRecDepth 100000 in
set_option maxHeartbeats 8000000 in
theorem known_in (w : World) : Calls Try.prog 10 #[] w fun e W => e = .returned (.bool true) ∧ Below w.heap.size w W := by
  have HN := hide (New_in w)
  go_enter Try.func10, Try.ntmps10
  go_wp2_with fail
  refine (unhide HN).mono ?_
  rintro e W1 ⟨rfl, hn, hb⟩
  have K1 := KN.new w (Below.refl _ _) hn hb
  clear HN hn hb
  obtain ⟨S1, hS1⟩ : ∃ S1 : Nat → Prop, (fun i => w.heap.size ≤ i ∧ i < W1.heap.size) = S1 := ⟨_, rfl⟩
  rw [hS1] at K1
  clear hS1
  generalize hB : w.heap.size = b at *
  -- Send
  obtain ⟨X1, hX1⟩ : ∃ X, W1.alloc (.cells #[.int .u8 97, .int .u8 98, .int .u8 99] 5 (3, 4)) = X := ⟨_, rfl⟩
  have cv1 : (convert 30 30 (.slice (some ⟨W1.heap.size, 0, none⟩) 3 3)).run Try.prog (W1.alloc (.cells #[.int .u8 97, .int .u8 98, .int .u8 99] 5)) = .ok (.slice (some ⟨W1.heap.size, 0, none⟩) 3 3) X1 := by rw [← hX1]; exact conv_b W1 _ 3
  have r1 := row_lit W1 [97, 98, 99] hX1
  have K1' := K1.below (show Below W1.heap.size W1 X1 by rw [← hX1]; exact ballc (Below.refl _ _) _)
  have HS := hide ((Send_in K1'.nl (fun i hi => (K1'.lo i hi).2) 1 2 7 _ _ r1 (by decide)).mono (fun e W h => K1'.call h))
  rw [e1.1, e1.2.1, e1.2.2] at HS
  unfold two at HS
  change Hid (Calls Try.prog _ #[_, _, _, .slice (some ⟨W1.heap.size, 0, none⟩) 3 3, _] _ _) at HS
  clear K1 K1' r1
  go_wp2_with fail
  refine (unhide HS).mono ?_
  rintro e W2 ⟨rfl, S2, K2, _⟩
  clear HS
  -- Alter
  obtain ⟨X2, hX2⟩ : ∃ X, W2.alloc (.cells #[.int .u8 122] 5 (1, 2)) = X := ⟨_, rfl⟩
  have cv2 : (convert 30 30 (.slice (some ⟨W2.heap.size, 0, none⟩) 1 1)).run Try.prog (W2.alloc (.cells #[.int .u8 122] 5)) = .ok (.slice (some ⟨W2.heap.size, 0, none⟩) 1 1) X2 := by rw [← hX2]; exact conv_b W2 _ 1
  have r2 := row_lit W2 [122] hX2
  have K2' := K2.below (show Below W2.heap.size W2 X2 by rw [← hX2]; exact ballc (Below.refl _ _) _)
  have HA := hide ((Alter_in K2'.nl (fun i hi => (K2'.lo i hi).2) in1 1 _ _ _ r2 (by decide)).mono (fun e W h => K2'.call h))
  rw [e2.1, e2.2] at HA
  change Hid (Calls Try.prog _ #[_, _, _, .slice (some ⟨W2.heap.size, 0, none⟩) 1 1] _ _) at HA
  clear K2 K2' r2
  go_wp2_with fail
  refine (unhide HA).mono ?_
  rintro e W3 ⟨rfl, S3, K3, _⟩
  clear HA
  -- Cut
  have HC := hide ((Cut_in K3.nl (fun i hi => (K3.lo i hi).2) in1 2).mono (fun e W h => K3.call h))
  rw [e3.1, e3.2] at HC
  clear K3
  go_wp2_with fail
  refine (unhide HC).mono ?_
  rintro e W4 ⟨rfl, S4, K4, _⟩
  clear HC
  -- Double
  have HD := hide ((Double_in K4.nl (fun i hi => (K4.lo i hi).2) in1).mono (fun e W h => K4.call h))
  rw [e4.1, e4.2.1, e4.2.2] at HD
  unfold two at HD
  clear K4
  go_wp2_with fail
  refine (unhide HD).mono ?_
  rintro e W5 ⟨rfl, S5, K5, _⟩
  clear HD
  -- Deliver
  have HE := hide ((Deliver_in K5.nl (fun i hi => (K5.lo i hi).2) in1).mono (fun e W h => K5.take h))
  rw [e5.1, e5.2.1, e5.2.2] at HE
  have HlE := hide (fun i hi => (K5.lo i hi).2)
  change Hid (Calls Try.prog _ _ _ fun e W => ∃ a n, e = .returned (.tuple #[.agg #[.int .i64 1, .int .i64 1, .int .i64 2, .slice a 3 n, .int .i64 7, .bool true], .int .i64 0]) ∧ OwB W W5.heap.size 5 (.slice a 3 n) [97, 122, 99] ∧ KN w S5 W b k5 ∧ DN S5 S5 W5 W) at HE
  have hbl := K5.bel.size
  clear K5
  go_wp2_with fail
  refine (unhide HE).mono ?_
  rintro e W6 ⟨a6, n6, rfl, ho6, K6, D6⟩
  have hs6 : ∀ i, (Value.slice a6 3 n6).ownBlock = some i → ¬ S5 i := fun i hi e => by have := unhide HlE i e; have := (ho6.lt i hi).1; omega
  clear HE D6 HlE
  obtain ⟨X6, hX6⟩ : ∃ X, W6.alloc (.cells #[.int .i64 0, .int .i64 0, .int .i64 0, .slice none 0 0, .int .i64 0, .bool false] 44) = X := ⟨_, rfl⟩
  have b6 : Below W6.heap.size W6 X6 := by rw [← hX6]; exact ballc (Below.refl _ _) _
  have bx6 : Bx X6 W6.heap.size 44 #[.int .i64 0, .int .i64 0, .int .i64 0, .slice none 0 0, .int .i64 0, .bool false] := by rw [← hX6]; exact Bx.new _ _ _
  obtain ⟨Y6, hY6⟩ : ∃ Y, (((((X6.setCell ⟨W6.heap.size, 0, none⟩ (.int .i64 1)).setCell ⟨W6.heap.size, 1, none⟩ (.int .i64 1)).setCell ⟨W6.heap.size, 2, none⟩ (.int .i64 2)).setCell ⟨W6.heap.size, 3, none⟩ (.slice a6 3 n6)).setCell ⟨W6.heap.size, 4, none⟩ (.int .i64 7)).setCell ⟨W6.heap.size, 5, none⟩ (.bool true) = Y := ⟨_, rfl⟩
  obtain ⟨by6, ky6⟩ := set6 bx6 _ _ _ _ _ _ hY6
  have by6' : Below W6.heap.size W6 Y6 := ⟨ky6.os.trans b6.os, ky6.tape.trans b6.tape, ky6.output.trans b6.output, Nat.le_trans b6.size ky6.size, fun i hi => (ky6.block i (by have := b6.size; omega) (by omega)).trans (b6.block i hi)⟩
  have K7 := K6.below by6'
  have ho7 := ho6.below by6'
  have hs7 : ¬ S5 W6.heap.size := fun e => by have := (K6.lo _ e).2; omega
  have z0 := bx6.cell 0 (.int .i64 0) rfl
  have f0 := bx6.frozen 0
  have z1 := bx6.cell 1 (.int .i64 0) rfl
  have f1 := bx6.frozen 1
  have z2 := bx6.cell 2 (.int .i64 0) rfl
  have f2 := bx6.frozen 2
  have z3 := bx6.cell 3 (.slice none 0 0) rfl
  have f3 := bx6.frozen 3
  have z4 := bx6.cell 4 (.int .i64 0) rfl
  have f4 := bx6.frozen 4
  have z5 := bx6.cell 5 (.bool false) rfl
  have f5 := bx6.frozen 5
  have HF := hide ((Deliver_in K7.nl (fun i hi => (K7.lo i hi).2) in1).mono (fun e W h => K7.take h))
  rw [e6.1, e6.2.1, e6.2.2] at HF
  change Hid (Calls Try.prog _ _ _ fun e W => ∃ a n, e = .returned (.tuple #[.agg #[.int .i64 0, .int .i64 0, .int .i64 0, .slice a 0 n, .int .i64 0, .bool false], .int .i64 11]) ∧ OwB W Y6.heap.size 5 (.slice a 0 n) [] ∧ KN w S5 W b k5 ∧ DN S5 S5 Y6 W) at HF
  have HK := hide (And.intro by6 (And.intro ho7 (And.intro hs6 hs7)))
  clear K6 K7 ho6 ho7 hs6 hs7 b6 bx6 by6 ky6 by6'
  go_wp2_with fail
  refine (unhide HF).mono ?_
  rintro e W8 ⟨a8, n8, rfl, _, K8, D8⟩
  obtain ⟨by6, ho7, hs6, hs7⟩ := unhide HK
  have by8 := (by6.dn D8 hs7).1
  have ho8 := (ho7.dn D8 hs6).1
  clear HF HK by6 ho7 hs6 hs7 D8 z0 z1 z2 z3 z4 z5 f0 f1 f2 f3 f4 f5
  obtain ⟨X8, hX8⟩ : ∃ X, W8.alloc (.cells #[.int .i64 0, .int .i64 0, .int .i64 0, .slice none 0 0, .int .i64 0, .bool false] 44) = X := ⟨_, rfl⟩
  have b8 : Below W8.heap.size W8 X8 := by rw [← hX8]; exact ballc (Below.refl _ _) _
  have bx8 : Bx X8 W8.heap.size 44 #[.int .i64 0, .int .i64 0, .int .i64 0, .slice none 0 0, .int .i64 0, .bool false] := by rw [← hX8]; exact Bx.new _ _ _
  obtain ⟨Y8, hY8⟩ : ∃ Y, (((((X8.setCell ⟨W8.heap.size, 0, none⟩ (.int .i64 0)).setCell ⟨W8.heap.size, 1, none⟩ (.int .i64 0)).setCell ⟨W8.heap.size, 2, none⟩ (.int .i64 0)).setCell ⟨W8.heap.size, 3, none⟩ (.slice a8 0 n8)).setCell ⟨W8.heap.size, 4, none⟩ (.int .i64 0)).setCell ⟨W8.heap.size, 5, none⟩ (.bool false) = Y := ⟨_, rfl⟩
  obtain ⟨cy8, ky8⟩ := set6 bx8 _ _ _ _ _ _ hY8
  have by8' : Below W8.heap.size W8 Y8 := ⟨ky8.os.trans b8.os, ky8.tape.trans b8.tape, ky8.output.trans b8.output, Nat.le_trans b8.size ky8.size, fun i hi => (ky8.block i (by have := b8.size; omega) (by omega)).trans (b8.block i hi)⟩
  have K9 := K8.below by8'
  have by9 := by8.below by8'
  have ho9 := ho8.below by8'
  have z0 := bx8.cell 0 (.int .i64 0) rfl
  have f0 := bx8.frozen 0
  have z1 := bx8.cell 1 (.int .i64 0) rfl
  have f1 := bx8.frozen 1
  have z2 := bx8.cell 2 (.int .i64 0) rfl
  have f2 := bx8.frozen 2
  have z3 := bx8.cell 3 (.slice none 0 0) rfl
  have f3 := bx8.frozen 3
  have z4 := bx8.cell 4 (.int .i64 0) rfl
  have f4 := bx8.frozen 4
  have z5 := bx8.cell 5 (.bool false) rfl
  have f5 := bx8.frozen 5
  have HG := hide (Copies_in K9.nl)
  have HK := hide (And.intro by9 (And.intro ho9 K9.bel))
  clear K8 K9 b8 bx8 cy8 ky8 by8 by8' by9 ho8 ho9
  unfold CopA at HG
  go_wp2_with fail
  refine (unhide HG).mono ?_
  rintro e W9 ⟨a9, n9, L, rfl, hL, hCL, hb9⟩
  obtain ⟨by6, ho6, hbel⟩ := unhide HK
  have by9 := by6.below hb9
  have ho9 := ho6.below hb9
  have B9 := bnext hbel hb9
  clear HG HK by6 ho6 z0 z1 z2 z3 z4 z5 f0 f1 f2 f3 f4 f5
  change CL W9 Y8.heap.size (.slice a9 1 n9) L at hCL
  change L.map Prod.fst = [kd] at hL
  obtain ⟨v9, rfl⟩ : ∃ v9, L = [(kd, v9)] := by
    match L, hL with
    | [(c, v)], hL => simp at hL; subst hL; exact ⟨v, rfl⟩
  have hR := hCL.rcp (fun x hx => by
    have e : x = (kd, v9) := by simpa using hx
    rw [e]
    show kd.dat.length ≤ 1000000
    decide)
  obtain ⟨g9, o9, rfl, _, u0, u1, u2, u3, u4, u5⟩ := hR.at (i := 0) (x := (kd, v9)) rfl
  have hd9 := (hR.dat (kd, v9) (by simp)).1
  obtain ⟨a10, n10, e10⟩ := hd9.form
  simp only at e10
  subst e10
  change RB W9 (.slice a10 3 n10) [97, 98, 99] at hd9
  simp only [Nat.zero_mul, Nat.add_zero] at u0 u1 u2 u3 u4 u5
  have g3 := by9.cell 3 (.slice a6 3 n6) rfl
  have g5 := by9.cell 5 (.bool true) rfl
  -- the last row
  obtain ⟨X9, hX9⟩ : ∃ X, W9.alloc (.cells #[.int .u8 97, .int .u8 122, .int .u8 99] 5 (3, 4)) = X := ⟨_, rfl⟩
  have cv9 : (convert 30 30 (.slice (some ⟨W9.heap.size, 0, none⟩) 3 3)).run Try.prog (W9.alloc (.cells #[.int .u8 97, .int .u8 122, .int .u8 99] 5)) = .ok (.slice (some ⟨W9.heap.size, 0, none⟩) 3 3) X9 := by rw [← hX9]; exact conv_b W9 _ 3
  have bX9 : Below W9.heap.size W9 X9 := by rw [← hX9]; exact ballc (Below.refl _ _) _
  have r9 := row_lit W9 [97, 122, 99] hX9
  have HY := hide (lbytes_in _ _ [97, 122, 99] [97, 122, 99] X9 (ho9.row.below bX9) r9 (by decide) (by decide))
  rw [decide_eq_true rfl] at HY
  change Hid (Calls Try.prog _ #[.slice a6 3 n6, .slice (some ⟨W9.heap.size, 0, none⟩) 3 3] _ _) at HY
  have HZ : Hid (∀ V, Below X9.heap.size X9 V → V.cell? ⟨W6.heap.size, 5, none⟩ = some (.bool true) ∧ V.cell? ⟨g9, o9, none⟩ = some (.int .i64 2) ∧ V.cell? ⟨g9, o9 + 1, none⟩ = some (.int .i64 1) ∧ V.cell? ⟨g9, o9 + 2, none⟩ = some (.int .i64 2) ∧ V.cell? ⟨g9, o9 + 3, none⟩ = some (.slice a10 3 n10) ∧ V.cell? ⟨g9, o9 + 4, none⟩ = some (.int .i64 7) ∧ V.cell? ⟨g9, o9 + 5, none⟩ = some (.bool false) ∧ Below w.heap.size w V ∧ ∀ X, V.alloc (.cells #[.int .u8 97, .int .u8 98, .int .u8 99] 5 (3, 4)) = X → Calls Try.prog 21 #[.agg #[.int .i64 2, .int .i64 1, .int .i64 2, .slice a10 3 n10, .int .i64 7, .bool false], .agg #[.int .i64 2, .int .i64 1, .int .i64 2, .slice (some ⟨V.heap.size, 0, none⟩) 3 3, .int .i64 7, .bool false]] X fun e W => e = .returned (.bool true) ∧ Below w.heap.size w W) := by
    intro V hV
    have q := fun {p : Addr} {u : Value} (h : W9.cell? p = some u) => cell_below (cell_below h bX9) hV
    refine ⟨q g5, q u0, q u1, q u2, q u3, q u4, q u5, bnext (bnext B9 bX9) hV, fun X hX => ?_⟩
    have bX : Below V.heap.size V X := by rw [← hX]; exact ballc (Below.refl _ _) _
    have rr := row_lit V [97, 98, 99] hX
    refine (same_in kd kd a10 (some ⟨V.heap.size, 0, none⟩) n10 3 X (((hd9.below bX9).below hV).below bX) rr (by decide) (by decide)).mono ?_
    rintro e W ⟨rfl, hb⟩
    exact ⟨by rw [eqC_self], bnext (bnext (bnext (bnext B9 bX9) hV) bX) hb⟩
  clear hCL hL hR hd9 u0 u1 u2 u3 u4 u5 by9 ho9 B9 r9 bX9 hbl g5
  go_wp2_with fail
  refine (unhide HY).mono ?_
  rintro e V ⟨rfl, hV⟩
  obtain ⟨s5, s0, s1, s2, s3, s4, s6, BV, hsame⟩ := unhide HZ V hV
  obtain ⟨X10, hX10⟩ : ∃ X, V.alloc (.cells #[.int .u8 97, .int .u8 98, .int .u8 99] 5 (3, 4)) = X := ⟨_, rfl⟩
  have cv10 : (convert 30 30 (.slice (some ⟨V.heap.size, 0, none⟩) 3 3)).run Try.prog (V.alloc (.cells #[.int .u8 97, .int .u8 98, .int .u8 99] 5)) = .ok (.slice (some ⟨V.heap.size, 0, none⟩) 3 3) X10 := by rw [← hX10]; exact conv_b V _ 3
  have HSm := hide (hsame X10 hX10)
  clear HY HZ hV hsame BV
  go_wp2_with fail
  refine (unhide HSm).mono ?_
  rintro e W10 ⟨rfl, hb10⟩
  have HB := hide hb10
  clear HSm hb10
  go_wp2
  go_ret
  exact ⟨rfl, unhide HB⟩

end Go.Proofs.Yteomalmflebkhaa
