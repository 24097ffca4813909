/-
  The document's own Take.
-/
import Derived.Test.YtmjhkgpbemjjkaaZU5
set_option linter.unusedSimpArgs false
set_option linter.unusedVariables false
namespace Go.Proofs.Ytmjhkgpbemjjkaa
open Go.RowKit Go.Lib

/-- the document's Reader in its variable, the result's variable, the Dots so far -/
structure TB (w W : World) (sl : Value) (p : Nat) (e : Int) (vv : Value) (acc : List (Int × Int)) : Prop where
  bx : Bx W w.heap.size 59 #[sl, .int .i64 (p : Nat), .int .i64 e]
  rs : Bx W (w.heap.size + 1) 59 #[.slice none 0 0, .int .i64 0, .int .i64 0]
  row : OwD W (w.heap.size + 2) vv acc
  bel : Below w.heap.size w W
theorem TB.below {w W W' : World} {sl : Value} {p : Nat} {e : Int} {vv : Value} {acc : List (Int × Int)} (h : TB w W sl p e vv acc) (hb : Below W.heap.size W W') : TB w W' sl p e vv acc :=
  ⟨h.bx.below hb, h.rs.below hb, owns_kp (N := fun _ => False) h.row (Kp.of_below hb) (fun _ _ h => h), bnext h.bel hb⟩
theorem TB.other {w W : World} {sl : Value} {p : Nat} {e : Int} {vv : Value} {acc : List (Int × Int)} (h : TB w W sl p e vv acc) (D j : Nat) (v : Value) (h1 : w.heap.size + 2 ≤ D) (h2 : vv.ownBlock ≠ some D) : TB w (W.setCell ⟨D, j, none⟩ v) sl p e vv acc :=
  ⟨h.bx.setO _ (by show w.heap.size ≠ D; omega) _, h.rs.setO _ (by show w.heap.size + 1 ≠ D; omega) _, owns_kp h.row (Kp.set (N := fun i => i = D) W ⟨D, j, none⟩ v rfl) (fun i hi e => h2 (by rw [hi, e])), bset h.bel _ (by show w.heap.size ≤ D; omega) _⟩
theorem TB.store {w W : World} {sl : Value} {p : Nat} {e : Int} {vv : Value} {acc : List (Int × Int)} (h : TB w W sl p e vv acc) (p' : Nat) (e' : Int) :
    TB w (((W.setCell ⟨w.heap.size, 0, none⟩ sl).setCell ⟨w.heap.size, 1, none⟩ (.int .i64 (p' : Nat))).setCell ⟨w.heap.size, 2, none⟩ (.int .i64 e')) sl p' e' vv acc := by
  have k1 := Kp.set (N := fun i => i = w.heap.size) W ⟨w.heap.size, 0, none⟩ sl rfl
  have k2 := Kp.set (N := fun i => i = w.heap.size) (W.setCell ⟨w.heap.size, 0, none⟩ sl) ⟨w.heap.size, 1, none⟩ (.int .i64 (p' : Nat)) rfl
  have k3 := Kp.set (N := fun i => i = w.heap.size) ((W.setCell ⟨w.heap.size, 0, none⟩ sl).setCell ⟨w.heap.size, 1, none⟩ (.int .i64 (p' : Nat))) ⟨w.heap.size, 2, none⟩ (.int .i64 e') rfl
  have k := (k1.trans k2 (fun i h => .inl h)).trans k3 (fun i h => .inl h)
  refine ⟨?_, h.rs.kp k (by omega), owns_kp h.row k (fun i hi e => by have := (h.row.lt i hi).1; omega), k.below h.bel (fun i hi => by omega)⟩
  have := ((h.bx.set 0 sl).set 1 (.int .i64 (p' : Nat))).set 2 (.int .i64 e')
  simpa using this
/-- the result's variable is stored -/
def stR (W : World) (q : Nat) (sl : Value) (p : Nat) (e : Int) : World := ((W.setCell ⟨q, 0, none⟩ sl).setCell ⟨q, 1, none⟩ (.int .i64 (p : Nat))).setCell ⟨q, 2, none⟩ (.int .i64 e)
theorem TB.fin {w W : World} {sl : Value} {p : Nat} {e : Int} {vv : Value} {acc : List (Int × Int)} (h : TB w W sl p e vv acc) :
    Bx (stR W (w.heap.size + 1) sl p e) (w.heap.size + 1) 59 #[sl, .int .i64 (p : Nat), .int .i64 e] ∧ Below w.heap.size w (stR W (w.heap.size + 1) sl p e) ∧ OwD (stR W (w.heap.size + 1) sl p e) (w.heap.size + 2) vv acc := by
  unfold stR
  have k1 := Kp.set (N := fun i => i = w.heap.size + 1) W ⟨w.heap.size + 1, 0, none⟩ sl rfl
  have k2 := Kp.set (N := fun i => i = w.heap.size + 1) (W.setCell ⟨w.heap.size + 1, 0, none⟩ sl) ⟨w.heap.size + 1, 1, none⟩ (.int .i64 (p : Nat)) rfl
  have k3 := Kp.set (N := fun i => i = w.heap.size + 1) ((W.setCell ⟨w.heap.size + 1, 0, none⟩ sl).setCell ⟨w.heap.size + 1, 1, none⟩ (.int .i64 (p : Nat))) ⟨w.heap.size + 1, 2, none⟩ (.int .i64 e) rfl
  have k := (k1.trans k2 (fun i h => .inl h)).trans k3 (fun i h => .inl h)
  refine ⟨?_, k.below h.bel (fun i hi => by omega), owns_kp h.row k (fun i hi e => by have := (h.row.lt i hi).1; omega)⟩
  have := ((h.rs.set 0 sl).set 1 (.int .i64 (p : Nat))).set 2 (.int .i64 e)
  simpa using this

/-- a number is taken off a list at a place -/
theorem tkN_at {l : List Nat} {p : Nat} {e least most : Int} {E : Int} {V Wd : Nat} (h : rn0 (l.drop p) e = (E, V, Wd)) : tkN (l.drop p, e) least most = (if E ≠ 0 then (0, E) else if (V : Int) < least ∨ most < (V : Int) then (0, 6) else (V, 0), (l.drop (p + Wd), E)) := by
  unfold tkN rNum
  simp only
  rw [h]
  simp only [List.drop_drop]
  by_cases h1 : E = 0
  · subst h1
    simp only [ne_eq, not_true_eq_false, if_false]
    split <;> rfl
  · simp only [ne_eq, h1, not_false_eq_true, if_true]

/-- what the document's Take answers -/
def TkR (w : World) (a : Option Addr) (n c : Nat) (l : List Nat) (R : (List (Int × Int) × Int) × (List Nat × Int)) (r : Ending) (W : World) : Prop :=
  ∃ v' p', r = .returned (.tuple #[v', .agg #[.slice a n c, .int .i64 (p' : Nat), .int .i64 R.2.2], .int .i64 R.1.2]) ∧ p' ≤ n ∧ R.2.1 = l.drop p' ∧ OwD W w.heap.size v' R.1.1 ∧ Below w.heap.size w W

set_option maxRecDepth 100000 in
set_option maxHeartbeats 4000000 in
theorem refTake_in (a : Option Addr) (n c : Nat) (l : List Nat) (w : World) (h : RC w (.slice a n c) n (bC l)) (hl : l.length = n) (hn : n ≤ 1000000) (hby : ∀ b ∈ l, b < 256) :
    Calls Try.prog 40 #[.agg #[.slice a n c, .int .i64 0, .int .i64 0]] w (TkR w a n c l (takeV (l, 0))) := by
  obtain ⟨X, hX⟩ : ∃ X, (w.alloc (.cells #[.slice a n c, .int .i64 0, .int .i64 0] 59)).alloc (.cells #[.slice none 0 0, .int .i64 0, .int .i64 0] 59) = X := ⟨_, rfl⟩
  have T0 : TB w X (.slice a n c) 0 0 (.slice none 0 0) [] := by
    rw [← hX]
    refine ⟨(Bx.new w _ _).below (ballc (Below.refl _ _) _), bx_last _ _ _ _, World.ownsRow_nil _ _ _ _, ballc (ballc (Below.refl _ _) _) _⟩
  have TN := hide (fun (p : Nat) (e : Int) (W : World) (hb : Below w.heap.size w W) (hp : p ≤ n) => refTakeNumber_in a n c p e l W (h.below hb) hl hp hn hby)
  have Hl := hide hl
  obtain ⟨R, hR⟩ : ∃ R, takeV (l, 0) = R := ⟨_, rfl⟩
  rw [hR]
  have HR := hide hR
  have K := hide (unhide TN 0 0 X T0.bel (by omega))
  rw [List.drop_zero] at K
  obtain ⟨E, V, Wd, hT⟩ : ∃ E V Wd, rn0 l 0 = (E, V, Wd) := ⟨_, _, _, rfl⟩
  rw [hT] at K
  simp only [Nat.zero_add] at K
  have hwd : Wd ≤ n := by have := rn0_width l 0; rw [hT] at this; simp only at this; omega
  have HA := hide (tkN_at (l := l) (p := 0) (e := 0) (least := 0) (most := 16) (E := E) (V := V) (Wd := Wd) (by rw [List.drop_zero]; exact hT))
  have hVp : V < 9223372036854775808 := by have := rn0_lt l 0; rw [hT] at this; exact this
  have c0 := T0.bx.cell 0 _ rfl
  have c1 := T0.bx.cell 1 _ rfl
  have c2 := T0.bx.cell 2 _ rfl
  replace T0 := hide T0
  clear h hl hby hR hT
  go_enter Try.func40, Try.ntmps40
  go_wp2_with fail
  refine (unhide K).mono ?_
  rintro r W1 ⟨rfl, hb⟩
  have T1 := (unhide T0).below hb
  obtain ⟨Y1, hY1⟩ : ∃ Y, ((W1.setCell ⟨w.heap.size, 0, none⟩ (.slice a n c)).setCell ⟨w.heap.size, 1, none⟩ (.int .i64 (Wd : Nat))).setCell ⟨w.heap.size, 2, none⟩ (.int .i64 E) = Y := ⟨_, rfl⟩
  have T2 : TB w Y1 (.slice a n c) Wd E (.slice none 0 0) [] := by rw [← hY1]; exact T1.store Wd E
  clear c0 c1 c2
  have c0 := T1.bx.cell 0 _ rfl
  have c1 := T1.bx.cell 1 _ rfl
  have c2 := T1.bx.cell 2 _ rfl
  have f0 := T1.bx.frozen 0
  have f1 := T1.bx.frozen 1
  have f2 := T1.bx.frozen 2
  have d0 := T2.bx.cell 0 _ rfl
  have d1 := T2.bx.cell 1 _ rfl
  have d2 := T2.bx.cell 2 _ rfl
  have r0 := T2.rs.cell 0 _ rfl
  have r1 := T2.rs.cell 1 _ rfl
  have r2 := T2.rs.cell 2 _ rfl
  have g0 := T2.rs.frozen 0
  have g1 := T2.rs.frozen 1
  have g2 := T2.rs.frozen 2
  have hq := T2.rs.lt
  have Fn := hide T2.fin
  replace T1 := hide T1
  replace T2 := hide T2
  clear K T0 hb hX
  have HA2 : Hid (tkN (l, 0) 0 16 = (if E ≠ 0 then (0, E) else if (V : Int) < 0 ∨ 16 < (V : Int) then (0, 6) else (V, 0), (l.drop Wd, E))) := by
    refine hide ?_
    have := unhide HA
    rw [List.drop_zero, Nat.zero_add] at this
    exact this
  clear HA
  by_cases hE : E = 0
  · subst hE
    by_cases hV : 16 < (V : Int)
    · have HR2 : Hid (R = (([], 6), (l.drop Wd, 0))) := by
        refine hide ?_
        rw [← unhide HR, takeV, unhide HA2]
        simp [hV]
      go_wp2
      go_region
      go_wp2
      refine bodyPost_ret (results_tct rfl _ _ (w.heap.size + 1) _ _ _ _ rfl (unhide Fn).1 Try.underlying59 rfl sizeR) rfl ?_
      unfold TkR
      rw [unhide HR2]
      exact ⟨_, Wd, rfl, by omega, rfl, World.ownsRow_nil _ _ _ _, (unhide Fn).2.1.drew⟩
    · have HR2 : Hid (tkL V 0 [] (l.drop Wd, 0) = R) := by
        refine hide ?_
        have hV2 : ¬ ((V : Int) < 0 ∨ 16 < (V : Int)) := by omega
        rw [← unhide HR, takeV, unhide HA2]
        simp only [ne_eq, not_true_eq_false, if_false]
        rw [if_neg hV2]
        simp
      have hV3 : (V : Int) ≤ 16 := by omega
      clear HA2 HR
      go_wp2
      clear c0 c1 c2 f0 f1 f2 d0 d1 d2 r0 r1 r2 g0 g1 g2 hq Fn T1 hY1
      go_loopw [6, 7, 8] (fun vv lv iv wr => ∃ (last : Int) (i : Nat) (acc : List (Int × Int)) (p : Nat), lv = .int .i64 last ∧ iv = .int .i64 (i : Nat) ∧ i ≤ V ∧ p ≤ n ∧ 0 ≤ last ∧ last ≤ 16 ∧ acc.length ≤ i ∧ Hid (tkL (V - i) last acc (l.drop p, 0) = R) ∧ Hid (TB w wr (.slice a n c) p 0 vv acc)) (fun _ _ iv _ => V - (Lib.intOf iv).toNat)
      case atStart => exact ⟨0, 0, [], Wd, rfl, rfl, by omega, hwd, by omega, by omega, by simp, HR2, T2⟩
      case round =>
        clear HR2 T2
        obtain ⟨last, i, acc, p, rfl, rfl, hiV, hpn, hl0, hl1, hal, HT, TT⟩ := hrel
        obtain ⟨av, cv, hvv⟩ := (unhide TT).row.form
        subst hvv
        by_cases hlt : i < V
        · have hlt' : (i : Int) < (V : Int) := by omega
          rw [show V - i = (V - (i + 1)) + 1 by omega] at HT
          have T1 := (unhide TT).below (ballc (Below.refl _ wr) (.cells #[.int .i64 0, .int .i64 0] 25))
          have hDq := (unhide TT).rs.lt
          have hDo : (Value.slice av acc.length cv).ownBlock ≠ some wr.heap.size := fun e => by have := ((unhide TT).row.lt _ e).2; omega
          have K := hide (unhide TN p 0 _ T1.bel hpn)
          obtain ⟨E1, V1, W1d, hT1⟩ : ∃ E V Wd, rn0 (l.drop p) 0 = (E, V, Wd) := ⟨_, _, _, rfl⟩
          rw [hT1] at K
          simp only at K
          have hw1 : p + W1d ≤ n := by have := rn0_width (l.drop p) 0; rw [hT1] at this; simp only [List.length_drop] at this; have := unhide Hl; omega
          have hV1 : V1 < 9223372036854775808 := by have := rn0_lt (l.drop p) 0; rw [hT1] at this; exact this
          have HA1 := hide (tkN_at (least := last + 1) (most := 16) hT1)
          obtain ⟨P1, hP1⟩ : ∃ P, p + W1d = P := ⟨_, rfl⟩
          rw [hP1] at K hw1 HA1
          clear hP1
          have c0 := T1.bx.cell 0 _ rfl
          have c1 := T1.bx.cell 1 _ rfl
          have c2 := T1.bx.cell 2 _ rfl
          have hDl : wr.heap.size < (wr.alloc (.cells #[.int .i64 0, .int .i64 0] 25)).heap.size := by simp
          have BD := Bx.new wr 25 #[.int .i64 0, .int .i64 0]
          replace T1 := hide T1
          replace BD := hide BD
          obtain ⟨D, hD⟩ : ∃ D, wr.heap.size = D := ⟨_, rfl⟩
          replace hD := hide hD
          clear hT1
          go_wp2_with fail
          refine (unhide K).mono ?_
          rintro r W2 ⟨rfl, hb⟩
          rw [unhide hD] at hDo hDq hDl ⊢
          have B2 := (unhide BD).below hb
          rw [unhide hD] at B2
          have T2 := (unhide T1).below hb
          have T2' := T2.other D 0 (.int .i64 (V1 : Nat)) (by omega) hDo
          obtain ⟨Y2, hY2⟩ : ∃ Y, (((W2.setCell ⟨D, 0, none⟩ (.int .i64 (V1 : Nat))).setCell ⟨w.heap.size, 0, none⟩ (.slice a n c)).setCell ⟨w.heap.size, 1, none⟩ (.int .i64 (P1 : Nat))).setCell ⟨w.heap.size, 2, none⟩ (.int .i64 E1) = Y := ⟨_, rfl⟩
          have T3 : TB w Y2 (.slice a n c) P1 E1 (.slice av acc.length cv) acc := by rw [← hY2]; exact T2'.store P1 E1
          have B3 : Bx Y2 D 25 #[.int .i64 (V1 : Nat), .int .i64 0] := by
            rw [← hY2]
            have := (((B2.set 0 (.int .i64 (V1 : Nat))).setO ⟨w.heap.size, 0, none⟩ (by show D ≠ w.heap.size; omega) (.slice a n c)).setO ⟨w.heap.size, 1, none⟩ (by show D ≠ w.heap.size; omega) (.int .i64 (P1 : Nat))).setO ⟨w.heap.size, 2, none⟩ (by show D ≠ w.heap.size; omega) (.int .i64 E1)
            simpa using this
          clear c0 c1 c2
          have c0 := T2'.bx.cell 0 _ rfl
          have c1 := T2'.bx.cell 1 _ rfl
          have c2 := T2'.bx.cell 2 _ rfl
          have f0 := T2'.bx.frozen 0
          have f1 := T2'.bx.frozen 1
          have f2 := T2'.bx.frozen 2
          have x0 := B2.cell 0 _ rfl
          have fx0 := B2.frozen 0
          have b0 := T2.bx.cell 0 _ rfl
          have b1 := T2.bx.cell 1 _ rfl
          have b2 := T2.bx.cell 2 _ rfl
          have bf0 := T2.bx.frozen 0
          have bf1 := T2.bx.frozen 1
          have bf2 := T2.bx.frozen 2
          have hDl2 := B2.lt
          have d0 := T3.bx.cell 0 _ rfl
          have d1 := T3.bx.cell 1 _ rfl
          have d2 := T3.bx.cell 2 _ rfl
          have r0 := T3.rs.cell 0 _ rfl
          have r1 := T3.rs.cell 1 _ rfl
          have r2 := T3.rs.cell 2 _ rfl
          have g0 := T3.rs.frozen 0
          have g1 := T3.rs.frozen 1
          have g2 := T3.rs.frozen 2
          have hq := T3.rs.lt
          have Fn := hide T3.fin
          have y0 := B3.cell 0 _ rfl
          have y1 := B3.cell 1 _ rfl
          have hDl3 := B3.lt
          replace T3 := hide T3
          replace B3 := hide B3
          clear K T1 BD T2 T2' B2 hb
          by_cases hE1 : E1 = 0
          · subst hE1
            by_cases hv1 : (V1 : Int) < 1
            · have HR2 : Hid (R = (([], 6), (l.drop P1, 0))) := by
                refine hide ?_
                have e1 : tkN (l.drop p, 0) (last + 1) 16 = ((0, 6), (l.drop P1, 0)) := by rw [unhide HA1]; simp only [ne_eq, not_true_eq_false, if_false]; rw [if_pos (by omega)]
                rw [← unhide HT, tkL_bad1 e1 (by decide)]
              go_wp2
              go_region
              go_wp2
              refine bodyPost_ret (results_tct rfl _ _ (w.heap.size + 1) _ _ _ _ rfl (unhide Fn).1 Try.underlying59 rfl sizeR) rfl ?_
              unfold TkR
              rw [unhide HR2]
              exact ⟨_, P1, rfl, by omega, rfl, World.ownsRow_nil _ _ _ _, (unhide Fn).2.1.drew⟩
            by_cases hv2 : (16 : Int) < (V1 : Int)
            · have HR2 : Hid (R = (([], 6), (l.drop P1, 0))) := by
                refine hide ?_
                have e1 : tkN (l.drop p, 0) (last + 1) 16 = ((0, 6), (l.drop P1, 0)) := by rw [unhide HA1]; simp only [ne_eq, not_true_eq_false, if_false]; rw [if_pos (by omega)]
                rw [← unhide HT, tkL_bad1 e1 (by decide)]
              go_wp2
              go_region
              go_wp2
              refine bodyPost_ret (results_tct rfl _ _ (w.heap.size + 1) _ _ _ _ rfl (unhide Fn).1 Try.underlying59 rfl sizeR) rfl ?_
              unfold TkR
              rw [unhide HR2]
              exact ⟨_, P1, rfl, by omega, rfl, World.ownsRow_nil _ _ _ _, (unhide Fn).2.1.drew⟩
            by_cases hv3 : (V1 : Int) ≤ last
            · have HR2 : Hid (R = (([], 6), (l.drop P1, 0))) := by
                refine hide ?_
                have e1 : tkN (l.drop p, 0) (last + 1) 16 = ((0, 6), (l.drop P1, 0)) := by rw [unhide HA1]; simp only [ne_eq, not_true_eq_false, if_false]; rw [if_pos (by omega)]
                rw [← unhide HT, tkL_bad1 e1 (by decide)]
              go_wp2
              go_region
              go_wp2
              refine bodyPost_ret (results_tct rfl _ _ (w.heap.size + 1) _ _ _ _ rfl (unhide Fn).1 Try.underlying59 rfl sizeR) rfl ?_
              unfold TkR
              rw [unhide HR2]
              exact ⟨_, P1, rfl, by omega, rfl, World.ownsRow_nil _ _ _ _, (unhide Fn).2.1.drew⟩
            have HN1 : Hid (tkN (l.drop p, 0) (last + 1) 16 = ((V1, 0), (l.drop P1, 0))) := by
              refine hide ?_
              rw [unhide HA1]
              simp only [ne_eq, not_true_eq_false, if_false]
              rw [if_neg (by omega)]
            have K := hide (unhide TN P1 0 Y2 (unhide T3).bel hw1)
            obtain ⟨E2, V2, W2d, hT2⟩ : ∃ E V Wd, rn0 (l.drop P1) 0 = (E, V, Wd) := ⟨_, _, _, rfl⟩
            rw [hT2] at K
            simp only at K
            have hw2 : P1 + W2d ≤ n := by have := rn0_width (l.drop P1) 0; rw [hT2] at this; simp only [List.length_drop] at this; have := unhide Hl; omega
            have hV2 : V2 < 9223372036854775808 := by have := rn0_lt (l.drop P1) 0; rw [hT2] at this; exact this
            have HA3 := hide (tkN_at (least := 1) (most := 2147483647) hT2)
            obtain ⟨P2, hP2⟩ : ∃ P, P1 + W2d = P := ⟨_, rfl⟩
            rw [hP2] at K hw2 HA3
            clear hP2
            clear hT2 HA1
            go_wp2_with fail
            refine (unhide K).mono ?_
            rintro r W4 ⟨rfl, hb⟩
            clear c0 c1 c2 f0 f1 f2 x0 fx0 b0 b1 b2 bf0 bf1 bf2 hDl2 d0 d1 d2 r0 r1 r2 g0 g1 g2 hq Fn y0 y1 hDl3 hY2
            have B4 := (unhide B3).below hb
            have T4 := (unhide T3).below hb
            have T4' := T4.other D 1 (.int .i64 (V2 : Nat)) (by omega) hDo
            obtain ⟨Y4, hY4⟩ : ∃ Y, (((W4.setCell ⟨D, 1, none⟩ (.int .i64 (V2 : Nat))).setCell ⟨w.heap.size, 0, none⟩ (.slice a n c)).setCell ⟨w.heap.size, 1, none⟩ (.int .i64 (P2 : Nat))).setCell ⟨w.heap.size, 2, none⟩ (.int .i64 E2) = Y := ⟨_, rfl⟩
            have T5 : TB w Y4 (.slice a n c) (P2) E2 (.slice av acc.length cv) acc := by rw [← hY4]; exact T4'.store (P2) E2
            have B5 : Bx Y4 D 25 #[.int .i64 (V1 : Nat), .int .i64 (V2 : Nat)] := by
              rw [← hY4]
              have := (((B4.set 1 (.int .i64 (V2 : Nat))).setO ⟨w.heap.size, 0, none⟩ (by show D ≠ w.heap.size; omega) (.slice a n c)).setO ⟨w.heap.size, 1, none⟩ (by show D ≠ w.heap.size; omega) (.int .i64 (P2 : Nat))).setO ⟨w.heap.size, 2, none⟩ (by show D ≠ w.heap.size; omega) (.int .i64 E2)
              simpa using this
            have x0 := B4.cell 0 _ rfl
            have x1 := B4.cell 1 _ rfl
            have fx1 := B4.frozen 1
            have b0 := T4.bx.cell 0 _ rfl
            have b1 := T4.bx.cell 1 _ rfl
            have b2 := T4.bx.cell 2 _ rfl
            have bf0 := T4.bx.frozen 0
            have bf1 := T4.bx.frozen 1
            have bf2 := T4.bx.frozen 2
            have hDl2 := B4.lt
            have d0 := T5.bx.cell 0 _ rfl
            have d1 := T5.bx.cell 1 _ rfl
            have d2 := T5.bx.cell 2 _ rfl
            have r0 := T5.rs.cell 0 _ rfl
            have r1 := T5.rs.cell 1 _ rfl
            have r2 := T5.rs.cell 2 _ rfl
            have g0 := T5.rs.frozen 0
            have g1 := T5.rs.frozen 1
            have g2 := T5.rs.frozen 2
            have hq := T5.rs.lt
            have Fn := hide T5.fin
            have y0 := B5.cell 0 _ rfl
            have y1 := B5.cell 1 _ rfl
            have hDl3 := B5.lt
            have Bel5 := hide T5.bel
            replace T5 := hide T5
            replace B5 := hide B5
            clear K T3 B3 T4 T4' B4 hb
            by_cases hE2 : E2 = 0
            · subst hE2
              by_cases hv4 : (V2 : Int) < 1
              · have HR2 : Hid (R = (([], 6), (l.drop (P2), 0))) := by
                  refine hide ?_
                  have e1 : tkN (l.drop P1, 0) 1 2147483647 = ((0, 6), (l.drop (P2), 0)) := by rw [unhide HA3]; simp only [ne_eq, not_true_eq_false, if_false]; rw [if_pos (by omega)]
                  rw [← unhide HT, tkL_bad2 (unhide HN1) e1 (by decide)]
                go_wp2
                go_region
                go_wp2
                refine bodyPost_ret (results_tct rfl _ _ (w.heap.size + 1) _ _ _ _ rfl (unhide Fn).1 Try.underlying59 rfl sizeR) rfl ?_
                unfold TkR
                rw [unhide HR2]
                exact ⟨_, P2, rfl, by omega, rfl, World.ownsRow_nil _ _ _ _, (unhide Fn).2.1.drew⟩
              by_cases hv5 : (2147483647 : Int) < (V2 : Int)
              · have HR2 : Hid (R = (([], 6), (l.drop (P2), 0))) := by
                  refine hide ?_
                  have e1 : tkN (l.drop P1, 0) 1 2147483647 = ((0, 6), (l.drop (P2), 0)) := by rw [unhide HA3]; simp only [ne_eq, not_true_eq_false, if_false]; rw [if_pos (by omega)]
                  rw [← unhide HT, tkL_bad2 (unhide HN1) e1 (by decide)]
                go_wp2
                go_region
                go_wp2
                refine bodyPost_ret (results_tct rfl _ _ (w.heap.size + 1) _ _ _ _ rfl (unhide Fn).1 Try.underlying59 rfl sizeR) rfl ?_
                unfold TkR
                rw [unhide HR2]
                exact ⟨_, P2, rfl, by omega, rfl, World.ownsRow_nil _ _ _ _, (unhide Fn).2.1.drew⟩
              have HN2 : tkN (l.drop P1, 0) 1 2147483647 = ((V2, 0), (l.drop (P2), 0)) := by
                rw [unhide HA3]
                simp only [ne_eq, not_true_eq_false, if_false]
                rw [if_neg (by omega)]
              have HT2 : Hid (tkL (V - (i + 1)) (V1 : Nat) (acc ++ [((V1 : Int), (V2 : Int))]) (l.drop (P2), 0) = R) := hide (by rw [← unhide HT, tkL_good (unhide HN1) HN2])
              obtain ⟨v', w', hr, hown, hgr, hat⟩ := append_dot Y4 23 (w.heap.size + 2) _ acc (V1 : Int) (V2 : Int) (unhide T5).row (by omega) (by omega)
              have Hr := hide hr
              have al := ballc (Below.refl Y4.heap.size Y4) (.cells #[.int .i64 (V1 : Int), .int .i64 (V2 : Int)] 25)
              have hne : ∀ k, (Value.slice av acc.length cv).ownBlock = some k → w.heap.size + 2 ≤ k := fun k hk => ((unhide T5).row.lt k hk).1
              have T6 : Hid (TB w w' (.slice a n c) (P2) 0 v' (acc ++ [((V1 : Int), (V2 : Int))])) :=
                ⟨(hgr.block _ ((unhide T5).bx.below al).lt (fun e => by have := hne _ e.symm; omega)).trans ((unhide T5).bx.below al), (hgr.block _ ((unhide T5).rs.below al).lt (fun e => by have := hne _ e.symm; omega)).trans ((unhide T5).rs.below al), hown, (ballc (unhide T5).bel _).grown hgr (ballc (unhide T5).bel _).size (fun k hk => by have := hne k hk; omega)⟩
              clear hr hown hgr hat al hne HN2
              obtain ⟨av', cv', hv'⟩ := (unhide T6).row.form
              subst hv'
              go_wp2_with (at_builtin; refine wpList_append_eq rfl _ _ 23 rfl _ _ _ _ rfl rfl (unhide Hr) ?_)
              go_roundw
              case measure => show V - ((i : Int) + 1).toNat < V - ((i : Nat) : Int).toNat; omega
              case rel => exact ⟨(V1 : Int), i + 1, _, P2, rfl, by go_num, by omega, hw2, by omega, by omega, by simp; omega, HT2, by have := unhide T6; rw [List.length_append] at this; exact hide this⟩
            · have hE2' : (E2 == 0) = false := by simpa using hE2
              have HR2 : Hid (R = (([], E2), (l.drop (P2), E2))) := by
                refine hide ?_
                have e1 : tkN (l.drop P1, 0) 1 2147483647 = ((0, E2), (l.drop (P2), E2)) := by rw [unhide HA3, if_pos hE2]
                rw [← unhide HT, tkL_bad2 (unhide HN1) e1 hE2]
              go_wp2
              go_region
              go_wp2
              refine bodyPost_ret (results_tct rfl _ _ (w.heap.size + 1) _ _ _ _ rfl (unhide Fn).1 Try.underlying59 rfl sizeR) rfl ?_
              unfold TkR
              rw [unhide HR2]
              exact ⟨_, P2, rfl, by omega, rfl, World.ownsRow_nil _ _ _ _, (unhide Fn).2.1.drew⟩
          · have hE1' : (E1 == 0) = false := by simpa using hE1
            have HR2 : Hid (R = (([], E1), (l.drop P1, E1))) := by
              refine hide ?_
              have e1 : tkN (l.drop p, 0) (last + 1) 16 = ((0, E1), (l.drop P1, E1)) := by rw [unhide HA1, if_pos hE1]
              rw [← unhide HT, tkL_bad1 e1 hE1]
            go_wp2
            go_region
            go_wp2
            refine bodyPost_ret (results_tct rfl _ _ (w.heap.size + 1) _ _ _ _ rfl (unhide Fn).1 Try.underlying59 rfl sizeR) rfl ?_
            unfold TkR
            rw [unhide HR2]
            exact ⟨_, P1, rfl, by omega, rfl, World.ownsRow_nil _ _ _ _, (unhide Fn).2.1.drew⟩
        · have hlt' : ¬ (i : Int) < (V : Int) := by omega
          have HR2 : Hid (R = ((acc, 0), (l.drop p, 0))) := hide (by rw [← unhide HT, show V - i = 0 by omega, tkL])
          have T3 := unhide TT
          have d0 := T3.bx.cell 0 _ rfl
          have d1 := T3.bx.cell 1 _ rfl
          have d2 := T3.bx.cell 2 _ rfl
          have r0 := T3.rs.cell 0 _ rfl
          have r1 := T3.rs.cell 1 _ rfl
          have r2 := T3.rs.cell 2 _ rfl
          have g0 := T3.rs.frozen 0
          have g1 := T3.rs.frozen 1
          have g2 := T3.rs.frozen 2
          have hq := T3.rs.lt
          have Fn := hide T3.fin
          clear T3
          go_wp2
          go_region
          go_wp2
          refine bodyPost_ret (results_tct rfl _ _ (w.heap.size + 1) _ _ _ _ rfl (unhide Fn).1 Try.underlying59 rfl sizeR) rfl ?_
          unfold TkR
          rw [unhide HR2]
          exact ⟨_, p, rfl, by omega, rfl, ((unhide Fn).2.2).base (by omega), (unhide Fn).2.1.drew⟩
  · have HR2 : Hid (R = (([], E), (l.drop Wd, E))) := by
      refine hide ?_
      rw [← unhide HR, takeV, unhide HA2]
      simp [hE]
    have hE' : (E == 0) = false := by simpa using hE
    go_wp2
    go_region
    go_wp2
    refine bodyPost_ret (results_tct rfl _ _ (w.heap.size + 1) _ _ _ _ rfl (unhide Fn).1 Try.underlying59 rfl sizeR) rfl ?_
    unfold TkR
    rw [unhide HR2]
    exact ⟨_, Wd, rfl, by omega, rfl, World.ownsRow_nil _ _ _ _, (unhide Fn).2.1.drew⟩

end Go.Proofs.Ytmjhkgpbemjjkaa
