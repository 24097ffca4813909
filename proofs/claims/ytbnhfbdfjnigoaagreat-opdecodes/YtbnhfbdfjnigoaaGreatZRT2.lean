/-
  The document's own Take of an operation: its walk.
-/
import Derived.Test.YtbnhfbdfjnigoaaGreatZXRT
set_option linter.unusedSimpArgs false
set_option linter.unusedVariables false
namespace Go.Proofs.YtbnhfbdfjnigoaaGreat
open Go.RowKit Go.Lib

theorem rNum_at {l : List Nat} {p : Nat} {e E : Int} {V Wd : Nat} (h : rn0 (l.drop p) e = (E, V, Wd)) : rNum (l.drop p) e = (V, (l.drop (p + Wd), E)) := by
  unfold rNum
  rw [h]
  simp only [List.drop_drop]
theorem rn0_st {l : List Nat} {p : Nat} {e E : Int} {V Wd : Nat} (he : e ≠ 0) (h : rn0 (l.drop p) e = (E, V, Wd)) : E = e ∧ V = 0 ∧ p + Wd = p := by
  rw [rn0_on _ he] at h
  simp only [Prod.mk.injEq] at h
  omega

theorem rTxt_at (l : List Nat) (p : Nat) (e : Int) : rTxt (l.drop p) e = ((rTxt (l.drop p) e).1, (l.drop (p + rTxtW (l.drop p) e), (rTxt (l.drop p) e).2.2)) := by
  have h := rTxt_drop (l.drop p) e
  rw [List.drop_drop] at h
  rw [← h]
theorem rTxt_st {l : List Nat} {p : Nat} {e : Int} (he : e ≠ 0) : (rTxt (l.drop p) e).2.2 = e ∧ p + rTxtW (l.drop p) e = p := by
  unfold rTxt rTxtW
  rw [rn0_on _ he]
  simp [he]
theorem tkI_all {st s1 s2 s3 s4 : List Nat × Int} {a b c : Nat} {t : ByteArray} (h1 : rNum st.1 st.2 = (a, s1)) (h2 : rNum s1.1 s1.2 = (b, s2)) (h3 : rNum s2.1 s2.2 = (c, s3)) (h4 : rTxt s3.1 s3.2 = (t, s4)) (k12 : s1.2 ≠ 0 → s2 = s1) (k23 : s2.2 ≠ 0 → s3 = s2) (k34 : s3.2 ≠ 0 → s4 = s3) :
    (s4.2 ≠ 0 → (tkI st).1.2 = s4.2 ∧ (tkI st).2 = s4) ∧ (s4.2 = 0 → tkI st = ((((((a : Int), (b : Int)), (c : Int)), t), 0), s4)) := by
  rcases tkI_ways h1 h2 h3 h4 with ⟨n1, e1, e2⟩ | ⟨z1, n2, e1, e2⟩ | ⟨z1, z2, n3, e1, e2⟩ | ⟨z1, z2, z3, e⟩
  · have q2 := k12 n1
    have q3 := k23 (by rw [q2]; exact n1)
    have q4 := k34 (by rw [q3, q2]; exact n1)
    rw [q4, q3, q2]
    exact ⟨fun _ => ⟨e1, e2⟩, fun h => absurd h n1⟩
  · have q3 := k23 n2
    have q4 := k34 (by rw [q3]; exact n2)
    rw [q4, q3]
    exact ⟨fun _ => ⟨e1, e2⟩, fun h => absurd h n2⟩
  · have q4 := k34 n3
    rw [q4]
    exact ⟨fun _ => ⟨e1, e2⟩, fun h => absurd h n3⟩
  · rw [e]
    exact ⟨fun _ => ⟨rfl, rfl⟩, fun h => by rw [h]⟩

set_option maxRecDepth 100000 in
set_option maxHeartbeats 16000000 in
theorem docTake_in (a : Option Addr) (n c q : Nat) (hq0 : q ≤ n) (l : List Nat) (w : World) (h : RC w (.slice a n c) n (bC l)) (hl : l.length = n) (hn : n ≤ 1000000) (hby : ∀ b ∈ l, b < 256) :
    Calls Tryz.prog 12 #[.agg #[.slice a n c, .int .i64 (q : Nat), .int .i64 0]] w (TkO w a n c l (takeO (l.drop q, 0))) := by
  obtain ⟨X, hX⟩ : ∃ X, (((w.alloc (.cells #[.slice a n c, .int .i64 (q : Nat), .int .i64 0] 45)).alloc (.cells #[.int .i64 0, .int .i64 0, .slice none 0 0, .int .i64 0, .int .i64 0, .int .i64 0, .int .i64 0, .int .i64 0, .string ⟨#[]⟩, .slice none 0 0, .int .i64 0] 32)).alloc (.cells #[.slice none 0 0, .int .i64 0, .int .i64 0] 45)).alloc (.cells #[.int .i64 0, .int .i64 0, .slice none 0 0, .int .i64 0, .int .i64 0, .int .i64 0, .int .i64 0, .int .i64 0, .string ⟨#[]⟩, .slice none 0 0, .int .i64 0] 32) = X := ⟨_, rfl⟩
  have HT : Hid (TE w X (.slice a n c) (q) (0) #[.int .i64 0, .int .i64 0, .slice none 0 0, .int .i64 0, .int .i64 0, .int .i64 0, .int .i64 0, .int .i64 0, .string ⟨#[]⟩, .slice none 0 0, .int .i64 0] (w.heap.size + 4) (.slice none 0 0) (.slice none 0 0) [] []) := by
    rw [← hX]
    refine ⟨(Bx.new w _ _).below (ballc (ballc (ballc (Below.refl _ _) _) _) _), Bx.below (bx_lastR _ _ _ _) (ballc (ballc (Below.refl _ _) _) _), ?_, ?_, World.ownsRow_nil _ _ _ _, World.ownsRow_nil _ _ _ _, Nat.le_refl _, (fun k hk => by cases hk), by simp, ballc (ballc (ballc (ballc (Below.refl _ _) _) _) _) _⟩
    · have := bx_lastR (w.alloc (.cells #[.slice a n c, .int .i64 (q : Nat), .int .i64 0] 45)) (.cells #[.int .i64 0, .int .i64 0, .slice none 0 0, .int .i64 0, .int .i64 0, .int .i64 0, .int .i64 0, .int .i64 0, .string ⟨#[]⟩, .slice none 0 0, .int .i64 0] 32) #[.slice none 0 0, .int .i64 0, .int .i64 0] 45
      rw [show (w.alloc (.cells #[.slice a n c, .int .i64 (q : Nat), .int .i64 0] 45)).heap.size + 1 = w.heap.size + 2 by simp] at this
      exact Bx.below this (ballc (Below.refl _ _) _)
    · have := bx_lastR ((w.alloc (.cells #[.slice a n c, .int .i64 (q : Nat), .int .i64 0] 45)).alloc (.cells #[.int .i64 0, .int .i64 0, .slice none 0 0, .int .i64 0, .int .i64 0, .int .i64 0, .int .i64 0, .int .i64 0, .string ⟨#[]⟩, .slice none 0 0, .int .i64 0] 32)) (.cells #[.slice none 0 0, .int .i64 0, .int .i64 0] 45) #[.int .i64 0, .int .i64 0, .slice none 0 0, .int .i64 0, .int .i64 0, .int .i64 0, .int .i64 0, .int .i64 0, .string ⟨#[]⟩, .slice none 0 0, .int .i64 0] 32
      rw [show ((w.alloc (.cells #[.slice a n c, .int .i64 (q : Nat), .int .i64 0] 45)).alloc (.cells #[.int .i64 0, .int .i64 0, .slice none 0 0, .int .i64 0, .int .i64 0, .int .i64 0, .int .i64 0, .int .i64 0, .string ⟨#[]⟩, .slice none 0 0, .int .i64 0] 32)).heap.size + 1 = w.heap.size + 3 by simp] at this
      exact this
  have TN := hide (fun (p : Nat) (e : Int) (W : World) (hb : Below w.heap.size w W) (hp : p ≤ n) => refTakeNumber_in a n c p e l W (h.below hb) hl hp hn hby)
  have TX := hide (fun (p : Nat) (e : Int) (W : World) (hb : Below w.heap.size w W) (hp : p ≤ n) => refTakeText_in a n c p e l W (h.below hb) hl hp hn hby)
  have TV := hide (fun (p : Nat) (W : World) (hb : Below w.heap.size w W) (hp : p ≤ n) => refTake_in a n c p hp l W (h.below hb) hl hn hby)
  have Hl := hide hl
  have Hby := hide hby
  obtain ⟨R, hR⟩ : ∃ R, takeO (l.drop q, 0) = R := ⟨_, rfl⟩
  rw [hR]
  have HR := hide hR
  clear h hl hby hR
  have c0 := (unhide HT).bx.cell 0 _ rfl
  have c1 := (unhide HT).bx.cell 1 _ rfl
  have c2 := (unhide HT).bx.cell 2 _ rfl
  obtain ⟨o0, o1, o2, o3, o4, o5, o6, o7, o8, o9, o10⟩ := cells_op (unhide HT).ox
  go_enter Tryz.func12, Tryz.ntmps12
  have K := hide (unhide TN (q) (0) X (unhide HT).bel hq0)
  obtain ⟨E1, V1, D1, hT1⟩ : ∃ E V Wd, rn0 (l.drop (q)) (0) = (E, V, Wd) := ⟨_, _, _, rfl⟩
  rw [hT1] at K
  simp only at K
  have hpn1 : q + D1 ≤ n := by have := rn0_width (l.drop (q)) (0); rw [hT1] at this; simp only [List.length_drop] at this; have := unhide Hl; omega
  have hV1 : V1 < 9223372036854775808 := by have := rn0_lt (l.drop (q)) (0); rw [hT1] at this; exact this
  have HQ1 := hide (rNum_at hT1)
  have HS1 := hide (fun (h : (0 : Int) ≠ 0) => rn0_st h hT1)
  obtain ⟨P1, hP1⟩ : ∃ P, q + D1 = P := ⟨_, rfl⟩
  rw [hP1] at K hpn1 HQ1
  replace HS1 : Hid ((0 : Int) ≠ 0 → E1 = 0 ∧ V1 = 0 ∧ P1 = q) := by rw [← hP1]; exact HS1
  clear hP1 hT1
  go_wp2_with fail
  refine (unhide K).mono ?_
  rintro r W1 ⟨rfl, hb⟩
  have T1 := (unhide HT).below hb
  clear K HT hb c0 c1 c2 o0 o1 o2 o3 o4 o5 o6 o7 o8 o9 o10 hX
  --CUT1
  have T1' := T1.putO 3 (.int .i64 (V1 : Nat))
  obtain ⟨Y1, hY1⟩ : ∃ Y, (((W1.setCell ⟨w.heap.size + 3, 3, none⟩ (.int .i64 (V1 : Nat))).setCell ⟨w.heap.size, 0, none⟩ (.slice a n c)).setCell ⟨w.heap.size, 1, none⟩ (.int .i64 (P1 : Nat))).setCell ⟨w.heap.size, 2, none⟩ (.int .i64 E1) = Y := ⟨_, rfl⟩
  have HT : Hid (TE w Y1 (.slice a n c) (P1) (E1) #[.int .i64 0, .int .i64 0, .slice none 0 0, .int .i64 (V1 : Nat), .int .i64 0, .int .i64 0, .int .i64 0, .int .i64 0, .string ⟨#[]⟩, .slice none 0 0, .int .i64 0] (w.heap.size + 4) (.slice none 0 0) (.slice none 0 0) [] []) := by rw [← hY1]; refine hide ?_; have := T1'.putR P1 E1; simpa using this
  have x0 := T1.ox.cell 3 _ rfl
  have fx0 := T1.ox.frozen 3
  have hxl := T1.ox.lt
  have b0 := T1.bx.cell 0 _ rfl
  have b1 := T1.bx.cell 1 _ rfl
  have b2 := T1.bx.cell 2 _ rfl
  have bf0 := T1.bx.frozen 0
  have bf1 := T1.bx.frozen 1
  have bf2 := T1.bx.frozen 2
  have d0 := T1'.bx.cell 0 _ rfl
  have d1 := T1'.bx.cell 1 _ rfl
  have d2 := T1'.bx.cell 2 _ rfl
  have df0 := T1'.bx.frozen 0
  have df1 := T1'.bx.frozen 1
  have df2 := T1'.bx.frozen 2
  clear T1 T1'
  have c0 := (unhide HT).bx.cell 0 _ rfl
  have c1 := (unhide HT).bx.cell 1 _ rfl
  have c2 := (unhide HT).bx.cell 2 _ rfl
  obtain ⟨o0, o1, o2, o3, o4, o5, o6, o7, o8, o9, o10⟩ := cells_op (unhide HT).ox
  --CUT2
  by_cases hE1 : E1 = 0
  rotate_left
  · have hE1' : (E1 == 0) = false := by simpa using hE1
    have HR2 : Hid (R = ((zO, E1), (l.drop P1, E1))) := by
      refine hide ?_
      rw [← unhide HR]
      unfold takeO
      rw [unhide HQ1]
      simp only
      rw [if_pos hE1]
    have f0 := hide ((unhide HT).ret (.int .i64 0) (.int .i64 0) (.slice none 0 0) (.int .i64 0) (.int .i64 0) (.int .i64 0) (.int .i64 0) (.int .i64 0) (.string ⟨#[]⟩) (.slice none 0 0) (.int .i64 0))
    have ro' := (unhide HT).ro
    obtain ⟨z0, z1, z2, z3, z4, z5, z6, z7, z8, z9, z10⟩ := cells_op ro'
    have zf0 := ro'.frozen 0
    have zf1 := ro'.frozen 1
    have zf2 := ro'.frozen 2
    have zf3 := ro'.frozen 3
    have zf4 := ro'.frozen 4
    have zf5 := ro'.frozen 5
    have zf6 := ro'.frozen 6
    have zf7 := ro'.frozen 7
    have zf8 := ro'.frozen 8
    have zf9 := ro'.frozen 9
    have zf10 := ro'.frozen 10
    have m1 := (unhide HT).rs
    have zl := ro'.lt
    have u0 := m1.cell 0 _ rfl
    have u1 := m1.cell 1 _ rfl
    have u2 := m1.cell 2 _ rfl
    have uf0 := m1.frozen 0
    have uf1 := m1.frozen 1
    have uf2 := m1.frozen 2
    have ul := m1.lt
    clear ro' m1
    go_wp2
    go_region
    go_wp2
    obtain ⟨F, hF, f1, f2, f3, f4, f5⟩ := unhide f0
    simp only [Nat.add_assoc, Nat.reduceAdd]
    rw [← hF]
    clear hF f0
    refine bodyPost_ret (results_cct rfl _ _ (w.heap.size + 1) _ _ _ _ (w.heap.size + 2) _ _ _ _ rfl f1 Tryz.underlying32 rfl sizeOp rfl f2 Tryz.underlying45 rfl sizeRR) rfl ?_
    unfold TkO
    rw [unhide HR2]
    exact ⟨.slice none 0 0, .slice none 0 0, P1, rfl, hpn1, rfl, World.ownsRow_nil _ _ _ _, World.ownsRow_nil _ _ _ _, f5⟩
  subst hE1
  by_cases hk : V1 < 1 ∨ 4 < V1
  · rcases hk with hk | hk
    · have hk' : (V1 : Int) < 1 := by omega
      have HR2 : Hid (R = ((zO, 10), (l.drop P1, 0))) := by
        refine hide ?_
        rw [← unhide HR]
        unfold takeO
        rw [unhide HQ1]
        simp only
        rw [if_neg (by simp), if_pos (by omega)]
      have f0 := hide ((unhide HT).ret (.int .i64 0) (.int .i64 0) (.slice none 0 0) (.int .i64 0) (.int .i64 0) (.int .i64 0) (.int .i64 0) (.int .i64 0) (.string ⟨#[]⟩) (.slice none 0 0) (.int .i64 0))
      have ro' := (unhide HT).ro
      obtain ⟨z0, z1, z2, z3, z4, z5, z6, z7, z8, z9, z10⟩ := cells_op ro'
      have zf0 := ro'.frozen 0
      have zf1 := ro'.frozen 1
      have zf2 := ro'.frozen 2
      have zf3 := ro'.frozen 3
      have zf4 := ro'.frozen 4
      have zf5 := ro'.frozen 5
      have zf6 := ro'.frozen 6
      have zf7 := ro'.frozen 7
      have zf8 := ro'.frozen 8
      have zf9 := ro'.frozen 9
      have zf10 := ro'.frozen 10
      have m1 := (unhide HT).rs
      have zl := ro'.lt
      have u0 := m1.cell 0 _ rfl
      have u1 := m1.cell 1 _ rfl
      have u2 := m1.cell 2 _ rfl
      have uf0 := m1.frozen 0
      have uf1 := m1.frozen 1
      have uf2 := m1.frozen 2
      have ul := m1.lt
      clear ro' m1
      go_wp2
      go_region
      go_wp2
      obtain ⟨F, hF, f1, f2, f3, f4, f5⟩ := unhide f0
      simp only [Nat.add_assoc, Nat.reduceAdd]
      rw [← hF]
      clear hF f0
      refine bodyPost_ret (results_cct rfl _ _ (w.heap.size + 1) _ _ _ _ (w.heap.size + 2) _ _ _ _ rfl f1 Tryz.underlying32 rfl sizeOp rfl f2 Tryz.underlying45 rfl sizeRR) rfl ?_
      unfold TkO
      rw [unhide HR2]
      exact ⟨.slice none 0 0, .slice none 0 0, P1, rfl, hpn1, rfl, World.ownsRow_nil _ _ _ _, World.ownsRow_nil _ _ _ _, f5⟩
    · have hk' : (4 : Int) < (V1 : Int) := by omega
      have hk2 : ¬ (V1 : Int) < 1 := by omega
      have HR2 : Hid (R = ((zO, 10), (l.drop P1, 0))) := by
        refine hide ?_
        rw [← unhide HR]
        unfold takeO
        rw [unhide HQ1]
        simp only
        rw [if_neg (by simp), if_pos (by omega)]
      have f0 := hide ((unhide HT).ret (.int .i64 0) (.int .i64 0) (.slice none 0 0) (.int .i64 0) (.int .i64 0) (.int .i64 0) (.int .i64 0) (.int .i64 0) (.string ⟨#[]⟩) (.slice none 0 0) (.int .i64 0))
      have ro' := (unhide HT).ro
      obtain ⟨z0, z1, z2, z3, z4, z5, z6, z7, z8, z9, z10⟩ := cells_op ro'
      have zf0 := ro'.frozen 0
      have zf1 := ro'.frozen 1
      have zf2 := ro'.frozen 2
      have zf3 := ro'.frozen 3
      have zf4 := ro'.frozen 4
      have zf5 := ro'.frozen 5
      have zf6 := ro'.frozen 6
      have zf7 := ro'.frozen 7
      have zf8 := ro'.frozen 8
      have zf9 := ro'.frozen 9
      have zf10 := ro'.frozen 10
      have m1 := (unhide HT).rs
      have zl := ro'.lt
      have u0 := m1.cell 0 _ rfl
      have u1 := m1.cell 1 _ rfl
      have u2 := m1.cell 2 _ rfl
      have uf0 := m1.frozen 0
      have uf1 := m1.frozen 1
      have uf2 := m1.frozen 2
      have ul := m1.lt
      clear ro' m1
      go_wp2
      go_region
      go_wp2
      obtain ⟨F, hF, f1, f2, f3, f4, f5⟩ := unhide f0
      simp only [Nat.add_assoc, Nat.reduceAdd]
      rw [← hF]
      clear hF f0
      refine bodyPost_ret (results_cct rfl _ _ (w.heap.size + 1) _ _ _ _ (w.heap.size + 2) _ _ _ _ rfl f1 Tryz.underlying32 rfl sizeOp rfl f2 Tryz.underlying45 rfl sizeRR) rfl ?_
      unfold TkO
      rw [unhide HR2]
      exact ⟨.slice none 0 0, .slice none 0 0, P1, rfl, hpn1, rfl, World.ownsRow_nil _ _ _ _, World.ownsRow_nil _ _ _ _, f5⟩
  have hk1 : ¬ (V1 : Int) < 1 := by omega
  have hk2 : ¬ (4 : Int) < (V1 : Int) := by omega
  have K := hide (unhide TN (P1) (0) Y1 (unhide HT).bel hpn1)
  obtain ⟨E2, V2, D2, hT2⟩ : ∃ E V Wd, rn0 (l.drop (P1)) (0) = (E, V, Wd) := ⟨_, _, _, rfl⟩
  rw [hT2] at K
  simp only at K
  have hpn2 : P1 + D2 ≤ n := by have := rn0_width (l.drop (P1)) (0); rw [hT2] at this; simp only [List.length_drop] at this; have := unhide Hl; omega
  have hV2 : V2 < 9223372036854775808 := by have := rn0_lt (l.drop (P1)) (0); rw [hT2] at this; exact this
  have HQ2 := hide (rNum_at hT2)
  have HS2 := hide (fun (h : (0 : Int) ≠ 0) => rn0_st h hT2)
  obtain ⟨P2, hP2⟩ : ∃ P, P1 + D2 = P := ⟨_, rfl⟩
  rw [hP2] at K hpn2 HQ2
  replace HS2 : Hid ((0 : Int) ≠ 0 → E2 = 0 ∧ V2 = 0 ∧ P2 = P1) := by rw [← hP2]; exact HS2
  clear hP2 hT2
  go_wp2_with fail
  refine (unhide K).mono ?_
  rintro r W2 ⟨rfl, hb⟩
  have T1 := (unhide HT).below hb
  clear K HT hb c0 c1 c2 o0 o1 o2 o3 o4 o5 o6 o7 o8 o9 o10 hY1
  clear x0 fx0 hxl b0 b1 b2 bf0 bf1 bf2 d0 d1 d2 df0 df1 df2
  have T1' := T1.putO 0 (.int .i64 (V2 : Nat))
  obtain ⟨Y2, hY2⟩ : ∃ Y, (((W2.setCell ⟨w.heap.size + 3, 0, none⟩ (.int .i64 (V2 : Nat))).setCell ⟨w.heap.size, 0, none⟩ (.slice a n c)).setCell ⟨w.heap.size, 1, none⟩ (.int .i64 (P2 : Nat))).setCell ⟨w.heap.size, 2, none⟩ (.int .i64 E2) = Y := ⟨_, rfl⟩
  have HT : Hid (TE w Y2 (.slice a n c) (P2) (E2) #[.int .i64 (V2 : Nat), .int .i64 0, .slice none 0 0, .int .i64 (V1 : Nat), .int .i64 0, .int .i64 0, .int .i64 0, .int .i64 0, .string ⟨#[]⟩, .slice none 0 0, .int .i64 0] (w.heap.size + 4) (.slice none 0 0) (.slice none 0 0) [] []) := by rw [← hY2]; refine hide ?_; have := T1'.putR P2 E2; simpa using this
  have x0 := T1.ox.cell 0 _ rfl
  have fx0 := T1.ox.frozen 0
  have hxl := T1.ox.lt
  have b0 := T1.bx.cell 0 _ rfl
  have b1 := T1.bx.cell 1 _ rfl
  have b2 := T1.bx.cell 2 _ rfl
  have bf0 := T1.bx.frozen 0
  have bf1 := T1.bx.frozen 1
  have bf2 := T1.bx.frozen 2
  have d0 := T1'.bx.cell 0 _ rfl
  have d1 := T1'.bx.cell 1 _ rfl
  have d2 := T1'.bx.cell 2 _ rfl
  have df0 := T1'.bx.frozen 0
  have df1 := T1'.bx.frozen 1
  have df2 := T1'.bx.frozen 2
  clear T1 T1'
  have c0 := (unhide HT).bx.cell 0 _ rfl
  have c1 := (unhide HT).bx.cell 1 _ rfl
  have c2 := (unhide HT).bx.cell 2 _ rfl
  obtain ⟨o0, o1, o2, o3, o4, o5, o6, o7, o8, o9, o10⟩ := cells_op (unhide HT).ox
  have K := hide (unhide TN (P2) (E2) Y2 (unhide HT).bel hpn2)
  obtain ⟨E3, V3, D3, hT3⟩ : ∃ E V Wd, rn0 (l.drop (P2)) (E2) = (E, V, Wd) := ⟨_, _, _, rfl⟩
  rw [hT3] at K
  simp only at K
  have hpn3 : P2 + D3 ≤ n := by have := rn0_width (l.drop (P2)) (E2); rw [hT3] at this; simp only [List.length_drop] at this; have := unhide Hl; omega
  have hV3 : V3 < 9223372036854775808 := by have := rn0_lt (l.drop (P2)) (E2); rw [hT3] at this; exact this
  have HQ3 := hide (rNum_at hT3)
  have HS3 := hide (fun (h : (E2 : Int) ≠ 0) => rn0_st h hT3)
  obtain ⟨P3, hP3⟩ : ∃ P, P2 + D3 = P := ⟨_, rfl⟩
  rw [hP3] at K hpn3 HQ3
  replace HS3 : Hid ((E2 : Int) ≠ 0 → E3 = E2 ∧ V3 = 0 ∧ P3 = P2) := by rw [← hP3]; exact HS3
  clear hP3 hT3
  go_wp2_with fail
  refine (unhide K).mono ?_
  rintro r W3 ⟨rfl, hb⟩
  have T1 := (unhide HT).below hb
  clear K HT hb c0 c1 c2 o0 o1 o2 o3 o4 o5 o6 o7 o8 o9 o10 hY2
  clear x0 fx0 hxl b0 b1 b2 bf0 bf1 bf2 d0 d1 d2 df0 df1 df2
  have T1' := T1.putO 1 (.int .i64 (V3 : Nat))
  obtain ⟨Y3, hY3⟩ : ∃ Y, (((W3.setCell ⟨w.heap.size + 3, 1, none⟩ (.int .i64 (V3 : Nat))).setCell ⟨w.heap.size, 0, none⟩ (.slice a n c)).setCell ⟨w.heap.size, 1, none⟩ (.int .i64 (P3 : Nat))).setCell ⟨w.heap.size, 2, none⟩ (.int .i64 E3) = Y := ⟨_, rfl⟩
  have HT : Hid (TE w Y3 (.slice a n c) (P3) (E3) #[.int .i64 (V2 : Nat), .int .i64 (V3 : Nat), .slice none 0 0, .int .i64 (V1 : Nat), .int .i64 0, .int .i64 0, .int .i64 0, .int .i64 0, .string ⟨#[]⟩, .slice none 0 0, .int .i64 0] (w.heap.size + 4) (.slice none 0 0) (.slice none 0 0) [] []) := by rw [← hY3]; refine hide ?_; have := T1'.putR P3 E3; simpa using this
  have x0 := T1.ox.cell 1 _ rfl
  have fx0 := T1.ox.frozen 1
  have hxl := T1.ox.lt
  have b0 := T1.bx.cell 0 _ rfl
  have b1 := T1.bx.cell 1 _ rfl
  have b2 := T1.bx.cell 2 _ rfl
  have bf0 := T1.bx.frozen 0
  have bf1 := T1.bx.frozen 1
  have bf2 := T1.bx.frozen 2
  have d0 := T1'.bx.cell 0 _ rfl
  have d1 := T1'.bx.cell 1 _ rfl
  have d2 := T1'.bx.cell 2 _ rfl
  have df0 := T1'.bx.frozen 0
  have df1 := T1'.bx.frozen 1
  have df2 := T1'.bx.frozen 2
  clear T1 T1'
  have c0 := (unhide HT).bx.cell 0 _ rfl
  have c1 := (unhide HT).bx.cell 1 _ rfl
  have c2 := (unhide HT).bx.cell 2 _ rfl
  obtain ⟨o0, o1, o2, o3, o4, o5, o6, o7, o8, o9, o10⟩ := cells_op (unhide HT).ox
  by_cases hE3 : E3 = 0
  rotate_left
  · have hE3' : (E3 == 0) = false := by simpa using hE3
    have HR2 : Hid (R = ((zO, E3), (l.drop P3, E3))) := by
      refine hide ?_
      rw [← unhide HR]
      by_cases hE2 : E2 = 0
      · subst hE2
        rcases takeO_ways (st := (l.drop q, 0)) (unhide HQ1) (unhide HQ2) (unhide HQ3) rfl with ⟨k1, e⟩ | ⟨k1, kn, e⟩ | ⟨k1, kn, k2, e⟩ | ⟨k1, kn, k2, k3, e⟩ | ⟨k1, kn, k2, k3, k4, e⟩ | ⟨k1, kn, k2, k3, k4, e⟩
        · exact absurd rfl k1
        · exact absurd kn hk
        · exact absurd rfl k2
        · exact e
        · exact absurd k3 hE3
        · exact absurd k3 hE3
      · obtain ⟨e1, e2, e3⟩ := unhide HS3 hE2
        subst e1 e3
        rcases takeO_ways (st := (l.drop q, 0)) (unhide HQ1) (unhide HQ2) (unhide HQ3) rfl with ⟨k1, e⟩ | ⟨k1, kn, e⟩ | ⟨k1, kn, k2, e⟩ | ⟨k1, kn, k2, k3, e⟩ | ⟨k1, kn, k2, k3, k4, e⟩ | ⟨k1, kn, k2, k3, k4, e⟩
        · exact absurd rfl k1
        · exact absurd kn hk
        · exact e
        · exact absurd k2 hE2
        · exact absurd k2 hE2
        · exact absurd k2 hE2
    have f0 := hide ((unhide HT).ret (.int .i64 0) (.int .i64 0) (.slice none 0 0) (.int .i64 0) (.int .i64 0) (.int .i64 0) (.int .i64 0) (.int .i64 0) (.string ⟨#[]⟩) (.slice none 0 0) (.int .i64 0))
    have ro' := (unhide HT).ro
    obtain ⟨z0, z1, z2, z3, z4, z5, z6, z7, z8, z9, z10⟩ := cells_op ro'
    have zf0 := ro'.frozen 0
    have zf1 := ro'.frozen 1
    have zf2 := ro'.frozen 2
    have zf3 := ro'.frozen 3
    have zf4 := ro'.frozen 4
    have zf5 := ro'.frozen 5
    have zf6 := ro'.frozen 6
    have zf7 := ro'.frozen 7
    have zf8 := ro'.frozen 8
    have zf9 := ro'.frozen 9
    have zf10 := ro'.frozen 10
    have m1 := (unhide HT).rs
    have zl := ro'.lt
    have u0 := m1.cell 0 _ rfl
    have u1 := m1.cell 1 _ rfl
    have u2 := m1.cell 2 _ rfl
    have uf0 := m1.frozen 0
    have uf1 := m1.frozen 1
    have uf2 := m1.frozen 2
    have ul := m1.lt
    clear ro' m1
    go_wp2
    go_region
    go_wp2
    obtain ⟨F, hF, f1, f2, f3, f4, f5⟩ := unhide f0
    simp only [Nat.add_assoc, Nat.reduceAdd]
    rw [← hF]
    clear hF f0
    refine bodyPost_ret (results_cct rfl _ _ (w.heap.size + 1) _ _ _ _ (w.heap.size + 2) _ _ _ _ rfl f1 Tryz.underlying32 rfl sizeOp rfl f2 Tryz.underlying45 rfl sizeRR) rfl ?_
    unfold TkO
    rw [unhide HR2]
    exact ⟨.slice none 0 0, .slice none 0 0, P3, rfl, hpn3, rfl, World.ownsRow_nil _ _ _ _, World.ownsRow_nil _ _ _ _, f5⟩
  have hE2 : E2 = 0 := Decidable.byContradiction fun h => by have := (unhide HS3 h).1; omega
  subst hE3
  subst hE2
  have KV := hide (unhide TV P3 Y3 (unhide HT).bel hpn3)
  obtain ⟨⟨⟨d, e4⟩, s4⟩, hTV⟩ : ∃ R, takeV (l.drop P3, 0) = R := ⟨_, rfl⟩
  rw [hTV] at KV
  have HTV := hide hTV
  clear hTV
  go_wp2_with fail
  refine (unhide KV).mono ?_
  rintro r W4 ⟨vd, P4, rfl, hpn4, hs4, hod, hb⟩
  clear x0 fx0 hxl b0 b1 b2 bf0 bf1 bf2 d0 d1 d2 df0 df1 df2
  simp only at hs4 hod
  obtain ⟨l4, E4⟩ := s4
  simp only at hs4
  subst hs4
  obtain ⟨av, cv, hvd⟩ := hod.form
  subst hvd
  have hld : d.length ≤ 16 := by have := takeV_len (l.drop P3, 0); rw [unhide HTV] at this; exact this
  have T1 := ((unhide HT).below hb).deps (hod.base (by have := (unhide HT).ox.lt; omega))
  clear KV HT hb hod hY3 c0 c1 c2 o0 o1 o2 o3 o4 o5 o6 o7 o8 o9 o10
  have T1' := T1.putO 2 (.slice av d.length cv)
  obtain ⟨Y4, hY4⟩ : ∃ Y, (((W4.setCell ⟨w.heap.size + 3, 2, none⟩ (.slice av d.length cv)).setCell ⟨w.heap.size, 0, none⟩ (.slice a n c)).setCell ⟨w.heap.size, 1, none⟩ (.int .i64 (P4 : Nat))).setCell ⟨w.heap.size, 2, none⟩ (.int .i64 E4) = Y := ⟨_, rfl⟩
  have HT : Hid (TE w Y4 (.slice a n c) (P4) (E4) #[.int .i64 (V2 : Nat), .int .i64 (V3 : Nat), .slice av d.length cv, .int .i64 (V1 : Nat), .int .i64 0, .int .i64 0, .int .i64 0, .int .i64 0, .string ⟨#[]⟩, .slice none 0 0, .int .i64 0] W4.heap.size (.slice av d.length cv) (.slice none 0 0) d []) := by rw [← hY4]; refine hide ?_; have := T1'.putR P4 E4; simpa using this
  have x0 := T1.ox.cell 2 _ rfl
  have fx0 := T1.ox.frozen 2
  have hxl := T1.ox.lt
  have b0 := T1.bx.cell 0 _ rfl
  have b1 := T1.bx.cell 1 _ rfl
  have b2 := T1.bx.cell 2 _ rfl
  have bf0 := T1.bx.frozen 0
  have bf1 := T1.bx.frozen 1
  have bf2 := T1.bx.frozen 2
  have d0 := T1'.bx.cell 0 _ rfl
  have d1 := T1'.bx.cell 1 _ rfl
  have d2 := T1'.bx.cell 2 _ rfl
  have df0 := T1'.bx.frozen 0
  have df1 := T1'.bx.frozen 1
  have df2 := T1'.bx.frozen 2
  clear T1 T1'
  have c0 := (unhide HT).bx.cell 0 _ rfl
  have c1 := (unhide HT).bx.cell 1 _ rfl
  have c2 := (unhide HT).bx.cell 2 _ rfl
  obtain ⟨o0, o1, o2, o3, o4, o5, o6, o7, o8, o9, o10⟩ := cells_op (unhide HT).ox
  by_cases hE4 : e4 = 0
  rotate_left
  · have hE4' : (e4 == 0) = false := by simpa using hE4
    have HR2 : Hid (R = ((zO, e4), (l.drop P4, E4))) := by
      refine hide ?_
      rw [← unhide HR]
      rcases takeO_ways (st := (l.drop q, 0)) (unhide HQ1) (unhide HQ2) (unhide HQ3) (unhide HTV) with ⟨k1, e⟩ | ⟨k1, kn, e⟩ | ⟨k1, kn, k2, e⟩ | ⟨k1, kn, k2, k3, e⟩ | ⟨k1, kn, k2, k3, k4, e⟩ | ⟨k1, kn, k2, k3, k4, e⟩
      · exact absurd rfl k1
      · exact absurd kn hk
      · exact absurd rfl k2
      · exact absurd rfl k3
      · exact e
      · exact absurd k4 hE4
    have f0 := hide ((unhide HT).ret (.int .i64 0) (.int .i64 0) (.slice none 0 0) (.int .i64 0) (.int .i64 0) (.int .i64 0) (.int .i64 0) (.int .i64 0) (.string ⟨#[]⟩) (.slice none 0 0) (.int .i64 0))
    have ro' := (unhide HT).ro
    obtain ⟨z0, z1, z2, z3, z4, z5, z6, z7, z8, z9, z10⟩ := cells_op ro'
    have zf0 := ro'.frozen 0
    have zf1 := ro'.frozen 1
    have zf2 := ro'.frozen 2
    have zf3 := ro'.frozen 3
    have zf4 := ro'.frozen 4
    have zf5 := ro'.frozen 5
    have zf6 := ro'.frozen 6
    have zf7 := ro'.frozen 7
    have zf8 := ro'.frozen 8
    have zf9 := ro'.frozen 9
    have zf10 := ro'.frozen 10
    have m1 := (unhide HT).rs
    have zl := ro'.lt
    have u0 := m1.cell 0 _ rfl
    have u1 := m1.cell 1 _ rfl
    have u2 := m1.cell 2 _ rfl
    have uf0 := m1.frozen 0
    have uf1 := m1.frozen 1
    have uf2 := m1.frozen 2
    have ul := m1.lt
    clear ro' m1
    go_wp2
    go_region
    go_wp2
    obtain ⟨F, hF, f1, f2, f3, f4, f5⟩ := unhide f0
    simp only [Nat.add_assoc, Nat.reduceAdd]
    rw [← hF]
    clear hF f0
    refine bodyPost_ret (results_cct rfl _ _ (w.heap.size + 1) _ _ _ _ (w.heap.size + 2) _ _ _ _ rfl f1 Tryz.underlying32 rfl sizeOp rfl f2 Tryz.underlying45 rfl sizeRR) rfl ?_
    unfold TkO
    rw [unhide HR2]
    exact ⟨.slice none 0 0, .slice none 0 0, P4, rfl, hpn4, rfl, World.ownsRow_nil _ _ _ _, World.ownsRow_nil _ _ _ _, f5⟩
  subst hE4
  have hE4 : E4 = 0 := (takeV_form (fun b hb => unhide Hby b (List.mem_of_mem_drop hb)) (unhide HTV)).2.1
  subst hE4
  have HRK : Hid (takeK V1 V2 V3 d (l.drop P4, 0) = R) := by
    refine hide ?_
    rw [← unhide HR]
    rcases takeO_ways (st := (l.drop q, 0)) (unhide HQ1) (unhide HQ2) (unhide HQ3) (unhide HTV) with ⟨k1, e⟩ | ⟨k1, kn, e⟩ | ⟨k1, kn, k2, e⟩ | ⟨k1, kn, k2, k3, e⟩ | ⟨k1, kn, k2, k3, k4, e⟩ | ⟨k1, kn, k2, k3, k4, e⟩
    · exact absurd rfl k1
    · exact absurd kn hk
    · exact absurd rfl k2
    · exact absurd rfl k3
    · exact absurd rfl k4
    · exact e.symm
  obtain hv | hv | hv | hv : V1 = 1 ∨ V1 = 2 ∨ V1 = 3 ∨ V1 = 4 := by omega
  · subst hv
    have T0' := (unhide HT).putO 5 (.int .i64 (V2 : Nat))
    obtain ⟨Y4a, hY4a⟩ : ∃ Y, Y4.setCell ⟨w.heap.size + 3, 5, none⟩ (.int .i64 (V2 : Nat)) = Y := ⟨_, rfl⟩
    have HTa : Hid (TE w Y4a (.slice a n c) (P4) (0) #[.int .i64 (V2 : Nat), .int .i64 (V3 : Nat), .slice av d.length cv, .int .i64 ((1 : Nat) : Int), .int .i64 0, .int .i64 (V2 : Nat), .int .i64 0, .int .i64 0, .string ⟨#[]⟩, .slice none 0 0, .int .i64 0] W4.heap.size (.slice av d.length cv) (.slice none 0 0) d []) := by rw [← hY4a]; refine hide ?_; simpa using T0'
    have of5 := (unhide HT).ox.frozen 5
    have ol5 := (unhide HT).ox.lt
    have c0a := (unhide HTa).bx.cell 0 _ rfl
    have c1a := (unhide HTa).bx.cell 1 _ rfl
    have c2a := (unhide HTa).bx.cell 2 _ rfl
    clear HT T0'
    have HT := HTa
    clear HTa
    have K := hide (unhide TN (P4) (0) Y4a (unhide HT).bel hpn4)
    obtain ⟨E5, V5, D5, hT5⟩ : ∃ E V Wd, rn0 (l.drop (P4)) (0) = (E, V, Wd) := ⟨_, _, _, rfl⟩
    rw [hT5] at K
    simp only at K
    have hpn5 : P4 + D5 ≤ n := by have := rn0_width (l.drop (P4)) (0); rw [hT5] at this; simp only [List.length_drop] at this; have := unhide Hl; omega
    have hV5 : V5 < 9223372036854775808 := by have := rn0_lt (l.drop (P4)) (0); rw [hT5] at this; exact this
    have HQ5 := hide (rNum_at hT5)
    have HS5 := hide (fun (h : (0 : Int) ≠ 0) => rn0_st h hT5)
    obtain ⟨P5, hP5⟩ : ∃ P, P4 + D5 = P := ⟨_, rfl⟩
    rw [hP5] at K hpn5 HQ5
    replace HS5 : Hid ((0 : Int) ≠ 0 → E5 = 0 ∧ V5 = 0 ∧ P5 = P4) := by rw [← hP5]; exact HS5
    clear hP5 hT5
    go_wp2_with fail
    refine (unhide K).mono ?_
    rintro r W5 ⟨rfl, hb⟩
    have T1 := (unhide HT).below hb
    clear K HT hb c0 c1 c2 o0 o1 o2 o3 o4 o5 o6 o7 o8 o9 o10 hY4 hY4a c0a c1a c2a of5 ol5
    clear x0 fx0 hxl b0 b1 b2 bf0 bf1 bf2 d0 d1 d2 df0 df1 df2
    have T1' := T1.putO 4 (.int .i64 (V5 : Nat))
    obtain ⟨Y5, hY5⟩ : ∃ Y, (((W5.setCell ⟨w.heap.size + 3, 4, none⟩ (.int .i64 (V5 : Nat))).setCell ⟨w.heap.size, 0, none⟩ (.slice a n c)).setCell ⟨w.heap.size, 1, none⟩ (.int .i64 (P5 : Nat))).setCell ⟨w.heap.size, 2, none⟩ (.int .i64 E5) = Y := ⟨_, rfl⟩
    have HT : Hid (TE w Y5 (.slice a n c) (P5) (E5) #[.int .i64 (V2 : Nat), .int .i64 (V3 : Nat), .slice av d.length cv, .int .i64 ((1 : Nat) : Int), .int .i64 (V5 : Nat), .int .i64 (V2 : Nat), .int .i64 0, .int .i64 0, .string ⟨#[]⟩, .slice none 0 0, .int .i64 0] W4.heap.size (.slice av d.length cv) (.slice none 0 0) d []) := by rw [← hY5]; refine hide ?_; have := T1'.putR P5 E5; simpa using this
    have x0 := T1.ox.cell 4 _ rfl
    have fx0 := T1.ox.frozen 4
    have hxl := T1.ox.lt
    have b0 := T1.bx.cell 0 _ rfl
    have b1 := T1.bx.cell 1 _ rfl
    have b2 := T1.bx.cell 2 _ rfl
    have bf0 := T1.bx.frozen 0
    have bf1 := T1.bx.frozen 1
    have bf2 := T1.bx.frozen 2
    have d0 := T1'.bx.cell 0 _ rfl
    have d1 := T1'.bx.cell 1 _ rfl
    have d2 := T1'.bx.cell 2 _ rfl
    have df0 := T1'.bx.frozen 0
    have df1 := T1'.bx.frozen 1
    have df2 := T1'.bx.frozen 2
    clear T1 T1'
    have c0 := (unhide HT).bx.cell 0 _ rfl
    have c1 := (unhide HT).bx.cell 1 _ rfl
    have c2 := (unhide HT).bx.cell 2 _ rfl
    obtain ⟨o0, o1, o2, o3, o4, o5, o6, o7, o8, o9, o10⟩ := cells_op (unhide HT).ox
    have K := hide (unhide TN (P5) (E5) Y5 (unhide HT).bel hpn5)
    obtain ⟨E6, V6, D6, hT6⟩ : ∃ E V Wd, rn0 (l.drop (P5)) (E5) = (E, V, Wd) := ⟨_, _, _, rfl⟩
    rw [hT6] at K
    simp only at K
    have hpn6 : P5 + D6 ≤ n := by have := rn0_width (l.drop (P5)) (E5); rw [hT6] at this; simp only [List.length_drop] at this; have := unhide Hl; omega
    have hV6 : V6 < 9223372036854775808 := by have := rn0_lt (l.drop (P5)) (E5); rw [hT6] at this; exact this
    have HQ6 := hide (rNum_at hT6)
    have HS6 := hide (fun (h : (E5 : Int) ≠ 0) => rn0_st h hT6)
    obtain ⟨P6, hP6⟩ : ∃ P, P5 + D6 = P := ⟨_, rfl⟩
    rw [hP6] at K hpn6 HQ6
    replace HS6 : Hid ((E5 : Int) ≠ 0 → E6 = E5 ∧ V6 = 0 ∧ P6 = P5) := by rw [← hP6]; exact HS6
    clear hP6 hT6
    go_wp2_with fail
    refine (unhide K).mono ?_
    rintro r W6 ⟨rfl, hb⟩
    have T1 := (unhide HT).below hb
    clear K HT hb c0 c1 c2 o0 o1 o2 o3 o4 o5 o6 o7 o8 o9 o10 hY5
    clear x0 fx0 hxl b0 b1 b2 bf0 bf1 bf2 d0 d1 d2 df0 df1 df2
    have T1' := T1.putO 6 (.int .i64 (V6 : Nat))
    obtain ⟨Y6, hY6⟩ : ∃ Y, (((W6.setCell ⟨w.heap.size + 3, 6, none⟩ (.int .i64 (V6 : Nat))).setCell ⟨w.heap.size, 0, none⟩ (.slice a n c)).setCell ⟨w.heap.size, 1, none⟩ (.int .i64 (P6 : Nat))).setCell ⟨w.heap.size, 2, none⟩ (.int .i64 E6) = Y := ⟨_, rfl⟩
    have HT : Hid (TE w Y6 (.slice a n c) (P6) (E6) #[.int .i64 (V2 : Nat), .int .i64 (V3 : Nat), .slice av d.length cv, .int .i64 ((1 : Nat) : Int), .int .i64 (V5 : Nat), .int .i64 (V2 : Nat), .int .i64 (V6 : Nat), .int .i64 0, .string ⟨#[]⟩, .slice none 0 0, .int .i64 0] W4.heap.size (.slice av d.length cv) (.slice none 0 0) d []) := by rw [← hY6]; refine hide ?_; have := T1'.putR P6 E6; simpa using this
    have x0 := T1.ox.cell 6 _ rfl
    have fx0 := T1.ox.frozen 6
    have hxl := T1.ox.lt
    have b0 := T1.bx.cell 0 _ rfl
    have b1 := T1.bx.cell 1 _ rfl
    have b2 := T1.bx.cell 2 _ rfl
    have bf0 := T1.bx.frozen 0
    have bf1 := T1.bx.frozen 1
    have bf2 := T1.bx.frozen 2
    have d0 := T1'.bx.cell 0 _ rfl
    have d1 := T1'.bx.cell 1 _ rfl
    have d2 := T1'.bx.cell 2 _ rfl
    have df0 := T1'.bx.frozen 0
    have df1 := T1'.bx.frozen 1
    have df2 := T1'.bx.frozen 2
    clear T1 T1'
    have c0 := (unhide HT).bx.cell 0 _ rfl
    have c1 := (unhide HT).bx.cell 1 _ rfl
    have c2 := (unhide HT).bx.cell 2 _ rfl
    obtain ⟨o0, o1, o2, o3, o4, o5, o6, o7, o8, o9, o10⟩ := cells_op (unhide HT).ox
    have K := hide (unhide TN (P6) (E6) Y6 (unhide HT).bel hpn6)
    obtain ⟨E7, V7, D7, hT7⟩ : ∃ E V Wd, rn0 (l.drop (P6)) (E6) = (E, V, Wd) := ⟨_, _, _, rfl⟩
    rw [hT7] at K
    simp only at K
    have hpn7 : P6 + D7 ≤ n := by have := rn0_width (l.drop (P6)) (E6); rw [hT7] at this; simp only [List.length_drop] at this; have := unhide Hl; omega
    have hV7 : V7 < 9223372036854775808 := by have := rn0_lt (l.drop (P6)) (E6); rw [hT7] at this; exact this
    have HQ7 := hide (rNum_at hT7)
    have HS7 := hide (fun (h : (E6 : Int) ≠ 0) => rn0_st h hT7)
    obtain ⟨P7, hP7⟩ : ∃ P, P6 + D7 = P := ⟨_, rfl⟩
    rw [hP7] at K hpn7 HQ7
    replace HS7 : Hid ((E6 : Int) ≠ 0 → E7 = E6 ∧ V7 = 0 ∧ P7 = P6) := by rw [← hP7]; exact HS7
    clear hP7 hT7
    go_wp2_with fail
    refine (unhide K).mono ?_
    rintro r W7 ⟨rfl, hb⟩
    have T1 := (unhide HT).below hb
    clear K HT hb c0 c1 c2 o0 o1 o2 o3 o4 o5 o6 o7 o8 o9 o10 hY6
    clear x0 fx0 hxl b0 b1 b2 bf0 bf1 bf2 d0 d1 d2 df0 df1 df2
    have T1' := T1.putO 7 (.int .i64 (V7 : Nat))
    obtain ⟨Y7, hY7⟩ : ∃ Y, (((W7.setCell ⟨w.heap.size + 3, 7, none⟩ (.int .i64 (V7 : Nat))).setCell ⟨w.heap.size, 0, none⟩ (.slice a n c)).setCell ⟨w.heap.size, 1, none⟩ (.int .i64 (P7 : Nat))).setCell ⟨w.heap.size, 2, none⟩ (.int .i64 E7) = Y := ⟨_, rfl⟩
    have HT : Hid (TE w Y7 (.slice a n c) (P7) (E7) #[.int .i64 (V2 : Nat), .int .i64 (V3 : Nat), .slice av d.length cv, .int .i64 ((1 : Nat) : Int), .int .i64 (V5 : Nat), .int .i64 (V2 : Nat), .int .i64 (V6 : Nat), .int .i64 (V7 : Nat), .string ⟨#[]⟩, .slice none 0 0, .int .i64 0] W4.heap.size (.slice av d.length cv) (.slice none 0 0) d []) := by rw [← hY7]; refine hide ?_; have := T1'.putR P7 E7; simpa using this
    have x0 := T1.ox.cell 7 _ rfl
    have fx0 := T1.ox.frozen 7
    have hxl := T1.ox.lt
    have b0 := T1.bx.cell 0 _ rfl
    have b1 := T1.bx.cell 1 _ rfl
    have b2 := T1.bx.cell 2 _ rfl
    have bf0 := T1.bx.frozen 0
    have bf1 := T1.bx.frozen 1
    have bf2 := T1.bx.frozen 2
    have d0 := T1'.bx.cell 0 _ rfl
    have d1 := T1'.bx.cell 1 _ rfl
    have d2 := T1'.bx.cell 2 _ rfl
    have df0 := T1'.bx.frozen 0
    have df1 := T1'.bx.frozen 1
    have df2 := T1'.bx.frozen 2
    clear T1 T1'
    have c0 := (unhide HT).bx.cell 0 _ rfl
    have c1 := (unhide HT).bx.cell 1 _ rfl
    have c2 := (unhide HT).bx.cell 2 _ rfl
    obtain ⟨o0, o1, o2, o3, o4, o5, o6, o7, o8, o9, o10⟩ := cells_op (unhide HT).ox
    have K := hide (unhide TX (P7) (E7) Y7 (unhide HT).bel hpn7)
    have hq8 := rTxt_at l (P7) (E7)
    have htz := rTxt_size (l.drop (P7)) (E7)
    have hpn8 : P7 + rTxtW (l.drop (P7)) (E7) ≤ n := by have := rTxtW_le (l.drop (P7)) (E7); simp only [List.length_drop] at this; have := unhide Hl; omega
    have HS8 := hide (fun (h : (E7 : Int) ≠ 0) => rTxt_st (l := l) (p := P7) h)
    obtain ⟨tx, htx⟩ : ∃ t, (rTxt (l.drop (P7)) (E7)).1 = t := ⟨_, rfl⟩
    obtain ⟨E8, hE8⟩ : ∃ t, (rTxt (l.drop (P7)) (E7)).2.2 = t := ⟨_, rfl⟩
    obtain ⟨P8, hP8⟩ : ∃ t, P7 + rTxtW (l.drop (P7)) (E7) = t := ⟨_, rfl⟩
    rw [htx, hE8, hP8] at K hq8
    rw [htx] at htz
    rw [hP8] at hpn8
    rw [hE8, hP8] at HS8
    have HQ8 := hide hq8
    have htz' : tx.size ≤ 1000000 := by rw [List.length_drop] at htz; have := unhide Hl; omega
    clear hq8 htx hE8 hP8 htz
    go_wp2_with fail
    refine (unhide K).mono ?_
    rintro r W8 ⟨rfl, hb⟩
    have T1 := (unhide HT).below hb
    clear K HT hb c0 c1 c2 o0 o1 o2 o3 o4 o5 o6 o7 o8 o9 o10 hY7
    clear x0 fx0 hxl b0 b1 b2 bf0 bf1 bf2 d0 d1 d2 df0 df1 df2
    have T1' := T1.putO 8 (.string tx)
    obtain ⟨Y8, hY8⟩ : ∃ Y, (((W8.setCell ⟨w.heap.size + 3, 8, none⟩ (.string tx)).setCell ⟨w.heap.size, 0, none⟩ (.slice a n c)).setCell ⟨w.heap.size, 1, none⟩ (.int .i64 (P8 : Nat))).setCell ⟨w.heap.size, 2, none⟩ (.int .i64 E8) = Y := ⟨_, rfl⟩
    have HT : Hid (TE w Y8 (.slice a n c) (P8) (E8) #[.int .i64 (V2 : Nat), .int .i64 (V3 : Nat), .slice av d.length cv, .int .i64 ((1 : Nat) : Int), .int .i64 (V5 : Nat), .int .i64 (V2 : Nat), .int .i64 (V6 : Nat), .int .i64 (V7 : Nat), .string tx, .slice none 0 0, .int .i64 0] W4.heap.size (.slice av d.length cv) (.slice none 0 0) d []) := by rw [← hY8]; refine hide ?_; have := T1'.putR P8 E8; simpa using this
    have x0 := T1.ox.cell 8 _ rfl
    have fx0 := T1.ox.frozen 8
    have hxl := T1.ox.lt
    have b0 := T1.bx.cell 0 _ rfl
    have b1 := T1.bx.cell 1 _ rfl
    have b2 := T1.bx.cell 2 _ rfl
    have bf0 := T1.bx.frozen 0
    have bf1 := T1.bx.frozen 1
    have bf2 := T1.bx.frozen 2
    have d0 := T1'.bx.cell 0 _ rfl
    have d1 := T1'.bx.cell 1 _ rfl
    have d2 := T1'.bx.cell 2 _ rfl
    have df0 := T1'.bx.frozen 0
    have df1 := T1'.bx.frozen 1
    have df2 := T1'.bx.frozen 2
    clear T1 T1'
    have c0 := (unhide HT).bx.cell 0 _ rfl
    have c1 := (unhide HT).bx.cell 1 _ rfl
    have c2 := (unhide HT).bx.cell 2 _ rfl
    obtain ⟨o0, o1, o2, o3, o4, o5, o6, o7, o8, o9, o10⟩ := cells_op (unhide HT).ox
    have HI := hide (tkI_all (st := (l.drop P4, 0)) (unhide HQ5) (unhide HQ6) (unhide HQ7) (unhide HQ8) (fun h => by have := unhide HS6 h; rw [this.1, this.2.2]) (fun h => by have := unhide HS7 h; rw [this.1, this.2.2]) (fun h => by have := unhide HS8 h; rw [this.1, this.2]))
    by_cases hE8 : E8 = 0
    rotate_left
    · have hE8' : (E8 == 0) = false := by simpa using hE8
      have HR2 : Hid (R = ((zO, E8), (l.drop P8, E8))) := by
        refine hide ?_
        have h8 := (unhide HI).1 hE8
        rw [← unhide HRK]
        unfold takeK
        rw [if_pos rfl, if_pos (by rw [h8.1]; exact hE8), h8.1, h8.2]
      have f0 := hide ((unhide HT).ret (.int .i64 0) (.int .i64 0) (.slice none 0 0) (.int .i64 0) (.int .i64 0) (.int .i64 0) (.int .i64 0) (.int .i64 0) (.string ⟨#[]⟩) (.slice none 0 0) (.int .i64 0))
      have ro' := (unhide HT).ro
      obtain ⟨z0, z1, z2, z3, z4, z5, z6, z7, z8, z9, z10⟩ := cells_op ro'
      have zf0 := ro'.frozen 0
      have zf1 := ro'.frozen 1
      have zf2 := ro'.frozen 2
      have zf3 := ro'.frozen 3
      have zf4 := ro'.frozen 4
      have zf5 := ro'.frozen 5
      have zf6 := ro'.frozen 6
      have zf7 := ro'.frozen 7
      have zf8 := ro'.frozen 8
      have zf9 := ro'.frozen 9
      have zf10 := ro'.frozen 10
      have m1 := (unhide HT).rs
      have zl := ro'.lt
      have u0 := m1.cell 0 _ rfl
      have u1 := m1.cell 1 _ rfl
      have u2 := m1.cell 2 _ rfl
      have uf0 := m1.frozen 0
      have uf1 := m1.frozen 1
      have uf2 := m1.frozen 2
      have ul := m1.lt
      clear ro' m1
      go_wp2
      go_region
      go_wp2
      obtain ⟨F, hF, f1, f2, f3, f4, f5⟩ := unhide f0
      simp only [Nat.add_assoc, Nat.reduceAdd]
      rw [← hF]
      clear hF f0
      refine bodyPost_ret (results_cct rfl _ _ (w.heap.size + 1) _ _ _ _ (w.heap.size + 2) _ _ _ _ rfl f1 Tryz.underlying32 rfl sizeOp rfl f2 Tryz.underlying45 rfl sizeRR) rfl ?_
      unfold TkO
      rw [unhide HR2]
      exact ⟨.slice none 0 0, .slice none 0 0, P8, rfl, hpn8, rfl, World.ownsRow_nil _ _ _ _, World.ownsRow_nil _ _ _ _, f5⟩
    subst hE8
    have HRF : Hid (finO ⟨(V2 : Nat), (V3 : Nat), d, 1, (V5 : Nat), (V2 : Nat), (V6 : Nat), (V7 : Nat), tx, [], 0⟩ (l.drop P8, 0) = R) := by
      refine hide ?_
      have h8 := (unhide HI).2 rfl
      rw [← unhide HRK]
      unfold takeK
      rw [if_pos rfl, h8]
      simp only
      rw [if_neg (by simp)]
    have HCk := hide (rCheck_in ⟨(V2 : Nat), (V3 : Nat), d, 1, (V5 : Nat), (V2 : Nat), (V6 : Nat), (V7 : Nat), tx, [], 0⟩ av none cv 0 Y8 (unhide HT).dp.row (unhide HT).gn.row ⟨⟨by first | (simp; done) | (simp; omega) | omega | (show (⟨#[]⟩ : ByteArray).size ≤ _; decide), by first | (simp; done) | (simp; omega) | omega | (show (⟨#[]⟩ : ByteArray).size ≤ _; decide)⟩, ⟨by first | (simp; done) | (simp; omega) | omega | (show (⟨#[]⟩ : ByteArray).size ≤ _; decide), by first | (simp; done) | (simp; omega) | omega | (show (⟨#[]⟩ : ByteArray).size ≤ _; decide)⟩, ⟨by first | (simp; done) | (simp; omega) | omega | (show (⟨#[]⟩ : ByteArray).size ≤ _; decide), by first | (simp; done) | (simp; omega) | omega | (show (⟨#[]⟩ : ByteArray).size ≤ _; decide)⟩, ⟨by first | (simp; done) | (simp; omega) | omega | (show (⟨#[]⟩ : ByteArray).size ≤ _; decide), by first | (simp; done) | (simp; omega) | omega | (show (⟨#[]⟩ : ByteArray).size ≤ _; decide)⟩, ⟨by first | (simp; done) | (simp; omega) | omega | (show (⟨#[]⟩ : ByteArray).size ≤ _; decide), by first | (simp; done) | (simp; omega) | omega | (show (⟨#[]⟩ : ByteArray).size ≤ _; decide)⟩, ⟨by first | (simp; done) | (simp; omega) | omega | (show (⟨#[]⟩ : ByteArray).size ≤ _; decide), by first | (simp; done) | (simp; omega) | omega | (show (⟨#[]⟩ : ByteArray).size ≤ _; decide)⟩, ⟨by first | (simp; done) | (simp; omega) | omega | (show (⟨#[]⟩ : ByteArray).size ≤ _; decide), by first | (simp; done) | (simp; omega) | omega | (show (⟨#[]⟩ : ByteArray).size ≤ _; decide)⟩, ⟨by first | (simp; done) | (simp; omega) | omega | (show (⟨#[]⟩ : ByteArray).size ≤ _; decide), by first | (simp; done) | (simp; omega) | omega | (show (⟨#[]⟩ : ByteArray).size ≤ _; decide)⟩, by first | (simp; done) | (simp; omega) | omega | (show (⟨#[]⟩ : ByteArray).size ≤ _; decide), by first | (simp; done) | (simp; omega) | omega | (show (⟨#[]⟩ : ByteArray).size ≤ _; decide), (fun r hr => by cases hr), by first | (simp; done) | (simp; omega) | omega | (show (⟨#[]⟩ : ByteArray).size ≤ _; decide)⟩ (by first | (simp; done) | (simp; omega) | omega | (show (⟨#[]⟩ : ByteArray).size ≤ _; decide)) (by first | (simp; done) | (simp; omega) | omega | (show (⟨#[]⟩ : ByteArray).size ≤ _; decide)) (by first | (simp; done) | (simp; omega) | omega | (show (⟨#[]⟩ : ByteArray).size ≤ _; decide)))
    obtain ⟨ck, hck⟩ : ∃ k, chkO ⟨(V2 : Nat), (V3 : Nat), d, 1, (V5 : Nat), (V2 : Nat), (V6 : Nat), (V7 : Nat), tx, [], 0⟩ = k := ⟨_, rfl⟩
    rw [hck] at HCk
    go_wp2_with fail
    refine (unhide HCk).mono ?_
    rintro r Wc ⟨rfl, hb⟩
    replace HT := hide ((unhide HT).below hb)
    clear HCk hb c0 c1 c2 o0 o1 o2 o3 o4 o5 o6 o7 o8 o9 o10 hY8
    have c0 := (unhide HT).bx.cell 0 _ rfl
    have c1 := (unhide HT).bx.cell 1 _ rfl
    have c2 := (unhide HT).bx.cell 2 _ rfl
    obtain ⟨o0, o1, o2, o3, o4, o5, o6, o7, o8, o9, o10⟩ := cells_op (unhide HT).ox
    by_cases hok : okO ⟨(V2 : Nat), (V3 : Nat), d, 1, (V5 : Nat), (V2 : Nat), (V6 : Nat), (V7 : Nat), tx, [], 0⟩ = true
    · have hc0 : ck = 0 := by rw [← hck]; unfold chkO; rw [if_pos hok]
      subst hc0
      have HR2 : Hid (R = ((⟨(V2 : Nat), (V3 : Nat), d, 1, (V5 : Nat), (V2 : Nat), (V6 : Nat), (V7 : Nat), tx, [], 0⟩, 0), (l.drop P8, 0))) := by
        refine hide ?_
        rw [← unhide HRF]
        unfold finO
        rw [if_pos hok]
      have f0 := hide ((unhide HT).ret (.int .i64 (V2 : Nat)) (.int .i64 (V3 : Nat)) (.slice av d.length cv) (.int .i64 1) (.int .i64 (V5 : Nat)) (.int .i64 (V2 : Nat)) (.int .i64 (V6 : Nat)) (.int .i64 (V7 : Nat)) (.string tx) (.slice none 0 0) (.int .i64 0))
      have ro' := (unhide HT).ro
      obtain ⟨z0, z1, z2, z3, z4, z5, z6, z7, z8, z9, z10⟩ := cells_op ro'
      have zf0 := ro'.frozen 0
      have zf1 := ro'.frozen 1
      have zf2 := ro'.frozen 2
      have zf3 := ro'.frozen 3
      have zf4 := ro'.frozen 4
      have zf5 := ro'.frozen 5
      have zf6 := ro'.frozen 6
      have zf7 := ro'.frozen 7
      have zf8 := ro'.frozen 8
      have zf9 := ro'.frozen 9
      have zf10 := ro'.frozen 10
      have m1 := (unhide HT).rs
      have zl := ro'.lt
      have u0 := m1.cell 0 _ rfl
      have u1 := m1.cell 1 _ rfl
      have u2 := m1.cell 2 _ rfl
      have uf0 := m1.frozen 0
      have uf1 := m1.frozen 1
      have uf2 := m1.frozen 2
      have ul := m1.lt
      clear ro' m1
      go_wp2
      go_region
      go_wp2
      obtain ⟨F, hF, f1, f2, f3, f4, f5⟩ := unhide f0
      simp only [Nat.add_assoc, Nat.reduceAdd]
      rw [← hF]
      clear hF f0
      refine bodyPost_ret (results_cct rfl _ _ (w.heap.size + 1) _ _ _ _ (w.heap.size + 2) _ _ _ _ rfl f1 Tryz.underlying32 rfl sizeOp rfl f2 Tryz.underlying45 rfl sizeRR) rfl ?_
      unfold TkO
      rw [unhide HR2]
      exact ⟨_, _, P8, rfl, hpn8, rfl, f3, f4, f5⟩
    · have hc0 : ck = 10 := by rw [← hck]; unfold chkO; rw [if_neg hok]
      subst hc0
      have HR2 : Hid (R = ((zO, 10), (l.drop P8, 0))) := by
        refine hide ?_
        rw [← unhide HRF]
        unfold finO
        rw [if_neg hok]
      have f0 := hide ((unhide HT).ret (.int .i64 0) (.int .i64 0) (.slice none 0 0) (.int .i64 0) (.int .i64 0) (.int .i64 0) (.int .i64 0) (.int .i64 0) (.string ⟨#[]⟩) (.slice none 0 0) (.int .i64 0))
      have ro' := (unhide HT).ro
      obtain ⟨z0, z1, z2, z3, z4, z5, z6, z7, z8, z9, z10⟩ := cells_op ro'
      have zf0 := ro'.frozen 0
      have zf1 := ro'.frozen 1
      have zf2 := ro'.frozen 2
      have zf3 := ro'.frozen 3
      have zf4 := ro'.frozen 4
      have zf5 := ro'.frozen 5
      have zf6 := ro'.frozen 6
      have zf7 := ro'.frozen 7
      have zf8 := ro'.frozen 8
      have zf9 := ro'.frozen 9
      have zf10 := ro'.frozen 10
      have m1 := (unhide HT).rs
      have zl := ro'.lt
      have u0 := m1.cell 0 _ rfl
      have u1 := m1.cell 1 _ rfl
      have u2 := m1.cell 2 _ rfl
      have uf0 := m1.frozen 0
      have uf1 := m1.frozen 1
      have uf2 := m1.frozen 2
      have ul := m1.lt
      clear ro' m1
      go_wp2
      go_region
      go_wp2
      obtain ⟨F, hF, f1, f2, f3, f4, f5⟩ := unhide f0
      simp only [Nat.add_assoc, Nat.reduceAdd]
      rw [← hF]
      clear hF f0
      refine bodyPost_ret (results_cct rfl _ _ (w.heap.size + 1) _ _ _ _ (w.heap.size + 2) _ _ _ _ rfl f1 Tryz.underlying32 rfl sizeOp rfl f2 Tryz.underlying45 rfl sizeRR) rfl ?_
      unfold TkO
      rw [unhide HR2]
      exact ⟨.slice none 0 0, .slice none 0 0, P8, rfl, hpn8, rfl, World.ownsRow_nil _ _ _ _, World.ownsRow_nil _ _ _ _, f5⟩
  · subst hv
    have K := hide (unhide TN (P4) (0) Y4 (unhide HT).bel hpn4)
    obtain ⟨E9, V9, D9, hT9⟩ : ∃ E V Wd, rn0 (l.drop (P4)) (0) = (E, V, Wd) := ⟨_, _, _, rfl⟩
    rw [hT9] at K
    simp only at K
    have hpn9 : P4 + D9 ≤ n := by have := rn0_width (l.drop (P4)) (0); rw [hT9] at this; simp only [List.length_drop] at this; have := unhide Hl; omega
    have hV9 : V9 < 9223372036854775808 := by have := rn0_lt (l.drop (P4)) (0); rw [hT9] at this; exact this
    have HQ9 := hide (rNum_at hT9)
    have HS9 := hide (fun (h : (0 : Int) ≠ 0) => rn0_st h hT9)
    obtain ⟨P9, hP9⟩ : ∃ P, P4 + D9 = P := ⟨_, rfl⟩
    rw [hP9] at K hpn9 HQ9
    replace HS9 : Hid ((0 : Int) ≠ 0 → E9 = 0 ∧ V9 = 0 ∧ P9 = P4) := by rw [← hP9]; exact HS9
    clear hP9 hT9
    go_wp2_with fail
    refine (unhide K).mono ?_
    rintro r W9 ⟨rfl, hb⟩
    have T1 := (unhide HT).below hb
    clear K HT hb c0 c1 c2 o0 o1 o2 o3 o4 o5 o6 o7 o8 o9 o10 hY4
    clear x0 fx0 hxl b0 b1 b2 bf0 bf1 bf2 d0 d1 d2 df0 df1 df2
    obtain ⟨Y9, hY9⟩ : ∃ Y, ((W9.setCell ⟨w.heap.size, 0, none⟩ (.slice a n c)).setCell ⟨w.heap.size, 1, none⟩ (.int .i64 (P9 : Nat))).setCell ⟨w.heap.size, 2, none⟩ (.int .i64 E9) = Y := ⟨_, rfl⟩
    have HT : Hid (TE w Y9 (.slice a n c) (P9) (E9) #[.int .i64 (V2 : Nat), .int .i64 (V3 : Nat), .slice av d.length cv, .int .i64 ((2 : Nat) : Int), .int .i64 0, .int .i64 0, .int .i64 0, .int .i64 0, .string ⟨#[]⟩, .slice none 0 0, .int .i64 0] W4.heap.size (.slice av d.length cv) (.slice none 0 0) d []) := by rw [← hY9]; exact hide (T1.putR P9 E9)
    have b0 := T1.bx.cell 0 _ rfl
    have b1 := T1.bx.cell 1 _ rfl
    have b2 := T1.bx.cell 2 _ rfl
    have bf0 := T1.bx.frozen 0
    have bf1 := T1.bx.frozen 1
    have bf2 := T1.bx.frozen 2
    have hxl := T1.ox.lt
    clear T1
    have c0 := (unhide HT).bx.cell 0 _ rfl
    have c1 := (unhide HT).bx.cell 1 _ rfl
    have c2 := (unhide HT).bx.cell 2 _ rfl
    obtain ⟨o0, o1, o2, o3, o4, o5, o6, o7, o8, o9, o10⟩ := cells_op (unhide HT).ox
    obtain ⟨RG, hRG⟩ : ∃ RG, tkD (l.drop P4, 0) = RG := ⟨_, rfl⟩
    have HRD : Hid (R = if RG.1.2 ≠ 0 then ((zO, RG.1.2), RG.2) else finO ⟨(V2 : Nat), (V3 : Nat), d, 2, 0, 0, 0, 0, ⟨#[]⟩, RG.1.1, 0⟩ RG.2) := by
      refine hide ?_
      rw [← unhide HRK]
      unfold takeK
      rw [if_neg (by omega), if_pos rfl, hRG]
    have HRG := hide hRG
    clear hRG HRK
    by_cases hE5 : E9 = 0
    rotate_left
    · have hE5' : (E9 == 0) = false := by simpa using hE5
      go_wp2
      clear hY9 b0 b1 b2 bf0 bf1 bf2 hxl
      go_loopw [8] (fun iv wr => iv = .int .i64 0 ∧ wr = Y9) (fun _ _ => 0)
      case atStart => exact ⟨rfl, rfl⟩
      case round =>
        obtain ⟨hiv, hwr⟩ := hrel
        subst hiv hwr
        by_cases hV0 : (0 : Int) < (V9 : Int)
        ·
          have HR2 : Hid (R = ((zO, E9), (l.drop P9, E9))) := by
            refine hide ?_
            rw [unhide HRD, ← unhide HRG]
            unfold tkD
            rw [unhide HQ9]
            simp only
            rw [if_pos hE5]
            simp only
            rw [if_pos hE5]
          have f0 := hide ((unhide HT).ret (.int .i64 0) (.int .i64 0) (.slice none 0 0) (.int .i64 0) (.int .i64 0) (.int .i64 0) (.int .i64 0) (.int .i64 0) (.string ⟨#[]⟩) (.slice none 0 0) (.int .i64 0))
          have ro' := (unhide HT).ro
          obtain ⟨z0, z1, z2, z3, z4, z5, z6, z7, z8, z9, z10⟩ := cells_op ro'
          have zf0 := ro'.frozen 0
          have zf1 := ro'.frozen 1
          have zf2 := ro'.frozen 2
          have zf3 := ro'.frozen 3
          have zf4 := ro'.frozen 4
          have zf5 := ro'.frozen 5
          have zf6 := ro'.frozen 6
          have zf7 := ro'.frozen 7
          have zf8 := ro'.frozen 8
          have zf9 := ro'.frozen 9
          have zf10 := ro'.frozen 10
          have m1 := (unhide HT).rs
          have zl := ro'.lt
          have u0 := m1.cell 0 _ rfl
          have u1 := m1.cell 1 _ rfl
          have u2 := m1.cell 2 _ rfl
          have uf0 := m1.frozen 0
          have uf1 := m1.frozen 1
          have uf2 := m1.frozen 2
          have ul := m1.lt
          clear ro' m1
          go_wp2
          go_region
          go_wp2
          obtain ⟨F, hF, f1, f2, f3, f4, f5⟩ := unhide f0
          simp only [Nat.add_assoc, Nat.reduceAdd]
          rw [← hF]
          clear hF f0
          refine bodyPost_ret (results_cct rfl _ _ (w.heap.size + 1) _ _ _ _ (w.heap.size + 2) _ _ _ _ rfl f1 Tryz.underlying32 rfl sizeOp rfl f2 Tryz.underlying45 rfl sizeRR) rfl ?_
          unfold TkO
          rw [unhide HR2]
          exact ⟨.slice none 0 0, .slice none 0 0, P9, rfl, hpn9, rfl, World.ownsRow_nil _ _ _ _, World.ownsRow_nil _ _ _ _, f5⟩
        ·
          have HR2 : Hid (R = ((zO, E9), (l.drop P9, E9))) := by
            refine hide ?_
            rw [unhide HRD, ← unhide HRG]
            unfold tkD
            rw [unhide HQ9]
            simp only
            rw [if_pos hE5]
            simp only
            rw [if_pos hE5]
          have f0 := hide ((unhide HT).ret (.int .i64 0) (.int .i64 0) (.slice none 0 0) (.int .i64 0) (.int .i64 0) (.int .i64 0) (.int .i64 0) (.int .i64 0) (.string ⟨#[]⟩) (.slice none 0 0) (.int .i64 0))
          have ro' := (unhide HT).ro
          obtain ⟨z0, z1, z2, z3, z4, z5, z6, z7, z8, z9, z10⟩ := cells_op ro'
          have zf0 := ro'.frozen 0
          have zf1 := ro'.frozen 1
          have zf2 := ro'.frozen 2
          have zf3 := ro'.frozen 3
          have zf4 := ro'.frozen 4
          have zf5 := ro'.frozen 5
          have zf6 := ro'.frozen 6
          have zf7 := ro'.frozen 7
          have zf8 := ro'.frozen 8
          have zf9 := ro'.frozen 9
          have zf10 := ro'.frozen 10
          have m1 := (unhide HT).rs
          have zl := ro'.lt
          have u0 := m1.cell 0 _ rfl
          have u1 := m1.cell 1 _ rfl
          have u2 := m1.cell 2 _ rfl
          have uf0 := m1.frozen 0
          have uf1 := m1.frozen 1
          have uf2 := m1.frozen 2
          have ul := m1.lt
          clear ro' m1
          go_wp2
          go_region
          go_wp2
          obtain ⟨F, hF, f1, f2, f3, f4, f5⟩ := unhide f0
          simp only [Nat.add_assoc, Nat.reduceAdd]
          rw [← hF]
          clear hF f0
          refine bodyPost_ret (results_cct rfl _ _ (w.heap.size + 1) _ _ _ _ (w.heap.size + 2) _ _ _ _ rfl f1 Tryz.underlying32 rfl sizeOp rfl f2 Tryz.underlying45 rfl sizeRR) rfl ?_
          unfold TkO
          rw [unhide HR2]
          exact ⟨.slice none 0 0, .slice none 0 0, P9, rfl, hpn9, rfl, World.ownsRow_nil _ _ _ _, World.ownsRow_nil _ _ _ _, f5⟩
    subst hE5
    by_cases hb0 : 1024 < V9
    · have hb' : (1024 : Int) < (V9 : Int) := by omega
      have HR2 : Hid (R = ((zO, 10), (l.drop P9, 0))) := by
        refine hide ?_
        have hD0 : tkD (l.drop P4, 0) = (([], 10), (l.drop P9, 0)) := by
          unfold tkD
          rw [unhide HQ9]
          simp only
          rw [if_neg (fun h => h rfl), if_pos hb0]
        rw [unhide HRD, ← unhide HRG, hD0]
        rw [if_pos (fun h => by cases h)]
      have f0 := hide ((unhide HT).ret (.int .i64 0) (.int .i64 0) (.slice none 0 0) (.int .i64 0) (.int .i64 0) (.int .i64 0) (.int .i64 0) (.int .i64 0) (.string ⟨#[]⟩) (.slice none 0 0) (.int .i64 0))
      have ro' := (unhide HT).ro
      obtain ⟨z0, z1, z2, z3, z4, z5, z6, z7, z8, z9, z10⟩ := cells_op ro'
      have zf0 := ro'.frozen 0
      have zf1 := ro'.frozen 1
      have zf2 := ro'.frozen 2
      have zf3 := ro'.frozen 3
      have zf4 := ro'.frozen 4
      have zf5 := ro'.frozen 5
      have zf6 := ro'.frozen 6
      have zf7 := ro'.frozen 7
      have zf8 := ro'.frozen 8
      have zf9 := ro'.frozen 9
      have zf10 := ro'.frozen 10
      have m1 := (unhide HT).rs
      have zl := ro'.lt
      have u0 := m1.cell 0 _ rfl
      have u1 := m1.cell 1 _ rfl
      have u2 := m1.cell 2 _ rfl
      have uf0 := m1.frozen 0
      have uf1 := m1.frozen 1
      have uf2 := m1.frozen 2
      have ul := m1.lt
      clear ro' m1
      go_wp2
      go_region
      go_wp2
      obtain ⟨F, hF, f1, f2, f3, f4, f5⟩ := unhide f0
      simp only [Nat.add_assoc, Nat.reduceAdd]
      rw [← hF]
      clear hF f0
      refine bodyPost_ret (results_cct rfl _ _ (w.heap.size + 1) _ _ _ _ (w.heap.size + 2) _ _ _ _ rfl f1 Tryz.underlying32 rfl sizeOp rfl f2 Tryz.underlying45 rfl sizeRR) rfl ?_
      unfold TkO
      rw [unhide HR2]
      exact ⟨.slice none 0 0, .slice none 0 0, P9, rfl, hpn9, rfl, World.ownsRow_nil _ _ _ _, World.ownsRow_nil _ _ _ _, f5⟩
    have hb' : ¬ (1024 : Int) < (V9 : Int) := by omega
    have HG0 : Hid (tkG V9 [] (l.drop P9, 0) = RG) := by
      refine hide ?_
      rw [← unhide HRG]
      unfold tkD
      rw [unhide HQ9]
      simp only
      rw [if_neg (fun h => h rfl), if_neg hb0]
    have Hrin := hide (show (∀ r ∈ RG.1.1, runIn r) ∧ RG.1.1.length ≤ 1024 by rw [← unhide HRG]; exact tkD_in _)
    go_wp2
    clear hY9 b0 b1 b2 bf0 bf1 bf2 hxl c0 c1 c2 o0 o1 o2 o3 o4 o5 o6 o7 o8 o9 o10
    go_loopw [8] (fun iv wr => ∃ (i p : Nat) (e : Int) (vg : Value) (g : List ((Int × Int) × Int)), iv = .int .i64 (i : Nat) ∧ i ≤ V9 ∧ p ≤ n ∧ g.length ≤ i ∧ Hid (TE w wr (.slice a n c) (p) (e) #[.int .i64 (V2 : Nat), .int .i64 (V3 : Nat), .slice av d.length cv, .int .i64 ((2 : Nat) : Int), .int .i64 0, .int .i64 0, .int .i64 0, .int .i64 0, .string ⟨#[]⟩, vg, .int .i64 0] W4.heap.size (.slice av d.length cv) (vg) d g) ∧ Hid ((e = 0 → tkG (V9 - i) g (l.drop p, 0) = RG) ∧ (e ≠ 0 → RG = (([], e), (l.drop p, e))))) (fun iv _ => V9 - (Lib.intOf iv).toNat)
    case atStart => exact ⟨0, P9, 0, .slice none 0 0, [], rfl, by omega, hpn9, by simp, HT, hide ⟨fun _ => unhide HG0, fun h => absurd rfl h⟩⟩
    case round =>
      clear HT HG0
      obtain ⟨i, p, e, vg, g, rfl, hiV, hpn, hgl, HT, HG⟩ := hrel
      obtain ⟨ag, cg, hvg⟩ := (unhide HT).gn.form
      subst hvg
      have c0 := (unhide HT).bx.cell 0 _ rfl
      have c1 := (unhide HT).bx.cell 1 _ rfl
      have c2 := (unhide HT).bx.cell 2 _ rfl
      obtain ⟨o0, o1, o2, o3, o4, o5, o6, o7, o8, o9, o10⟩ := cells_op (unhide HT).ox
      by_cases he : e = 0
      rotate_left
      · have he' : (e == 0) = false := by simpa using he
        have HRe := hide ((unhide HG).2 he)
        by_cases hlt : (i : Int) < (V9 : Int)
        ·
          have HR2 : Hid (R = ((zO, e), (l.drop p, e))) := by
            refine hide ?_
            rw [unhide HRD, unhide HRe]
            simp only
            rw [if_pos he]
          have f0 := hide ((unhide HT).ret (.int .i64 0) (.int .i64 0) (.slice none 0 0) (.int .i64 0) (.int .i64 0) (.int .i64 0) (.int .i64 0) (.int .i64 0) (.string ⟨#[]⟩) (.slice none 0 0) (.int .i64 0))
          have ro' := (unhide HT).ro
          obtain ⟨z0, z1, z2, z3, z4, z5, z6, z7, z8, z9, z10⟩ := cells_op ro'
          have zf0 := ro'.frozen 0
          have zf1 := ro'.frozen 1
          have zf2 := ro'.frozen 2
          have zf3 := ro'.frozen 3
          have zf4 := ro'.frozen 4
          have zf5 := ro'.frozen 5
          have zf6 := ro'.frozen 6
          have zf7 := ro'.frozen 7
          have zf8 := ro'.frozen 8
          have zf9 := ro'.frozen 9
          have zf10 := ro'.frozen 10
          have m1 := (unhide HT).rs
          have zl := ro'.lt
          have u0 := m1.cell 0 _ rfl
          have u1 := m1.cell 1 _ rfl
          have u2 := m1.cell 2 _ rfl
          have uf0 := m1.frozen 0
          have uf1 := m1.frozen 1
          have uf2 := m1.frozen 2
          have ul := m1.lt
          clear ro' m1
          go_wp2
          go_region
          go_wp2
          obtain ⟨F, hF, f1, f2, f3, f4, f5⟩ := unhide f0
          simp only [Nat.add_assoc, Nat.reduceAdd]
          rw [← hF]
          clear hF f0
          refine bodyPost_ret (results_cct rfl _ _ (w.heap.size + 1) _ _ _ _ (w.heap.size + 2) _ _ _ _ rfl f1 Tryz.underlying32 rfl sizeOp rfl f2 Tryz.underlying45 rfl sizeRR) rfl ?_
          unfold TkO
          rw [unhide HR2]
          exact ⟨.slice none 0 0, .slice none 0 0, p, rfl, hpn, rfl, World.ownsRow_nil _ _ _ _, World.ownsRow_nil _ _ _ _, f5⟩
        ·
          have HR2 : Hid (R = ((zO, e), (l.drop p, e))) := by
            refine hide ?_
            rw [unhide HRD, unhide HRe]
            simp only
            rw [if_pos he]
          have f0 := hide ((unhide HT).ret (.int .i64 0) (.int .i64 0) (.slice none 0 0) (.int .i64 0) (.int .i64 0) (.int .i64 0) (.int .i64 0) (.int .i64 0) (.string ⟨#[]⟩) (.slice none 0 0) (.int .i64 0))
          have ro' := (unhide HT).ro
          obtain ⟨z0, z1, z2, z3, z4, z5, z6, z7, z8, z9, z10⟩ := cells_op ro'
          have zf0 := ro'.frozen 0
          have zf1 := ro'.frozen 1
          have zf2 := ro'.frozen 2
          have zf3 := ro'.frozen 3
          have zf4 := ro'.frozen 4
          have zf5 := ro'.frozen 5
          have zf6 := ro'.frozen 6
          have zf7 := ro'.frozen 7
          have zf8 := ro'.frozen 8
          have zf9 := ro'.frozen 9
          have zf10 := ro'.frozen 10
          have m1 := (unhide HT).rs
          have zl := ro'.lt
          have u0 := m1.cell 0 _ rfl
          have u1 := m1.cell 1 _ rfl
          have u2 := m1.cell 2 _ rfl
          have uf0 := m1.frozen 0
          have uf1 := m1.frozen 1
          have uf2 := m1.frozen 2
          have ul := m1.lt
          clear ro' m1
          go_wp2
          go_region
          go_wp2
          obtain ⟨F, hF, f1, f2, f3, f4, f5⟩ := unhide f0
          simp only [Nat.add_assoc, Nat.reduceAdd]
          rw [← hF]
          clear hF f0
          refine bodyPost_ret (results_cct rfl _ _ (w.heap.size + 1) _ _ _ _ (w.heap.size + 2) _ _ _ _ rfl f1 Tryz.underlying32 rfl sizeOp rfl f2 Tryz.underlying45 rfl sizeRR) rfl ?_
          unfold TkO
          rw [unhide HR2]
          exact ⟨.slice none 0 0, .slice none 0 0, p, rfl, hpn, rfl, World.ownsRow_nil _ _ _ _, World.ownsRow_nil _ _ _ _, f5⟩
      subst he
      by_cases hlt : i < V9
      rotate_left
      · have hlt' : ¬ (i : Int) < (V9 : Int) := by omega
        have HRe : Hid (RG = ((g, 0), (l.drop p, 0))) := hide (by rw [← (unhide HG).1 rfl, show V9 - i = 0 by omega, tkG])
        have Hgi := hide (show ∀ r ∈ g, runIn r by have := (unhide Hrin).1; rw [unhide HRe] at this; exact this)
        have HRF : Hid (finO ⟨(V2 : Nat), (V3 : Nat), d, 2, 0, 0, 0, 0, ⟨#[]⟩, g, 0⟩ (l.drop p, 0) = R) := by
          refine hide ?_
          rw [unhide HRD, unhide HRe]
          simp only
          rw [if_neg (fun h => h rfl)]
        have HCk := hide (rCheck_in ⟨(V2 : Nat), (V3 : Nat), d, 2, 0, 0, 0, 0, ⟨#[]⟩, g, 0⟩ av ag cv cg wr (unhide HT).dp.row (unhide HT).gn.row ⟨⟨by first | (simp; done) | (simp; omega) | omega | (show (⟨#[]⟩ : ByteArray).size ≤ _; decide), by first | (simp; done) | (simp; omega) | omega | (show (⟨#[]⟩ : ByteArray).size ≤ _; decide)⟩, ⟨by first | (simp; done) | (simp; omega) | omega | (show (⟨#[]⟩ : ByteArray).size ≤ _; decide), by first | (simp; done) | (simp; omega) | omega | (show (⟨#[]⟩ : ByteArray).size ≤ _; decide)⟩, ⟨by first | (simp; done) | (simp; omega) | omega | (show (⟨#[]⟩ : ByteArray).size ≤ _; decide), by first | (simp; done) | (simp; omega) | omega | (show (⟨#[]⟩ : ByteArray).size ≤ _; decide)⟩, ⟨by first | (simp; done) | (simp; omega) | omega | (show (⟨#[]⟩ : ByteArray).size ≤ _; decide), by first | (simp; done) | (simp; omega) | omega | (show (⟨#[]⟩ : ByteArray).size ≤ _; decide)⟩, ⟨by first | (simp; done) | (simp; omega) | omega | (show (⟨#[]⟩ : ByteArray).size ≤ _; decide), by first | (simp; done) | (simp; omega) | omega | (show (⟨#[]⟩ : ByteArray).size ≤ _; decide)⟩, ⟨by first | (simp; done) | (simp; omega) | omega | (show (⟨#[]⟩ : ByteArray).size ≤ _; decide), by first | (simp; done) | (simp; omega) | omega | (show (⟨#[]⟩ : ByteArray).size ≤ _; decide)⟩, ⟨by first | (simp; done) | (simp; omega) | omega | (show (⟨#[]⟩ : ByteArray).size ≤ _; decide), by first | (simp; done) | (simp; omega) | omega | (show (⟨#[]⟩ : ByteArray).size ≤ _; decide)⟩, ⟨by first | (simp; done) | (simp; omega) | omega | (show (⟨#[]⟩ : ByteArray).size ≤ _; decide), by first | (simp; done) | (simp; omega) | omega | (show (⟨#[]⟩ : ByteArray).size ≤ _; decide)⟩, by first | (simp; done) | (simp; omega) | omega | (show (⟨#[]⟩ : ByteArray).size ≤ _; decide), by first | (simp; done) | (simp; omega) | omega | (show (⟨#[]⟩ : ByteArray).size ≤ _; decide), (fun r hr => unhide Hgi r hr), by first | (simp; done) | (simp; omega) | omega | (show (⟨#[]⟩ : ByteArray).size ≤ _; decide)⟩ (by first | (simp; done) | (simp; omega) | omega | (show (⟨#[]⟩ : ByteArray).size ≤ _; decide)) (by first | (simp; done) | (simp; omega) | omega | (show (⟨#[]⟩ : ByteArray).size ≤ _; decide)) (by first | (simp; done) | (simp; omega) | omega | (show (⟨#[]⟩ : ByteArray).size ≤ _; decide)))
        obtain ⟨ck, hck⟩ : ∃ k, chkO ⟨(V2 : Nat), (V3 : Nat), d, 2, 0, 0, 0, 0, ⟨#[]⟩, g, 0⟩ = k := ⟨_, rfl⟩
        rw [hck] at HCk
        go_wp2_with fail
        refine (unhide HCk).mono ?_
        rintro r Wc ⟨rfl, hb⟩
        replace HT := hide ((unhide HT).below hb)
        clear HCk hb c0 c1 c2 o0 o1 o2 o3 o4 o5 o6 o7 o8 o9 o10 
        have c0 := (unhide HT).bx.cell 0 _ rfl
        have c1 := (unhide HT).bx.cell 1 _ rfl
        have c2 := (unhide HT).bx.cell 2 _ rfl
        obtain ⟨o0, o1, o2, o3, o4, o5, o6, o7, o8, o9, o10⟩ := cells_op (unhide HT).ox
        by_cases hok : okO ⟨(V2 : Nat), (V3 : Nat), d, 2, 0, 0, 0, 0, ⟨#[]⟩, g, 0⟩ = true
        · have hc0 : ck = 0 := by rw [← hck]; unfold chkO; rw [if_pos hok]
          subst hc0
          have HR2 : Hid (R = ((⟨(V2 : Nat), (V3 : Nat), d, 2, 0, 0, 0, 0, ⟨#[]⟩, g, 0⟩, 0), (l.drop p, 0))) := by
            refine hide ?_
            rw [← unhide HRF]
            unfold finO
            rw [if_pos hok]
          have f0 := hide ((unhide HT).ret (.int .i64 (V2 : Nat)) (.int .i64 (V3 : Nat)) (.slice av d.length cv) (.int .i64 2) (.int .i64 0) (.int .i64 0) (.int .i64 0) (.int .i64 0) (.string ⟨#[]⟩) (.slice ag g.length cg) (.int .i64 0))
          have ro' := (unhide HT).ro
          obtain ⟨z0, z1, z2, z3, z4, z5, z6, z7, z8, z9, z10⟩ := cells_op ro'
          have zf0 := ro'.frozen 0
          have zf1 := ro'.frozen 1
          have zf2 := ro'.frozen 2
          have zf3 := ro'.frozen 3
          have zf4 := ro'.frozen 4
          have zf5 := ro'.frozen 5
          have zf6 := ro'.frozen 6
          have zf7 := ro'.frozen 7
          have zf8 := ro'.frozen 8
          have zf9 := ro'.frozen 9
          have zf10 := ro'.frozen 10
          have m1 := (unhide HT).rs
          have zl := ro'.lt
          have u0 := m1.cell 0 _ rfl
          have u1 := m1.cell 1 _ rfl
          have u2 := m1.cell 2 _ rfl
          have uf0 := m1.frozen 0
          have uf1 := m1.frozen 1
          have uf2 := m1.frozen 2
          have ul := m1.lt
          clear ro' m1
          go_wp2
          go_region
          go_wp2
          obtain ⟨F, hF, f1, f2, f3, f4, f5⟩ := unhide f0
          simp only [Nat.add_assoc, Nat.reduceAdd]
          rw [← hF]
          clear hF f0
          refine bodyPost_ret (results_cct rfl _ _ (w.heap.size + 1) _ _ _ _ (w.heap.size + 2) _ _ _ _ rfl f1 Tryz.underlying32 rfl sizeOp rfl f2 Tryz.underlying45 rfl sizeRR) rfl ?_
          unfold TkO
          rw [unhide HR2]
          exact ⟨_, _, p, rfl, hpn, rfl, f3, f4, f5⟩
        · have hc0 : ck = 10 := by rw [← hck]; unfold chkO; rw [if_neg hok]
          subst hc0
          have HR2 : Hid (R = ((zO, 10), (l.drop p, 0))) := by
            refine hide ?_
            rw [← unhide HRF]
            unfold finO
            rw [if_neg hok]
          have f0 := hide ((unhide HT).ret (.int .i64 0) (.int .i64 0) (.slice none 0 0) (.int .i64 0) (.int .i64 0) (.int .i64 0) (.int .i64 0) (.int .i64 0) (.string ⟨#[]⟩) (.slice none 0 0) (.int .i64 0))
          have ro' := (unhide HT).ro
          obtain ⟨z0, z1, z2, z3, z4, z5, z6, z7, z8, z9, z10⟩ := cells_op ro'
          have zf0 := ro'.frozen 0
          have zf1 := ro'.frozen 1
          have zf2 := ro'.frozen 2
          have zf3 := ro'.frozen 3
          have zf4 := ro'.frozen 4
          have zf5 := ro'.frozen 5
          have zf6 := ro'.frozen 6
          have zf7 := ro'.frozen 7
          have zf8 := ro'.frozen 8
          have zf9 := ro'.frozen 9
          have zf10 := ro'.frozen 10
          have m1 := (unhide HT).rs
          have zl := ro'.lt
          have u0 := m1.cell 0 _ rfl
          have u1 := m1.cell 1 _ rfl
          have u2 := m1.cell 2 _ rfl
          have uf0 := m1.frozen 0
          have uf1 := m1.frozen 1
          have uf2 := m1.frozen 2
          have ul := m1.lt
          clear ro' m1
          go_wp2
          go_region
          go_wp2
          obtain ⟨F, hF, f1, f2, f3, f4, f5⟩ := unhide f0
          simp only [Nat.add_assoc, Nat.reduceAdd]
          rw [← hF]
          clear hF f0
          refine bodyPost_ret (results_cct rfl _ _ (w.heap.size + 1) _ _ _ _ (w.heap.size + 2) _ _ _ _ rfl f1 Tryz.underlying32 rfl sizeOp rfl f2 Tryz.underlying45 rfl sizeRR) rfl ?_
          unfold TkO
          rw [unhide HR2]
          exact ⟨.slice none 0 0, .slice none 0 0, p, rfl, hpn, rfl, World.ownsRow_nil _ _ _ _, World.ownsRow_nil _ _ _ _, f5⟩
      have hlt' : (i : Int) < (V9 : Int) := by omega
      obtain ⟨X1, hX1⟩ : ∃ X1, wr.alloc (.cells #[.int .i64 0, .int .i64 0, .int .i64 0] 58) = X1 := ⟨_, rfl⟩
      have bX1 : Below wr.heap.size wr X1 := by rw [← hX1]; exact ballc (Below.refl _ _) _
      have BD : Hid (Bx X1 wr.heap.size 58 #[.int .i64 0, .int .i64 0, .int .i64 0]) := by rw [← hX1]; exact hide (Bx.new wr _ _)
      have hDw : w.heap.size + 3 < wr.heap.size := (unhide HT).ox.lt
      have hDd : (Value.slice av d.length cv).ownBlock ≠ some wr.heap.size := fun h => by have := ((unhide HT).dp.lt _ h).2; omega
      have hDg : (Value.slice ag g.length cg).ownBlock ≠ some wr.heap.size := fun h => by have := ((unhide HT).gn.lt _ h).2; omega
      obtain ⟨D, hD0⟩ : ∃ D, wr.heap.size = D := ⟨_, rfl⟩
      replace hD0 := hide hD0
      have HTx := hide ((unhide HT).below bX1)
      clear HT bX1
      have HT := HTx
      clear HTx
      have c0a := (unhide HT).bx.cell 0 _ rfl
      have c1a := (unhide HT).bx.cell 1 _ rfl
      have c2a := (unhide HT).bx.cell 2 _ rfl
      have K := hide (unhide TN (p) (0) X1 (unhide HT).bel hpn)
      obtain ⟨E10, V10, D10, hT10⟩ : ∃ E V Wd, rn0 (l.drop (p)) (0) = (E, V, Wd) := ⟨_, _, _, rfl⟩
      rw [hT10] at K
      simp only at K
      have hpn10 : p + D10 ≤ n := by have := rn0_width (l.drop (p)) (0); rw [hT10] at this; simp only [List.length_drop] at this; have := unhide Hl; omega
      have hV10 : V10 < 9223372036854775808 := by have := rn0_lt (l.drop (p)) (0); rw [hT10] at this; exact this
      have HQ10 := hide (rNum_at hT10)
      have HS10 := hide (fun (h : (0 : Int) ≠ 0) => rn0_st h hT10)
      obtain ⟨P10, hP10⟩ : ∃ P, p + D10 = P := ⟨_, rfl⟩
      rw [hP10] at K hpn10 HQ10
      replace HS10 : Hid ((0 : Int) ≠ 0 → E10 = 0 ∧ V10 = 0 ∧ P10 = p) := by rw [← hP10]; exact HS10
      clear hP10 hT10
      go_wp2_with fail
      refine (unhide K).mono ?_
      rintro r W10 ⟨rfl, hb⟩
      have T1 := (unhide HT).below hb
      have B1 := (unhide BD).below hb
      clear K HT BD hb c0 c1 c2 o0 o1 o2 o3 o4 o5 o6 o7 o8 o9 o10 hX1 c0a c1a c2a
      rw [unhide hD0] at hDw hDd hDg B1 ⊢
      clear hD0
      have T1' := T1.kp (Kp.set (N := fun i => i = D) W10 ⟨D, 0, none⟩ (.int .i64 (V10 : Nat)) rfl) (fun i e => by subst e; exact ⟨hDw, hDd, hDg⟩)
      obtain ⟨Y10, hY10⟩ : ∃ Y, (((W10.setCell ⟨D, 0, none⟩ (.int .i64 (V10 : Nat))).setCell ⟨w.heap.size, 0, none⟩ (.slice a n c)).setCell ⟨w.heap.size, 1, none⟩ (.int .i64 (P10 : Nat))).setCell ⟨w.heap.size, 2, none⟩ (.int .i64 E10) = Y := ⟨_, rfl⟩
      have HT : Hid (TE w Y10 (.slice a n c) (P10) (E10) #[.int .i64 (V2 : Nat), .int .i64 (V3 : Nat), .slice av d.length cv, .int .i64 ((2 : Nat) : Int), .int .i64 0, .int .i64 0, .int .i64 0, .int .i64 0, .string ⟨#[]⟩, .slice ag g.length cg, .int .i64 0] W4.heap.size (.slice av d.length cv) (.slice ag g.length cg) d g) := by rw [← hY10]; exact hide (T1'.putR P10 E10)
      have BD : Hid (Bx Y10 D 58 #[.int .i64 (V10 : Nat), .int .i64 0, .int .i64 0]) := by
        rw [← hY10]
        have := (((B1.set 0 (.int .i64 (V10 : Nat))).setO ⟨w.heap.size, 0, none⟩ (by show D ≠ w.heap.size; omega) (.slice a n c)).setO ⟨w.heap.size, 1, none⟩ (by show D ≠ w.heap.size; omega) (.int .i64 (P10 : Nat))).setO ⟨w.heap.size, 2, none⟩ (by show D ≠ w.heap.size; omega) (.int .i64 E10)
        exact hide (by simpa using this)
      have x0 := B1.cell 0 _ rfl
      have fx0 := B1.frozen 0
      have hxl := B1.lt
      have b0 := T1.bx.cell 0 _ rfl
      have b1 := T1.bx.cell 1 _ rfl
      have b2 := T1.bx.cell 2 _ rfl
      have bf0 := T1.bx.frozen 0
      have bf1 := T1.bx.frozen 1
      have bf2 := T1.bx.frozen 2
      have d0 := T1'.bx.cell 0 _ rfl
      have d1 := T1'.bx.cell 1 _ rfl
      have d2 := T1'.bx.cell 2 _ rfl
      have df0 := T1'.bx.frozen 0
      have df1 := T1'.bx.frozen 1
      have df2 := T1'.bx.frozen 2
      have v0 := (unhide BD).cell 0 _ rfl
      have v1 := (unhide BD).cell 1 _ rfl
      have v2 := (unhide BD).cell 2 _ rfl
      clear T1 T1' B1
      have c0 := (unhide HT).bx.cell 0 _ rfl
      have c1 := (unhide HT).bx.cell 1 _ rfl
      have c2 := (unhide HT).bx.cell 2 _ rfl
      obtain ⟨o0, o1, o2, o3, o4, o5, o6, o7, o8, o9, o10⟩ := cells_op (unhide HT).ox
      have K := hide (unhide TN (P10) (E10) Y10 (unhide HT).bel hpn10)
      obtain ⟨E11, V11, D11, hT11⟩ : ∃ E V Wd, rn0 (l.drop (P10)) (E10) = (E, V, Wd) := ⟨_, _, _, rfl⟩
      rw [hT11] at K
      simp only at K
      have hpn11 : P10 + D11 ≤ n := by have := rn0_width (l.drop (P10)) (E10); rw [hT11] at this; simp only [List.length_drop] at this; have := unhide Hl; omega
      have hV11 : V11 < 9223372036854775808 := by have := rn0_lt (l.drop (P10)) (E10); rw [hT11] at this; exact this
      have HQ11 := hide (rNum_at hT11)
      have HS11 := hide (fun (h : (E10 : Int) ≠ 0) => rn0_st h hT11)
      obtain ⟨P11, hP11⟩ : ∃ P, P10 + D11 = P := ⟨_, rfl⟩
      rw [hP11] at K hpn11 HQ11
      replace HS11 : Hid ((E10 : Int) ≠ 0 → E11 = E10 ∧ V11 = 0 ∧ P11 = P10) := by rw [← hP11]; exact HS11
      clear hP11 hT11
      go_wp2_with fail
      refine (unhide K).mono ?_
      rintro r W11 ⟨rfl, hb⟩
      have T1 := (unhide HT).below hb
      have B1 := (unhide BD).below hb
      clear K HT BD hb c0 c1 c2 o0 o1 o2 o3 o4 o5 o6 o7 o8 o9 o10 hY10
      clear x0 fx0 hxl b0 b1 b2 bf0 bf1 bf2 d0 d1 d2 df0 df1 df2 v0 v1 v2
      have T1' := T1.kp (Kp.set (N := fun i => i = D) W11 ⟨D, 1, none⟩ (.int .i64 (V11 : Nat)) rfl) (fun i e => by subst e; exact ⟨hDw, hDd, hDg⟩)
      obtain ⟨Y11, hY11⟩ : ∃ Y, (((W11.setCell ⟨D, 1, none⟩ (.int .i64 (V11 : Nat))).setCell ⟨w.heap.size, 0, none⟩ (.slice a n c)).setCell ⟨w.heap.size, 1, none⟩ (.int .i64 (P11 : Nat))).setCell ⟨w.heap.size, 2, none⟩ (.int .i64 E11) = Y := ⟨_, rfl⟩
      have HT : Hid (TE w Y11 (.slice a n c) (P11) (E11) #[.int .i64 (V2 : Nat), .int .i64 (V3 : Nat), .slice av d.length cv, .int .i64 ((2 : Nat) : Int), .int .i64 0, .int .i64 0, .int .i64 0, .int .i64 0, .string ⟨#[]⟩, .slice ag g.length cg, .int .i64 0] W4.heap.size (.slice av d.length cv) (.slice ag g.length cg) d g) := by rw [← hY11]; exact hide (T1'.putR P11 E11)
      have BD : Hid (Bx Y11 D 58 #[.int .i64 (V10 : Nat), .int .i64 (V11 : Nat), .int .i64 0]) := by
        rw [← hY11]
        have := (((B1.set 1 (.int .i64 (V11 : Nat))).setO ⟨w.heap.size, 0, none⟩ (by show D ≠ w.heap.size; omega) (.slice a n c)).setO ⟨w.heap.size, 1, none⟩ (by show D ≠ w.heap.size; omega) (.int .i64 (P11 : Nat))).setO ⟨w.heap.size, 2, none⟩ (by show D ≠ w.heap.size; omega) (.int .i64 E11)
        exact hide (by simpa using this)
      have x0 := B1.cell 1 _ rfl
      have fx0 := B1.frozen 1
      have hxl := B1.lt
      have b0 := T1.bx.cell 0 _ rfl
      have b1 := T1.bx.cell 1 _ rfl
      have b2 := T1.bx.cell 2 _ rfl
      have bf0 := T1.bx.frozen 0
      have bf1 := T1.bx.frozen 1
      have bf2 := T1.bx.frozen 2
      have d0 := T1'.bx.cell 0 _ rfl
      have d1 := T1'.bx.cell 1 _ rfl
      have d2 := T1'.bx.cell 2 _ rfl
      have df0 := T1'.bx.frozen 0
      have df1 := T1'.bx.frozen 1
      have df2 := T1'.bx.frozen 2
      have v0 := (unhide BD).cell 0 _ rfl
      have v1 := (unhide BD).cell 1 _ rfl
      have v2 := (unhide BD).cell 2 _ rfl
      clear T1 T1' B1
      have c0 := (unhide HT).bx.cell 0 _ rfl
      have c1 := (unhide HT).bx.cell 1 _ rfl
      have c2 := (unhide HT).bx.cell 2 _ rfl
      obtain ⟨o0, o1, o2, o3, o4, o5, o6, o7, o8, o9, o10⟩ := cells_op (unhide HT).ox
      have K := hide (unhide TN (P11) (E11) Y11 (unhide HT).bel hpn11)
      obtain ⟨E12, V12, D12, hT12⟩ : ∃ E V Wd, rn0 (l.drop (P11)) (E11) = (E, V, Wd) := ⟨_, _, _, rfl⟩
      rw [hT12] at K
      simp only at K
      have hpn12 : P11 + D12 ≤ n := by have := rn0_width (l.drop (P11)) (E11); rw [hT12] at this; simp only [List.length_drop] at this; have := unhide Hl; omega
      have hV12 : V12 < 9223372036854775808 := by have := rn0_lt (l.drop (P11)) (E11); rw [hT12] at this; exact this
      have HQ12 := hide (rNum_at hT12)
      have HS12 := hide (fun (h : (E11 : Int) ≠ 0) => rn0_st h hT12)
      obtain ⟨P12, hP12⟩ : ∃ P, P11 + D12 = P := ⟨_, rfl⟩
      rw [hP12] at K hpn12 HQ12
      replace HS12 : Hid ((E11 : Int) ≠ 0 → E12 = E11 ∧ V12 = 0 ∧ P12 = P11) := by rw [← hP12]; exact HS12
      clear hP12 hT12
      go_wp2_with fail
      refine (unhide K).mono ?_
      rintro r W12 ⟨rfl, hb⟩
      have T1 := (unhide HT).below hb
      have B1 := (unhide BD).below hb
      clear K HT BD hb c0 c1 c2 o0 o1 o2 o3 o4 o5 o6 o7 o8 o9 o10 hY11
      clear x0 fx0 hxl b0 b1 b2 bf0 bf1 bf2 d0 d1 d2 df0 df1 df2 v0 v1 v2
      have T1' := T1.kp (Kp.set (N := fun i => i = D) W12 ⟨D, 2, none⟩ (.int .i64 (V12 : Nat)) rfl) (fun i e => by subst e; exact ⟨hDw, hDd, hDg⟩)
      obtain ⟨Y12, hY12⟩ : ∃ Y, (((W12.setCell ⟨D, 2, none⟩ (.int .i64 (V12 : Nat))).setCell ⟨w.heap.size, 0, none⟩ (.slice a n c)).setCell ⟨w.heap.size, 1, none⟩ (.int .i64 (P12 : Nat))).setCell ⟨w.heap.size, 2, none⟩ (.int .i64 E12) = Y := ⟨_, rfl⟩
      have HT : Hid (TE w Y12 (.slice a n c) (P12) (E12) #[.int .i64 (V2 : Nat), .int .i64 (V3 : Nat), .slice av d.length cv, .int .i64 ((2 : Nat) : Int), .int .i64 0, .int .i64 0, .int .i64 0, .int .i64 0, .string ⟨#[]⟩, .slice ag g.length cg, .int .i64 0] W4.heap.size (.slice av d.length cv) (.slice ag g.length cg) d g) := by rw [← hY12]; exact hide (T1'.putR P12 E12)
      have BD : Hid (Bx Y12 D 58 #[.int .i64 (V10 : Nat), .int .i64 (V11 : Nat), .int .i64 (V12 : Nat)]) := by
        rw [← hY12]
        have := (((B1.set 2 (.int .i64 (V12 : Nat))).setO ⟨w.heap.size, 0, none⟩ (by show D ≠ w.heap.size; omega) (.slice a n c)).setO ⟨w.heap.size, 1, none⟩ (by show D ≠ w.heap.size; omega) (.int .i64 (P12 : Nat))).setO ⟨w.heap.size, 2, none⟩ (by show D ≠ w.heap.size; omega) (.int .i64 E12)
        exact hide (by simpa using this)
      have x0 := B1.cell 2 _ rfl
      have fx0 := B1.frozen 2
      have hxl := B1.lt
      have b0 := T1.bx.cell 0 _ rfl
      have b1 := T1.bx.cell 1 _ rfl
      have b2 := T1.bx.cell 2 _ rfl
      have bf0 := T1.bx.frozen 0
      have bf1 := T1.bx.frozen 1
      have bf2 := T1.bx.frozen 2
      have d0 := T1'.bx.cell 0 _ rfl
      have d1 := T1'.bx.cell 1 _ rfl
      have d2 := T1'.bx.cell 2 _ rfl
      have df0 := T1'.bx.frozen 0
      have df1 := T1'.bx.frozen 1
      have df2 := T1'.bx.frozen 2
      have v0 := (unhide BD).cell 0 _ rfl
      have v1 := (unhide BD).cell 1 _ rfl
      have v2 := (unhide BD).cell 2 _ rfl
      clear T1 T1' B1
      have c0 := (unhide HT).bx.cell 0 _ rfl
      have c1 := (unhide HT).bx.cell 1 _ rfl
      have c2 := (unhide HT).bx.cell 2 _ rfl
      obtain ⟨o0, o1, o2, o3, o4, o5, o6, o7, o8, o9, o10⟩ := cells_op (unhide HT).ox
      have al := ballc (Below.refl Y12.heap.size Y12) (.cells #[.int .i64 (V10 : Nat), .int .i64 (V11 : Nat), .int .i64 (V12 : Nat)] 58)
      have T5 := (unhide HT).below al
      obtain ⟨v', w', hr, hown, hgr⟩ := append_run (Y12.alloc (.cells #[.int .i64 (V10 : Nat), .int .i64 (V11 : Nat), .int .i64 (V12 : Nat)] 58)) 30 _ _ g (V10 : Nat) (V11 : Nat) (V12 : Nat) Y12.heap.size T5.gn (Bx.new _ _ _) T5.sB (by omega)
      have Hr := hide hr
      have T6 : TE w w' (.slice a n c) P12 E12 #[.int .i64 (V2 : Nat), .int .i64 (V3 : Nat), .slice av d.length cv, .int .i64 ((2 : Nat) : Int), .int .i64 0, .int .i64 0, .int .i64 0, .int .i64 0, .string ⟨#[]⟩, .slice ag g.length cg, .int .i64 0] W4.heap.size (.slice av d.length cv) v' d (g ++ [(((V10 : Int), (V11 : Int)), (V12 : Int))]) := by
        have kk := Kp.of_grown (N := fun i => (Value.slice ag g.length cg).ownBlock = some i) hgr (fun i hi => hi)
        have hbk : ∀ i, (Value.slice ag g.length cg).ownBlock = some i → W4.heap.size ≤ i := fun i hi => (T5.gn.lt i hi).1
        have hB := T5.hB
        exact ⟨T5.bx.kp kk (fun h => by have := hbk _ h; omega), T5.ro.kp kk (fun h => by have := hbk _ h; omega), T5.rs.kp kk (fun h => by have := hbk _ h; omega), T5.ox.kp kk (fun h => by have := hbk _ h; omega), owns_kp T5.dp kk (fun i hi h => by have := hbk _ h; have := T5.vB i hi; omega), hown, T5.hB, T5.vB, Nat.le_trans T5.sB kk.size, kk.below T5.bel (fun i hi => by have := hbk _ hi; omega)⟩
      obtain ⟨ag', cg', hv'⟩ := T6.gn.form
      subst hv'
      have T7 := T6.putO 9 (.slice ag' (g ++ [(((V10 : Int), (V11 : Int)), (V12 : Int))]).length cg')
      have h9 := T6.ox.cell 9 _ rfl
      have h9f := T6.ox.frozen 9
      have h9l := T6.ox.lt
      have HT7 : Hid (TE w (w'.setCell ⟨w.heap.size + 3, 9, none⟩ (.slice ag' (g ++ [(((V10 : Int), (V11 : Int)), (V12 : Int))]).length cg')) (.slice a n c) P12 E12 #[.int .i64 (V2 : Nat), .int .i64 (V3 : Nat), .slice av d.length cv, .int .i64 ((2 : Nat) : Int), .int .i64 0, .int .i64 0, .int .i64 0, .int .i64 0, .string ⟨#[]⟩, .slice ag' (g ++ [(((V10 : Int), (V11 : Int)), (V12 : Int))]).length cg', .int .i64 0] W4.heap.size (.slice av d.length cv) (.slice ag' (g ++ [(((V10 : Int), (V11 : Int)), (V12 : Int))]).length cg') d (g ++ [(((V10 : Int), (V11 : Int)), (V12 : Int))])) := hide T7
      have HGn : Hid ((E12 = 0 → tkG (V9 - (i + 1)) (g ++ [(((V10 : Int), (V11 : Int)), (V12 : Int))]) (l.drop P12, 0) = RG) ∧ (E12 ≠ 0 → RG = (([], E12), (l.drop P12, E12)))) := by
        refine hide ?_
        have h0 := (unhide HG).1 (by simp)
        rw [show V9 - i = (V9 - (i + 1)) + 1 by omega] at h0
        have s2 := unhide HS11
        have s3 := unhide HS12
        rcases tk3_ways (st := (l.drop p, 0)) (unhide HQ10) (unhide HQ11) (unhide HQ12) with ⟨n1, e1⟩ | ⟨z1, n2, e1⟩ | ⟨z1, z2, e1⟩
        · simp only at n1
          obtain ⟨q1, -, q2⟩ := s2 n1
          obtain ⟨q3, -, q4⟩ := s3 (by rw [q1]; exact n1)
          rw [q3, q4, q1, q2]
          refine ⟨fun h => absurd h n1, fun _ => ?_⟩
          rw [← h0, tkG_bad (by rw [e1]; exact n1), e1]
        · simp only at n2
          obtain ⟨q3, -, q4⟩ := s3 n2
          rw [q3, q4]
          refine ⟨fun h => absurd h n2, fun _ => ?_⟩
          rw [← h0, tkG_bad (by rw [e1]; exact n2), e1]
        · refine ⟨fun h => ?_, fun h => ?_⟩
          · subst h
            rw [← h0, tkG_good (by rw [e1]), e1]
          · rw [← h0, tkG_bad (by rw [e1]; exact h), e1]
      clear hr hown hgr al T5 T6 T7
      clear HG HS9 HS10 HS11 HS12 HQ10 HQ11 HQ12 HQ9 HRD Hrin
      go_wp2_with (at_builtin; refine wpList_append_eq rfl _ _ 30 rfl _ _ _ _ rfl rfl (unhide Hr) ?_; clear Hr)
      go_roundw
      case measure => show V9 - ((i : Int) + 1).toNat < V9 - ((i : Nat) : Int).toNat; omega
      case rel =>
        have hlen : (g ++ [(((V10 : Int), (V11 : Int)), (V12 : Int))]).length = g.length + 1 := by simp
        rw [hlen] at HT7
        simp only [Nat.add_assoc, Nat.reduceAdd]
        exact ⟨i + 1, P12, E12, .slice ag' (g.length + 1) cg', g ++ [(((V10 : Int), (V11 : Int)), (V12 : Int))], by go_num, by omega, hpn12, by rw [hlen]; omega, HT7, HGn⟩
  · subst hv
    have K := hide (unhide TN (P4) (0) Y4 (unhide HT).bel hpn4)
    obtain ⟨E13, V13, D13, hT13⟩ : ∃ E V Wd, rn0 (l.drop (P4)) (0) = (E, V, Wd) := ⟨_, _, _, rfl⟩
    rw [hT13] at K
    simp only at K
    have hpn13 : P4 + D13 ≤ n := by have := rn0_width (l.drop (P4)) (0); rw [hT13] at this; simp only [List.length_drop] at this; have := unhide Hl; omega
    have hV13 : V13 < 9223372036854775808 := by have := rn0_lt (l.drop (P4)) (0); rw [hT13] at this; exact this
    have HQ13 := hide (rNum_at hT13)
    have HS13 := hide (fun (h : (0 : Int) ≠ 0) => rn0_st h hT13)
    obtain ⟨P13, hP13⟩ : ∃ P, P4 + D13 = P := ⟨_, rfl⟩
    rw [hP13] at K hpn13 HQ13
    replace HS13 : Hid ((0 : Int) ≠ 0 → E13 = 0 ∧ V13 = 0 ∧ P13 = P4) := by rw [← hP13]; exact HS13
    clear hP13 hT13
    go_wp2_with fail
    refine (unhide K).mono ?_
    rintro r W13 ⟨rfl, hb⟩
    have T1 := (unhide HT).below hb
    clear K HT hb c0 c1 c2 o0 o1 o2 o3 o4 o5 o6 o7 o8 o9 o10 hY4
    clear x0 fx0 hxl b0 b1 b2 bf0 bf1 bf2 d0 d1 d2 df0 df1 df2
    have T1' := T1.putO 10 (.int .i64 (V13 : Nat))
    obtain ⟨Y13, hY13⟩ : ∃ Y, (((W13.setCell ⟨w.heap.size + 3, 10, none⟩ (.int .i64 (V13 : Nat))).setCell ⟨w.heap.size, 0, none⟩ (.slice a n c)).setCell ⟨w.heap.size, 1, none⟩ (.int .i64 (P13 : Nat))).setCell ⟨w.heap.size, 2, none⟩ (.int .i64 E13) = Y := ⟨_, rfl⟩
    have HT : Hid (TE w Y13 (.slice a n c) (P13) (E13) #[.int .i64 (V2 : Nat), .int .i64 (V3 : Nat), .slice av d.length cv, .int .i64 ((3 : Nat) : Int), .int .i64 0, .int .i64 0, .int .i64 0, .int .i64 0, .string ⟨#[]⟩, .slice none 0 0, .int .i64 (V13 : Nat)] W4.heap.size (.slice av d.length cv) (.slice none 0 0) d []) := by rw [← hY13]; refine hide ?_; have := T1'.putR P13 E13; simpa using this
    have x0 := T1.ox.cell 10 _ rfl
    have fx0 := T1.ox.frozen 10
    have hxl := T1.ox.lt
    have b0 := T1.bx.cell 0 _ rfl
    have b1 := T1.bx.cell 1 _ rfl
    have b2 := T1.bx.cell 2 _ rfl
    have bf0 := T1.bx.frozen 0
    have bf1 := T1.bx.frozen 1
    have bf2 := T1.bx.frozen 2
    have d0 := T1'.bx.cell 0 _ rfl
    have d1 := T1'.bx.cell 1 _ rfl
    have d2 := T1'.bx.cell 2 _ rfl
    have df0 := T1'.bx.frozen 0
    have df1 := T1'.bx.frozen 1
    have df2 := T1'.bx.frozen 2
    clear T1 T1'
    have c0 := (unhide HT).bx.cell 0 _ rfl
    have c1 := (unhide HT).bx.cell 1 _ rfl
    have c2 := (unhide HT).bx.cell 2 _ rfl
    obtain ⟨o0, o1, o2, o3, o4, o5, o6, o7, o8, o9, o10⟩ := cells_op (unhide HT).ox
    by_cases hE5 : E13 = 0
    rotate_left
    · have hE5' : (E13 == 0) = false := by simpa using hE5
      have HR2 : Hid (R = ((zO, E13), (l.drop P13, E13))) := by
        refine hide ?_
        rw [← unhide HRK]
        unfold takeK
        rw [if_neg (by omega), if_neg (by omega), if_pos rfl]
        simp only
        rw [unhide HQ13]
        simp only
        rw [if_pos hE5]
      have f0 := hide ((unhide HT).ret (.int .i64 0) (.int .i64 0) (.slice none 0 0) (.int .i64 0) (.int .i64 0) (.int .i64 0) (.int .i64 0) (.int .i64 0) (.string ⟨#[]⟩) (.slice none 0 0) (.int .i64 0))
      have ro' := (unhide HT).ro
      obtain ⟨z0, z1, z2, z3, z4, z5, z6, z7, z8, z9, z10⟩ := cells_op ro'
      have zf0 := ro'.frozen 0
      have zf1 := ro'.frozen 1
      have zf2 := ro'.frozen 2
      have zf3 := ro'.frozen 3
      have zf4 := ro'.frozen 4
      have zf5 := ro'.frozen 5
      have zf6 := ro'.frozen 6
      have zf7 := ro'.frozen 7
      have zf8 := ro'.frozen 8
      have zf9 := ro'.frozen 9
      have zf10 := ro'.frozen 10
      have m1 := (unhide HT).rs
      have zl := ro'.lt
      have u0 := m1.cell 0 _ rfl
      have u1 := m1.cell 1 _ rfl
      have u2 := m1.cell 2 _ rfl
      have uf0 := m1.frozen 0
      have uf1 := m1.frozen 1
      have uf2 := m1.frozen 2
      have ul := m1.lt
      clear ro' m1
      go_wp2
      go_region
      go_wp2
      obtain ⟨F, hF, f1, f2, f3, f4, f5⟩ := unhide f0
      simp only [Nat.add_assoc, Nat.reduceAdd]
      rw [← hF]
      clear hF f0
      refine bodyPost_ret (results_cct rfl _ _ (w.heap.size + 1) _ _ _ _ (w.heap.size + 2) _ _ _ _ rfl f1 Tryz.underlying32 rfl sizeOp rfl f2 Tryz.underlying45 rfl sizeRR) rfl ?_
      unfold TkO
      rw [unhide HR2]
      exact ⟨.slice none 0 0, .slice none 0 0, P13, rfl, hpn13, rfl, World.ownsRow_nil _ _ _ _, World.ownsRow_nil _ _ _ _, f5⟩
    subst hE5
    have HRF : Hid (finO ⟨(V2 : Nat), (V3 : Nat), d, 3, 0, 0, 0, 0, ⟨#[]⟩, [], (V13 : Nat)⟩ (l.drop P13, 0) = R) := by
      refine hide ?_
      rw [← unhide HRK]
      unfold takeK
      rw [if_neg (by omega), if_neg (by omega), if_pos rfl]
      simp only
      rw [unhide HQ13]
      simp only
      rw [if_neg (by simp)]
    have HCk := hide (rCheck_in ⟨(V2 : Nat), (V3 : Nat), d, 3, 0, 0, 0, 0, ⟨#[]⟩, [], (V13 : Nat)⟩ av none cv 0 Y13 (unhide HT).dp.row (unhide HT).gn.row ⟨⟨by first | (simp; done) | (simp; omega) | omega | (show (⟨#[]⟩ : ByteArray).size ≤ _; decide), by first | (simp; done) | (simp; omega) | omega | (show (⟨#[]⟩ : ByteArray).size ≤ _; decide)⟩, ⟨by first | (simp; done) | (simp; omega) | omega | (show (⟨#[]⟩ : ByteArray).size ≤ _; decide), by first | (simp; done) | (simp; omega) | omega | (show (⟨#[]⟩ : ByteArray).size ≤ _; decide)⟩, ⟨by first | (simp; done) | (simp; omega) | omega | (show (⟨#[]⟩ : ByteArray).size ≤ _; decide), by first | (simp; done) | (simp; omega) | omega | (show (⟨#[]⟩ : ByteArray).size ≤ _; decide)⟩, ⟨by first | (simp; done) | (simp; omega) | omega | (show (⟨#[]⟩ : ByteArray).size ≤ _; decide), by first | (simp; done) | (simp; omega) | omega | (show (⟨#[]⟩ : ByteArray).size ≤ _; decide)⟩, ⟨by first | (simp; done) | (simp; omega) | omega | (show (⟨#[]⟩ : ByteArray).size ≤ _; decide), by first | (simp; done) | (simp; omega) | omega | (show (⟨#[]⟩ : ByteArray).size ≤ _; decide)⟩, ⟨by first | (simp; done) | (simp; omega) | omega | (show (⟨#[]⟩ : ByteArray).size ≤ _; decide), by first | (simp; done) | (simp; omega) | omega | (show (⟨#[]⟩ : ByteArray).size ≤ _; decide)⟩, ⟨by first | (simp; done) | (simp; omega) | omega | (show (⟨#[]⟩ : ByteArray).size ≤ _; decide), by first | (simp; done) | (simp; omega) | omega | (show (⟨#[]⟩ : ByteArray).size ≤ _; decide)⟩, ⟨by first | (simp; done) | (simp; omega) | omega | (show (⟨#[]⟩ : ByteArray).size ≤ _; decide), by first | (simp; done) | (simp; omega) | omega | (show (⟨#[]⟩ : ByteArray).size ≤ _; decide)⟩, by first | (simp; done) | (simp; omega) | omega | (show (⟨#[]⟩ : ByteArray).size ≤ _; decide), by first | (simp; done) | (simp; omega) | omega | (show (⟨#[]⟩ : ByteArray).size ≤ _; decide), (fun r hr => by cases hr), by first | (simp; done) | (simp; omega) | omega | (show (⟨#[]⟩ : ByteArray).size ≤ _; decide)⟩ (by first | (simp; done) | (simp; omega) | omega | (show (⟨#[]⟩ : ByteArray).size ≤ _; decide)) (by first | (simp; done) | (simp; omega) | omega | (show (⟨#[]⟩ : ByteArray).size ≤ _; decide)) (by first | (simp; done) | (simp; omega) | omega | (show (⟨#[]⟩ : ByteArray).size ≤ _; decide)))
    obtain ⟨ck, hck⟩ : ∃ k, chkO ⟨(V2 : Nat), (V3 : Nat), d, 3, 0, 0, 0, 0, ⟨#[]⟩, [], (V13 : Nat)⟩ = k := ⟨_, rfl⟩
    rw [hck] at HCk
    go_wp2_with fail
    refine (unhide HCk).mono ?_
    rintro r Wc ⟨rfl, hb⟩
    replace HT := hide ((unhide HT).below hb)
    clear HCk hb c0 c1 c2 o0 o1 o2 o3 o4 o5 o6 o7 o8 o9 o10 hY13
    have c0 := (unhide HT).bx.cell 0 _ rfl
    have c1 := (unhide HT).bx.cell 1 _ rfl
    have c2 := (unhide HT).bx.cell 2 _ rfl
    obtain ⟨o0, o1, o2, o3, o4, o5, o6, o7, o8, o9, o10⟩ := cells_op (unhide HT).ox
    by_cases hok : okO ⟨(V2 : Nat), (V3 : Nat), d, 3, 0, 0, 0, 0, ⟨#[]⟩, [], (V13 : Nat)⟩ = true
    · have hc0 : ck = 0 := by rw [← hck]; unfold chkO; rw [if_pos hok]
      subst hc0
      have HR2 : Hid (R = ((⟨(V2 : Nat), (V3 : Nat), d, 3, 0, 0, 0, 0, ⟨#[]⟩, [], (V13 : Nat)⟩, 0), (l.drop P13, 0))) := by
        refine hide ?_
        rw [← unhide HRF]
        unfold finO
        rw [if_pos hok]
      have f0 := hide ((unhide HT).ret (.int .i64 (V2 : Nat)) (.int .i64 (V3 : Nat)) (.slice av d.length cv) (.int .i64 3) (.int .i64 0) (.int .i64 0) (.int .i64 0) (.int .i64 0) (.string ⟨#[]⟩) (.slice none 0 0) (.int .i64 (V13 : Nat)))
      have ro' := (unhide HT).ro
      obtain ⟨z0, z1, z2, z3, z4, z5, z6, z7, z8, z9, z10⟩ := cells_op ro'
      have zf0 := ro'.frozen 0
      have zf1 := ro'.frozen 1
      have zf2 := ro'.frozen 2
      have zf3 := ro'.frozen 3
      have zf4 := ro'.frozen 4
      have zf5 := ro'.frozen 5
      have zf6 := ro'.frozen 6
      have zf7 := ro'.frozen 7
      have zf8 := ro'.frozen 8
      have zf9 := ro'.frozen 9
      have zf10 := ro'.frozen 10
      have m1 := (unhide HT).rs
      have zl := ro'.lt
      have u0 := m1.cell 0 _ rfl
      have u1 := m1.cell 1 _ rfl
      have u2 := m1.cell 2 _ rfl
      have uf0 := m1.frozen 0
      have uf1 := m1.frozen 1
      have uf2 := m1.frozen 2
      have ul := m1.lt
      clear ro' m1
      go_wp2
      go_region
      go_wp2
      obtain ⟨F, hF, f1, f2, f3, f4, f5⟩ := unhide f0
      simp only [Nat.add_assoc, Nat.reduceAdd]
      rw [← hF]
      clear hF f0
      refine bodyPost_ret (results_cct rfl _ _ (w.heap.size + 1) _ _ _ _ (w.heap.size + 2) _ _ _ _ rfl f1 Tryz.underlying32 rfl sizeOp rfl f2 Tryz.underlying45 rfl sizeRR) rfl ?_
      unfold TkO
      rw [unhide HR2]
      exact ⟨_, _, P13, rfl, hpn13, rfl, f3, f4, f5⟩
    · have hc0 : ck = 10 := by rw [← hck]; unfold chkO; rw [if_neg hok]
      subst hc0
      have HR2 : Hid (R = ((zO, 10), (l.drop P13, 0))) := by
        refine hide ?_
        rw [← unhide HRF]
        unfold finO
        rw [if_neg hok]
      have f0 := hide ((unhide HT).ret (.int .i64 0) (.int .i64 0) (.slice none 0 0) (.int .i64 0) (.int .i64 0) (.int .i64 0) (.int .i64 0) (.int .i64 0) (.string ⟨#[]⟩) (.slice none 0 0) (.int .i64 0))
      have ro' := (unhide HT).ro
      obtain ⟨z0, z1, z2, z3, z4, z5, z6, z7, z8, z9, z10⟩ := cells_op ro'
      have zf0 := ro'.frozen 0
      have zf1 := ro'.frozen 1
      have zf2 := ro'.frozen 2
      have zf3 := ro'.frozen 3
      have zf4 := ro'.frozen 4
      have zf5 := ro'.frozen 5
      have zf6 := ro'.frozen 6
      have zf7 := ro'.frozen 7
      have zf8 := ro'.frozen 8
      have zf9 := ro'.frozen 9
      have zf10 := ro'.frozen 10
      have m1 := (unhide HT).rs
      have zl := ro'.lt
      have u0 := m1.cell 0 _ rfl
      have u1 := m1.cell 1 _ rfl
      have u2 := m1.cell 2 _ rfl
      have uf0 := m1.frozen 0
      have uf1 := m1.frozen 1
      have uf2 := m1.frozen 2
      have ul := m1.lt
      clear ro' m1
      go_wp2
      go_region
      go_wp2
      obtain ⟨F, hF, f1, f2, f3, f4, f5⟩ := unhide f0
      simp only [Nat.add_assoc, Nat.reduceAdd]
      rw [← hF]
      clear hF f0
      refine bodyPost_ret (results_cct rfl _ _ (w.heap.size + 1) _ _ _ _ (w.heap.size + 2) _ _ _ _ rfl f1 Tryz.underlying32 rfl sizeOp rfl f2 Tryz.underlying45 rfl sizeRR) rfl ?_
      unfold TkO
      rw [unhide HR2]
      exact ⟨.slice none 0 0, .slice none 0 0, P13, rfl, hpn13, rfl, World.ownsRow_nil _ _ _ _, World.ownsRow_nil _ _ _ _, f5⟩
  · subst hv
    have HRF : Hid (finO ⟨(V2 : Nat), (V3 : Nat), d, 4, 0, 0, 0, 0, ⟨#[]⟩, [], 0⟩ (l.drop P4, 0) = R) := by
      refine hide ?_
      rw [← unhide HRK]
      unfold takeK
      rw [if_neg (by omega), if_neg (by omega), if_neg (by omega)]
    have HCk := hide (rCheck_in ⟨(V2 : Nat), (V3 : Nat), d, 4, 0, 0, 0, 0, ⟨#[]⟩, [], 0⟩ av none cv 0 Y4 (unhide HT).dp.row (unhide HT).gn.row ⟨⟨by first | (simp; done) | (simp; omega) | omega | (show (⟨#[]⟩ : ByteArray).size ≤ _; decide), by first | (simp; done) | (simp; omega) | omega | (show (⟨#[]⟩ : ByteArray).size ≤ _; decide)⟩, ⟨by first | (simp; done) | (simp; omega) | omega | (show (⟨#[]⟩ : ByteArray).size ≤ _; decide), by first | (simp; done) | (simp; omega) | omega | (show (⟨#[]⟩ : ByteArray).size ≤ _; decide)⟩, ⟨by first | (simp; done) | (simp; omega) | omega | (show (⟨#[]⟩ : ByteArray).size ≤ _; decide), by first | (simp; done) | (simp; omega) | omega | (show (⟨#[]⟩ : ByteArray).size ≤ _; decide)⟩, ⟨by first | (simp; done) | (simp; omega) | omega | (show (⟨#[]⟩ : ByteArray).size ≤ _; decide), by first | (simp; done) | (simp; omega) | omega | (show (⟨#[]⟩ : ByteArray).size ≤ _; decide)⟩, ⟨by first | (simp; done) | (simp; omega) | omega | (show (⟨#[]⟩ : ByteArray).size ≤ _; decide), by first | (simp; done) | (simp; omega) | omega | (show (⟨#[]⟩ : ByteArray).size ≤ _; decide)⟩, ⟨by first | (simp; done) | (simp; omega) | omega | (show (⟨#[]⟩ : ByteArray).size ≤ _; decide), by first | (simp; done) | (simp; omega) | omega | (show (⟨#[]⟩ : ByteArray).size ≤ _; decide)⟩, ⟨by first | (simp; done) | (simp; omega) | omega | (show (⟨#[]⟩ : ByteArray).size ≤ _; decide), by first | (simp; done) | (simp; omega) | omega | (show (⟨#[]⟩ : ByteArray).size ≤ _; decide)⟩, ⟨by first | (simp; done) | (simp; omega) | omega | (show (⟨#[]⟩ : ByteArray).size ≤ _; decide), by first | (simp; done) | (simp; omega) | omega | (show (⟨#[]⟩ : ByteArray).size ≤ _; decide)⟩, by first | (simp; done) | (simp; omega) | omega | (show (⟨#[]⟩ : ByteArray).size ≤ _; decide), by first | (simp; done) | (simp; omega) | omega | (show (⟨#[]⟩ : ByteArray).size ≤ _; decide), (fun r hr => by cases hr), by first | (simp; done) | (simp; omega) | omega | (show (⟨#[]⟩ : ByteArray).size ≤ _; decide)⟩ (by first | (simp; done) | (simp; omega) | omega | (show (⟨#[]⟩ : ByteArray).size ≤ _; decide)) (by first | (simp; done) | (simp; omega) | omega | (show (⟨#[]⟩ : ByteArray).size ≤ _; decide)) (by first | (simp; done) | (simp; omega) | omega | (show (⟨#[]⟩ : ByteArray).size ≤ _; decide)))
    obtain ⟨ck, hck⟩ : ∃ k, chkO ⟨(V2 : Nat), (V3 : Nat), d, 4, 0, 0, 0, 0, ⟨#[]⟩, [], 0⟩ = k := ⟨_, rfl⟩
    rw [hck] at HCk
    go_wp2_with fail
    refine (unhide HCk).mono ?_
    rintro r Wc ⟨rfl, hb⟩
    replace HT := hide ((unhide HT).below hb)
    clear HCk hb c0 c1 c2 o0 o1 o2 o3 o4 o5 o6 o7 o8 o9 o10 hY4
    have c0 := (unhide HT).bx.cell 0 _ rfl
    have c1 := (unhide HT).bx.cell 1 _ rfl
    have c2 := (unhide HT).bx.cell 2 _ rfl
    obtain ⟨o0, o1, o2, o3, o4, o5, o6, o7, o8, o9, o10⟩ := cells_op (unhide HT).ox
    by_cases hok : okO ⟨(V2 : Nat), (V3 : Nat), d, 4, 0, 0, 0, 0, ⟨#[]⟩, [], 0⟩ = true
    · have hc0 : ck = 0 := by rw [← hck]; unfold chkO; rw [if_pos hok]
      subst hc0
      have HR2 : Hid (R = ((⟨(V2 : Nat), (V3 : Nat), d, 4, 0, 0, 0, 0, ⟨#[]⟩, [], 0⟩, 0), (l.drop P4, 0))) := by
        refine hide ?_
        rw [← unhide HRF]
        unfold finO
        rw [if_pos hok]
      have f0 := hide ((unhide HT).ret (.int .i64 (V2 : Nat)) (.int .i64 (V3 : Nat)) (.slice av d.length cv) (.int .i64 4) (.int .i64 0) (.int .i64 0) (.int .i64 0) (.int .i64 0) (.string ⟨#[]⟩) (.slice none 0 0) (.int .i64 0))
      have ro' := (unhide HT).ro
      obtain ⟨z0, z1, z2, z3, z4, z5, z6, z7, z8, z9, z10⟩ := cells_op ro'
      have zf0 := ro'.frozen 0
      have zf1 := ro'.frozen 1
      have zf2 := ro'.frozen 2
      have zf3 := ro'.frozen 3
      have zf4 := ro'.frozen 4
      have zf5 := ro'.frozen 5
      have zf6 := ro'.frozen 6
      have zf7 := ro'.frozen 7
      have zf8 := ro'.frozen 8
      have zf9 := ro'.frozen 9
      have zf10 := ro'.frozen 10
      have m1 := (unhide HT).rs
      have zl := ro'.lt
      have u0 := m1.cell 0 _ rfl
      have u1 := m1.cell 1 _ rfl
      have u2 := m1.cell 2 _ rfl
      have uf0 := m1.frozen 0
      have uf1 := m1.frozen 1
      have uf2 := m1.frozen 2
      have ul := m1.lt
      clear ro' m1
      go_wp2
      go_region
      go_wp2
      obtain ⟨F, hF, f1, f2, f3, f4, f5⟩ := unhide f0
      simp only [Nat.add_assoc, Nat.reduceAdd]
      rw [← hF]
      clear hF f0
      refine bodyPost_ret (results_cct rfl _ _ (w.heap.size + 1) _ _ _ _ (w.heap.size + 2) _ _ _ _ rfl f1 Tryz.underlying32 rfl sizeOp rfl f2 Tryz.underlying45 rfl sizeRR) rfl ?_
      unfold TkO
      rw [unhide HR2]
      exact ⟨_, _, P4, rfl, hpn4, rfl, f3, f4, f5⟩
    · have hc0 : ck = 10 := by rw [← hck]; unfold chkO; rw [if_neg hok]
      subst hc0
      have HR2 : Hid (R = ((zO, 10), (l.drop P4, 0))) := by
        refine hide ?_
        rw [← unhide HRF]
        unfold finO
        rw [if_neg hok]
      have f0 := hide ((unhide HT).ret (.int .i64 0) (.int .i64 0) (.slice none 0 0) (.int .i64 0) (.int .i64 0) (.int .i64 0) (.int .i64 0) (.int .i64 0) (.string ⟨#[]⟩) (.slice none 0 0) (.int .i64 0))
      have ro' := (unhide HT).ro
      obtain ⟨z0, z1, z2, z3, z4, z5, z6, z7, z8, z9, z10⟩ := cells_op ro'
      have zf0 := ro'.frozen 0
      have zf1 := ro'.frozen 1
      have zf2 := ro'.frozen 2
      have zf3 := ro'.frozen 3
      have zf4 := ro'.frozen 4
      have zf5 := ro'.frozen 5
      have zf6 := ro'.frozen 6
      have zf7 := ro'.frozen 7
      have zf8 := ro'.frozen 8
      have zf9 := ro'.frozen 9
      have zf10 := ro'.frozen 10
      have m1 := (unhide HT).rs
      have zl := ro'.lt
      have u0 := m1.cell 0 _ rfl
      have u1 := m1.cell 1 _ rfl
      have u2 := m1.cell 2 _ rfl
      have uf0 := m1.frozen 0
      have uf1 := m1.frozen 1
      have uf2 := m1.frozen 2
      have ul := m1.lt
      clear ro' m1
      go_wp2
      go_region
      go_wp2
      obtain ⟨F, hF, f1, f2, f3, f4, f5⟩ := unhide f0
      simp only [Nat.add_assoc, Nat.reduceAdd]
      rw [← hF]
      clear hF f0
      refine bodyPost_ret (results_cct rfl _ _ (w.heap.size + 1) _ _ _ _ (w.heap.size + 2) _ _ _ _ rfl f1 Tryz.underlying32 rfl sizeOp rfl f2 Tryz.underlying45 rfl sizeRR) rfl ?_
      unfold TkO
      rw [unhide HR2]
      exact ⟨.slice none 0 0, .slice none 0 0, P4, rfl, hpn4, rfl, World.ownsRow_nil _ _ _ _, World.ownsRow_nil _ _ _ _, f5⟩

end Go.Proofs.YtbnhfbdfjnigoaaGreat
