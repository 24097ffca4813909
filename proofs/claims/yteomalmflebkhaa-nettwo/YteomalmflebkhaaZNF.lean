/-
  A Net: lay, Send, Double.
-/
import Derived.Test.YteomalmflebkhaaZNE
set_option linter.unusedSimpArgs false
set_option linter.unusedVariables false
namespace Go.Proofs.Yteomalmflebkhaa
open Go.RowKit Go.Lib

variable {P N : Nat → Prop} {w W W' : World} {b p f : Nat} {c : Cp} {s : Stn} {vc vs : Value} {frm to sent : Int} {cl : List Int}
def two (a e : Int) : Value := .tuple #[.int .i64 a, .int .i64 e]
set_option maxRecDepth 100000 in
set_option maxHeartbeats 2000000 in
theorem lay_in (h : NL P w b s) (hP : ∀ i, P i → i < w.heap.size) (hF : FB P w f frm to cl sent vc) (hl : cl.length ≤ 1000000) : Calls Try.prog 38 #[.pointer (some ⟨b, 0, none⟩), .pointer (some ⟨f, 0, none⟩)] w (CN P w b (layS s frm to cl sent) (two (layN s) (layE s))) := by
  have HL := hide h
  obtain ⟨mo, pb, h⟩ := h
  have c0 := h.c0
  by_cases hf : s.la = 2147483647
  · rw [show layS s frm to cl sent = s by unfold layS; rw [if_pos hf], show layN s = 0 by unfold layN; rw [if_pos hf], show layE s = 17 by unfold layE; rw [if_pos hf]]
    rw [hf] at c0
    unfold two
    clear h hF hf
    go_enter Try.func38, Try.ntmps38
    go_wp2
    refine bodyPost_ret (results_tmp2 rfl _ _ _) rfl ?_
    exact CN.same (unhide HL) _ (Below.refl _ _)
  · rw [show layN s = s.la + 1 by unfold layN; rw [if_neg hf], show layE s = 0 by unfold layE; rw [if_neg hf]]
    unfold two
    have hf' : (s.la == 2147483647) = false := by rw [beq_eq_false_iff_ne]; exact hf
    have g0 := h.gd.l0
    have g1 := h.gd.l1
    have hlt := h.bx.lt
    have hw1 : s.la + 1 ≤ 9223372036854775807 := by omega
    have hw2 : -9223372036854775808 ≤ s.la + 1 := by omega
    have hmm := @run_makeMap Try.prog
    have q30 : ∀ (w : World) (r : Option Nat), (binOp .eql 36 (.map r) (.map none)).run Try.prog w = .ok (.bool r.isNone) w := fun w r => run_eql_map_nil w _ _ _ r undM
    cases mo with
    | some m =>
      have c1 := h.c1
      have f0 := h.bx.frozen 0
      obtain ⟨X0, hX0⟩ : ∃ X0, w.setCell ⟨b, 0, none⟩ (.int .i64 (s.la + 1)) = X0 := ⟨_, rfl⟩
      have hz0 : X0.heap.size = w.heap.size := by rw [← hX0]; simp
      have bx0 : Bx X0 b 38 #[.int .i64 (s.la + 1), .map (some m)] := by rw [← hX0]; simpa using h.bx.set 0 (.int .i64 (s.la + 1))
      obtain ⟨X1, hX1⟩ : ∃ X1, X0.alloc (.cells #[.pointer (some ⟨f, 0, none⟩), .bool false, .slice none 0 0] 90) = X1 := ⟨_, rfl⟩
      obtain ⟨X, hX⟩ : ∃ X, X1.drew = X := ⟨_, rfl⟩
      have bx1 : Bx X1 b 38 #[.int .i64 (s.la + 1), .map (some m)] := by rw [← hX1]; exact bx0.below (ballc (Below.refl _ _) _)
      obtain ⟨Y, hr, hN, hK, cY⟩ := h.more hP hf hF hl (X := X) (by rw [hX0, hX1, hX])
      rw [← hz0] at hr
      have d0 := bx0.cell 0 (.int .i64 (s.la + 1)) rfl
      have d1 := bx0.cell 1 (.map (some m)) rfl
      have e0 := bx1.cell 0 (.int .i64 (s.la + 1)) rfl
      have e1 := bx1.cell 1 (.map (some m)) rfl
      have x0 : X.cell? ⟨b, 0, none⟩ = some (.int .i64 (s.la + 1)) := by rw [← hX]; exact e0
      have x1 : X.cell? ⟨b, 1, none⟩ = some (.map (some m)) := by rw [← hX]; exact e1
      have HN := hide hN
      have HK := hide hK
      clear h hP hF hN hK bx0 bx1 hz0
      generalize s.la = la at *
      go_enter Try.func38, Try.ntmps38
      go_wp2
      go_region
      go_wp2
      refine bodyPost_ret (results_tmp2 rfl _ _ _) rfl ?_
      exact ⟨rfl, unhide HN, unhide HK⟩
    | none =>
      have c1 := h.c1
      have bA := ballc (Below.refl w.heap.size w) (.map #[] 0)
      have bxA := h.bx.below bA
      have fA := bxA.frozen 1
      have a1 := bxA.cell 1 (.map none) rfl
      obtain ⟨Y0, hY0⟩ : ∃ Y0, (w.alloc (.map #[] 0)).setCell ⟨b, 1, none⟩ (.map (some w.heap.size)) = Y0 := ⟨_, rfl⟩
      obtain ⟨h2, k2⟩ := h.made hY0
      have hzY : Y0.heap.size = w.heap.size + 1 := by rw [← hY0]; simp
      have z0 := h2.c0
      have z1 := h2.c1
      have zf := h2.bx.frozen 0
      have hP2 : ∀ i, P i ∧ i < w.heap.size ∨ i = w.heap.size → i < Y0.heap.size := fun i hi => by omega
      have h3 : NM (fun i => (P i ∧ i < w.heap.size) ∨ i = w.heap.size) Y0 b (some w.heap.size) pb s := h2.mono (fun i hi hl => by
        rcases hi with hi | hi
        · exact .inl ⟨hi, hP i hi⟩
        · exact .inr (by omega))
      have hF2 : FB (fun i => (P i ∧ i < w.heap.size) ∨ i = w.heap.size) Y0 f frm to cl sent vc := (hF.kpw ((Kp.of_below bA).trans (by rw [← hY0]; exact Kp.set (N := fun i => i = b) _ ⟨b, 1, none⟩ _ rfl) (fun i hi => .inl hi)) (fun i hi => by rw [hi]; exact NoR.of h.bx (by decide) (by decide) (by decide))).mono (fun i hi _ => .inl ⟨hi, hP i hi⟩)
      obtain ⟨X0, hX0⟩ : ∃ X0, Y0.setCell ⟨b, 0, none⟩ (.int .i64 (s.la + 1)) = X0 := ⟨_, rfl⟩
      have hz0 : X0.heap.size = Y0.heap.size := by rw [← hX0]; simp
      have bx0 : Bx X0 b 38 #[.int .i64 (s.la + 1), .map (some w.heap.size)] := by rw [← hX0]; simpa using h3.bx.set 0 (.int .i64 (s.la + 1))
      obtain ⟨X1, hX1⟩ : ∃ X1, X0.alloc (.cells #[.pointer (some ⟨f, 0, none⟩), .bool false, .slice none 0 0] 90) = X1 := ⟨_, rfl⟩
      obtain ⟨X, hX⟩ : ∃ X, X1.drew = X := ⟨_, rfl⟩
      have bx1 : Bx X1 b 38 #[.int .i64 (s.la + 1), .map (some w.heap.size)] := by rw [← hX1]; exact bx0.below (ballc (Below.refl _ _) _)
      obtain ⟨Y, hr, hN, hK, cY⟩ := h3.more hP2 hf hF2 hl (X := X) (by rw [hX0, hX1, hX])
      rw [← hz0] at hr
      have d0 := bx0.cell 0 (.int .i64 (s.la + 1)) rfl
      have d1 := bx0.cell 1 (.map (some w.heap.size)) rfl
      have e0 := bx1.cell 0 (.int .i64 (s.la + 1)) rfl
      have e1 := bx1.cell 1 (.map (some w.heap.size)) rfl
      have x0 : X.cell? ⟨b, 0, none⟩ = some (.int .i64 (s.la + 1)) := by rw [← hX]; exact e0
      have x1 : X.cell? ⟨b, 1, none⟩ = some (.map (some w.heap.size)) := by rw [← hX]; exact e1
      have HN := hide (hN.mono (P' := fun i => P i ∨ w.heap.size ≤ i) (fun i hi => by
        rcases hi with (hi | hi) | hi
        · exact .inl hi.1
        · exact .inr (by omega)
        · exact .inr (by omega)))
      have HK := hide (k2.trans hK (fun i hi => by
        rcases hi with hi | hi
        · exact .inl hi.1
        · exact .inr (by omega)))
      clear h hP hF hN hK bx0 bx1 hz0 h2 k2 h3 hF2 hP2 bA bxA hzY
      generalize s.la = la at *
      go_enter Try.func38, Try.ntmps38
      go_wp2
      go_region
      go_wp2
      refine bodyPost_ret (results_tmp2 rfl _ _ _) rfl ?_
      exact ⟨rfl, unhide HN, unhide HK⟩
theorem Send_nil (x y : Int) (v : Value) (k : Int) (w : World) : Calls Try.prog 17 #[.pointer none, .int .i64 x, .int .i64 y, v, .int .i64 k] w fun e W => e = .returned (two 0 1) ∧ w = W := by
  unfold two
  go_enter Try.func17, Try.ntmps17
  go_wp2
  refine bodyPost_ret (results_tmp2 rfl _ _ _) rfl ?_
  exact ⟨rfl, rfl⟩
theorem Double_nil (k : Int) (w : World) : Calls Try.prog 20 #[.pointer none, .int .i64 k] w fun e W => e = .returned (two 0 1) ∧ w = W := by
  have HF := hide (find_nil k w)
  unfold two
  go_enter Try.func20, Try.ntmps20
  go_wp2_with fail
  refine (unhide HF).mono ?_
  rintro e W1 ⟨rfl, rfl⟩
  go_wp2
  refine bodyPost_ret (results_tmp2 rfl _ _ _) rfl ?_
  exact ⟨rfl, rfl⟩
set_option maxRecDepth 100000 in
set_option maxHeartbeats 2000000 in
theorem Double_in (h : NL P w b s) (hP : ∀ i, P i → i < w.heap.size) {k : Int} (hk : in64 k) : Calls Try.prog 20 #[.pointer (some ⟨b, 0, none⟩), .int .i64 k] w (CN P w b (dblS s k) (two (dblN s k) (dblE s k))) := by
  have HL := hide h
  obtain ⟨mo, pb, h⟩ := h
  cases hf : fnd s.ls k with
  | none =>
    rw [show dblS s k = s by unfold dblS; rw [hf], show dblN s k = 0 by unfold dblN; rw [hf]; rfl, show dblE s k = 11 by unfold dblE; rw [hf]; rfl]
    have HF := hide (find_none h hk hf)
    unfold two
    clear h hf
    go_enter Try.func20, Try.ntmps20
    go_wp2_with fail
    refine (unhide HF).mono ?_
    rintro e W1 ⟨rfl, rfl⟩
    go_wp2
    refine bodyPost_ret (results_tmp2 rfl _ _ _) rfl ?_
    exact CN.same (unhide HL) _ (Below.refl _ _)
  | some c =>
    rw [show dblS s k = layS s c.frm c.to c.cl c.sent by unfold dblS; rw [hf], show dblN s k = layN s by unfold dblN; rw [hf]; rfl, show dblE s k = layE s by unfold dblE; rw [hf]; rfl]
    have HF := hide (find_some h hk hf)
    have hm := fnd_mem hf
    obtain ⟨f, vc, vs, hp⟩ := h.pr c hm
    have hnum := fnd_num hf
    rw [hnum] at hp
    have HY := hide (lay_in (unhide HL) hP hp.fb (h.gd.ln c hm).1)
    have cp := hp.bp.cell 0 _ rfl
    unfold two at *
    generalize pb k = q at *
    generalize layS s c.frm c.to c.cl c.sent = s' at *
    generalize layN s = n1 at *
    generalize layE s = n2 at *
    clear h hf hp hm hnum HL hP hk
    go_enter Try.func20, Try.ntmps20
    go_wp2_with fail
    refine (unhide HF).mono ?_
    rintro e W1 ⟨rfl, rfl⟩
    clear HF
    go_wp2_with fail
    refine (unhide HY).mono ?_
    rintro e W2 ⟨rfl, hq⟩
    replace hq := hide hq
    go_wp2
    refine bodyPost_ret (results_tmp2 rfl _ _ _) rfl ?_
    exact ⟨rfl, unhide hq⟩
set_option maxRecDepth 100000 in
set_option maxHeartbeats 2000000 in
theorem Send_in (h : NL P w b s) (hP : ∀ i, P i → i < w.heap.size) (x y k : Int) (v : Value) (d : List Int) (hd : RB w v d) (hl : d.length ≤ 1000000) : Calls Try.prog 17 #[.pointer (some ⟨b, 0, none⟩), .int .i64 x, .int .i64 y, v, .int .i64 k] w (CN P w b (sndS s x y d k) (two (sndN s x y k) (sndE s x y k))) := by
  obtain ⟨a, c, rfl⟩ := hd.form
  have HL := hide h
  have S1 := hide (isSite_in x w)
  have S2 := hide (isSite_in y w)
  by_cases hb : sndB x y k = true
  · rw [show sndS s x y d k = layS s x y d k by unfold sndS; rw [if_pos hb], show sndN s x y k = layN s by unfold sndN; rw [if_pos hb], show sndE s x y k = layE s by unfold sndE; rw [if_pos hb]]
    unfold sndB at hb
    obtain ⟨hx, hy, hxy, hk⟩ := of_decide_eq_true hb
    rw [decide_eq_true hx] at S1
    rw [decide_eq_true hy] at S2
    have hk' : ¬ k < 0 := by omega
    have hxy' : (x == y) = false := by rw [beq_eq_false_iff_ne]; exact hxy
    have HO := hide (octets_in _ d w hd hl)
    have HY : Hid (∀ W1 a1 c1, OwB W1 w.heap.size 104 (.slice a1 d.length c1) d → Below w.heap.size w W1 → Calls Try.prog 38 #[.pointer (some ⟨b, 0, none⟩), .pointer (some ⟨W1.heap.size, 0, none⟩)] (W1.alloc (.cells #[.int .i64 x, .int .i64 y, .int .i64 k, .slice a1 d.length c1] 86)) (CN P w b (layS s x y d k) (two (layN s) (layE s)))) := by
      intro W1 a1 c1 ho hb1
      have bA := ballc (Below.refl W1.heap.size W1) (.cells #[.int .i64 x, .int .i64 y, .int .i64 k, .slice a1 d.length c1] 86)
      have hzA : (W1.alloc (.cells #[.int .i64 x, .int .i64 y, .int .i64 k, .slice a1 d.length c1] 86)).heap.size = W1.heap.size + 1 := by simp
      have bB := bnext hb1 bA
      have hz1 := hb1.size
      have hn2 : NL (fun i => P i ∨ (w.heap.size ≤ i ∧ i ≤ W1.heap.size)) (W1.alloc (.cells #[.int .i64 x, .int .i64 y, .int .i64 k, .slice a1 d.length c1] 86)) b s := ((unhide HL).below bB).mono (fun i hi => .inl hi)
      have hF : FB (fun i => P i ∨ (w.heap.size ≤ i ∧ i ≤ W1.heap.size)) (W1.alloc (.cells #[.int .i64 x, .int .i64 y, .int .i64 k, .slice a1 d.length c1] 86)) W1.heap.size x y d k (.slice a1 d.length c1) := ⟨.inr ⟨hz1, Nat.le_refl _⟩, Bx.new _ _ _, (ho.wk (Nat.zero_le _)).below bA, fun i hi => .inr (by have := ho.lt i hi; omega)⟩
      refine (lay_in hn2 (fun i hi => ?_) hF hl).mono ?_
      · rw [hzA]
        rcases hi with hi | hi
        · have := hP i hi; omega
        · omega
      · rintro e W2 ⟨rfl, h1, h2⟩
        refine ⟨rfl, h1.mono (fun i hi => ?_), (Kp.of_below bB).trans h2 (fun i hi => ?_)⟩
        · rcases hi with (hi | hi) | hi
          · exact .inl hi
          · exact .inr hi.1
          · exact .inr (by omega)
        · rcases hi with hi | hi
          · exact .inl hi
          · exact .inr hi.1
    obtain ⟨n, hn⟩ : ∃ n, d.length = n := ⟨_, rfl⟩
    unfold NewB at HO
    rw [hn] at HO HY ⊢
    unfold two at *
    generalize layS s x y d k = s' at *
    generalize layN s = n1 at *
    generalize layE s = n2 at *
    clear h hP hd hl hb hx hy hk hxy hn
    go_enter Try.func17, Try.ntmps17
    go_wp2_with fail
    refine (unhide S1).mono ?_
    rintro e W1 ⟨rfl, rfl⟩
    clear S1
    go_wp2_with fail
    refine (unhide S2).mono ?_
    rintro e W1 ⟨rfl, rfl⟩
    clear S2
    go_wp2_with fail
    refine (unhide HO).mono ?_
    rintro e W1 ⟨a1, c1, rfl, ho, hb1⟩
    have HY1 := hide (unhide HY W1 a1 c1 ho hb1)
    clear HO HY ho hb1
    go_wp2_with fail
    refine (unhide HY1).mono ?_
    rintro e W2 ⟨rfl, hq⟩
    replace hq := hide hq
    clear HY1
    go_wp2
    refine bodyPost_ret (results_tmp2 rfl _ _ _) rfl ?_
    exact ⟨rfl, unhide hq⟩
  · rw [show sndS s x y d k = s by unfold sndS; rw [if_neg hb], show sndN s x y k = 0 by unfold sndN; rw [if_neg hb], show sndE s x y k = 1 by unfold sndE; rw [if_neg hb]]
    unfold sndB at hb
    have hb' : ¬ ((1 ≤ x ∧ x ≤ 16) ∧ (1 ≤ y ∧ y ≤ 16) ∧ x ≠ y ∧ 0 ≤ k) := fun e => hb (decide_eq_true e)
    unfold two
    obtain ⟨n, hn⟩ : ∃ n, d.length = n := ⟨_, rfl⟩
    rw [hn]
    clear hb h hn hd
    by_cases hx : 1 ≤ x ∧ x ≤ 16
    · rw [decide_eq_true hx] at S1
      by_cases hy : 1 ≤ y ∧ y ≤ 16
      · rw [decide_eq_true hy] at S2
        by_cases hxy : x = y
        · have hxy' : (x == y) = true := by simpa using hxy
          clear hb' hx hy hxy
          go_enter Try.func17, Try.ntmps17
          go_wp2_with fail
          refine (unhide S1).mono ?_
          rintro e W1 ⟨rfl, rfl⟩
          clear S1
          go_wp2_with fail
          refine (unhide S2).mono ?_
          rintro e W1 ⟨rfl, rfl⟩
          clear S2
          go_wp2
          refine bodyPost_ret (results_tmp2 rfl _ _ _) rfl ?_
          exact CN.same (unhide HL) _ (Below.refl _ _)
        · have hk : k < 0 := by omega
          have hxy' : (x == y) = false := by rw [beq_eq_false_iff_ne]; exact hxy
          clear hb' hx hy hxy
          go_enter Try.func17, Try.ntmps17
          go_wp2_with fail
          refine (unhide S1).mono ?_
          rintro e W1 ⟨rfl, rfl⟩
          clear S1
          go_wp2_with fail
          refine (unhide S2).mono ?_
          rintro e W1 ⟨rfl, rfl⟩
          clear S2
          go_wp2
          refine bodyPost_ret (results_tmp2 rfl _ _ _) rfl ?_
          exact CN.same (unhide HL) _ (Below.refl _ _)
      · rw [decide_eq_false hy] at S2
        clear hb' hx hy
        go_enter Try.func17, Try.ntmps17
        go_wp2_with fail
        refine (unhide S1).mono ?_
        rintro e W1 ⟨rfl, rfl⟩
        clear S1
        go_wp2_with fail
        refine (unhide S2).mono ?_
        rintro e W1 ⟨rfl, rfl⟩
        clear S2
        go_wp2
        refine bodyPost_ret (results_tmp2 rfl _ _ _) rfl ?_
        exact CN.same (unhide HL) _ (Below.refl _ _)
    · rw [decide_eq_false hx] at S1
      clear hb' hx S2
      go_enter Try.func17, Try.ntmps17
      go_wp2_with fail
      refine (unhide S1).mono ?_
      rintro e W1 ⟨rfl, rfl⟩
      clear S1
      go_wp2
      refine bodyPost_ret (results_tmp2 rfl _ _ _) rfl ?_
      exact CN.same (unhide HL) _ (Below.refl _ _)

end Go.Proofs.Yteomalmflebkhaa
