/-
  The law's own: known.
-/
import Derived.Test.YtkkolefionbbcaaGreatZXCL
import Derived.Test.YtkkolefionbbcaaGreatZXU
import Derived.Test.YtkkolefionbbcaaGreatZEQ
set_option linter.unusedSimpArgs false
set_option linter.unusedVariables false
namespace Go.Proofs.YtkkolefionbbcaaGreat
open Go.RowKit Go.Lib

theorem dots_in (l m : List (Int × Int)) (v u : Value) (w : World) (hv : RI w v l) (hu : RI w u m) (hl : l.length ≤ 1000000) (hm : m.length ≤ 1000000) : Calls Tryz.prog 29 #[v, u] w fun e W => e = .returned (.bool (decide (l = m))) ∧ Below w.heap.size w W := by
  have HS := hide (Same_in l m v u w hv hu (by omega) (by omega))
  obtain ⟨a, c, rfl⟩ := RC.form hv
  obtain ⟨a', c', rfl⟩ := RC.form hu
  clear hv hu
  generalize decide (l = m) = R at *
  go_enter Tryz.func29, Tryz.ntmps29
  go_wp2_with fail
  refine (unhide HS).mono ?_
  rintro e W ⟨rfl, n, rfl⟩
  go_wp2
  go_ret
  exact ⟨rfl, ⟨rfl, rfl, rfl, Nat.le_refl _, fun _ _ => rfl⟩⟩
theorem waits_c {B : Nat} {W : World} {b : Nat} {hv : List (Int × Int)} {wo ro : List Opn} (hQ : KQ B W b hv wo ro) (hlen : wo.length ≤ 1000) : Calls Tryz.prog 18 #[.pointer (some ⟨b, 0, none⟩)] W fun e W' => ∃ v', e = .returned v' ∧ RI W' v' (sortI (wo.map dotO)) ∧ Below W.heap.size W W' ∧ ∀ i, v'.ownBlock = some i → W.heap.size ≤ i ∧ i < W'.heap.size := by
  obtain ⟨vh, vw, vr, ws, rd, qm, ew, er⟩ := hQ
  have hl : ws.length = wo.length := by rw [← ew, List.length_map]
  refine (Waits_in qm (by omega)).mono ?_
  rintro e W' ⟨v', rfl, ho, hb⟩
  refine ⟨v', rfl, ?_, hb, fun i hi => ho.lt i hi⟩
  have e1 : dotsT ws = wo.map dotO := by rw [← ew, List.map_map]; rfl
  rw [e1] at ho
  have e2 : (sortI (wo.map dotO)).length = ws.length := by rw [(sortI_perm _).length_eq, List.length_map, hl]
  unfold RI
  rw [e2]
  exact RC.of_owns ho
/-- the same, in blocks of which P holds -/
def KP (P : Nat → Prop) (W : World) (b : Nat) (hv : List (Int × Int)) (wo ro : List Opn) : Prop := ∃ vh vw vr ws rd, QM P W b 2 vh vw vr hv ws rd ∧ ws.map Prod.fst = wo ∧ rd.map Prod.fst = ro
theorem KP.below {P : Nat → Prop} {W W' : World} {b : Nat} {hv : List (Int × Int)} {wo ro : List Opn} (h : KP P W b hv wo ro) (hb : Below W.heap.size W W') : KP P W' b hv wo ro := by
  obtain ⟨vh, vw, vr, ws, rd, q, e⟩ := h
  exact ⟨vh, vw, vr, ws, rd, q.below hb, e⟩
theorem OE.tight {P : Nat → Prop} {W : World} {e : Opn × Value × Value} (h : OE P W e) : OE (fun i => P i ∧ i < W.heap.size) W e := ⟨h.d, h.g, fun k hk => ⟨h.pd k hk, (h.d.lt k hk).2⟩, fun k hk => ⟨h.pg k hk, (h.g.lt k hk).2⟩, h.s1, h.s2, h.s3, h.inn⟩
theorem KQ.tight {B : Nat} {W : World} {b : Nat} {hv : List (Int × Int)} {wo ro : List Opn} (h : KQ B W b hv wo ro) : KP (fun i => B ≤ i ∧ i < W.heap.size) W b hv wo ro := by
  obtain ⟨vh, vw, vr, ws, rd, h, e⟩ := h
  exact ⟨vh, vw, vr, ws, rd, ⟨h.box, h.rh, h.rw, h.rr, fun e he => (h.we e he).tight, fun e he => (h.re e he).tight, ⟨h.pb, h.box.lt⟩, fun k hk => ⟨h.ph k hk, (h.rh.lt k hk).2⟩, fun k hk => ⟨h.pw k hk, (h.rw.lt k hk).2⟩, fun k hk => ⟨h.pr k hk, h.rr.lt k hk⟩, h.ap, h.hl, h.dj⟩, e⟩
theorem offer_p {P : Nat → Prop} {W : World} {b : Nat} {hv : List (Int × Int)} {wo ro : List Opn} (hQ : KP P W b hv wo ro) (s q : Int) (a : Option Addr) (n c : Nat) (l : List (Int × Int)) (hd : RI W (.slice a n c) l) (h1 : l.length ≤ 100) (hs : in64 s) (hq : in64 q) (hlen : wo.length + ro.length ≤ 1000) (r : Int) (hv' : List (Int × Int)) (wo' ro' : List Opn) (he : offA 2 hv wo ro (jnO s q l) = ((r, 0), hv', wo', ro')) :
    Calls Tryz.prog 15 #[.pointer (some ⟨b, 0, none⟩), .agg #[.int .i64 s, .int .i64 q, .slice a n c, .int .i64 3, .int .i64 0, .int .i64 0, .int .i64 0, .int .i64 0, .string ⟨#[]⟩, .slice none 0 0, .int .i64 9]] W fun e W' => e = .returned (.tuple #[.int .i64 r, .int .i64 0]) ∧ KP (fun i => P i ∨ W.heap.size ≤ i) W' b hv' wo' ro' ∧ Kp P W W' := by
  obtain ⟨vh, vw, vr, ws, rd, qm, ew, er⟩ := hQ
  have z : ∀ k : Int, 0 ≤ k ∧ k ≤ 9 → in64 k := fun k hk => ⟨by omega, by omega⟩
  have hin : InO (jnO s q l) := ⟨hs, hq, z 3 (by decide), z 0 (by decide), z 0 (by decide), z 0 (by decide), z 0 (by decide), z 9 (by decide), by show l.length ≤ _; omega, by show (0 : Nat) ≤ _; omega, (fun r hr => by simp [jnO] at hr), by show (0 : Nat) ≤ _; omega⟩
  have hl : ws.length + rd.length ≤ 900000 := by rw [← ew, ← er, List.length_map, List.length_map] at hlen; omega
  refine (Offer_in qm (jnO s q l) (.slice a n c) (.slice none 0 0) hd (.inl ⟨rfl, _, _, rfl⟩) (by show l.length ≤ 1000000; omega) (by show 0 ≤ 1000000; omega) (by show (0 : Nat) ≤ 1000000; omega) hin (by omega) hl).mono ?_
  rintro e W' ⟨rfl, ⟨vh', vw', vr', ws', rd', q', e1, e2⟩, k⟩
  rw [ew, er, he] at q' e1 e2
  rw [ew, er, he]
  exact ⟨rfl, ⟨vh', vw', vr', ws', rd', q', e1, e2⟩, k⟩
theorem free_p {P : Nat → Prop} {W : World} {b : Nat} {hv : List (Int × Int)} {wo ro : List Opn} (hQ : KP P W b hv wo ro) (hlen : wo.length ≤ 1000) : Calls Tryz.prog 19 #[.pointer (some ⟨b, 0, none⟩)] W fun e W' => e = .returned (.int .i64 (2 - (wo.length : Nat))) ∧ Below W.heap.size W W' := by
  obtain ⟨vh, vw, vr, ws, rd, qm, ew, er⟩ := hQ
  have hl : ws.length = wo.length := by rw [← ew, List.length_map]
  have := Free_in qm (by omega) (by omega)
  rw [hl] at this
  exact this
theorem vector_p {P : Nat → Prop} {W : World} {b : Nat} {hv : List (Int × Int)} {wo ro : List Opn} (hQ : KP P W b hv wo ro) : Calls Tryz.prog 20 #[.pointer (some ⟨b, 0, none⟩)] W fun e W' => ∃ v', e = .returned v' ∧ RI W' v' hv ∧ Below W.heap.size W W' := by
  obtain ⟨vh, vw, vr, ws, rd, qm, ew, er⟩ := hQ
  refine (Vector_in qm).mono ?_
  rintro e W' ⟨v', rfl, ho, hb⟩
  exact ⟨v', rfl, OwD.row ho, hb⟩
theorem take_p {P : Nat → Prop} {W : World} {b : Nat} {hv : List (Int × Int)} {wo ro : List Opn} {o : Opn} (hQ : KP P W b hv wo (o :: ro)) (hlen : ro.length ≤ 1000) : Calls Tryz.prog 16 #[.pointer (some ⟨b, 0, none⟩)] W fun e W' => (∃ ad nd cd ag ng cg, e = .returned (.tuple #[.agg #[.int .i64 o.ds, .int .i64 o.dq, .slice ad nd cd, .int .i64 o.kind, .int .i64 o.it, .int .i64 o.is, .int .i64 o.rt, .int .i64 o.rs, .string o.text, .slice ag ng cg, .int .i64 o.site], .bool true])) ∧ KP P W' b hv wo ro ∧ Kp P W W' := by
  obtain ⟨vh, vw, vr, ws, rd, qm, ew, er⟩ := hQ
  cases rd with
  | nil => simp at er
  | cons x rd =>
    simp only [List.map_cons, List.cons.injEq] at er
    obtain ⟨rfl, er⟩ := er
    have hl : rd.length = ro.length := by rw [← er, List.length_map]
    have hoe := qm.re x (List.mem_cons_self)
    obtain ⟨ad, cd, e1⟩ := OwD.form hoe.d
    obtain ⟨ag, cg, e2⟩ := OwR.form hoe.g
    refine (Take_some qm (by omega)).mono ?_
    rintro e W' ⟨rfl, ⟨vr', q'⟩, _, k⟩
    refine ⟨⟨ad, _, cd, ag, _, cg, by rw [e1, e2]; rfl⟩, ⟨vh, vw, vr', ws, rd, q', ew, er⟩, k⟩
set_option maxRecDepth 100000 in
set_option maxHeartbeats 8000000 in
theorem known_in (w : World) : Calls Tryz.prog 10 #[] w fun e W => e = .returned (.bool true) ∧ Below w.heap.size w W := by
  have HN := hide (New_in 2 (.slice none 0 0) [] w (RC.nil _ _ _) (by decide))
  go_enter Tryz.func10, Tryz.ntmps10
  go_wp2_with fail
  refine (unhide HN).mono ?_
  rintro e W0 ⟨b0, (⟨b, vh, _, _, _, rfl, hq⟩ | ⟨c, (⟨hc, _⟩ | ⟨_, _, hc, hc'⟩), _⟩)⟩
  rotate_left
  · exact absurd (by decide) hc
  · exact absurd (hc.symm.trans (by rfl)) hc'
  have Hq : Hid (KQ w.heap.size W0 b [] [] []) := hide ⟨_, _, _, _, _, hq, rfl, rfl⟩
  have Hk : Hid (Kp (fun i => w.heap.size ≤ i) w W0) := hide (Kp.of_below b0)
  clear HN hq b0
  have bY : Below W0.heap.size W0 W0 := Below.refl _ _
  have HR : Hid (RI W0 (.slice none 0 0) []) := hide (RC.nil _ _ _)
  have HbY := hide bY
  clear bY
  go_wp2_with fail
  refine (join_in 1 1 none 0 0 W0).mono ?_
  rintro e Wj ⟨rfl, bj⟩
  have HO := hide (offer_c ((unhide Hq).below (bnext (unhide HbY) bj)) (Nat.le_trans (unhide Hk).size (bnext (unhide HbY) bj).size) 1 1 none 0 0 [] (RC.below (unhide HR) bj) (by decide) (by unfold in64; decide) (by unfold in64; decide) (by decide) _ _ _ _ k1)
  replace Hk : Hid (Kp (fun i => w.heap.size ≤ i) w Wj) := hide ((unhide Hk).trans (Kp.of_below (N := fun _ => False) (bnext (unhide HbY) bj)) (fun i e => .inl e.elim))
  clear HR HbY bj Hq
  go_wp2_with fail
  refine (unhide HO).mono ?_
  rintro e W1 ⟨rfl, hq, hk⟩
  have Hq := hide hq
  replace Hk : Hid (Kp (fun i => w.heap.size ≤ i) w W1) := hide ((unhide Hk).trans hk (fun i e => .inl e))
  clear HO hq hk
  obtain ⟨Y2, hY2⟩ : ∃ Y, W1.alloc (.cells #[.int .i64 1, .int .i64 2] 28) = Y := ⟨_, rfl⟩
  have bY : Below W1.heap.size W1 Y2 := by rw [← hY2]; exact ballc (Below.refl _ _) _
  have HR : Hid (RI Y2 (.slice (some ⟨W1.heap.size, 0, none⟩) 1 1) [(1, 2)]) := by rw [← hY2]; exact RC.lit _ _ _ _
  have HbY := hide bY
  clear bY
  go_wp2_with fail
  refine (join_in 1 3 (some ⟨W1.heap.size, 0, none⟩) 1 1 Y2).mono ?_
  rintro e Wj ⟨rfl, bj⟩
  have HO := hide (offer_c ((unhide Hq).below (bnext (unhide HbY) bj)) (Nat.le_trans (unhide Hk).size (bnext (unhide HbY) bj).size) 1 3 (some ⟨W1.heap.size, 0, none⟩) 1 1 [(1, 2)] (RC.below (unhide HR) bj) (by decide) (by unfold in64; decide) (by unfold in64; decide) (by decide) _ _ _ _ k2)
  replace Hk : Hid (Kp (fun i => w.heap.size ≤ i) w Wj) := hide ((unhide Hk).trans (Kp.of_below (N := fun _ => False) (bnext (unhide HbY) bj)) (fun i e => .inl e.elim))
  clear HR HbY bj Hq
  go_wp2_with fail
  refine (unhide HO).mono ?_
  rintro e W2 ⟨rfl, hq, hk⟩
  have Hq := hide hq
  replace Hk : Hid (Kp (fun i => w.heap.size ≤ i) w W2) := hide ((unhide Hk).trans hk (fun i e => .inl e))
  clear HO hq hk
  obtain ⟨Y3, hY3⟩ : ∃ Y, W2.alloc (.cells #[.int .i64 1, .int .i64 3] 28) = Y := ⟨_, rfl⟩
  have bY : Below W2.heap.size W2 Y3 := by rw [← hY3]; exact ballc (Below.refl _ _) _
  have HR : Hid (RI Y3 (.slice (some ⟨W2.heap.size, 0, none⟩) 1 1) [(1, 3)]) := by rw [← hY3]; exact RC.lit _ _ _ _
  have HbY := hide bY
  clear bY
  go_wp2_with fail
  refine (join_in 2 1 (some ⟨W2.heap.size, 0, none⟩) 1 1 Y3).mono ?_
  rintro e Wj ⟨rfl, bj⟩
  have HO := hide (offer_c ((unhide Hq).below (bnext (unhide HbY) bj)) (Nat.le_trans (unhide Hk).size (bnext (unhide HbY) bj).size) 2 1 (some ⟨W2.heap.size, 0, none⟩) 1 1 [(1, 3)] (RC.below (unhide HR) bj) (by decide) (by unfold in64; decide) (by unfold in64; decide) (by decide) _ _ _ _ k3)
  replace Hk : Hid (Kp (fun i => w.heap.size ≤ i) w Wj) := hide ((unhide Hk).trans (Kp.of_below (N := fun _ => False) (bnext (unhide HbY) bj)) (fun i e => .inl e.elim))
  clear HR HbY bj Hq
  go_wp2_with fail
  refine (unhide HO).mono ?_
  rintro e W3 ⟨rfl, hq, hk⟩
  have Hq := hide hq
  replace Hk : Hid (Kp (fun i => w.heap.size ≤ i) w W3) := hide ((unhide Hk).trans hk (fun i e => .inl e))
  clear HO hq hk
  obtain ⟨Y4, hY4⟩ : ∃ Y, W3.alloc (.cells #[.int .i64 1, .int .i64 3, .int .i64 2, .int .i64 1] 28) = Y := ⟨_, rfl⟩
  have bY : Below W3.heap.size W3 Y4 := by rw [← hY4]; exact ballc (Below.refl _ _) _
  have HR : Hid (RI Y4 (.slice (some ⟨W3.heap.size, 0, none⟩) 2 2) [(1, 3), (2, 1)]) := by rw [← hY4]; exact RC.lit _ _ _ _
  have HbY := hide bY
  clear bY
  go_wp2_with fail
  refine (join_in 2 2 (some ⟨W3.heap.size, 0, none⟩) 2 2 Y4).mono ?_
  rintro e Wj ⟨rfl, bj⟩
  have HO := hide (offer_c ((unhide Hq).below (bnext (unhide HbY) bj)) (Nat.le_trans (unhide Hk).size (bnext (unhide HbY) bj).size) 2 2 (some ⟨W3.heap.size, 0, none⟩) 2 2 [(1, 3), (2, 1)] (RC.below (unhide HR) bj) (by decide) (by unfold in64; decide) (by unfold in64; decide) (by decide) _ _ _ _ k4)
  replace Hk : Hid (Kp (fun i => w.heap.size ≤ i) w Wj) := hide ((unhide Hk).trans (Kp.of_below (N := fun _ => False) (bnext (unhide HbY) bj)) (fun i e => .inl e.elim))
  clear HR HbY bj Hq
  go_wp2_with fail
  refine (unhide HO).mono ?_
  rintro e W4 ⟨rfl, hq, hk⟩
  have Hq := hide hq
  replace Hk : Hid (Kp (fun i => w.heap.size ≤ i) w W4) := hide ((unhide Hk).trans hk (fun i e => .inl e))
  clear HO hq hk
  obtain ⟨Y5, hY5⟩ : ∃ Y, W4.alloc (.cells #[.int .i64 1, .int .i64 2] 28) = Y := ⟨_, rfl⟩
  have bY : Below W4.heap.size W4 Y5 := by rw [← hY5]; exact ballc (Below.refl _ _) _
  have HR : Hid (RI Y5 (.slice (some ⟨W4.heap.size, 0, none⟩) 1 1) [(1, 2)]) := by rw [← hY5]; exact RC.lit _ _ _ _
  have HbY := hide bY
  clear bY
  go_wp2_with fail
  refine (join_in 3 1 (some ⟨W4.heap.size, 0, none⟩) 1 1 Y5).mono ?_
  rintro e Wj ⟨rfl, bj⟩
  have HO := hide (offer_c ((unhide Hq).below (bnext (unhide HbY) bj)) (Nat.le_trans (unhide Hk).size (bnext (unhide HbY) bj).size) 3 1 (some ⟨W4.heap.size, 0, none⟩) 1 1 [(1, 2)] (RC.below (unhide HR) bj) (by decide) (by unfold in64; decide) (by unfold in64; decide) (by decide) _ _ _ _ k5)
  replace Hk : Hid (Kp (fun i => w.heap.size ≤ i) w Wj) := hide ((unhide Hk).trans (Kp.of_below (N := fun _ => False) (bnext (unhide HbY) bj)) (fun i e => .inl e.elim))
  clear HR HbY bj Hq
  go_wp2_with fail
  refine (unhide HO).mono ?_
  rintro e W5 ⟨rfl, hq, hk⟩
  have Hq := hide hq
  replace Hk : Hid (Kp (fun i => w.heap.size ≤ i) w W5) := hide ((unhide Hk).trans hk (fun i e => .inl e))
  clear HO hq hk
  have HQ5 := hide (unhide Hq).tight
  go_wp2_with fail
  refine (waits_c (unhide Hq) (by decide)).mono ?_
  rintro e W6 ⟨vW, rfl, hW, bW, hWl⟩
  rw [show sortI ([jnO 1 3 [(1, 2)], jnO 3 1 [(1, 2)]].map dotO) = [(1, 3), (3, 1)] from k7] at hW
  obtain ⟨Y6, hY6⟩ : ∃ Y, W6.alloc (.cells #[.int .i64 1, .int .i64 1] 28) = Y := ⟨_, rfl⟩
  have bY : Below W6.heap.size W6 Y6 := by rw [← hY6]; exact ballc (Below.refl _ _) _
  have HR : Hid (RI Y6 (.slice (some ⟨W6.heap.size, 0, none⟩) 1 1) [(1, 1)]) := by rw [← hY6]; exact RC.lit _ _ _ _
  have HW := hide hW
  have HbW := hide bW
  have HWl := hide hWl
  have HbY := hide bY
  clear hW bW hWl bY Hq
  go_wp2_with fail
  refine (join_in 1 2 (some ⟨W6.heap.size, 0, none⟩) 1 1 Y6).mono ?_
  rintro e Wj ⟨rfl, bj⟩
  have b6j := bnext (unhide HbY) bj
  have HO := hide (offer_p ((unhide HQ5).below (bnext (unhide HbW) b6j)) 1 2 (some ⟨W6.heap.size, 0, none⟩) 1 1 [(1, 1)] (RC.below (unhide HR) bj) (by decide) (by unfold in64; decide) (by unfold in64; decide) (by decide) _ _ _ _ k6)
  have Hb6j := hide b6j
  clear HR HbY bj b6j HQ5
  go_wp2_with fail
  refine (unhide HO).mono ?_
  rintro e W7 ⟨rfl, hq7, hk7⟩
  have hnv : ∀ i, rb vW 2 i → ¬ (w.heap.size ≤ i ∧ i < W5.heap.size) := fun i hi e => by have := unhide HWl i hi.2; omega
  have z6 := (unhide Hb6j).size
  have hW7 : RI W7 vW [(1, 3), (3, 1)] := RC.kpn (RC.below (unhide HW) (unhide Hb6j)) hk7 hnv
  have HT := hide (take_p hq7 (by decide))
  have Hk7 : Hid (Kp (fun i => w.heap.size ≤ i) w W7) := hide (((unhide Hk).trans (Kp.of_below (N := fun _ => False) (bnext (unhide HbW) (unhide Hb6j))) (fun i e => .inl e.elim)).trans hk7 (fun i e => .inl e.1))
  have HW7 := hide hW7
  have Hz6 := hide z6
  have HzB := hide (show w.heap.size ≤ Wj.heap.size from Nat.le_trans (unhide Hk).size (bnext (unhide HbW) (unhide Hb6j)).size)
  clear HO hq7 hk7 hnv hW7 HW Hk Hb6j HbW z6
  go_wp2_with fail
  refine (unhide HT).mono ?_
  rintro e W8 ⟨⟨ad, nd, cd, ag, ng, cg, rfl⟩, hq8, hk8⟩
  have hW8 : RI W8 vW [(1, 3), (3, 1)] := RC.kpn (unhide HW7) hk8 (fun i hi e => by
    have h1 := unhide HWl i hi.2
    have h2 := unhide Hz6
    rcases e with e | e
    · omega
    · omega)
  have Hk8 : Hid (Kp (fun i => w.heap.size ≤ i) w W8) := hide ((unhide Hk7).trans hk8 (fun i e => .inl (e.elim (fun e => e.1) (fun e => Nat.le_trans (unhide HzB) e))))
  obtain ⟨X8, hX8⟩ : ∃ Y, W8.alloc (.cells #[.int .i64 (jnO 1 1 []).ds, .int .i64 (jnO 1 1 []).dq, .slice ad nd cd, .int .i64 (jnO 1 1 []).kind, .int .i64 (jnO 1 1 []).it, .int .i64 (jnO 1 1 []).is, .int .i64 (jnO 1 1 []).rt, .int .i64 (jnO 1 1 []).rs, .string (jnO 1 1 []).text, .slice ag ng cg, .int .i64 (jnO 1 1 []).site] 42) = Y := ⟨_, rfl⟩
  have bX8 : Below W8.heap.size W8 X8 := by rw [← hX8]; exact ballc (Below.refl _ _) _
  have BX8 : Bx X8 W8.heap.size 42 #[.int .i64 (jnO 1 1 []).ds, .int .i64 (jnO 1 1 []).dq, .slice ad nd cd, .int .i64 (jnO 1 1 []).kind, .int .i64 (jnO 1 1 []).it, .int .i64 (jnO 1 1 []).is, .int .i64 (jnO 1 1 []).rt, .int .i64 (jnO 1 1 []).rs, .string (jnO 1 1 []).text, .slice ag ng cg, .int .i64 (jnO 1 1 []).site] := by rw [← hX8]; exact Bx.new _ _ _
  obtain ⟨Y8, hY8⟩ : ∃ Y, X8.alloc (.cells #[.int .i64 1, .int .i64 3, .int .i64 3, .int .i64 1] 28) = Y := ⟨_, rfl⟩
  have bY8 : Below X8.heap.size X8 Y8 := by rw [← hY8]; exact ballc (Below.refl _ _) _
  have hR8 : RI Y8 (.slice (some ⟨X8.heap.size, 0, none⟩) 2 2) [(1, 3), (3, 1)] := by rw [← hY8]; exact RC.lit _ _ _ _
  have HD := hide (dots_in [(1, 3), (3, 1)] [(1, 3), (3, 1)] vW (.slice (some ⟨X8.heap.size, 0, none⟩) 2 2) Y8 (RC.below hW8 (bnext bX8 bY8)) hR8 (by decide) (by decide))
  rw [show decide (([(1, 3), (3, 1)] : List (Int × Int)) = [(1, 3), (3, 1)]) = true from rfl] at HD
  have Hq8 := hide (hq8.below (bnext bX8 bY8))
  have Hb8 := hide (bnext bX8 bY8)
  have HB8 := hide (BX8.below bY8)
  clear HT hq8 hk8 hW8 bX8 BX8 bY8 hR8 HW7 Hk7
  go_wp2_with fail
  refine (unhide HD).mono ?_
  rintro e W9 ⟨rfl, b9⟩
  have bx9 := (unhide HB8).below b9
  have c9 : W9.cell? ⟨W8.heap.size, 1, none⟩ = some (.int .i64 1) := bx9.cell 1 _ rfl
  have HF := hide (free_p ((unhide Hq8).below b9) (by decide))
  have Hq9 := hide ((unhide Hq8).below b9)
  have Hb9 := hide (bnext (unhide Hb8) b9)
  clear HD bx9 b9 Hq8
  go_wp2_with fail
  refine (unhide HF).mono ?_
  rintro e W10 ⟨rfl, b10⟩
  have HV := hide (vector_p ((unhide Hq9).below b10))
  have Hb10 := hide (bnext (unhide Hb9) b10)
  clear HF b10 c9
  go_wp2_with fail
  refine (unhide HV).mono ?_
  rintro e W11 ⟨vV, rfl, hV, b11⟩
  have HS := hide (refSum_in vV _ W11 hV (by decide))
  rw [show sum (sy [(1, 3), (3, 1)]) = 4 by kernel_rfl] at HS
  have Hb11 := hide (bnext (unhide Hb10) b11)
  clear HV hV b11
  go_wp2_with fail
  refine (unhide HS).mono ?_
  rintro e W12 ⟨rfl, b12⟩
  have HE := hide ((unhide Hk8).trans (Kp.of_below (N := fun _ => False) (bnext (unhide Hb11) b12)) (fun i e => .inl e.elim))
  clear HS b12
  go_wp2
  go_ret
  exact ⟨rfl, (unhide HE).below (Below.refl _ _) (fun i e => e)⟩

end Go.Proofs.YtkkolefionbbcaaGreat
