/-
  One thing taken: of a Reader, of the document's; what both tell.
-/
import Derived.Test.YtgoalmkjmjikmaaZRF2
import Derived.Test.YtgoalmkjmjikmaaZRegG
import Derived.Deep.CutRange
set_option linter.unusedSimpArgs false
set_option linter.unusedVariables false
namespace Go.Proofs.Ytgoalmkjmjikmaa
open Go.RowKit Go.Lib

theorem RC.kpn {N : Nat → Prop} {W W' : World} {v : Value} {n : Nat} {C : List Value} (h : RC W v n C) (k : Kp N W W') (hn : 0 < n → ∀ i, v.ownBlock = some i → ¬ N i) : RC W' v n C := by
  rcases h with h | ⟨b, off, cap, rfl, h1, hl, hc⟩
  · exact .inl h
  · by_cases h0 : 0 < n
    · refine .inr ⟨b, off, cap, rfl, h1, Nat.lt_of_lt_of_le hl k.size, fun j x hx => ?_⟩
      rw [← hc j x hx]
      exact World.cell?_of_block (k.block b hl (hn h0 b rfl))
    · exact .inl ⟨by omega, _, _, by rw [show n = 0 by omega]⟩
theorem RC.ownlt {W : World} {v : Value} {n : Nat} {C : List Value} (h : RC W v n C) (h0 : 0 < n) : ∀ i, v.ownBlock = some i → i < W.heap.size := by
  rcases h with ⟨h, _⟩ | ⟨b, off, cap, rfl, h1, hl, hc⟩
  · omega
  · intro i hi
    simp only [Value.ownBlock, Option.some.injEq] at hi
    omega
theorem Rd.kpn {N : Nat → Prop} {W W' : World} {p : Nat} {v : Value} {l : List Nat} {e : Int} (h : Rd W p v l e) (k : Kp N W W') (h1 : ¬ N p) (h2 : 0 < l.length → ∀ i, v.ownBlock = some i → ¬ N i) : Rd W' p v l e :=
  ⟨h.box.kp k h1, h.row.kpn k h2, h.ne, h.byte, h.small⟩

/-- a thing is taken: what it is, how many bytes it has, the error -/
def rItm (l : List Nat) (e : Int) (t : Bool) : (Bool × Int × ByteArray) × Nat × Int := if t then ((true, 0, (rTxt l e).1), rTxtW l e, (rTxt l e).2.2) else ((false, ((rn0 l e).2.1 : Int), ByteArray.empty), (rn0 l e).2.2, (rn0 l e).1)
theorem rItm_le (l : List Nat) (e : Int) (t : Bool) : (rItm l e t).2.1 ≤ l.length := by
  unfold rItm
  split
  · exact rTxtW_le l e
  · exact rn0_width l e
def itC (x : Bool × Int × ByteArray) : Array Value := #[.bool x.1, .int .i64 x.2.1, .string x.2.2]
theorem sizeT : (Try.prog.info? 53).map (·.size) = some 3 := by kernel_rfl

set_option maxRecDepth 100000 in
set_option maxHeartbeats 2000000 in
theorem take_in {w : World} {p : Nat} {v : Value} {l : List Nat} {e : Int} (bt : Bool) (n : Int) (s : ByteArray) (h : Rd w p v l e) :
    Calls Try.prog 23 #[.pointer (some ⟨p, 0, none⟩), .agg #[.bool bt, .int .i64 n, .string s]] w fun r W => r = .returned (.agg (itC (rItm l e bt).1)) ∧ ∃ v', Rd W p v' (l.drop (rItm l e bt).2.1) (rItm l e bt).2.2 ∧ Kp (fun i => i = p) w W ∧ v'.ownBlock = v.ownBlock := by
  obtain ⟨w2, hw2⟩ : ∃ X, (w.alloc (.cells #[.bool bt, .int .i64 n, .string s] 53)).alloc (.cells #[.bool false, .int .i64 0, .string ⟨#[]⟩] 53) = X := ⟨_, rfl⟩
  have b2 : Below w.heap.size w w2 := by rw [← hw2]; exact ballc (ballc (Below.refl _ _) _) _
  have x1 : Bx w2 w.heap.size 53 #[.bool bt, .int .i64 n, .string s] := by rw [← hw2]; exact (Bx.new w _ _).below (ballc (Below.refl _ _) _)
  have x3 : Bx w2 (w.heap.size + 1) 53 #[.bool false, .int .i64 0, .string ⟨#[]⟩] := by
    rw [← hw2]; have q := Bx.new (w.alloc (.cells #[.bool bt, .int .i64 n, .string s] 53)) 53 #[.bool false, .int .i64 0, .string ⟨#[]⟩]; simpa using q
  have h2 := h.below b2
  have hpl := h.box.lt
  have hol := h.row.ownlt
  have c0 := x1.cell 0 _ rfl
  have HX := hide x3
  have hfin : ∀ (W1 : World) (v' : Value) (k : Nat) (e' : Int) (u0 u1 u2 : Value), Rd W1 p v' (l.drop k) e' → Kp (fun i => i = p) w2 W1 → v'.ownBlock = v.ownBlock →
      Rd (((W1.setCell ⟨w.heap.size + 1, 0, none⟩ u0).setCell ⟨w.heap.size + 1, 1, none⟩ u1).setCell ⟨w.heap.size + 1, 2, none⟩ u2) p v' (l.drop k) e' ∧ Kp (fun i => i = p) w (((W1.setCell ⟨w.heap.size + 1, 0, none⟩ u0).setCell ⟨w.heap.size + 1, 1, none⟩ u1).setCell ⟨w.heap.size + 1, 2, none⟩ u2) ∧ Bx W1 (w.heap.size + 1) 53 #[.bool false, .int .i64 0, .string ⟨#[]⟩] := by
    intro W1 v' k e' u0 u1 u2 hr hk ho
    have k1 := Kp.set (N := fun i => i = w.heap.size + 1) W1 ⟨w.heap.size + 1, 0, none⟩ u0 rfl
    have k2 := Kp.set (N := fun i => i = w.heap.size + 1) (W1.setCell ⟨w.heap.size + 1, 0, none⟩ u0) ⟨w.heap.size + 1, 1, none⟩ u1 rfl
    have k3 := Kp.set (N := fun i => i = w.heap.size + 1) ((W1.setCell ⟨w.heap.size + 1, 0, none⟩ u0).setCell ⟨w.heap.size + 1, 1, none⟩ u1) ⟨w.heap.size + 1, 2, none⟩ u2 rfl
    have k4 := (k1.trans k2 (fun i h => .inl h)).trans k3 (fun i h => .inl h)
    refine ⟨hr.kpn k4 (by omega) (fun h0 i hi => ?_), ?_, (unhide HX).kp hk (by omega)⟩
    · rw [ho] at hi
      have := hol (by rw [List.length_drop] at h0; omega) i hi
      omega
    · exact ((Kp.of_below (N := fun i => i = p) b2).trans hk (fun i h => .inl h)).trans k4 (fun i h => .inr (by omega))
  have Hfin := hide hfin
  cases bt with
  | true =>
    have e1 : rItm l e true = ((true, 0, (rTxt l e).1), rTxtW l e, (rTxt l e).2.2) := rfl
    rw [e1]
    have HC := hide (rText_in h2)
    rw [rTxt_drop] at HC
    simp only [itC]
    generalize (rTxt l e).1 = S at HC ⊢
    generalize (rTxt l e).2.2 = E' at HC ⊢
    generalize rTxtW l e = K at HC ⊢
    clear e1 h h2 x1 x3 hfin hol
    go_enter Try.func23, Try.ntmps23
    go_wp2_with fail
    refine (unhide HC).mono ?_
    rintro r W1 ⟨rfl, v', h1, h2, h3⟩
    obtain ⟨q1, q2, q3⟩ := unhide Hfin W1 v' K E' (.bool true) (.int .i64 0) (.string S) h1 h2 h3
    have d0 := q3.cell 0 _ rfl
    have d1 := q3.cell 1 _ rfl
    have d2 := q3.cell 2 _ rfl
    have f0 := q3.frozen 0
    have f1 := q3.frozen 1
    have f2 := q3.frozen 2
    replace q1 := hide q1
    replace q2 := hide q2
    replace q3 := hide q3
    replace h3 := hide h3
    clear h1 h2 Hfin hw2 HC c0
    go_wp2
    refine bodyPost_ret (results_cell_row rfl _ _ (w.heap.size + 1) _ _ _ _ rfl (put3 (unhide q3) _ _ _) Try.underlying53 rfl sizeT) rfl ?_
    exact ⟨rfl, v', unhide q1, unhide q2, unhide h3⟩
  | false =>
    have e1 : rItm l e false = ((false, ((rn0 l e).2.1 : Int), ByteArray.empty), (rn0 l e).2.2, (rn0 l e).1) := rfl
    rw [e1]
    have HC := hide (rNumber_in h2)
    unfold rNum at HC
    simp only [itC] at HC ⊢
    generalize rn0 l e = Z at HC ⊢
    obtain ⟨E', S, K⟩ := Z
    simp only at HC ⊢
    clear e1 h h2 x1 x3 hfin hol
    go_enter Try.func23, Try.ntmps23
    go_wp2_with fail
    refine (unhide HC).mono ?_
    rintro r W1 ⟨rfl, v', h1, h2, h3⟩
    obtain ⟨q1, q2, q3⟩ := unhide Hfin W1 v' K E' (.bool false) (.int .i64 (S : Nat)) (.string ⟨#[]⟩) h1 h2 h3
    have d0 := q3.cell 0 _ rfl
    have d1 := q3.cell 1 _ rfl
    have d2 := q3.cell 2 _ rfl
    have f0 := q3.frozen 0
    have f1 := q3.frozen 1
    have f2 := q3.frozen 2
    replace q1 := hide q1
    replace q2 := hide q2
    replace q3 := hide q3
    replace h3 := hide h3
    clear h1 h2 Hfin hw2 HC c0
    go_wp2
    refine bodyPost_ret (results_cell_row rfl _ _ (w.heap.size + 1) _ _ _ _ rfl (put3 (unhide q3) _ _ _) Try.underlying53 rfl sizeT) rfl ?_
    exact ⟨rfl, v', unhide q1, unhide q2, unhide h3⟩

theorem results_cc {P : Program} {fn : Func} {p1 p2 : Tmp} {ty1 ty2 : TypeId} (h : fn.results = #[.cell p1 ty1, .cell p2 ty2]) (tmps : Array Value) (w : World) (g1 g2 : Nat) (t1 t2 : TypeId) (cs1 cs2 : Array Value) (fr1 fr2 : Nat × Nat) (d1 d2 : TypeDesc)
    (hp1 : tmps.getD p1 undef = .pointer (some ⟨g1, 0, none⟩)) (hg1 : w.heap[g1]? = some (.cells cs1 t1 fr1)) (hu1 : P.underlying ty1 = some d1) (hd1 : (match d1 with | .struct _ | .array _ _ => true | _ => false) = true) (hi1 : (P.info? ty1).map (·.size) = some cs1.size)
    (hp2 : tmps.getD p2 undef = .pointer (some ⟨g2, 0, none⟩)) (hg2 : w.heap[g2]? = some (.cells cs2 t2 fr2)) (hu2 : P.underlying ty2 = some d2) (hd2 : (match d2 with | .struct _ | .array _ _ => true | _ => false) = true) (hi2 : (P.info? ty2).map (·.size) = some cs2.size) :
    (results fn tmps).run P w = .ok (.tuple #[.agg cs1, .agg cs2]) w := by
  have hp1' : tmps[p1]?.getD undef = .pointer (some ⟨g1, 0, none⟩) := by simpa using hp1
  have hp2' : tmps[p2]?.getD undef = .pointer (some ⟨g2, 0, none⟩) := by simpa using hp2
  simp [results, h, hp1', hp2', asAddr, run_loadVar_row w g1 t1 ty1 cs1 fr1 d1 hg1 hu1 hd1 hi1, run_loadVar_row w g2 t2 ty2 cs2 fr2 d2 hg2 hu2 hd2 hi2]

theorem put33 {W : World} {g k : Nat} {T U : TypeId} {u0 u1 u2 x0 x1 x2 : Value} (y : Bx W g T #[u0, u1, u2]) (z : Bx W k U #[x0, x1, x2]) (hne : g ≠ k) (v0 v1 v2 y0 y1 y2 : Value) :
    Bx ((((((W.setCell ⟨g, 0, none⟩ v0).setCell ⟨g, 1, none⟩ v1).setCell ⟨g, 2, none⟩ v2).setCell ⟨k, 0, none⟩ y0).setCell ⟨k, 1, none⟩ y1).setCell ⟨k, 2, none⟩ y2) g T #[v0, v1, v2] ∧
    Bx ((((((W.setCell ⟨g, 0, none⟩ v0).setCell ⟨g, 1, none⟩ v1).setCell ⟨g, 2, none⟩ v2).setCell ⟨k, 0, none⟩ y0).setCell ⟨k, 1, none⟩ y1).setCell ⟨k, 2, none⟩ y2) k U #[y0, y1, y2] := by
  have three : ∀ (X : World) (b : Nat) (a0 a1 a2 : Value), Kp (fun i => i = b) X (((X.setCell ⟨b, 0, none⟩ a0).setCell ⟨b, 1, none⟩ a1).setCell ⟨b, 2, none⟩ a2) := fun X b a0 a1 a2 =>
    ((Kp.set (N := fun i => i = b) _ _ _ rfl).trans (Kp.set (N := fun i => i = b) _ _ _ rfl) (fun i h => .inl h)).trans (Kp.set (N := fun i => i = b) _ _ _ rfl) (fun i h => .inl h)
  exact ⟨(put3 y v0 v1 v2).kp (three _ k y0 y1 y2) hne, put3 (z.kp (three W g v0 v1 v2) (fun e => hne e.symm)) y0 y1 y2⟩

set_option maxRecDepth 100000 in
set_option maxHeartbeats 4000000 in
theorem taken_in (a : Option Addr) (n c p : Nat) (e : Int) (l : List Nat) (w : World) (bt : Bool) (m : Int) (s : ByteArray) (h : RC w (.slice a n c) n (bC l)) (hl : l.length = n) (hp : p ≤ n) (hn : n ≤ 1000000) (hby : ∀ b ∈ l, b < 256) :
    Calls Try.prog 22 #[.agg #[.slice a n c, .int .i64 (p : Nat), .int .i64 e], .agg #[.bool bt, .int .i64 m, .string s]] w fun r W => r = .returned (.tuple #[.agg (itC (rItm (l.drop p) e bt).1), .agg #[.slice a n c, .int .i64 ((p + (rItm (l.drop p) e bt).2.1 : Nat) : Int), .int .i64 (rItm (l.drop p) e bt).2.2]]) ∧ Below w.heap.size w W := by
  obtain ⟨w4, hw4⟩ : ∃ X, (((w.alloc (.cells #[.slice a n c, .int .i64 (p : Nat), .int .i64 e] 49)).alloc (.cells #[.bool bt, .int .i64 m, .string s] 53)).alloc (.cells #[.bool false, .int .i64 0, .string ⟨#[]⟩] 53)).alloc (.cells #[.slice none 0 0, .int .i64 0, .int .i64 0] 49) = X := ⟨_, rfl⟩
  have b4 : Below w.heap.size w w4 := by rw [← hw4]; exact ballc (ballc (ballc (ballc (Below.refl _ _) _) _) _) _
  have x1 : Bx w4 w.heap.size 49 #[.slice a n c, .int .i64 (p : Nat), .int .i64 e] := by rw [← hw4]; exact (((Bx.new w _ _).below (ballc (Below.refl _ _) _)).below (ballc (Below.refl _ _) _)).below (ballc (Below.refl _ _) _)
  have x2 : Bx w4 (w.heap.size + 1) 53 #[.bool bt, .int .i64 m, .string s] := by
    rw [← hw4]; have q := ((Bx.new (w.alloc (.cells #[.slice a n c, .int .i64 (p : Nat), .int .i64 e] 49)) 53 #[.bool bt, .int .i64 m, .string s]).below (ballc (Below.refl _ _) (.cells #[.bool false, .int .i64 0, .string ⟨#[]⟩] 53))).below (ballc (Below.refl _ _) (.cells #[.slice none 0 0, .int .i64 0, .int .i64 0] 49)); simpa using q
  have x3 : Bx w4 (w.heap.size + 2) 53 #[.bool false, .int .i64 0, .string ⟨#[]⟩] := by
    rw [← hw4]; have q := (Bx.new ((w.alloc (.cells #[.slice a n c, .int .i64 (p : Nat), .int .i64 e] 49)).alloc (.cells #[.bool bt, .int .i64 m, .string s] 53)) 53 #[.bool false, .int .i64 0, .string ⟨#[]⟩]).below (ballc (Below.refl _ _) (.cells #[.slice none 0 0, .int .i64 0, .int .i64 0] 49)); simpa using q
  have x4 : Bx w4 (w.heap.size + 3) 49 #[.slice none 0 0, .int .i64 0, .int .i64 0] := by
    rw [← hw4]; have q := Bx.new (((w.alloc (.cells #[.slice a n c, .int .i64 (p : Nat), .int .i64 e] 49)).alloc (.cells #[.bool bt, .int .i64 m, .string s] 53)).alloc (.cells #[.bool false, .int .i64 0, .string ⟨#[]⟩] 53)) 49 #[.slice none 0 0, .int .i64 0, .int .i64 0]; simpa using q
  have c10 := x1.cell 0 _ rfl
  have c11 := x1.cell 1 _ rfl
  have c12 := x1.cell 2 _ rfl
  have c20 := x2.cell 0 _ rfl
  have HT := hide (refTakeText_in a n c p e l w4 (h.below b4) hl hp hn hby)
  have HN := hide (refTakeNumber_in a n c p e l w4 (h.below b4) hl hp hn hby)
  have X3 := hide x3
  have X4 := hide x4
  have B4 := hide b4
  obtain ⟨R, hR⟩ : ∃ R, rItm (l.drop p) e bt = R := ⟨_, rfl⟩
  rw [hR]
  cases bt with
  | true =>
    have e1 : rItm (l.drop p) e true = ((true, 0, (rTxt (l.drop p) e).1), rTxtW (l.drop p) e, (rTxt (l.drop p) e).2.2) := rfl
    rw [e1] at hR
    subst hR
    simp only [itC]
    generalize (rTxt (l.drop p) e).1 = S at HT ⊢
    generalize (rTxt (l.drop p) e).2.2 = E' at HT ⊢
    generalize p + rTxtW (l.drop p) e = K at HT ⊢
    clear e1 h hby hl x1 x2 x3 x4 b4 HN
    go_enter Try.func22, Try.ntmps22
    go_wp2_with fail
    refine (unhide HT).mono ?_
    rintro r W1 ⟨rfl, hb⟩
    have y3 := (unhide X3).below hb
    have y4 := (unhide X4).below hb
    have lt3 := y3.lt
    have lt4 := y4.lt
    have B1 := hide (bnext (unhide B4) hb)
    clear c10 c11 c12 c20 hw4 HT hb
    have d30 := y3.cell 0 _ rfl
    have d31 := y3.cell 1 _ rfl
    have d32 := y3.cell 2 _ rfl
    have d40 := y4.cell 0 _ rfl
    have d41 := y4.cell 1 _ rfl
    have d42 := y4.cell 2 _ rfl
    have f30 := y3.frozen 0
    have f31 := y3.frozen 1
    have f32 := y3.frozen 2
    have f40 := y4.frozen 0
    have f41 := y4.frozen 1
    have f42 := y4.frozen 2
    replace y3 := hide y3
    replace y4 := hide y4
    go_wp2
    go_region
    go_wp2
    obtain ⟨q1, q2⟩ := put33 (unhide y3) (unhide y4) (by omega) (.bool true) (.int .i64 0) (.string S) (.slice a n c) (.int .i64 (K : Nat)) (.int .i64 E')
    refine bodyPost_ret (results_cc rfl _ _ (w.heap.size + 1 + 1) (w.heap.size + 1 + 1 + 1) _ _ _ _ _ _ _ _ rfl (q1.below (ballc (Below.refl _ _) _).drew) Try.underlying53 rfl sizeT rfl (q2.below (ballc (Below.refl _ _) _).drew) Try.underlying49 rfl sizeR) rfl ?_
    exact ⟨rfl, (ballc (bput3 (bput3 (unhide B1) (by omega) _ _ _) (by omega) _ _ _) _).drew⟩
  | false =>
    have e1 : rItm (l.drop p) e false = ((false, ((rn0 (l.drop p) e).2.1 : Int), ByteArray.empty), (rn0 (l.drop p) e).2.2, (rn0 (l.drop p) e).1) := rfl
    rw [e1] at hR
    subst hR
    simp only [itC]
    generalize ((rn0 (l.drop p) e).2.1 : Nat) = S at HN ⊢
    generalize (rn0 (l.drop p) e).1 = E' at HN ⊢
    generalize p + (rn0 (l.drop p) e).2.2 = K at HN ⊢
    clear e1 h hby hl x1 x2 x3 x4 b4 HT
    go_enter Try.func22, Try.ntmps22
    go_wp2_with fail
    refine (unhide HN).mono ?_
    rintro r W1 ⟨rfl, hb⟩
    have y3 := (unhide X3).below hb
    have y4 := (unhide X4).below hb
    have lt3 := y3.lt
    have lt4 := y4.lt
    have B1 := hide (bnext (unhide B4) hb)
    clear c10 c11 c12 c20 hw4 HN hb
    have d30 := y3.cell 0 _ rfl
    have d31 := y3.cell 1 _ rfl
    have d32 := y3.cell 2 _ rfl
    have d40 := y4.cell 0 _ rfl
    have d41 := y4.cell 1 _ rfl
    have d42 := y4.cell 2 _ rfl
    have f30 := y3.frozen 0
    have f31 := y3.frozen 1
    have f32 := y3.frozen 2
    have f40 := y4.frozen 0
    have f41 := y4.frozen 1
    have f42 := y4.frozen 2
    replace y3 := hide y3
    replace y4 := hide y4
    go_wp2
    go_region
    go_wp2
    obtain ⟨q1, q2⟩ := put33 (unhide y3) (unhide y4) (by omega) (.bool false) (.int .i64 (S : Nat)) (.string ⟨#[]⟩) (.slice a n c) (.int .i64 (K : Nat)) (.int .i64 E')
    refine bodyPost_ret (results_cc rfl _ _ (w.heap.size + 1 + 1) (w.heap.size + 1 + 1 + 1) _ _ _ _ _ _ _ _ rfl (q1.below (ballc (Below.refl _ _) _).drew) Try.underlying53 rfl sizeT rfl (q2.below (ballc (Below.refl _ _) _).drew) Try.underlying49 rfl sizeR) rfl ?_
    exact ⟨rfl, (ballc (bput3 (bput3 (unhide B1) (by omega) _ _ _) (by omega) _ _ _) _).drew⟩

set_option maxRecDepth 100000 in
set_option maxHeartbeats 4000000 in
theorem tells_in {w : World} {p : Nat} {v : Value} {z : List Nat} {e : Int} (a : Option Addr) (n c at' : Nat) (h : Rd w p v (z.drop at') e) (hz : z.length = n) (hat : at' ≤ n) (hn : n ≤ 1000000) :
    Calls Try.prog 24 #[.pointer (some ⟨p, 0, none⟩), .agg #[.slice a n c, .int .i64 (at' : Nat), .int .i64 e]] w fun r W => r = .returned (.bool true) ∧ Below w.heap.size w W := by
  obtain ⟨w1, hw1⟩ : ∃ X, w.alloc (.cells #[.slice a n c, .int .i64 (at' : Nat), .int .i64 e] 49) = X := ⟨_, rfl⟩
  have b1 : Below w.heap.size w w1 := by rw [← hw1]; exact ballc (Below.refl _ _) _
  have HX : Hid (Bx w1 w.heap.size 49 #[.slice a n c, .int .i64 (at' : Nat), .int .i64 e]) := by rw [← hw1]; exact hide (Bx.new w _ _)
  have HR := hide (fun (W : World) (hb : Below w1.heap.size w1 W) => h.below (bnext b1 hb))
  have HL := hide (fun (W : World) (hb : Below w1.heap.size w1 W) => rLeft_in (unhide HR W hb))
  have HE := hide (fun (W : World) (hb : Below w1.heap.size w1 W) => rEnd_in (unhide HR W hb))
  have HL2 := hide (fun (W : World) => refLeft_in a n c at' e W hat (by omega))
  have HE2 := hide (fun (W : World) => refEnd_in a n c at' e z W hz hat (by omega))
  have eM : (z.drop at').length = n - at' := by rw [List.length_drop, hz]
  rw [eM] at HL
  generalize n - at' = M at HL HL2
  generalize rEnd (z.drop at') e = G at HE HE2
  have B1 := hide b1
  clear eM h b1 hz
  go_enter Try.func24, Try.ntmps24
  go_upto_region 1 with fail
  clear hw1
  refine wp_region_any (by kernel_rfl) ?_
  change wpAny _ _ _ _ _ _ _ (World.drew _)
  refine region_invG 24 (fun j => if j = 19 then 4 else 5 + j) ((0, (.pointer (some ⟨p, 0, none⟩))) :: (1, (.agg #[.slice a n c, .int .i64 (at' : Nat), .int .i64 e])) :: (2, undef) :: (3, (.pointer (some ⟨w.heap.size, 0, none⟩))) :: [])
    (fun W => Below w1.heap.size w1 W)
    (valsOf [isV (.pointer (some ⟨p, 0, none⟩)), isV (.int .i64 e), isV (.pointer (some ⟨w.heap.size, 2, none⟩)), isV (.int .i64 e), isV (.bool true), isV (.bool true), isV (.pointer (some ⟨p, 0, none⟩)), isV (.int .i64 (M : Nat)), isV (.agg #[.slice a n c, .int .i64 (at' : Nat), .int .i64 e]), isV (.int .i64 (M : Nat)), isV (.bool true), isV (.bool true), isV (.bool true), isV (.pointer (some ⟨p, 0, none⟩)), isV (.int .i64 G), isV (.agg #[.slice a n c, .int .i64 (at' : Nat), .int .i64 e]), isV (.int .i64 G), isV (.bool true), isV (.bool true), isV (.bool true)])
    (fun w w' => Below w.heap.size w w') ?fit (fun w1 w2 h hG => h.trans (hG.mono h.size)) (valsOf_stable ?stable) (fun _ => true) [(5, true), (12, true)] ?gs ?gv ?steps ?fin _ _ ?sz rfl ?base ?start
  case fit => kernel_rfl
  case sz => rfl
  case gs => kernel_rfl
  case gv => intro p hp w v hv; simp only [List.mem_cons, List.not_mem_nil, or_false] at hp; rcases hp with rfl | rfl <;> exact hv
  case base => intro p hp; repeat (first | (rcases List.mem_cons.1 hp with rfl | hp; · rfl) | cases hp)
  case stable => exact Stables.all (by repeat (first | exact .nil | refine .same ?_))
  case start => exact (Below.refl _ _).drew
  case steps =>
    refine .cons (fun ρ wz hρ hJ hb hd => by
      refine Eq.mpr (if_neg (by decide)) ?_
      have dd0 : ρ (.tmp 0) = (.pointer (some ⟨p, 0, none⟩)) := hb (0, _) (List.mem_of_getElem? (i := 0) rfl)
      exact step_move (.tmp 0) rfl ⟨Below.refl _ _, dd0⟩) ?_
    refine .cons (fun ρ wz hρ hJ hb hd => by
      refine Eq.mpr (if_neg (by decide)) ?_
      have dd0 : ρ (.tmp 5) = (.pointer (some ⟨p, 0, none⟩)) := hd 0 _ rfl rfl
      refine step_func 28 _ _ #[.pointer (some ⟨p, 0, none⟩)] hρ rfl (enters_of Try.func28 (by kernel_rfl) rfl) (by simp [dd0]) ?_
      refine (rErr_in (unhide HR wz hJ)).mono ?_
      rintro r W' ⟨rfl, rfl⟩
      exact ⟨_, rfl, Below.refl _ _, rfl⟩) ?_
    refine .cons (fun ρ wz hρ hJ hb hd => by
      refine Eq.mpr (if_neg (by decide)) ?_
      have dd0 : ρ (.tmp 3) = (.pointer (some ⟨w.heap.size, 0, none⟩)) := hb (3, _) (List.mem_of_getElem? (i := 3) rfl)
      exact step_val (v := (.pointer (some ⟨w.heap.size, 2, none⟩))) (w' := wz) (by simp [go_sem, execOp, dd0, hρ.const]) ⟨Below.refl _ _, rfl⟩) ?_
    refine .cons (fun ρ wz hρ hJ hb hd => by
      refine Eq.mpr (if_neg (by decide)) ?_
      have dd0 : ρ (.tmp 7) = (.pointer (some ⟨w.heap.size, 2, none⟩)) := hd 0 _ rfl rfl
      have q := (unhide HX).below hJ
      have z0 := q.cell 0 _ rfl
      have z1 := q.cell 1 _ rfl
      have z2 := q.cell 2 _ rfl
      exact step_val (v := (.int .i64 e)) (w' := wz) (by simp [go_sem, execOp, dd0, z0, z1, z2]) ⟨Below.refl _ _, rfl⟩) ?_
    refine .cons (fun ρ wz hρ hJ hb hd => by
      refine Eq.mpr (if_neg (by decide)) ?_
      have dd0 : ρ (.tmp 6) = (.int .i64 e) := hd 0 _ rfl rfl
      have dd1 : ρ (.tmp 8) = (.int .i64 e) := hd 1 _ rfl rfl
      exact step_val (v := (.bool true)) (w' := wz) (by simp [go_sem, execOp, dd0, dd1, hρ.const]) ⟨Below.refl _ _, rfl⟩) ?_
    refine .cons (fun ρ wz hρ hJ hb hd => by
      refine Eq.mpr (if_neg (by decide)) ?_
      have dd0 : ρ (.tmp 9) = (.bool true) := hd 0 _ rfl rfl
      exact step_move (.tmp 9) rfl ⟨Below.refl _ _, dd0⟩) ?_
    refine .cons (fun ρ wz hρ hJ hb hd => by
      refine Eq.mpr (if_neg (by decide)) ?_
      have dd0 : ρ (.tmp 0) = (.pointer (some ⟨p, 0, none⟩)) := hb (0, _) (List.mem_of_getElem? (i := 0) rfl)
      exact step_move (.tmp 0) rfl ⟨Below.refl _ _, dd0⟩) ?_
    refine .cons (fun ρ wz hρ hJ hb hd => by
      refine Eq.mpr (if_neg (by decide)) ?_
      have dd0 : ρ (.tmp 11) = (.pointer (some ⟨p, 0, none⟩)) := hd 0 _ rfl rfl
      refine step_func 27 _ _ #[.pointer (some ⟨p, 0, none⟩)] hρ rfl (enters_of Try.func27 (by kernel_rfl) rfl) (by simp [dd0]) ?_
      refine (unhide HL wz hJ).mono ?_
      rintro r W' ⟨rfl, rfl⟩
      exact ⟨_, rfl, Below.refl _ _, rfl⟩) ?_
    refine .cons (fun ρ wz hρ hJ hb hd => by
      refine Eq.mpr (if_neg (by decide)) ?_
      have dd0 : ρ (.tmp 3) = (.pointer (some ⟨w.heap.size, 0, none⟩)) := hb (3, _) (List.mem_of_getElem? (i := 3) rfl)
      have q := (unhide HX).below hJ
      have z0 := q.cell 0 _ rfl
      have z1 := q.cell 1 _ rfl
      have z2 := q.cell 2 _ rfl
      exact step_val (v := (.agg #[.slice a n c, .int .i64 (at' : Nat), .int .i64 e])) (w' := wz) (by simp [go_sem, execOp, dd0, z0, z1, z2]) ⟨Below.refl _ _, rfl⟩) ?_
    refine .cons (fun ρ wz hρ hJ hb hd => by
      refine Eq.mpr (if_neg (by decide)) ?_
      have dd0 : ρ (.tmp 13) = (.agg #[.slice a n c, .int .i64 (at' : Nat), .int .i64 e]) := hd 0 _ rfl rfl
      refine step_func 51 _ _ #[.agg #[.slice a n c, .int .i64 (at' : Nat), .int .i64 e]] hρ rfl (enters_of Try.func51 (by kernel_rfl) rfl) (by simp [dd0]) ?_
      refine (unhide HL2 wz).mono ?_
      rintro r W' ⟨rfl, hb2⟩
      exact ⟨_, rfl, hb2, rfl⟩) ?_
    refine .cons (fun ρ wz hρ hJ hb hd => by
      refine Eq.mpr (if_neg (by decide)) ?_
      have dd0 : ρ (.tmp 12) = (.int .i64 (M : Nat)) := hd 0 _ rfl rfl
      have dd1 : ρ (.tmp 14) = (.int .i64 (M : Nat)) := hd 1 _ rfl rfl
      exact step_val (v := (.bool true)) (w' := wz) (by simp [go_sem, execOp, dd0, dd1, hρ.const]) ⟨Below.refl _ _, rfl⟩) ?_
    refine .cons (fun ρ wz hρ hJ hb hd => by
      refine Eq.mpr (if_neg (by decide)) ?_
      have dd0 : ρ (.tmp 10) = (.bool true) := hd 0 _ rfl rfl
      have dd1 : ρ (.tmp 15) = (.bool true) := hd 1 _ rfl rfl
      exact step_val (v := (.bool true)) (w' := wz) (by simp [go_sem, execOp, dd0, dd1, hρ.const]) ⟨Below.refl _ _, rfl⟩) ?_
    refine .cons (fun ρ wz hρ hJ hb hd => by
      refine Eq.mpr (if_neg (by decide)) ?_
      have dd0 : ρ (.tmp 16) = (.bool true) := hd 0 _ rfl rfl
      exact step_move (.tmp 16) rfl ⟨Below.refl _ _, dd0⟩) ?_
    refine .cons (fun ρ wz hρ hJ hb hd => by
      refine Eq.mpr (if_neg (by decide)) ?_
      have dd0 : ρ (.tmp 0) = (.pointer (some ⟨p, 0, none⟩)) := hb (0, _) (List.mem_of_getElem? (i := 0) rfl)
      exact step_move (.tmp 0) rfl ⟨Below.refl _ _, dd0⟩) ?_
    refine .cons (fun ρ wz hρ hJ hb hd => by
      refine Eq.mpr (if_neg (by decide)) ?_
      have dd0 : ρ (.tmp 18) = (.pointer (some ⟨p, 0, none⟩)) := hd 0 _ rfl rfl
      refine step_func 29 _ _ #[.pointer (some ⟨p, 0, none⟩)] hρ rfl (enters_of Try.func29 (by kernel_rfl) rfl) (by simp [dd0]) ?_
      refine (unhide HE wz hJ).mono ?_
      rintro r W' ⟨rfl, rfl⟩
      exact ⟨_, rfl, Below.refl _ _, rfl⟩) ?_
    refine .cons (fun ρ wz hρ hJ hb hd => by
      refine Eq.mpr (if_neg (by decide)) ?_
      have dd0 : ρ (.tmp 3) = (.pointer (some ⟨w.heap.size, 0, none⟩)) := hb (3, _) (List.mem_of_getElem? (i := 3) rfl)
      have q := (unhide HX).below hJ
      have z0 := q.cell 0 _ rfl
      have z1 := q.cell 1 _ rfl
      have z2 := q.cell 2 _ rfl
      exact step_val (v := (.agg #[.slice a n c, .int .i64 (at' : Nat), .int .i64 e])) (w' := wz) (by simp [go_sem, execOp, dd0, z0, z1, z2]) ⟨Below.refl _ _, rfl⟩) ?_
    refine .cons (fun ρ wz hρ hJ hb hd => by
      refine Eq.mpr (if_neg (by decide)) ?_
      have dd0 : ρ (.tmp 20) = (.agg #[.slice a n c, .int .i64 (at' : Nat), .int .i64 e]) := hd 0 _ rfl rfl
      refine step_func 52 _ _ #[.agg #[.slice a n c, .int .i64 (at' : Nat), .int .i64 e]] hρ rfl (enters_of Try.func52 (by kernel_rfl) rfl) (by simp [dd0]) ?_
      refine (unhide HE2 wz).mono ?_
      rintro r W' ⟨rfl, hb2⟩
      exact ⟨_, rfl, hb2, rfl⟩) ?_
    refine .cons (fun ρ wz hρ hJ hb hd => by
      refine Eq.mpr (if_neg (by decide)) ?_
      have dd0 : ρ (.tmp 19) = (.int .i64 G) := hd 0 _ rfl rfl
      have dd1 : ρ (.tmp 21) = (.int .i64 G) := hd 1 _ rfl rfl
      exact step_val (v := (.bool true)) (w' := wz) (by simp [go_sem, execOp, dd0, dd1, hρ.const]) ⟨Below.refl _ _, rfl⟩) ?_
    refine .cons (fun ρ wz hρ hJ hb hd => by
      refine Eq.mpr (if_neg (by decide)) ?_
      have dd0 : ρ (.tmp 17) = (.bool true) := hd 0 _ rfl rfl
      have dd1 : ρ (.tmp 22) = (.bool true) := hd 1 _ rfl rfl
      exact step_val (v := (.bool true)) (w' := wz) (by simp [go_sem, execOp, dd0, dd1, hρ.const]) ⟨Below.refl _ _, rfl⟩) ?_
    refine .cons (fun ρ wz hρ hJ hb hd => by
      refine Eq.mpr (if_neg (by decide)) ?_
      have dd0 : ρ (.tmp 23) = (.bool true) := hd 0 _ rfl rfl
      exact step_assign (.tmp 23) rfl ⟨Below.refl _ _, dd0⟩) (.nil _)
  case fin =>
    intro aQ WQ hsz2 hds hb hJ hv
    obtain rfl := frame_of (((0, (.pointer (some ⟨p, 0, none⟩))) :: (1, (.agg #[.slice a n c, .int .i64 (at' : Nat), .int .i64 e])) :: (2, undef) :: (3, (.pointer (some ⟨w.heap.size, 0, none⟩))) :: []) ++ ((5, (.pointer (some ⟨p, 0, none⟩))) :: (6, (.int .i64 e)) :: (7, (.pointer (some ⟨w.heap.size, 2, none⟩))) :: (8, (.int .i64 e)) :: (9, (.bool true)) :: (10, (.bool true)) :: (11, (.pointer (some ⟨p, 0, none⟩))) :: (12, (.int .i64 (M : Nat))) :: (13, (.agg #[.slice a n c, .int .i64 (at' : Nat), .int .i64 e])) :: (14, (.int .i64 (M : Nat))) :: (15, (.bool true)) :: (16, (.bool true)) :: (17, (.bool true)) :: (18, (.pointer (some ⟨p, 0, none⟩))) :: (19, (.int .i64 G)) :: (20, (.agg #[.slice a n c, .int .i64 (at' : Nat), .int .i64 e])) :: (21, (.int .i64 G)) :: (22, (.bool true)) :: (23, (.bool true)) :: (4, (.bool true)) :: [])) ((.pointer (some ⟨p, 0, none⟩)) :: (.agg #[.slice a n c, .int .i64 (at' : Nat), .int .i64 e]) :: undef :: (.pointer (some ⟨w.heap.size, 0, none⟩)) :: (.bool true) :: (.pointer (some ⟨p, 0, none⟩)) :: (.int .i64 e) :: (.pointer (some ⟨w.heap.size, 2, none⟩)) :: (.int .i64 e) :: (.bool true) :: (.bool true) :: (.pointer (some ⟨p, 0, none⟩)) :: (.int .i64 (M : Nat)) :: (.agg #[.slice a n c, .int .i64 (at' : Nat), .int .i64 e]) :: (.int .i64 (M : Nat)) :: (.bool true) :: (.bool true) :: (.bool true) :: (.pointer (some ⟨p, 0, none⟩)) :: (.int .i64 G) :: (.agg #[.slice a n c, .int .i64 (at' : Nat), .int .i64 e]) :: (.int .i64 G) :: (.bool true) :: (.bool true) :: []) hsz2 hds (fun p hp => by
      rcases List.mem_append.1 hp with h | h
      · exact hb p h
      · simp only [List.mem_cons, List.not_mem_nil, or_false] at h
        rcases h with rfl | rfl | rfl | rfl | rfl | rfl | rfl | rfl | rfl | rfl | rfl | rfl | rfl | rfl | rfl | rfl | rfl | rfl | rfl | rfl
        · exact hv 0 (by decide)
        · exact hv 1 (by decide)
        · exact hv 2 (by decide)
        · exact hv 3 (by decide)
        · exact hv 4 (by decide)
        · exact hv 5 (by decide)
        · exact hv 6 (by decide)
        · exact hv 7 (by decide)
        · exact hv 8 (by decide)
        · exact hv 9 (by decide)
        · exact hv 10 (by decide)
        · exact hv 11 (by decide)
        · exact hv 12 (by decide)
        · exact hv 13 (by decide)
        · exact hv 14 (by decide)
        · exact hv 15 (by decide)
        · exact hv 16 (by decide)
        · exact hv 17 (by decide)
        · exact hv 18 (by decide)
        · exact hv 19 (by decide)) rfl
    clear hb hds hsz2 hv
    go_wp2
    go_ret
    exact ⟨rfl, bnext (unhide B1) hJ⟩

end Go.Proofs.Ytgoalmkjmjikmaa
