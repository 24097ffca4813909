/-
  StampEachs: the iterator gone through, within itself, and to a stop.
-/
import Derived.Test.YtccggjhnjknblaaZEA
set_option linter.unusedSimpArgs false
set_option linter.unusedVariables false
namespace Go.Proofs.Ytccggjhnjknblaa
open Go.RowKit Go.Lib

/-- what lies ahead of the closures -/
structure EnvS (l : List ((Int × Int) × Int)) (stop : Int) (S Bw Bo I : Nat) (uw u : Value) (W : World) : Prop where
  st : Bx W S 3 #[.int .i64 stop]
  wa : Bx W Bw 24 #[uw]
  ow : Bx W Bo 22 #[u]
  it : Bx W I 27 #[.func (.func 29) #[] #[.pointer (some ⟨Bo, 0, none⟩)]]
  rw_ : RI W uw (wantR l)
  ro : RR W u (ownR l)
theorem EnvS.below {l : List ((Int × Int) × Int)} {stop : Int} {S Bw Bo I : Nat} {uw u : Value} {W W' : World} (h : EnvS l stop S Bw Bo I uw u W) (hb : Below W.heap.size W W') : EnvS l stop S Bw Bo I uw u W' :=
  ⟨h.st.below hb, h.wa.below hb, h.ow.below hb, h.it.below hb, h.rw_.below hb, h.ro.below hb⟩
theorem EnvS.own {l : List ((Int × Int) × Int)} {stop : Int} {S Bw Bo I : Nat} {uw u : Value} {W : World} (h : EnvS l stop S Bw Bo I uw u W) (h0 : 0 < (ownR l).length) : ∀ i, u.ownBlock = some i → i < W.heap.size := fun i hi => by
  rcases h.ro with ⟨h1, _⟩ | ⟨b, off, cap, e, _, hl, _⟩
  · omega
  · rw [e] at hi
    simp [Value.ownBlock] at hi
    omega

/-- within itself: how far the inner one has come -/
def JI (Wn : World) (q : List (Int × Int)) (X : World) : Prop := (Below Wn.heap.size Wn X ∧ Bx X Wn.heap.size 3 #[.int .i64 (q.length : Nat)]) ∧ q.length < 3000
def JIx (Wn : World) (stop : Int) (q : List (Int × Int)) (X : World) : Prop := (Below Wn.heap.size Wn X ∧ Bx X Wn.heap.size 3 #[.int .i64 (q.length : Nat)]) ∧ q.length ≤ 3000 ∧ ((q.length : Int) = stop ∨ q.length = 3000)

/-- the one that is told to stop: its count -/
structure CntS (l : List ((Int × Int) × Int)) (stop : Int) (Wn W' : World) (k : Nat) : Prop where
  le : k ≤ 3000
  is : k = (wantR l).length ∨ (k : Int) = stop
  bx : Bx W' Wn.heap.size 3 #[.int .i64 (k : Nat)]
  be : Below Wn.heap.size Wn W'

theorem cnt_of {l : List ((Int × Int) × Int)} {stop : Int} {Wn W' : World} (h : JI Wn (idsR (ownR l)) W' ∨ ∃ pre rest, pre ++ rest = idsR (ownR l) ∧ JIx Wn stop pre W') : ∃ k, CntS l stop Wn W' k := by
  rcases h with ⟨⟨hb, hx⟩, hl⟩ | ⟨pre, rest, hp, ⟨hb, hx⟩, h3, hs⟩
  · exact ⟨_, by omega, .inl (wantR_all hl).symm, hx, hb⟩
  · rcases hs with hs | hs
    · exact ⟨_, h3, .inr hs, hx, hb⟩
    · exact ⟨_, by omega, .inl ((wantR_full hp hs).trans hs.symm).symm, hx, hb⟩

theorem JI.below {Wn : World} {pre : List (Int × Int)} {W1 W2 : World} (h : JI Wn pre W1) (hb : Below W1.heap.size W1 W2) : JI Wn pre W2 := ⟨⟨bnext h.1.1 hb, h.1.2.below hb⟩, h.2⟩

/-- what the closures say, as what the iterator goes on by -/
theorem goes_on {stop : Int} {q : List (Int × Int)} {x : Int × Int} {Wn X X' : World} {e : Ending} (hr : Ret q.length stop e) (hbX : Below Wn.heap.size Wn X) (hx : Bx X' Wn.heap.size 3 #[.int .i64 ((q.length + 1 : Nat) : Int)]) (hk : Kp (fun k => k = Wn.heap.size) X X') (hlt : q.length < 3000) :
    ∃ b, e = .returned (.bool b) ∧ Kp (fun k => k = Wn.heap.size) X X' ∧ if b then JI Wn (q ++ [x]) X' else JIx Wn stop (q ++ [x]) X' := by
  obtain ⟨b, rfl, h1, h2⟩ := hr
  have hb' : Below Wn.heap.size Wn X' := hk.below hbX (fun i e => by omega)
  refine ⟨b, rfl, hk, ?_⟩
  have hx' : Bx X' Wn.heap.size 3 #[.int .i64 ((q ++ [x]).length : Nat)] := by rw [List.length_append]; exact hx
  cases b with
  | true => exact ⟨⟨hb', hx'⟩, by have := h1 rfl; simp; omega⟩
  | false => exact ⟨⟨hb', hx'⟩, by simp; omega, by have := h2 rfl; simp; omega⟩

theorem inner_in (l : List ((Int × Int) × Int)) (hl : (ownR l).length ≤ 1000000) (stop : Int) (S Bw Bo I : Nat) (uw u : Value) (O : Nat) (Wn : World) (hE : EnvS l stop S Bw Bo I uw u Wn) (hO : Bx Wn O 4 #[.bool true]) :
    Calls Try.prog 29 #[.func (.func 9) #[] #[.pointer (some ⟨O, 0, none⟩), .pointer (some ⟨Wn.heap.size, 0, none⟩), .pointer (some ⟨Bw, 0, none⟩), .pointer (some ⟨S, 0, none⟩)], .pointer (some ⟨Bo, 0, none⟩)] (Wn.alloc (.cells #[.int .i64 0] 3)) fun e W' =>
      e = .returned (.tuple #[]) ∧ ∃ k, CntS l stop Wn W' k := by
  obtain ⟨a, cap, rfl⟩ := RC.form hE.rw_
  have hal : Below Wn.heap.size Wn (Wn.alloc (.cells #[.int .i64 0] 3)) := ballc (Below.refl _ _) _
  have hOl := hO.lt
  have hSl := hE.st.lt
  refine (each_clo 9 #[.pointer (some ⟨O, 0, none⟩), .pointer (some ⟨Wn.heap.size, 0, none⟩), .pointer (some ⟨Bw, 0, none⟩), .pointer (some ⟨S, 0, none⟩)] Bo u (ownR l) (fun k => k = Wn.heap.size) (JI Wn) (JIx Wn stop) _ (enters_of Try.func9 (by kernel_rfl) rfl) hl (ownR_all l) (fun pre W1 W2 h hb => h.below hb) (hE.ow.below hal) (hE.ro.below hal) (fun h0 i hi e => by have := hE.own h0 i hi; omega) (fun i e => by simp; omega) ?_ ⟨⟨hal, Bx.new _ _ _⟩, by simp⟩).mono ?_
  · rintro q ⟨x1, x2⟩ rest X hq ⟨⟨hbX, hkX⟩, hlt⟩ hsz
    have hEX := hE.below hbX
    have hat := wantR_at hq hlt
    obtain ⟨g, off, rfl, hg, c0, c1⟩ := RI.at hEX.rw_ hat
    refine (each11_in x1 x2 O Wn.heap.size Bw S g off cap (wantR l).length q.length stop X (hO.below hbX) hkX hEX.wa hEX.st c0 c1 (List.getElem?_eq_some_iff.1 hat).1 hlt (by omega) (by omega)).mono ?_
    rintro e X' ⟨hr, hx, hk⟩
    exact goes_on hr hbX hx hk hlt
  · rintro e W' ⟨rfl, h⟩
    exact ⟨rfl, cnt_of h⟩

theorem last_in (l : List ((Int × Int) × Int)) (hl : (ownR l).length ≤ 1000000) (stop : Int) (S Bw Bo I : Nat) (uw u : Value) (Wn : World) (hE : EnvS l stop S Bw Bo I uw u Wn) :
    Calls Try.prog 29 #[.func (.func 10) #[] #[.pointer (some ⟨Wn.heap.size, 0, none⟩), .pointer (some ⟨S, 0, none⟩)], .pointer (some ⟨Bo, 0, none⟩)] (Wn.alloc (.cells #[.int .i64 0] 3)) fun e W' =>
      e = .returned (.tuple #[]) ∧ ∃ k, CntS l stop Wn W' k := by
  have hal : Below Wn.heap.size Wn (Wn.alloc (.cells #[.int .i64 0] 3)) := ballc (Below.refl _ _) _
  have hSl := hE.st.lt
  refine (each_clo 10 #[.pointer (some ⟨Wn.heap.size, 0, none⟩), .pointer (some ⟨S, 0, none⟩)] Bo u (ownR l) (fun k => k = Wn.heap.size) (JI Wn) (JIx Wn stop) _ (enters_of Try.func10 (by kernel_rfl) rfl) hl (ownR_all l) (fun pre W1 W2 h hb => h.below hb) (hE.ow.below hal) (hE.ro.below hal) (fun h0 i hi e => by have := hE.own h0 i hi; omega) (fun i e => by simp; omega) ?_ ⟨⟨hal, Bx.new _ _ _⟩, by simp⟩).mono ?_
  · rintro q ⟨x1, x2⟩ rest X hq ⟨⟨hbX, hkX⟩, hlt⟩ hsz
    have hEX := hE.below hbX
    refine (each2_in x1 x2 Wn.heap.size S q.length stop X hkX hEX.st (by omega) hlt).mono ?_
    rintro e X' ⟨hr, hx, hk⟩
    exact goes_on hr hbX hx hk hlt
  · rintro e W' ⟨rfl, h⟩
    exact ⟨rfl, cnt_of h⟩

/-- the outer one -/
def JA (W0 : World) (pre : List (Int × Int)) (W : World) : Prop := (Below W0.heap.size W0 W ∧ Bx W W0.heap.size 3 #[.int .i64 (pre.length : Nat)] ∧ Bx W (W0.heap.size + 1) 4 #[.bool true]) ∧ pre.length < 3000
def JAx (W0 : World) (pre : List (Int × Int)) (W : World) : Prop := (Below W0.heap.size W0 W ∧ Bx W W0.heap.size 3 #[.int .i64 (pre.length : Nat)] ∧ Bx W (W0.heap.size + 1) 4 #[.bool true]) ∧ pre.length = 3000
theorem JA.below {W0 : World} {pre : List (Int × Int)} {W1 W2 : World} (h : JA W0 pre W1) (hb : Below W1.heap.size W1 W2) : JA W0 pre W2 := ⟨⟨bnext h.1.1 hb, h.1.2.1.below hb, h.1.2.2.below hb⟩, h.2⟩
def NA (W0 : World) (k : Nat) : Prop := k = W0.heap.size ∨ k = W0.heap.size + 1
def OutA (W0 : World) (pre : List (Int × Int)) (x : Int × Int) (W : World) (e : Ending) (W' : World) : Prop := ∃ b, e = .returned (.bool b) ∧ Kp (NA W0) W W' ∧ if b then JA W0 (pre ++ [x]) W' else JAx W0 (pre ++ [x]) W'
theorem OutA.mk {W0 : World} {pre : List (Int × Int)} {x : Int × Int} {W W' : World} {b : Bool} {n : Nat} (hb : b = decide ((n : Int) + 1 < 3000)) (hn : pre.length = n) (hlt : n < 3000) (hB : Below W0.heap.size W0 W') (hN : Bx W' W0.heap.size 3 #[.int .i64 ((n : Int) + 1)]) (hO : Bx W' (W0.heap.size + 1) 4 #[.bool true]) (hk : Kp (NA W0) W W') : OutA W0 pre x W (.returned (.bool b)) W' := by
  have hN' : Bx W' W0.heap.size 3 #[.int .i64 ((pre ++ [x]).length : Nat)] := by
    rw [List.length_append, hn]; exact hN
  refine ⟨b, rfl, hk, ?_⟩
  by_cases h : (n : Int) + 1 < 3000
  · rw [decide_eq_true h] at hb
    subst hb
    exact ⟨⟨hB, hN', hO⟩, by simp; omega⟩
  · rw [decide_eq_false h] at hb
    subst hb
    exact ⟨⟨hB, hN', hO⟩, by simp; omega⟩

set_option maxRecDepth 100000 in
set_option maxHeartbeats 4000000 in
/-- not at the second one -/
theorem one_other (l : List ((Int × Int) × Int)) (stop : Int) (S Bw Bo I : Nat) (uw u : Value) (W0 : World) (hE : EnvS l stop S Bw Bo I uw u W0) (pre : List (Int × Int)) (x1 x2 : Int) (rest : List (Int × Int)) (W : World) (hpre : pre ++ (x1, x2) :: rest = idsR (ownR l)) (hj : JA W0 pre W) (h1 : ¬ pre.length = 1) :
    Calls Try.prog 8 #[.agg #[.int .i64 x1, .int .i64 x2], .pointer (some ⟨W0.heap.size + 1, 0, none⟩), .pointer (some ⟨W0.heap.size, 0, none⟩), .pointer (some ⟨Bw, 0, none⟩), .pointer (some ⟨I, 0, none⟩), .pointer (some ⟨S, 0, none⟩)] W fun e W' => OutA W0 pre (x1, x2) W e W' := by
  obtain ⟨⟨hB, hN, hO⟩, hlt⟩ := hj
  have hEW := hE.below hB
  obtain ⟨a, cap, rfl⟩ := RC.form hE.rw_
  have hat := wantR_at hpre hlt
  obtain ⟨g, off, rfl, hg, hc0, hc1⟩ := RI.at hEW.rw_ hat
  have hnL := (List.getElem?_eq_some_iff.1 hat).1
  obtain ⟨L, hL⟩ : ∃ L, (wantR l).length = L := ⟨_, rfl⟩
  obtain ⟨n, hn⟩ : ∃ n, pre.length = n := ⟨_, rfl⟩
  have hwa := hEW.wa
  rw [hL] at hnL hwa
  rw [hn] at hN hc0 hc1 hlt hnL h1
  have Hn := hide hn
  obtain ⟨X, hX⟩ : ∃ X, W.alloc (.cells #[.int .i64 x1, .int .i64 x2] 30) = X := ⟨_, rfl⟩
  have bX : Below W.heap.size W X := by rw [← hX]; exact ballc (Below.refl _ _) _
  have i0 : Bx X W.heap.size 30 #[.int .i64 x1, .int .i64 x2] := by rw [← hX]; exact Bx.new W _ _
  have q0 := i0.cell 0 _ rfl
  have q1 := i0.cell 1 _ rfl
  have o0 := hO.below bX
  have k0 := hN.below bX
  have b0 := hwa.below bX
  have p0 := cell_below hc0 bX
  have p1 := cell_below hc1 bX
  have c1 := o0.cell 0 _ rfl
  have f1 := o0.frozen 0
  have c2 := k0.cell 0 _ rfl
  have f2 := k0.frozen 0
  have c3 := b0.cell 0 _ rfl
  have sO := o0.same 0 (.bool true) rfl
  have n1 : Bx (X.setCell ⟨W0.heap.size, 0, none⟩ (.int .i64 ((n : Int) + 1))) W0.heap.size 3 #[.int .i64 ((n : Int) + 1)] := k0.set 0 _
  have o1 := o0.setO ⟨W0.heap.size, 0, none⟩ (by simp) (.int .i64 ((n : Int) + 1))
  have d2 := n1.cell 0 _ rfl
  have d4 := o1.cell 0 _ rfl
  have hk : Kp (NA W0) W (X.setCell ⟨W0.heap.size, 0, none⟩ (.int .i64 ((n : Int) + 1))) := (Kp.of_below (N := NA W0) bX).trans (Kp.set (N := NA W0) X ⟨W0.heap.size, 0, none⟩ _ (.inl rfl)) (fun i h => .inl h)
  have hk' : Kp (NA W0) W (X.setCell ⟨W0.heap.size, 0, none⟩ (.int .i64 ((n : Int) + 1))).drew := ⟨hk.os, hk.tape, hk.output, hk.size, hk.block⟩
  have hB' : Below W0.heap.size W0 (X.setCell ⟨W0.heap.size, 0, none⟩ (.int .i64 ((n : Int) + 1))).drew := hk'.below hB (fun i e => by unfold NA at e; omega)
  have n1' : Bx (X.setCell ⟨W0.heap.size, 0, none⟩ (.int .i64 ((n : Int) + 1))).drew W0.heap.size 3 #[.int .i64 ((n : Int) + 1)] := n1
  have o1' : Bx (X.setCell ⟨W0.heap.size, 0, none⟩ (.int .i64 ((n : Int) + 1))).drew (W0.heap.size + 1) 4 #[.bool true] := o1
  have i1 : (n : Int) < (L : Int) := by omega
  have i2 : ¬ (n : Int) + 1 = 2 := by omega
  have i3 : ¬ (n : Int) = 1 := by omega
  have heq : ∀ w, (binOp .eql 30 (.agg #[.int .i64 x1, .int .i64 x2]) (.agg #[.int .i64 x1, .int .i64 x2])).run Try.prog w = .ok (.bool true) w := fun w => by rw [eqI]; simp
  have HF := hide (fun b hb => OutA.mk (x := (x1, x2)) (b := b) hb (unhide Hn) hlt hB' n1' o1' hk')
  clear hO hN hc0 hc1 o0 k0 b0 i0 bX hk hk' n1 n1' o1 o1' hEW hE hB hB' hn hat hL hwa hpre
  go_enter Try.func8, Try.ntmps8
  go_wp2_with fail
  go_region
  all_goals
    go_wp2
    go_ret
    exact unhide HF _ (by simp)

set_option maxRecDepth 100000 in
set_option maxHeartbeats 4000000 in
/-- at the second one -/
theorem one_two (l : List ((Int × Int) × Int)) (hl : (ownR l).length ≤ 1000000) (stop : Int) (S Bw Bo I : Nat) (uw u : Value) (W0 : World) (hE : EnvS l stop S Bw Bo I uw u W0) (pre : List (Int × Int)) (x1 x2 : Int) (rest : List (Int × Int)) (W : World) (hpre : pre ++ (x1, x2) :: rest = idsR (ownR l)) (hj : JA W0 pre W) (h1 : pre.length = 1) :
    Calls Try.prog 8 #[.agg #[.int .i64 x1, .int .i64 x2], .pointer (some ⟨W0.heap.size + 1, 0, none⟩), .pointer (some ⟨W0.heap.size, 0, none⟩), .pointer (some ⟨Bw, 0, none⟩), .pointer (some ⟨I, 0, none⟩), .pointer (some ⟨S, 0, none⟩)] W fun e W' => OutA W0 pre (x1, x2) W e W' := by
  obtain ⟨⟨hB, hN, hO⟩, hlt⟩ := hj
  have hEW := hE.below hB
  obtain ⟨a, cap, rfl⟩ := RC.form hE.rw_
  have hat := wantR_at hpre hlt
  obtain ⟨g, off, rfl, hg, hc0, hc1⟩ := RI.at hEW.rw_ hat
  have hnL := (List.getElem?_eq_some_iff.1 hat).1
  obtain ⟨L, hL⟩ : ∃ L, (wantR l).length = L := ⟨_, rfl⟩
  have hwa := hEW.wa
  rw [hL] at hnL hwa
  rw [h1] at hN hc0 hc1 hlt hnL
  simp only [Nat.one_mul] at hc0 hc1
  have hN1 : Bx W W0.heap.size 3 #[.int .i64 1] := hN
  obtain ⟨X, hX⟩ : ∃ X, W.alloc (.cells #[.int .i64 x1, .int .i64 x2] 30) = X := ⟨_, rfl⟩
  have bX : Below W.heap.size W X := by rw [← hX]; exact ballc (Below.refl _ _) _
  have i0 : Bx X W.heap.size 30 #[.int .i64 x1, .int .i64 x2] := by rw [← hX]; exact Bx.new W _ _
  have q0 := i0.cell 0 _ rfl
  have q1 := i0.cell 1 _ rfl
  have o0 := hO.below bX
  have k0 := hN1.below bX
  have b0 := hwa.below bX
  have p0 := cell_below hc0 bX
  have p1 := cell_below hc1 bX
  have c1 := o0.cell 0 _ rfl
  have f1 := o0.frozen 0
  have c2 := k0.cell 0 _ rfl
  have f2 := k0.frozen 0
  have c3 := b0.cell 0 _ rfl
  have sO := o0.same 0 (.bool true) rfl
  obtain ⟨Y, hY⟩ : ∃ Y, X.setCell ⟨W0.heap.size, 0, none⟩ (.int .i64 2) = Y := ⟨_, rfl⟩
  have n1 : Bx Y W0.heap.size 3 #[.int .i64 2] := by rw [← hY]; exact k0.set 0 _
  have o1 : Bx Y (W0.heap.size + 1) 4 #[.bool true] := by rw [← hY]; exact o0.setO ⟨W0.heap.size, 0, none⟩ (by simp) (.int .i64 2)
  have d2 := n1.cell 0 _ rfl
  have d4 := o1.cell 0 _ rfl
  have hk : Kp (NA W0) W Y := by rw [← hY]; exact (Kp.of_below (N := NA W0) bX).trans (Kp.set (N := NA W0) X ⟨W0.heap.size, 0, none⟩ _ (.inl rfl)) (fun i h => .inl h)
  have hk' : Kp (NA W0) W Y.drew := ⟨hk.os, hk.tape, hk.output, hk.size, hk.block⟩
  have hB' : Below W0.heap.size W0 Y.drew := hk'.below hB (fun i e => by unfold NA at e; omega)
  have hEY := hE.below hB'
  have d5 := (hEY.it.below (ballc (Below.refl _ _) (.cells #[.int .i64 0] 3))).cell 0 _ rfl
  have d5' : (Y.alloc (.cells #[.int .i64 0] 3)).cell? ⟨I, 0, none⟩ = some (.func (.func 29) #[] #[.pointer (some ⟨Bo, 0, none⟩)]) := d5
  have i1 : (1 : Int) < (L : Int) := by omega
  have heq : ∀ w, (binOp .eql 30 (.agg #[.int .i64 x1, .int .i64 x2]) (.agg #[.int .i64 x1, .int .i64 x2])).run Try.prog w = .ok (.bool true) w := fun w => by rw [eqI]; simp
  have hin : Calls Try.prog 29 #[.func (.func 9) #[] #[.pointer (some ⟨W0.heap.size + 1, 0, none⟩), .pointer (some ⟨Y.heap.size, 0, none⟩), .pointer (some ⟨Bw, 0, none⟩), .pointer (some ⟨S, 0, none⟩)], .pointer (some ⟨Bo, 0, none⟩)] (Y.alloc (.cells #[.int .i64 0] 3)).drew fun e W' => e = .returned (.tuple #[]) ∧ ∃ k, CntS l stop Y.drew W' k := inner_in l hl stop S Bw Bo I _ u (W0.heap.size + 1) Y.drew hEY o1
  have Hin := hide hin
  have HK := hide hk'
  have HE := hide hE
  have HB' := hide hB'
  have HN1 := hide n1
  have HO1 := hide o1
  have HL := hide hL
  clear hO hN hN1 hc0 hc1 o0 k0 b0 i0 bX hk hk' n1 o1 hEW hE hB hB' hat hL hwa hpre hEY hin d5
  go_enter Try.func8, Try.ntmps8
  go_wp2_with fail
  go_region
  all_goals
    go_wp2_with fail
    refine (unhide Hin).mono ?_
    rintro e W6 ⟨rfl, k, hcn⟩
    have b6 := hcn.be
    have r1 : Bx W6 W0.heap.size 3 #[.int .i64 2] := Bx.below (W := Y.drew) (unhide HN1) b6
    have r2 : Bx W6 (W0.heap.size + 1) 4 #[.bool true] := Bx.below (W := Y.drew) (unhide HO1) b6
    have hB6 := bnext (unhide HB') b6
    have hE6 := (unhide HE).below hB6
    have hk6 : Kp (NA W0) W W6 := (unhide HK).trans (Kp.of_below (N := NA W0) b6) (fun i h => .inl h)
    have hwa6 := hE6.wa
    rw [unhide HL] at hwa6
    have c7 := r2.cell 0 _ rfl
    have f7 := r2.frozen 0
    have s7 := r2.same 0 (.bool true) rfl
    have c8 : W6.cell? ⟨Y.heap.size, 0, none⟩ = some (.int .i64 (k : Nat)) := hcn.bx.cell 0 _ rfl
    have c9 := hwa6.cell 0 _ rfl
    have c10 := hE6.st.cell 0 _ rfl
    have c11 := r1.cell 0 _ rfl
    have HF := hide (OutA.mk (W0 := W0) (pre := pre) (x := (x1, x2)) (W := W) (W' := W6) (b := true) (n := 1) (by simp) h1 (by omega) hB6 r1 r2 hk6)
    have his := hcn.is
    rw [unhide HL] at his
    have hle := hcn.le
    clear hcn b6 r1 r2 hB6 hE6 hk6 hwa6 c1 f1 c2 f2 c3 sO d2 d4 d5' q0 q1 p0 p1
    by_cases hkl : k = L
    · subst hkl
      clear his
      go_wp2
      go_ret
      exact unhide HF
    · have hks : (k : Int) = stop := his.resolve_left hkl
      subst hks
      have j1 : ¬ (k : Int) = (L : Int) := by omega
      clear his
      go_wp2
      go_ret
      exact unhide HF

theorem outer_in (l : List ((Int × Int) × Int)) (hl : (ownR l).length ≤ 1000000) (stop : Int) (S Bw Bo I : Nat) (uw u : Value) (W0 : World) (hE : EnvS l stop S Bw Bo I uw u W0) :
    Calls Try.prog 29 #[.func (.func 8) #[] #[.pointer (some ⟨W0.heap.size + 1, 0, none⟩), .pointer (some ⟨W0.heap.size, 0, none⟩), .pointer (some ⟨Bw, 0, none⟩), .pointer (some ⟨I, 0, none⟩), .pointer (some ⟨S, 0, none⟩)], .pointer (some ⟨Bo, 0, none⟩)] ((W0.alloc (.cells #[.int .i64 0] 3)).alloc (.cells #[.bool true] 4)) fun e W' =>
      e = .returned (.tuple #[]) ∧ Below W0.heap.size W0 W' ∧ Bx W' W0.heap.size 3 #[.int .i64 ((wantR l).length : Nat)] ∧ Bx W' (W0.heap.size + 1) 4 #[.bool true] := by
  have hal : Below W0.heap.size W0 ((W0.alloc (.cells #[.int .i64 0] 3)).alloc (.cells #[.bool true] 4)) := ballc (ballc (Below.refl _ _) _) _
  have hx := (Bx.new W0 3 #[.int .i64 0]).below (ballc (Below.refl _ _) (.cells #[.bool true] 4))
  have ho := Bx.new (W0.alloc (.cells #[.int .i64 0] 3)) 4 #[.bool true]
  rw [show (W0.alloc (.cells #[.int .i64 0] 3)).heap.size = W0.heap.size + 1 by simp] at ho
  refine (each_clo 8 #[.pointer (some ⟨W0.heap.size + 1, 0, none⟩), .pointer (some ⟨W0.heap.size, 0, none⟩), .pointer (some ⟨Bw, 0, none⟩), .pointer (some ⟨I, 0, none⟩), .pointer (some ⟨S, 0, none⟩)] Bo u (ownR l) (NA W0) (JA W0) (JAx W0) _ (enters_of Try.func8 (by kernel_rfl) rfl) hl (ownR_all l) (fun pre W1 W2 h hb => h.below hb) (hE.ow.below hal) (hE.ro.below hal) (fun h0 i hi e => by have := hE.own h0 i hi; unfold NA at e; omega) (fun i e => by unfold NA at e; simp; omega) ?_ ⟨⟨hal, hx, ho⟩, by simp⟩).mono ?_
  · rintro pre ⟨x1, x2⟩ rest X hq hj hsz
    by_cases h1 : pre.length = 1
    · exact one_two l hl stop S Bw Bo I uw u W0 hE pre x1 x2 rest X hq hj h1
    · exact one_other l stop S Bw Bo I uw u W0 hE pre x1 x2 rest X hq hj h1
  · rintro e W' ⟨rfl, ⟨⟨h1, h2, h3⟩, h4⟩ | ⟨pre, rest, hp, ⟨h1, h2, h3⟩, h4⟩⟩
    · exact ⟨rfl, h1, by rw [wantR_all h4]; exact h2, h3⟩
    · exact ⟨rfl, h1, by rw [wantR_full hp h4, ← h4]; exact h2, h3⟩

end Go.Proofs.Ytccggjhnjknblaa
