/-
  The law's vectors; a Front that is one's own, apart from what else there is.
-/
import Derived.Test.YtjiphechhfifgaaZFF9
import Derived.Test.YtjiphechhfifgaaZOp

set_option linter.unusedSimpArgs false
set_option linter.unusedVariables false
namespace Go.Proofs.Ytjiphechhfifgaa
open Go.RowKit Go.Lib

theorem neqI2 (x y : Int × Int) (w : World) : (binOp .neq 56 (.agg #[.int .i64 x.1, .int .i64 x.2]) (.agg #[.int .i64 y.1, .int .i64 y.2])).run Try.prog w = .ok (.bool (!decide (x = y))) w := neqD x.1 x.2 y.1 y.2 w

set_option maxRecDepth 100000 in
set_option maxHeartbeats 4000000 in
theorem vectors_in (l m : List (Int × Int)) (v u : Value) (w : World) (hv : RI w v l) (hu : RI w u m) (hl : l.length ≤ 140737488355328) (hm : m.length ≤ 140737488355328) :
    Calls Try.prog 23 #[v, u] w fun e W => e = .returned (.bool (decide (l = m))) ∧ ∃ n, W = w.drewN n := by
  obtain ⟨a, c, rfl⟩ := RC.form hv
  obtain ⟨a', c', rfl⟩ := RC.form hu
  by_cases hne : l.length = m.length
  · have Hv := hide hv
    have Hu := hide hu
    obtain ⟨L, hL⟩ : ∃ L, l.length = L := ⟨_, rfl⟩
    rw [← hne] at hm ⊢
    have HM := hide (hne.symm.trans hL)
    rw [hL] at hl hm ⊢
    have HL := hide hL
    obtain ⟨D, hD⟩ : ∃ D, decide (l = m) = D := ⟨_, rfl⟩
    rw [hD]
    replace hD := hide hD
    clear hv hu hL hne
    go_enter Try.func23, Try.ntmps23
    go_wp2
    go_loopw [5] (fun iv wr => ∃ i n : Nat, i ≤ L ∧ iv = .int .i64 (i : Nat) ∧ Hid (l.take i = m.take i) ∧ wr = w.drewN n) (fun iv _ => L - (RowKit.intOf iv).toNat)
    case atStart => exact ⟨0, 0, by omega, rfl, hide rfl, rfl⟩
    case round =>
      obtain ⟨i, nd, hi, rfl, htk, rfl⟩ := hrel
      by_cases hlt : i < L
      · have hlt' : i < l.length := by rw [unhide HL]; exact hlt
        have hlt'' : i < m.length := by rw [unhide HM]; exact hlt
        have hA := unhide Hv
        have hB := unhide Hu
        rw [unhide HL] at hA
        rw [unhide HM] at hB
        obtain ⟨b, off, rfl, b0, c0, c1⟩ := RI.at hA (List.getElem?_eq_getElem hlt')
        obtain ⟨b', off', rfl, b1, d0, d1⟩ := RI.at hB (List.getElem?_eq_getElem hlt'')
        have i1 : (i : Int) < (L : Int) := by omega
        clear hA hB Hv Hu
        have hnq := neqI2 l[i] m[i]
        by_cases he : l[i] = m[i]
        · have hde : decide (l[i] = m[i]) = true := decide_eq_true he
          rw [hde] at hnq
          have htk' : l.take (i + 1) = m.take (i + 1) := by
            rw [List.take_add_one, List.take_add_one, unhide htk, List.getElem?_eq_getElem hlt', List.getElem?_eq_getElem hlt'', he]
          have Htk' := hide htk'
          clear he hde htk'
          generalize l[i] = e at *
          generalize m[i] = e' at *
          obtain ⟨t, s⟩ := e
          obtain ⟨t', s'⟩ := e'
          (try simp only at *)
          go_wp2
          go_quiet (fail)
          go_wp2
          go_roundw
          case rel => exact ⟨i + 1, _, by omega, by go_num, hide (unhide Htk'), rfl⟩
          case measure => simp [RowKit.intOf]; omega
        · have hde : decide (l[i] = m[i]) = false := decide_eq_false he
          rw [hde] at hnq
          have Hfin := hide (show D = false by
            rw [← unhide hD, decide_eq_false_iff_not]
            intro e
            subst e
            exact he rfl)
          clear he hde
          generalize l[i] = e at *
          generalize m[i] = e' at *
          obtain ⟨t, s⟩ := e
          obtain ⟨t', s'⟩ := e'
          (try simp only at *)
          go_wp2
          go_quiet (fail)
          go_wp2
          go_ret
          exact ⟨by rw [unhide Hfin]; rfl, nd + nq, World.drewN_drewN _ _ _⟩
      · have Hfin := hide (show D = true by
          have h := unhide htk
          rw [List.take_of_length_le (by rw [unhide HL]; omega), List.take_of_length_le (by rw [unhide HM]; omega)] at h
          rw [← unhide hD]
          exact decide_eq_true h)
        have i1 : ¬ (i : Int) < (L : Int) := by omega
        go_wp2
        go_ret
        exact ⟨by rw [unhide Hfin]; rfl, nd, rfl⟩
  · have hd : decide (l = m) = false := by rw [decide_eq_false_iff_not]; intro e; exact hne (by rw [e])
    rw [hd]
    have hne' : ((l.length : Int) == (m.length : Int)) = false := by rw [beq_eq_false_iff_ne]; omega
    clear hd hv hu hne
    generalize l.length = L at *
    generalize m.length = M at *
    go_enter Try.func23, Try.ntmps23
    go_wp2
    go_ret
    exact ⟨rfl, 0, rfl⟩



theorem EV.lt {P : Nat → Prop} {W : World} {x : SV} {s : Nat → Int} (h : EV P W x s) : EV (fun i => P i ∧ i < W.heap.size) W x s := ⟨h.row, fun k hk => ⟨h.pk k hk, (h.row.lt k hk).2⟩, h.good⟩
theorem FR.lt {P : Nat → Prop} {W : World} {b n : Nat} {S : StF} (h : FR P W b n S) : FR (fun i => P i ∧ i < W.heap.size) W b n S := by
  obtain ⟨h1, pv, h2, h3⟩ := h
  refine ⟨⟨h1, h2.lt⟩, pv, h2, ?_⟩
  rcases h3 with h | ⟨r, m, g, e, h⟩
  · exact .inl h
  · exact .inr ⟨r, m, g, e, h.rb, h.mp, h.no, fun j a b e => by obtain ⟨x, q1, q2, q3⟩ := h.yes j a b e; exact ⟨x, q1, q2.lt, q3.lt⟩, ⟨h.pr, h.rb.lt⟩, ⟨h.pm, h.mp.lt⟩, h.site⟩

/-- a Front in new memory, apart from Q -/
def KF (Q : Nat → Prop) (w W : World) (b n : Nat) (S : StF) : Prop := ∃ P, FR P W b n S ∧ (∀ i, P i → w.heap.size ≤ i ∧ i < W.heap.size ∧ ¬ Q i) ∧ (∀ i, Q i → i < W.heap.size) ∧ Below w.heap.size w W
variable {Q : Nat → Prop} {w W W' : World} {b n : Nat} {S : StF}
theorem KF.bel (h : KF Q w W b n S) : Below w.heap.size w W := by obtain ⟨_, _, _, _, h⟩ := h; exact h
theorem KF.good (h : KF Q w W b n S) (k : Int) : Good (hdR S k) ∧ Good (usR S k) := by obtain ⟨_, h, _⟩ := h; exact h.good k
theorem KF.below (h : KF Q w W b n S) (hb : Below W.heap.size W W') : KF Q w W' b n S := by
  obtain ⟨P, h1, h2, h3, h4⟩ := h
  have hz := hb.size
  exact ⟨P, h1.below hb, fun i hi => ⟨(h2 i hi).1, by have := (h2 i hi).2.1; omega, (h2 i hi).2.2⟩, fun i hi => by have := h3 i hi; omega, bnext h4 hb⟩
/-- what is new behind may be told apart too -/
theorem KF.grow (h : KF Q w W b n S) (hb : Below W.heap.size W W') : KF (fun i => Q i ∨ (W.heap.size ≤ i ∧ i < W'.heap.size)) w W' b n S := by
  obtain ⟨P, h1, h2, h3, h4⟩ := h
  have hz := hb.size
  refine ⟨P, h1.below hb, fun i hi => ⟨(h2 i hi).1, by have := (h2 i hi).2.1; omega, fun e => ?_⟩, fun i hi => ?_, bnext h4 hb⟩
  · obtain ⟨q1, q2, q3⟩ := h2 i hi
    rcases e with e | e
    · exact q3 e
    · omega
  · rcases hi with e | e
    · have := h3 i e; omega
    · omega
/-- something else has been written -/
theorem KF.kp {N : Nat → Prop} (h : KF Q w W b n S) (k : Kp N W W') (hn : ∀ i, N i → Q i) (hw : ∀ i, N i → w.heap.size ≤ i) : KF Q w W' b n S := by
  obtain ⟨P, h1, h2, h3, h4⟩ := h
  have hz := k.size
  exact ⟨P, h1.kp k (fun i hi e => (h2 i e).2.2 (hn i hi)), fun i hi => ⟨(h2 i hi).1, by have := (h2 i hi).2.1; omega, (h2 i hi).2.2⟩, fun i hi => by have := h3 i hi; omega, k.below h4 hw⟩
theorem KF.wk {Q' : Nat → Prop} (h : KF Q w W b n S) (hq : ∀ i, Q' i → Q i) : KF Q' w W b n S := by
  obtain ⟨P, h1, h2, h3, h4⟩ := h
  exact ⟨P, h1, fun i hi => ⟨(h2 i hi).1, (h2 i hi).2.1, fun e => (h2 i hi).2.2 (hq i e)⟩, fun i hi => h3 i (hq i hi), h4⟩
theorem KF.step {P P' : Nat → Prop} {n' : Nat} {S' : StF} (h2 : ∀ i, P i → w.heap.size ≤ i ∧ i < W.heap.size ∧ ¬ Q i) (h3 : ∀ i, Q i → i < W.heap.size) (h4 : Below w.heap.size w W) (h : FR P' W' b n' S') (hp : ∀ i, P' i → P i ∨ W.heap.size ≤ i) (k : Kp P W W') : KF Q w W' b n' S' ∧ Kp (fun i => ¬ Q i) W W' := by
  have hz := k.size
  have hz4 := h4.size
  refine ⟨⟨_, h.lt, fun i hi => ?_, fun i hi => by have := h3 i hi; omega, k.below h4 (fun i hi => (h2 i hi).1)⟩, ⟨k.os, k.tape, k.output, k.size, fun i hi hn => k.block i hi (fun e => hn (h2 i e).2.2)⟩⟩
  rcases hp i hi.1 with e | e
  · exact ⟨(h2 i e).1, hi.2, (h2 i e).2.2⟩
  · exact ⟨by omega, hi.2, fun q => by have := h3 i q; omega⟩
theorem KNew_in {w0 : World} (w : World) (h0 : Below w0.heap.size w0 w) (hq : ∀ i, Q i → i < w.heap.size) : Calls Try.prog 11 #[] w fun e W => e = .returned (.pointer (some ⟨w.heap.size, 0, none⟩)) ∧ KF Q w0 W w.heap.size 0 (fun _ => none) ∧ Below w.heap.size w W := by
  refine (New_in w).mono ?_
  rintro e W ⟨rfl, h, hb⟩
  have hz := hb.size
  have hz0 := h0.size
  exact ⟨rfl, ⟨_, h.lt, fun i hi => ⟨by have := hi.1; omega, hi.2, fun e => by have := hq i e; have := hi.1; omega⟩, fun i hi => by have := hq i hi; omega, bnext h0 hb⟩, hb⟩
theorem KHear_in (h : KF Q w W b n S) (hn : n ≤ 999999) (k : Int) (hk : in64 k) (v : Value) (l : List (Int × Int)) (hv : RI W v l) (hl : l.length ≤ 1000000) (hap : ∀ i, rb v l.length i → Q i ∨ i < w.heap.size) :
    Calls Try.prog 17 #[.pointer (some ⟨b, 0, none⟩), .int .i64 k, v] W fun e W' => e = .returned (.int .i64 (hearE k l)) ∧ KF Q w W' b (n + 1) (hearS S k l) ∧ Kp (fun i => ¬ Q i) W W' := by
  obtain ⟨P, h1, h2, h3, h4⟩ := h
  refine (Hear_in h1 (fun i hi => (h2 i hi).2.1) hn k hk v l hv hl (fun i hi e => ?_)).mono ?_
  · rcases hap i hi with q | q
    · exact (h2 i e).2.2 q
    · have := (h2 i e).1; omega
  · rintro e W' ⟨rfl, hf, kk⟩
    exact ⟨rfl, KF.step h2 h3 h4 hf (fun i h => h) kk⟩
theorem KSettle_in (h : KF Q w W b n S) (v : Value) (l : List (Int × Int)) (hv : RI W v l) (hl : l.length ≤ 1000000) :
    Calls Try.prog 15 #[.pointer (some ⟨b, 0, none⟩), v] W fun e W' => e = .returned (.tuple #[]) ∧ KF Q w W' b n (setS S l) ∧ Kp (fun i => ¬ Q i) W W' := by
  obtain ⟨P, h1, h2, h3, h4⟩ := h
  refine (Settle_in h1 (fun i hi => (h2 i hi).2.1) v l hv hl).mono ?_
  rintro e W' ⟨rfl, hf, kk⟩
  exact ⟨rfl, KF.step h2 h3 h4 hf (fun i h => .inl h) kk⟩
theorem KRow_in (h : KF Q w W b n S) (k : Int) (hk : in64 k) : Calls Try.prog 16 #[.pointer (some ⟨b, 0, none⟩), .int .i64 k] W fun e W' => ∃ v', e = .returned (.tuple #[v', .bool (S k).isSome]) ∧ OwD W' W.heap.size v' (vec (hdR S k)) ∧ Below W.heap.size W W' := by
  obtain ⟨P, h1, _⟩ := h
  exact Row_in h1 k hk
theorem KUsable_in (h : KF Q w W b n S) (k : Int) (hk : in64 k) : Calls Try.prog 18 #[.pointer (some ⟨b, 0, none⟩), .int .i64 k] W fun e W' => ∃ v', e = .returned v' ∧ OwD W' W.heap.size v' (vec (usR S k)) ∧ Below W.heap.size W W' := by
  obtain ⟨P, h1, _⟩ := h
  exact Usable_in h1 k hk
theorem KFrontier_in (h : KF Q w W b n S) (mv : Value) (ms : List Int) (hm : RN W mv ms) (hms : ms.length ≤ 1000000) (h64 : ∀ x ∈ ms, in64 x) (self : Int) (v : Value) (l : List (Int × Int)) (hv : RI W v l) (hl : l.length ≤ 1000000) :
    Calls Try.prog 19 #[.pointer (some ⟨b, 0, none⟩), mv, .int .i64 self, v] W (FnA W (Fro S ms self l)) := by
  obtain ⟨P, h1, _⟩ := h
  exact Frontier_in h1 mv ms hm hms h64 self v l hv hl

end Go.Proofs.Ytjiphechhfifgaa

/-
  What the document fixes.
-/
set_option linter.unusedSimpArgs false
set_option linter.unusedVariables false
namespace Go.Proofs.Ytjiphechhfifgaa
open Go.RowKit Go.Lib

theorem RC.lit (W : World) (t : TypeId) (vs : Array Value) (n : Nat) : RC (W.alloc (.cells vs t)) (.slice (some ⟨W.heap.size, 0, none⟩) n n) n vs.toList :=
  .inr ⟨W.heap.size, 0, n, rfl, Nat.le_refl _, by simp, fun j x hx => by rw [Nat.zero_add]; exact (Bx.new W t vs).cell j x (by rw [← hx]; simp)⟩
def kOwn : List (Int × Int) := [(1, 3), (2, 4)]
def kS1 : StF := hearS (fun _ => none) 2 [(1, 3)]
def kS2 : StF := setS kS1 kOwn
theorem kh1 : hearE 2 [(1, 3)] = 0 := by kernel_rfl
theorem kh2 : hearE 0 [] = 1 := by kernel_rfl
theorem kf1 : Fro kS1 [1, 2] 1 kOwn = [] := by kernel_rfl
theorem kf2 : Fro kS2 [1, 2] 1 kOwn = [(1, 3)] := by kernel_rfl
theorem kf3 : Fro kS2 [] 1 kOwn = kOwn := by kernel_rfl
theorem kr3 : (kS2 3).isSome = false := by kernel_rfl
theorem kq3 : hearS kS2 0 [] = kS2 := hearS_no (by rw [kh2]; decide) _
theorem k64 : ∀ x ∈ [(1 : Int), 2], in64 x := fun x hx => by simp at hx; unfold in64; rcases hx with rfl | rfl <;> omega
theorem litD1 (W : World) (x y : Int) : RI (W.alloc (.cells #[.int .i64 x, .int .i64 y] 56)) (.slice (some ⟨W.heap.size, 0, none⟩) 1 1) [(x, y)] := RC.lit W 56 #[.int .i64 x, .int .i64 y] 1
theorem litD2 (W : World) (x y x' y' : Int) : RI (W.alloc (.cells #[.int .i64 x, .int .i64 y, .int .i64 x', .int .i64 y'] 56)) (.slice (some ⟨W.heap.size, 0, none⟩) 2 2) [(x, y), (x', y')] := RC.lit W 56 #[.int .i64 x, .int .i64 y, .int .i64 x', .int .i64 y'] 2
theorem litN2 (W : World) (x y : Int) : RN (W.alloc (.cells #[.int .i64 x, .int .i64 y] 3)) (.slice (some ⟨W.heap.size, 0, none⟩) 2 2) [x, y] := RC.lit W 3 #[.int .i64 x, .int .i64 y] 2

set_option maxRecDepth 100000 in
set_option maxHeartbeats 8000000 in
theorem known_in (w : World) : Calls Try.prog 10 #[] w fun e W => e = .returned (.bool true) ∧ Below w.heap.size w W := by
  have H1 := hide (KNew_in (Q := fun _ => False) w (Below.refl _ _) (fun _ h => h.elim))
  go_enter Try.func10, Try.ntmps10
  go_wp2_with fail
  refine (unhide H1).mono ?_
  rintro r W1 ⟨rfl, hK, hb1⟩
  obtain ⟨o, ho⟩ : ∃ o, W1.heap.size = o := ⟨_, rfl⟩
  -- own, and what is heard
  obtain ⟨X, hX⟩ : ∃ X, W1.alloc (.cells #[.int .i64 1, .int .i64 3, .int .i64 2, .int .i64 4] 56) = X := ⟨_, rfl⟩
  have ro : RI X (.slice (some ⟨W1.heap.size, 0, none⟩) 2 2) kOwn := by rw [← hX]; exact litD2 W1 1 3 2 4
  have bX : Below W1.heap.size W1 X := by rw [← hX]; exact ballc (Below.refl _ _) _
  have zX : X.heap.size = W1.heap.size + 1 := by rw [← hX]; simp
  obtain ⟨Y, hY⟩ : ∃ Y, X.alloc (.cells #[.int .i64 1, .int .i64 3] 56) = Y := ⟨_, rfl⟩
  have rl : RI Y (.slice (some ⟨X.heap.size, 0, none⟩) 1 1) [(1, 3)] := by rw [← hY]; exact litD1 X 1 3
  have bY : Below X.heap.size X Y := by rw [← hY]; exact ballc (Below.refl _ _) _
  have zY : Y.heap.size = X.heap.size + 1 := by rw [← hY]; simp
  have K2 := hK.grow (bnext bX bY)
  have H2 := hide (KHear_in K2 (by omega) 2 ⟨by omega, by omega⟩ _ [(1, 3)] rl (by simp) (fun i hi => .inl (.inr (by cases hi.2; simp; omega))))
  rw [kh1] at H2
  have RO := hide (ro.below bY)
  replace zX := hide zX
  replace zY := hide zY
  clear ro bX rl bY K2 hK hb1 H1 ho
  go_wp2_with fail
  refine (unhide H2).mono ?_
  rintro r W2 ⟨rfl, hK, kp⟩
  have ro2 := RI.kp' (unhide RO) kp (fun i hi e => e (.inr (by cases hi.2; have := unhide zX; have := unhide zY; simp; omega)))
  have K3 := hide hK
  replace RO := hide ro2
  clear H2 hK kp ro2 hX hY
  -- Frontier
  obtain ⟨Z, hZ⟩ : ∃ Z, W2.alloc (.cells #[.int .i64 1, .int .i64 2] 3) = Z := ⟨_, rfl⟩
  have bZ : Below W2.heap.size W2 Z := by rw [← hZ]; exact ballc (Below.refl _ _) _
  have rn : RN Z (.slice (some ⟨W2.heap.size, 0, none⟩) 2 2) [1, 2] := by rw [← hZ]; exact litN2 W2 1 2
  have H3 := hide (KFrontier_in ((unhide K3).below bZ) _ [1, 2] rn (by simp) k64 1 _ kOwn ((unhide RO).below bZ) (by simp [kOwn]))
  rw [show Fro (hearS (fun _ => none) 2 [(1, 3)]) [1, 2] 1 kOwn = [] from kf1] at H3
  have BZ := hide bZ
  clear bZ rn
  go_wp2_with fail
  refine (unhide H3).mono ?_
  rintro r W3 ⟨v3, rfl, ho3, hb3⟩
  obtain ⟨a3, c3, rfl⟩ := OwD.form ho3
  have K4 := hide (((unhide K3).below (unhide BZ)).below hb3)
  have RO4 := hide (((unhide RO).below (unhide BZ)).below hb3)
  clear H3 ho3 hb3 K3 RO BZ hZ
  simp only [List.length_nil]
  -- Settle
  have H4 := hide (KSettle_in (unhide K4) _ kOwn (unhide RO4) (by simp [kOwn]))
  go_wp2_with fail
  refine (unhide H4).mono ?_
  rintro r W4 ⟨rfl, hK, kp⟩
  have K5 := hide hK
  have RO5 := hide (RI.kp' (unhide RO4) kp (fun i hi e => e (.inr (by cases hi.2; have := unhide zX; have := unhide zY; simp; omega))))
  clear H4 hK kp RO4 K4
  -- Frontier again
  obtain ⟨Z, hZ⟩ : ∃ Z, W4.alloc (.cells #[.int .i64 1, .int .i64 2] 3) = Z := ⟨_, rfl⟩
  have bZ : Below W4.heap.size W4 Z := by rw [← hZ]; exact ballc (Below.refl _ _) _
  have rn : RN Z (.slice (some ⟨W4.heap.size, 0, none⟩) 2 2) [1, 2] := by rw [← hZ]; exact litN2 W4 1 2
  have H5 := hide (KFrontier_in ((unhide K5).below bZ) _ [1, 2] rn (by simp) k64 1 _ kOwn ((unhide RO5).below bZ) (by simp [kOwn]))
  rw [show Fro (setS (hearS (fun _ => none) 2 [(1, 3)]) kOwn) [1, 2] 1 kOwn = [(1, 3)] from kf2] at H5
  have BZ := hide bZ
  clear bZ rn
  go_wp2_with fail
  refine (unhide H5).mono ?_
  rintro r W5 ⟨v5, rfl, ho5, hb5⟩
  obtain ⟨a5, c5, rfl⟩ := OwD.form ho5
  have K6 := hide ((((unhide K5).below (unhide BZ))).grow hb5)
  have RO6 := hide (((unhide RO5).below (unhide BZ)).below hb5)
  have RB := hide ho5
  have zb := hide (fun i (hi : (Value.slice a5 ([(1, 3)] : List (Int × Int)).length c5).ownBlock = some i) => ho5.lt i hi)
  clear H5 ho5 hb5 K5 RO5 BZ
  simp only [List.length_cons, List.length_nil, Nat.zero_add] at RB zb ⊢
  -- Row
  have H6 := hide (KRow_in (unhide K6) 3 ⟨by omega, by omega⟩)
  rw [show ((setS (hearS (fun _ => none) 2 [(1, 3)]) kOwn) 3).isSome = false from kr3] at H6
  go_wp2_with fail
  refine (unhide H6).mono ?_
  rintro r W6 ⟨v6, rfl, ho6, hb6⟩
  obtain ⟨a6, c6, rfl⟩ := OwD.form ho6
  have K7 := hide ((unhide K6).below hb6)
  have RO7 := hide ((unhide RO6).below hb6)
  have RB7 := hide (owd_below (unhide RB) hb6)
  clear H6 ho6 hb6 K6 RO6 RB
  generalize (vec (hdR (setS (hearS (fun _ => none) 2 [(1, 3)]) kOwn) 3)).length = n6
  -- Hear of no site
  have H7 := hide (KHear_in (unhide K7) (by omega) 0 ⟨by omega, by omega⟩ (.slice none 0 0) [] (.inl ⟨rfl, _, _, rfl⟩) (by simp) (fun i hi => (hi.1 rfl).elim))
  rw [kh2, show hearS (setS (hearS (fun _ => none) 2 [(1, 3)]) kOwn) 0 [] = kS2 from kq3] at H7
  go_wp2_with fail
  refine (unhide H7).mono ?_
  rintro r W7 ⟨rfl, hK, kp⟩
  have K8 := hide hK
  have RO8 := hide (RI.kp' (unhide RO7) kp (fun i hi e => e (.inl (.inr (by cases hi.2; have := unhide zX; have := unhide zY; simp; omega)))))
  have RB8 := hide (owd_kp (unhide RB7) kp (fun i hi e => e (.inr (unhide zb i hi))))
  clear H7 hK kp K7 RO7 RB7
  -- the vectors
  obtain ⟨Y, hY⟩ : ∃ Y, W7.alloc (.cells #[.int .i64 1, .int .i64 3] 56) = Y := ⟨_, rfl⟩
  have rl : RI Y (.slice (some ⟨W7.heap.size, 0, none⟩) 1 1) [(1, 3)] := by rw [← hY]; exact litD1 W7 1 3
  have bY : Below W7.heap.size W7 Y := by rw [← hY]; exact ballc (Below.refl _ _) _
  have H8 := hide (vectors_in [(1, 3)] [(1, 3)] _ _ Y (OwD.row (owd_below (unhide RB8) bY)) rl (by simp) (by simp))
  rw [decide_eq_true rfl] at H8
  have BY := hide bY
  clear rl bY
  go_wp2_with fail
  refine (unhide H8).mono ?_
  rintro r W8 ⟨rfl, nd, rfl⟩
  have bd := bdrew (Below.refl Y.heap.size Y) nd
  have K9 := hide (((unhide K8).below (unhide BY)).below bd)
  have RO9 := hide (((unhide RO8).below (unhide BY)).below bd)
  clear H8 bd K8 RO8 RB8 BY hY
  -- Frontier of none
  have H9 := hide (KFrontier_in (unhide K9) (.slice none 0 0) [] (.inl ⟨rfl, _, _, rfl⟩) (by simp) (fun x hx => (by cases hx)) 1 _ kOwn (unhide RO9) (by simp [kOwn]))
  rw [kf3] at H9
  go_wp2_with fail
  refine (unhide H9).mono ?_
  rintro r W9 ⟨v9, rfl, ho9, hb9⟩
  obtain ⟨a9, c9, rfl⟩ := OwD.form ho9
  have H10 := hide (vectors_in kOwn kOwn _ _ W9 ho9.row ((unhide RO9).below hb9) (by simp [kOwn]) (by simp [kOwn]))
  rw [decide_eq_true rfl] at H10
  have B10 := hide (bnext (unhide K9).bel hb9)
  clear H9 ho9 hb9 K9 RO9
  simp only [kOwn, List.length_cons, List.length_nil, Nat.zero_add, Nat.reduceAdd] at H10 ⊢
  go_wp2_with fail
  refine (unhide H10).mono ?_
  rintro r W10 ⟨rfl, nd2, rfl⟩
  go_wp2
  go_ret
  exact ⟨rfl, bdrew (unhide B10) nd2⟩

end Go.Proofs.Ytjiphechhfifgaa

/-
  The law's scripts: how steps lie, opened, and how much there is.
-/
set_option linter.unusedSimpArgs false
set_option linter.unusedVariables false
namespace Go.Proofs.Ytjiphechhfifgaa
open Go.RowKit Go.Lib

theorem flat_nums (l : List Int) : flat (fun x : Int => [Value.int .i64 x]) l = nC l := by
  unfold flat nC
  induction l with
  | nil => rfl
  | cons x l ih => rw [List.flatMap_cons, ih]; rfl
theorem open_nums {H : Type} {enc : TypeId × Value → H} {w : World} {base : Nat} {spare : Nat → Bool} {held : Bool} {fuel : Nat} {a : Option Addr} {len cap : Nat} {x : DataW H × List MemPlace}
    (h : DataW.trod enc Try.prog w base spare held fuel 32 [.slice a len cap] = some x) : ∃ l : List Int, RN w (.slice a len cap) l ∧ l.length = len ∧ len ≤ maxLen ∧ ∀ e ∈ l, in64 e := by
  rcases Go.Deep.open_slice Try.underlying32 h with ⟨h0, _⟩ | ⟨ad, ln, cp, m, n, D, Pl, h0, hb, hl, hm, hmm, _, hx⟩
  · simp only [List.cons.injEq, Value.slice.injEq, and_true] at h0
    obtain ⟨rfl, rfl, rfl⟩ := h0
    exact ⟨[], .inl ⟨rfl, _, _, rfl⟩, rfl, by unfold maxLen; omega, fun e he => by cases he⟩
  · simp only [List.cons.injEq, Value.slice.injEq, and_true] at h0
    obtain ⟨rfl, rfl, rfl⟩ := h0
    have hlm : len ≤ m := by rw [hmm]; split <;> omega
    obtain ⟨l, h1, h2, h3⟩ := mk_each (enc := fun x : Int => [Value.int .i64 x]) (k := 1) (fun _ => rfl) (by omega) (Pr := in64) (w := w) (ad := ad) (len := len) (cap := cap) hl (fun i hi => by
      obtain ⟨cs', h1, h2⟩ := hx i (by omega)
      have ce : Try.prog.cellsOf 3 = 1 := by kernel_rfl
      rw [ce] at h1
      obtain ⟨_, hlen, hcell⟩ := World.cells?_some h1
      match cs', hlen with
      | [v0], _ =>
        obtain ⟨n0, e0, _, w0⟩ := DataW.trod_int Try.underlying3 h2
        simp at e0
        subst e0
        have q0 := hcell 0 (by omega)
        rw [Go.Deep.add_add] at q0
        refine ⟨n0, fun q x hx => ?_, wf64 w0⟩
        match q, hx with
        | 0, hx => simp at hx; subst hx; simpa using q0
        | q + 1, hx => simp at hx)
    rw [flat_nums] at h1
    exact ⟨l, by rw [← h2] at h1 ⊢; exact h1, h2, by omega, h3⟩

/-- a step: its kind, its site, its vector, its members -/
structure Stp where
  kind : Int
  site : Int
  vec : List (Int × Int)
  mem : List Int
  vv : Value
  vm : Value
def encS (s : Stp) : List Value := [.int .i64 s.kind, .int .i64 s.site, s.vv, s.vm]
theorem encS_len (s : Stp) : (encS s).length = 4 := rfl
/-- a step whose lists lie somewhere -/
structure StW (W : World) (s : Stp) : Prop where
  fv : ∃ a c, s.vv = .slice a s.vec.length c
  fm : ∃ a c, s.vm = .slice a s.mem.length c
  rv : RI W s.vv s.vec
  rm : RN W s.vm s.mem
  inv : ∀ e ∈ s.vec, idIn e
  inm : ∀ e ∈ s.mem, in64 e
  kin : in64 s.kind
  sin : in64 s.site
  lv : s.vec.length ≤ 9223372036854775807
  lm : s.mem.length ≤ 9223372036854775807
theorem StW.below {W W' : World} {s : Stp} (h : StW W s) (hb : Below W.heap.size W W') : StW W' s := ⟨h.fv, h.fm, h.rv.below hb, h.rm.below hb, h.inv, h.inm, h.kin, h.sin, h.lv, h.lm⟩
def RS (W : World) (v : Value) (l : List Stp) : Prop := RC W v l.length (flat encS l)
theorem RS.below {W W' : World} {v : Value} {l : List Stp} (h : RS W v l) (hb : Below W.heap.size W W') : RS W' v l := RC.below h hb
theorem RS.at {W : World} {a : Option Addr} {n c : Nat} {l : List Stp} (h : RS W (.slice a n c) l) {i : Nat} {e : Stp} (hi : l[i]? = some e) : ∃ b off, a = some ⟨b, off, none⟩ ∧ b < W.heap.size ∧ W.cell? ⟨b, off + i * 4, none⟩ = some (.int .i64 e.kind) ∧ W.cell? ⟨b, off + i * 4 + 1, none⟩ = some (.int .i64 e.site) ∧ W.cell? ⟨b, off + i * 4 + 2, none⟩ = some e.vv ∧ W.cell? ⟨b, off + i * 4 + 3, none⟩ = some e.vm := by
  have hl := (List.getElem?_eq_some_iff.1 hi).1
  rcases h with ⟨h0, _⟩ | ⟨b, off, cap, e', h1, h2, hc⟩
  · omega
  · simp at e'
    obtain ⟨rfl, _⟩ := e'
    have f := fun q (hq : q < 4) v (hv : (encS e)[q]? = some v) => hc (i * 4 + q) v ((flat_get encS_len l i q e hi hq).trans hv)
    exact ⟨b, off, rfl, h2, f 0 (by omega) _ rfl, f 1 (by omega) _ rfl, f 2 (by omega) _ rfl, f 3 (by omega) _ rfl⟩

set_option maxRecDepth 100000 in
theorem open_stepL {H : Type} {enc : TypeId × Value → H} {w : World} {base : Nat} {spare : Nat → Bool} {held : Bool} {fuel : Nat} {c0 c1 c2 c3 : Value} {x : DataW H × List MemPlace}
    (hf : DataW.trod enc Try.prog w base spare held fuel 34 [c0, c1, c2, c3] = some x) : ∃ s, [c0, c1, c2, c3] = encS s ∧ StW w s := by
  obtain ⟨xs, n, _, _, _, hxl, hfs⟩ := DataW.trod_struct Try.underlying34 hf
  have hx : ∀ i, i < 4 → ∃ y, xs[i]? = some y := fun i hi => ⟨xs[i]'(by rw [hxl]; exact hi), List.getElem?_eq_getElem _⟩
  have ci : Try.prog.cellsOf 3 = 1 := by kernel_rfl
  have cV : Try.prog.cellsOf 31 = 1 := by kernel_rfl
  have cN : Try.prog.cellsOf 32 = 1 := by kernel_rfl
  obtain ⟨y0, e0⟩ := hx 0 (by omega)
  have g0 := (hfs 0 _ rfl).trans e0
  obtain ⟨y1, e1⟩ := hx 1 (by omega)
  have g1 := (hfs 1 _ rfl).trans e1
  obtain ⟨y2, e2⟩ := hx 2 (by omega)
  have g2 := (hfs 2 _ rfl).trans e2
  obtain ⟨y3, e3⟩ := hx 3 (by omega)
  have g3 := (hfs 3 _ rfl).trans e3
  simp at g0
  rw [ci] at g0
  try simp at g0
  simp at g1
  rw [ci] at g1
  try simp at g1
  simp at g2
  rw [cV] at g2
  try simp at g2
  simp at g3
  rw [cN] at g3
  try simp at g3
  obtain ⟨a0, q0, _, w0⟩ := DataW.trod_int Try.underlying3 g0
  obtain ⟨a1, q1, _, w1⟩ := DataW.trod_int Try.underlying3 g1
  simp only [List.cons.injEq, and_true] at q0 q1
  subst q0 q1
  obtain ⟨av, lv, cv, rfl⟩ : ∃ a l c, c2 = .slice a l c := by
    rcases Go.Deep.open_slice Try.underlying31 g2 with ⟨h0, _⟩ | ⟨ad, ln, cp, m, n, D, Pl, h0, _⟩
    · simp at h0; exact ⟨_, _, _, h0⟩
    · simp at h0; exact ⟨_, _, _, h0⟩
  obtain ⟨am, lm, cm, rfl⟩ : ∃ a l c, c3 = .slice a l c := by
    rcases Go.Deep.open_slice Try.underlying32 g3 with ⟨h0, _⟩ | ⟨ad, ln, cp, m, n, D, Pl, h0, _⟩
    · simp at h0; exact ⟨_, _, _, h0⟩
    · simp at h0; exact ⟨_, _, _, h0⟩
  obtain ⟨l, h1, rfl, h3, h4⟩ := open_dots g2
  obtain ⟨m, k1, rfl, k3, k4⟩ := open_nums g3
  unfold maxLen at h3 k3
  exact ⟨⟨a0, a1, l, m, .slice av l.length cv, .slice am m.length cm⟩, rfl, ⟨_, _, rfl⟩, ⟨_, _, rfl⟩, h1, k1, h4, k4, wf64 w0, wf64 w1, by show l.length ≤ _; omega, by show m.length ≤ _; omega⟩

theorem open_steps {H : Type} {enc : TypeId × Value → H} {w : World} {base : Nat} {spare : Nat → Bool} {held : Bool} {fuel : Nat} {a : Option Addr} {len cap : Nat} {x : DataW H × List MemPlace}
    (h : DataW.trod enc Try.prog w base spare held fuel 22 [.slice a len cap] = some x) : ∃ l : List Stp, RS w (.slice a len cap) l ∧ l.length = len ∧ len ≤ maxLen ∧ ∀ e ∈ l, StW w e := by
  rcases Go.Deep.open_slice Try.underlying22 h with ⟨h0, _⟩ | ⟨ad, ln, cp, m, n, D, Pl, h0, hb, hl, hm, hmm, _, hx⟩
  · simp only [List.cons.injEq, Value.slice.injEq, and_true] at h0
    obtain ⟨rfl, rfl, rfl⟩ := h0
    exact ⟨[], .inl ⟨rfl, _, _, rfl⟩, rfl, by unfold maxLen; omega, fun e he => by cases he⟩
  · simp only [List.cons.injEq, Value.slice.injEq, and_true] at h0
    obtain ⟨rfl, rfl, rfl⟩ := h0
    have hlm : len ≤ m := by rw [hmm]; split <;> omega
    obtain ⟨l, h1, h2, h3⟩ := @mk_each Stp ⟨⟨0, 0, [], [], .slice none 0 0, .slice none 0 0⟩⟩ encS 4 encS_len (by omega) (StW w) w ad len cap hl (fun i hi => by
      obtain ⟨cs', h1, h2⟩ := hx i (by omega)
      have ce : Try.prog.cellsOf 34 = 4 := by kernel_rfl
      rw [ce] at h1
      obtain ⟨_, hlen, hcell⟩ := World.cells?_some h1
      match cs', hlen with
      | [v0, v1, v2, v3], _ =>
        obtain ⟨e, he, hw⟩ := open_stepL h2
        refine ⟨e, fun q x hx => ?_, hw⟩
        rw [← he] at hx
        have hq := (List.getElem?_eq_some_iff.1 hx).1
        have := hcell q (by simpa using hq)
        rw [Go.Deep.add_add] at this
        rw [this]
        exact hx)
    exact ⟨l, by rw [← h2] at h1 ⊢; exact h1, h2, by omega, h3⟩

end Go.Proofs.Ytjiphechhfifgaa

/-
  How much there is.
-/
set_option linter.unusedSimpArgs false
set_option linter.unusedVariables false
namespace Go.Proofs.Ytjiphechhfifgaa
open Go.RowKit Go.Lib

def stB (s : Stp) : Bool := decide (20000 < s.vec.length) || decide (20000 < s.mem.length)
def muL : List Stp → Nat → Bool
  | [], n => decide (20000 < n)
  | s :: r, n => stB s || muL r (n + s.vec.length + s.mem.length)
def muchB (ss : List Stp) : Bool := decide (200 < ss.length) || muL ss 0
theorem muL_small : ∀ (l : List Stp) (n : Nat), muL l n = false → ∀ s ∈ l, s.vec.length ≤ 20000 ∧ s.mem.length ≤ 20000
  | [], n, _, s, h => by cases h
  | x :: l, n, hm, s, h => by
    rw [muL, Bool.or_eq_false_iff] at hm
    rcases List.mem_cons.1 h with rfl | h
    · have := hm.1
      unfold stB at this
      simp at this
      omega
    · exact muL_small l _ hm.2 s h
theorem much_small {ss : List Stp} (h : muchB ss = false) : ss.length ≤ 200 ∧ ∀ s ∈ ss, s.vec.length ≤ 20000 ∧ s.mem.length ≤ 20000 := by
  unfold muchB at h
  rw [Bool.or_eq_false_iff] at h
  exact ⟨by have := h.1; simp at this; exact this, muL_small ss 0 h.2⟩

set_option maxRecDepth 100000 in
set_option maxHeartbeats 8000000 in
theorem much_in (a : Option Addr) (n c : Nat) (ss : List Stp) (w : World) (h : RS w (.slice a n c) ss) (hn : ss.length = n) (hf : ∀ s ∈ ss, StW w s) (hmx : n ≤ 9223372036854775807) :
    Calls Try.prog 9 #[.slice a n c] w fun e W => e = .returned (.bool (muchB ss)) ∧ Below w.heap.size w W := by
  unfold muchB
  rw [hn]
  by_cases h200 : 200 < n
  · have h200' : (200 : Int) < (n : Int) := by omega
    rw [decide_eq_true h200]
    clear h hf
    go_enter Try.func9, Try.ntmps9
    go_wp2
    go_ret
    exact ⟨rfl, Below.refl _ _⟩
  have h200' : ¬ (200 : Int) < (n : Int) := by omega
  rw [decide_eq_false h200, Bool.false_or]
  obtain ⟨M, hM⟩ : ∃ M, muL ss 0 = M := ⟨_, rfl⟩
  rw [hM]
  have H := hide h
  have HM := hide hM
  have HF := hide hf
  have Hn := hide hn
  clear h hM hf hn
  go_enter Try.func9, Try.ntmps9
  go_wp2
  go_loopw [3, 4] (fun nv iv wr => ∃ (i k : Nat), iv = .int .i64 (i : Nat) ∧ nv = .int .i64 (k : Nat) ∧ i ≤ n ∧ k ≤ i * 40000 ∧ Hid (muL (ss.drop i) k = M) ∧ Hid (Below w.heap.size w wr)) (fun _ iv _ => n - (Lib.intOf iv).toNat)
  case atStart => exact ⟨0, 0, rfl, rfl, by omega, by omega, HM, hide (Below.refl _ _)⟩
  case round =>
    obtain ⟨i, k, rfl, rfl, hi, hk, HI, HB⟩ := hrel
    by_cases hlt : i < n
    · have hlt' : (i : Int) < (n : Int) := by omega
      have hls : i < ss.length := by rw [unhide Hn]; exact hlt
      obtain ⟨s, hx⟩ : ∃ s, ss[i]? = some s := ⟨_, List.getElem?_eq_getElem hls⟩
      have hdr := drop_at hx
      obtain ⟨b0, off, rfl, hb0, q0, q1, q2, q3⟩ := RS.at ((unhide H).below (unhide HB)) hx
      have hw := unhide HF s (List.mem_of_getElem? hx)
      obtain ⟨av, cv, hv⟩ := hw.fv
      obtain ⟨am, cm, hm⟩ := hw.fm
      have lv := hw.lv
      have lm := hw.lm
      have hMs := unhide HI
      rw [hdr, muL] at hMs
      obtain ⟨kind, site, vl, ml, vv, vm⟩ := s
      simp only at hv hm q0 q1 q2 q3 lv lm
      subst hv hm
      have HMs := hide hMs
      unfold stB at HMs
      simp only at HMs
      clear hx hdr hMs HI hw
      have fin : ∀ {A B : Bool}, A = true → (A || B) = M → M = true := fun {A B} h1 h2 => by rw [← h2, h1, Bool.true_or]
      by_cases g1 : 20000 < vl.length
      · have g1' : (20000 : Int) < (vl.length : Int) := by omega
        have HMt := hide (fin (by rw [decide_eq_true g1]; rfl) (unhide HMs))
        clear HMs fin
        go_wp2
        go_ret
        exact ⟨by rw [unhide HMt]; rfl, unhide HB⟩
      have g1' : ¬ (20000 : Int) < (vl.length : Int) := by omega
      by_cases g2 : 20000 < ml.length
      · have g2' : (20000 : Int) < (ml.length : Int) := by omega
        have HMt := hide (fin (by rw [decide_eq_true g2]; simp) (unhide HMs))
        clear HMs fin
        go_wp2
        go_ret
        exact ⟨by rw [unhide HMt]; rfl, unhide HB⟩
      have g2' : ¬ (20000 : Int) < (ml.length : Int) := by omega
      have HM2 : Hid (muL (ss.drop (i + 1)) (k + vl.length + ml.length) = M) := by
        have := unhide HMs
        rw [decide_eq_false g1, decide_eq_false g2] at this
        exact hide (by simpa using this)
      have hk2 : (k : Int) ≤ 8000000 := by omega
      have hk3 : k + vl.length + ml.length ≤ (i + 1) * 40000 := by omega
      clear HMs fin
      go_wp2
      go_quiet (fail)
      go_wp2
      go_roundw
      case measure => show n - ((i : Int) + 1).toNat < n - ((i : Nat) : Int).toNat; omega
      case rel => exact ⟨i + 1, k + vl.length + ml.length, by go_num, by go_num, by omega, hk3, HM2, hide (bdrew (unhide HB) _)⟩
    · have hlt' : ¬ (i : Int) < (n : Int) := by omega
      have HMf : Hid (decide (20000 < k) = M) := by
        have := unhide HI
        rw [List.drop_eq_nil_of_le (by rw [unhide Hn]; omega), muL] at this
        exact hide this
      by_cases hk6 : 20000 < k
      · have hk6' : (20000 : Int) < (k : Int) := by omega
        go_wp2
        go_ret
        exact ⟨by rw [← unhide HMf, decide_eq_true hk6]; rfl, unhide HB⟩
      · have hk6' : ¬ (20000 : Int) < (k : Int) := by omega
        have hd6 : decide ((20000 : Int) < (k : Int)) = false := decide_eq_false hk6'
        go_wp2
        go_ret
        refine ⟨?_, unhide HB⟩
        rw [← unhide HMf, decide_eq_false hk6]
        first | rfl | (show Ending.returned (.bool (decide ((20000 : Int) < (k : Int)))) = _; rw [hd6])

end Go.Proofs.Ytjiphechhfifgaa
