/-
  What a field takes of a line's words.
-/
import Derived.Test.YtkndjbmlkfpfoaaGreatDoorZRegUToTO
import Derived.Laws.EntriesVeiled
import Derived.Lib.AtoiErrMem

set_option linter.unusedSimpArgs false
set_option linter.unusedVariables false
namespace Go.Proofs.YtkndjbmlkfpfoaaGreatDoor
open Go.RowKit Go.Lib

def Sp.num (s : Sp) (f : Nat) (v : Int) : Sp := match f with
  | 0 => { s with site := v }
  | 1 => { s with peer := v }
  | 2 => { s with at_ := v }
  | _ => { s with n := v }
def Sp.txt (s : Sp) (t : ByteArray) : Sp := { s with text := t }
def Sp.dat (s : Sp) (t : List UInt8) : Sp := { s with data := t }
/-- what a field takes: the step, and how many words -/
def tkF (s : Sp) (f : Nat) (l : List It) : Option (Sp × Nat) :=
  if f = 4 then (if allN l then some (s.dr (s.draws ++ l.map fun x => x.w.n), l.length) else none)
  else match l with
    | [] => none
    | x :: _ => if f < 4 then (if x.w.k = 3 then some (s.num f x.w.n, 1) else none)
        else if x.w.k = 2 then some (if f = 5 then s.txt x.w.t else s.dat x.w.t.data.toList, 1) else none
def TkR (N : Nat) (W : World) (b : Nat) (s : Sp) (dv bv : Value) (r : Option (Sp × Nat)) (e : Ending) (W' : World) : Prop :=
  ∃ (s' : Sp) (n : Nat) (dv' bv' : Value), e = .returned (.tuple #[.int .i64 (n : Int), .bool r.isSome]) ∧ (∀ x, r = some x → x = (s', n)) ∧ StO N W' b s' dv' bv' ∧ Kp (fun i => i = b ∨ dv.ownBlock = some i) W W'

set_option maxRecDepth 100000 in
set_option maxHeartbeats 4000000 in
theorem take0 {W0 W : World} {b : Nat} {s : Sp} {dv bv wv : Value} {l : List It} (hb0 : Below W0.heap.size W0 W) (h : StO W0.heap.size W b s dv bv) (hNb : W0.heap.size ≤ b) (hr : RW W0 wv l) (hl : l.length ≤ 1000000) (hd : s.draws.length ≤ 1000000) (ht : ∀ x ∈ l, x.w.t.size ≤ 1000000) :
    Calls Tryz.prog 60 #[.agg #[(.func (.func 47) #[] #[]), .nilFunc, .nilFunc, .nilFunc], .pointer (some ⟨b, 0, none⟩), wv] W (TkR W0.heap.size W b s dv bv (tkF s 0 l)) := by
  obtain ⟨a0, c0, rfl⟩ := hr.form
  obtain ⟨X, hX⟩ : ∃ X, W.alloc (.cells #[(.func (.func 47) #[] #[]), .nilFunc, .nilFunc, .nilFunc] 117) = X := ⟨_, rfl⟩
  have hb1 : Below W.heap.size W X := by rw [← hX]; exact ballc (Below.refl _ _) _
  have hbx : Bq X W.heap.size 117 #[(.func (.func 47) #[] #[]), .nilFunc, .nilFunc, .nilFunc] := by rw [← hX]; exact Bq.new _ _ _
  have hbX := bnext hb0 hb1
  have h1 := h.below hb1
  have q0 := hbx.cell 0 _ rfl
  have q1 := hbx.cell 1 _ rfl
  have q2 := hbx.cell 2 _ rfl
  have q3 := hbx.cell 3 _ rfl
  have g0 := fun w => run_neq_fnn (P := Tryz.prog) w 112 Tryz.underlying112
  have g1 := fun w => run_neq_fnn (P := Tryz.prog) w 113 Tryz.underlying113
  have g2 := fun w => run_neq_fnn (P := Tryz.prog) w 114 Tryz.underlying114
  have g3 := fun w => run_neq_fnn (P := Tryz.prog) w 115 Tryz.underlying115
  have gf := fun w => run_neq_fnil (P := Tryz.prog) w 112 (.func 47) #[] #[] Tryz.underlying112
  cases l with
  | nil =>
    have HF := hide (show TkR W0.heap.size W b s dv bv (tkF s 0 []) (.returned (.tuple #[.int .i64 ((0 : Nat) : Int), .bool false])) X from ⟨s, 0, dv, bv, rfl, (fun x hx => by cases hx), h1, Kp.of_below hb1⟩)
    clear hb0 h hr hb1 hbx hbX h1
    go_enter Tryz.func60, Tryz.ntmps60
    go_wp2
    refine bodyPost_ret (results_tmp2 rfl _ _ _) rfl ?_
    exact unhide HF
  | cons x l =>
    obtain ⟨g, off, rfl, hglt, w0, w1, w2, w3, w4⟩ := hr.at (i := 0) (x := x) rfl
    rw [Nat.zero_mul, Nat.add_zero] at w0 w1 w2 w3 w4
    have d0 := cell_below w0 hbX
    have d1 := cell_below w1 hbX
    have d2 := cell_below w2 hbX
    have d3 := cell_below w3 hbX
    have d4 := cell_below w4 hbX
    have hbw := Bq.new X 73 (encW x).toArray
    have hb2 := ballc (Below.refl _ X) (.cells (encW x).toArray 73)
    have h2 := h1.below hb2
    have e0 := hbw.cell 0 (.int .i64 (x.w.k : Int)) rfl
    have e1 := hbw.cell 1 (.string x.w.t) rfl
    have e2 := hbw.cell 2 (.int .i64 x.w.n) rfl
    have r0 := (hbx.keep hb2 hbx.lt).cell 0 _ rfl
    have r1 := (hbx.keep hb2 hbx.lt).cell 1 _ rfl
    have r2 := (hbx.keep hb2 hbx.lt).cell 2 _ rfl
    have r3 := (hbx.keep hb2 hbx.lt).cell 3 _ rfl
    have hlen : ((x :: l).length : Int) ≠ 0 := by rw [List.length_cons]; omega
    obtain ⟨N, hN⟩ : ∃ N, (x :: l).length = N := ⟨_, rfl⟩
    rw [hN] at hlen ⊢
    have hz : ((N : Int) == 0) = false := by rw [beq_eq_false_iff_ne]; exact hlen
    have hN0 : (0 : Int) < (N : Int) := by rw [← hN, List.length_cons]; omega
    by_cases hk : x.w.k = 3
    · have kx : ((x.w.k : Int) == 3) = true := by rw [hk]; rfl
      have hsb := h2.bx.sets 1 (.int .i64 x.w.n)
      have kset := Kp.set (N := fun i => i = b) (X.alloc (.cells (encW x).toArray 73)) ⟨b, 1, none⟩ (.int .i64 x.w.n) rfl
      have hst : StO W0.heap.size ((X.alloc (.cells (encW x).toArray 73)).setCell ⟨b, 1, none⟩ (.int .i64 x.w.n)) b (s.num 0 x.w.n) dv bv := ⟨hsb, owns_kp h2.dr kset (fun i hi e => owns_ty h2.dr h2.bx (by decide) (by rw [hi, e])), ownsF_kp h2.by_ kset (fun i hi e => ownsF_ty h2.by_ h2.bx (by decide) (by rw [hi, e]))⟩
      have HF := hide (show TkR W0.heap.size W b s dv bv (tkF s 0 (x :: l)) (.returned (.tuple #[.int .i64 1, .bool true])) ((X.alloc (.cells (encW x).toArray 73)).setCell ⟨b, 1, none⟩ (.int .i64 x.w.n)).drew from ⟨s.num 0 x.w.n, 1, dv, bv, by simp [tkF, hk], (fun y hy => by simp [tkF, hk] at hy; exact hy.symm), ⟨hst.bx, hst.dr, hst.by_⟩, ((Kp.of_below (N := fun i => i = b ∨ dv.ownBlock = some i) (bnext hb1 hb2)).trans kset (fun i hi => .inl (.inl hi))).drew⟩)
      have cb := h2.bx.cell 1 _ rfl
      have fb := h2.bx.frozen 1
      unfold encW at HF e0 e1 e2 r0 r1 r2 r3 cb fb
      clear hb0 h hr hb1 hbx hbX h1 w0 w1 w2 w3 w4 hbw hb2 h2 hk hglt hlen hN hsb kset hst
      go_enter Tryz.func60, Tryz.ntmps60
      go_upto_region 8 with fail
      go_region_law (go_simp; go_at_call 47; (with_reducible refine (ptr_in0 _ _).mono ?_); rintro e W2 ⟨rfl, rfl⟩)
      all_goals (
        go_wp2
        refine bodyPost_ret (results_tmp2 rfl _ _ _) rfl ?_
        exact unhide HF)
    · have kx : ((x.w.k : Int) == 3) = false := by rw [beq_eq_false_iff_ne]; omega
      have HF := hide (show TkR W0.heap.size W b s dv bv (tkF s 0 (x :: l)) (.returned (.tuple #[.int .i64 ((0 : Nat) : Int), .bool false])) (X.alloc (.cells (encW x).toArray 73)) from ⟨s, 0, dv, bv, by simp [tkF, hk], (fun y hy => by simp [tkF, hk] at hy), h2, Kp.of_below (bnext hb1 hb2)⟩)
      unfold encW at HF e0 e1 e2 r0 r1 r2 r3
      clear hb0 h hr hb1 hbx hbX h1 w0 w1 w2 w3 w4 hbw hb2 h2 hk hglt hlen hN e1 e2
      go_enter Tryz.func60, Tryz.ntmps60
      go_wp2
      refine bodyPost_ret (results_tmp2 rfl _ _ _) rfl ?_
      exact unhide HF

set_option maxRecDepth 100000 in
set_option maxHeartbeats 4000000 in
theorem take1 {W0 W : World} {b : Nat} {s : Sp} {dv bv wv : Value} {l : List It} (hb0 : Below W0.heap.size W0 W) (h : StO W0.heap.size W b s dv bv) (hNb : W0.heap.size ≤ b) (hr : RW W0 wv l) (hl : l.length ≤ 1000000) (hd : s.draws.length ≤ 1000000) (ht : ∀ x ∈ l, x.w.t.size ≤ 1000000) :
    Calls Tryz.prog 60 #[.agg #[(.func (.func 48) #[] #[]), .nilFunc, .nilFunc, .nilFunc], .pointer (some ⟨b, 0, none⟩), wv] W (TkR W0.heap.size W b s dv bv (tkF s 1 l)) := by
  obtain ⟨a0, c0, rfl⟩ := hr.form
  obtain ⟨X, hX⟩ : ∃ X, W.alloc (.cells #[(.func (.func 48) #[] #[]), .nilFunc, .nilFunc, .nilFunc] 117) = X := ⟨_, rfl⟩
  have hb1 : Below W.heap.size W X := by rw [← hX]; exact ballc (Below.refl _ _) _
  have hbx : Bq X W.heap.size 117 #[(.func (.func 48) #[] #[]), .nilFunc, .nilFunc, .nilFunc] := by rw [← hX]; exact Bq.new _ _ _
  have hbX := bnext hb0 hb1
  have h1 := h.below hb1
  have q0 := hbx.cell 0 _ rfl
  have q1 := hbx.cell 1 _ rfl
  have q2 := hbx.cell 2 _ rfl
  have q3 := hbx.cell 3 _ rfl
  have g0 := fun w => run_neq_fnn (P := Tryz.prog) w 112 Tryz.underlying112
  have g1 := fun w => run_neq_fnn (P := Tryz.prog) w 113 Tryz.underlying113
  have g2 := fun w => run_neq_fnn (P := Tryz.prog) w 114 Tryz.underlying114
  have g3 := fun w => run_neq_fnn (P := Tryz.prog) w 115 Tryz.underlying115
  have gf := fun w => run_neq_fnil (P := Tryz.prog) w 112 (.func 48) #[] #[] Tryz.underlying112
  cases l with
  | nil =>
    have HF := hide (show TkR W0.heap.size W b s dv bv (tkF s 1 []) (.returned (.tuple #[.int .i64 ((0 : Nat) : Int), .bool false])) X from ⟨s, 0, dv, bv, rfl, (fun x hx => by cases hx), h1, Kp.of_below hb1⟩)
    clear hb0 h hr hb1 hbx hbX h1
    go_enter Tryz.func60, Tryz.ntmps60
    go_wp2
    refine bodyPost_ret (results_tmp2 rfl _ _ _) rfl ?_
    exact unhide HF
  | cons x l =>
    obtain ⟨g, off, rfl, hglt, w0, w1, w2, w3, w4⟩ := hr.at (i := 0) (x := x) rfl
    rw [Nat.zero_mul, Nat.add_zero] at w0 w1 w2 w3 w4
    have d0 := cell_below w0 hbX
    have d1 := cell_below w1 hbX
    have d2 := cell_below w2 hbX
    have d3 := cell_below w3 hbX
    have d4 := cell_below w4 hbX
    have hbw := Bq.new X 73 (encW x).toArray
    have hb2 := ballc (Below.refl _ X) (.cells (encW x).toArray 73)
    have h2 := h1.below hb2
    have e0 := hbw.cell 0 (.int .i64 (x.w.k : Int)) rfl
    have e1 := hbw.cell 1 (.string x.w.t) rfl
    have e2 := hbw.cell 2 (.int .i64 x.w.n) rfl
    have r0 := (hbx.keep hb2 hbx.lt).cell 0 _ rfl
    have r1 := (hbx.keep hb2 hbx.lt).cell 1 _ rfl
    have r2 := (hbx.keep hb2 hbx.lt).cell 2 _ rfl
    have r3 := (hbx.keep hb2 hbx.lt).cell 3 _ rfl
    have hlen : ((x :: l).length : Int) ≠ 0 := by rw [List.length_cons]; omega
    obtain ⟨N, hN⟩ : ∃ N, (x :: l).length = N := ⟨_, rfl⟩
    rw [hN] at hlen ⊢
    have hz : ((N : Int) == 0) = false := by rw [beq_eq_false_iff_ne]; exact hlen
    have hN0 : (0 : Int) < (N : Int) := by rw [← hN, List.length_cons]; omega
    by_cases hk : x.w.k = 3
    · have kx : ((x.w.k : Int) == 3) = true := by rw [hk]; rfl
      have hsb := h2.bx.sets 2 (.int .i64 x.w.n)
      have kset := Kp.set (N := fun i => i = b) (X.alloc (.cells (encW x).toArray 73)) ⟨b, 2, none⟩ (.int .i64 x.w.n) rfl
      have hst : StO W0.heap.size ((X.alloc (.cells (encW x).toArray 73)).setCell ⟨b, 2, none⟩ (.int .i64 x.w.n)) b (s.num 1 x.w.n) dv bv := ⟨hsb, owns_kp h2.dr kset (fun i hi e => owns_ty h2.dr h2.bx (by decide) (by rw [hi, e])), ownsF_kp h2.by_ kset (fun i hi e => ownsF_ty h2.by_ h2.bx (by decide) (by rw [hi, e]))⟩
      have HF := hide (show TkR W0.heap.size W b s dv bv (tkF s 1 (x :: l)) (.returned (.tuple #[.int .i64 1, .bool true])) ((X.alloc (.cells (encW x).toArray 73)).setCell ⟨b, 2, none⟩ (.int .i64 x.w.n)).drew from ⟨s.num 1 x.w.n, 1, dv, bv, by simp [tkF, hk], (fun y hy => by simp [tkF, hk] at hy; exact hy.symm), ⟨hst.bx, hst.dr, hst.by_⟩, ((Kp.of_below (N := fun i => i = b ∨ dv.ownBlock = some i) (bnext hb1 hb2)).trans kset (fun i hi => .inl (.inl hi))).drew⟩)
      have cb := h2.bx.cell 2 _ rfl
      have fb := h2.bx.frozen 2
      unfold encW at HF e0 e1 e2 r0 r1 r2 r3 cb fb
      clear hb0 h hr hb1 hbx hbX h1 w0 w1 w2 w3 w4 hbw hb2 h2 hk hglt hlen hN hsb kset hst
      go_enter Tryz.func60, Tryz.ntmps60
      go_upto_region 8 with fail
      go_region_law (go_simp; go_at_call 48; (with_reducible refine (ptr_in1 _ _).mono ?_); rintro e W2 ⟨rfl, rfl⟩)
      all_goals (
        go_wp2
        refine bodyPost_ret (results_tmp2 rfl _ _ _) rfl ?_
        exact unhide HF)
    · have kx : ((x.w.k : Int) == 3) = false := by rw [beq_eq_false_iff_ne]; omega
      have HF := hide (show TkR W0.heap.size W b s dv bv (tkF s 1 (x :: l)) (.returned (.tuple #[.int .i64 ((0 : Nat) : Int), .bool false])) (X.alloc (.cells (encW x).toArray 73)) from ⟨s, 0, dv, bv, by simp [tkF, hk], (fun y hy => by simp [tkF, hk] at hy), h2, Kp.of_below (bnext hb1 hb2)⟩)
      unfold encW at HF e0 e1 e2 r0 r1 r2 r3
      clear hb0 h hr hb1 hbx hbX h1 w0 w1 w2 w3 w4 hbw hb2 h2 hk hglt hlen hN e1 e2
      go_enter Tryz.func60, Tryz.ntmps60
      go_wp2
      refine bodyPost_ret (results_tmp2 rfl _ _ _) rfl ?_
      exact unhide HF

set_option maxRecDepth 100000 in
set_option maxHeartbeats 4000000 in
theorem take2 {W0 W : World} {b : Nat} {s : Sp} {dv bv wv : Value} {l : List It} (hb0 : Below W0.heap.size W0 W) (h : StO W0.heap.size W b s dv bv) (hNb : W0.heap.size ≤ b) (hr : RW W0 wv l) (hl : l.length ≤ 1000000) (hd : s.draws.length ≤ 1000000) (ht : ∀ x ∈ l, x.w.t.size ≤ 1000000) :
    Calls Tryz.prog 60 #[.agg #[(.func (.func 49) #[] #[]), .nilFunc, .nilFunc, .nilFunc], .pointer (some ⟨b, 0, none⟩), wv] W (TkR W0.heap.size W b s dv bv (tkF s 2 l)) := by
  obtain ⟨a0, c0, rfl⟩ := hr.form
  obtain ⟨X, hX⟩ : ∃ X, W.alloc (.cells #[(.func (.func 49) #[] #[]), .nilFunc, .nilFunc, .nilFunc] 117) = X := ⟨_, rfl⟩
  have hb1 : Below W.heap.size W X := by rw [← hX]; exact ballc (Below.refl _ _) _
  have hbx : Bq X W.heap.size 117 #[(.func (.func 49) #[] #[]), .nilFunc, .nilFunc, .nilFunc] := by rw [← hX]; exact Bq.new _ _ _
  have hbX := bnext hb0 hb1
  have h1 := h.below hb1
  have q0 := hbx.cell 0 _ rfl
  have q1 := hbx.cell 1 _ rfl
  have q2 := hbx.cell 2 _ rfl
  have q3 := hbx.cell 3 _ rfl
  have g0 := fun w => run_neq_fnn (P := Tryz.prog) w 112 Tryz.underlying112
  have g1 := fun w => run_neq_fnn (P := Tryz.prog) w 113 Tryz.underlying113
  have g2 := fun w => run_neq_fnn (P := Tryz.prog) w 114 Tryz.underlying114
  have g3 := fun w => run_neq_fnn (P := Tryz.prog) w 115 Tryz.underlying115
  have gf := fun w => run_neq_fnil (P := Tryz.prog) w 112 (.func 49) #[] #[] Tryz.underlying112
  cases l with
  | nil =>
    have HF := hide (show TkR W0.heap.size W b s dv bv (tkF s 2 []) (.returned (.tuple #[.int .i64 ((0 : Nat) : Int), .bool false])) X from ⟨s, 0, dv, bv, rfl, (fun x hx => by cases hx), h1, Kp.of_below hb1⟩)
    clear hb0 h hr hb1 hbx hbX h1
    go_enter Tryz.func60, Tryz.ntmps60
    go_wp2
    refine bodyPost_ret (results_tmp2 rfl _ _ _) rfl ?_
    exact unhide HF
  | cons x l =>
    obtain ⟨g, off, rfl, hglt, w0, w1, w2, w3, w4⟩ := hr.at (i := 0) (x := x) rfl
    rw [Nat.zero_mul, Nat.add_zero] at w0 w1 w2 w3 w4
    have d0 := cell_below w0 hbX
    have d1 := cell_below w1 hbX
    have d2 := cell_below w2 hbX
    have d3 := cell_below w3 hbX
    have d4 := cell_below w4 hbX
    have hbw := Bq.new X 73 (encW x).toArray
    have hb2 := ballc (Below.refl _ X) (.cells (encW x).toArray 73)
    have h2 := h1.below hb2
    have e0 := hbw.cell 0 (.int .i64 (x.w.k : Int)) rfl
    have e1 := hbw.cell 1 (.string x.w.t) rfl
    have e2 := hbw.cell 2 (.int .i64 x.w.n) rfl
    have r0 := (hbx.keep hb2 hbx.lt).cell 0 _ rfl
    have r1 := (hbx.keep hb2 hbx.lt).cell 1 _ rfl
    have r2 := (hbx.keep hb2 hbx.lt).cell 2 _ rfl
    have r3 := (hbx.keep hb2 hbx.lt).cell 3 _ rfl
    have hlen : ((x :: l).length : Int) ≠ 0 := by rw [List.length_cons]; omega
    obtain ⟨N, hN⟩ : ∃ N, (x :: l).length = N := ⟨_, rfl⟩
    rw [hN] at hlen ⊢
    have hz : ((N : Int) == 0) = false := by rw [beq_eq_false_iff_ne]; exact hlen
    have hN0 : (0 : Int) < (N : Int) := by rw [← hN, List.length_cons]; omega
    by_cases hk : x.w.k = 3
    · have kx : ((x.w.k : Int) == 3) = true := by rw [hk]; rfl
      have hsb := h2.bx.sets 4 (.int .i64 x.w.n)
      have kset := Kp.set (N := fun i => i = b) (X.alloc (.cells (encW x).toArray 73)) ⟨b, 4, none⟩ (.int .i64 x.w.n) rfl
      have hst : StO W0.heap.size ((X.alloc (.cells (encW x).toArray 73)).setCell ⟨b, 4, none⟩ (.int .i64 x.w.n)) b (s.num 2 x.w.n) dv bv := ⟨hsb, owns_kp h2.dr kset (fun i hi e => owns_ty h2.dr h2.bx (by decide) (by rw [hi, e])), ownsF_kp h2.by_ kset (fun i hi e => ownsF_ty h2.by_ h2.bx (by decide) (by rw [hi, e]))⟩
      have HF := hide (show TkR W0.heap.size W b s dv bv (tkF s 2 (x :: l)) (.returned (.tuple #[.int .i64 1, .bool true])) ((X.alloc (.cells (encW x).toArray 73)).setCell ⟨b, 4, none⟩ (.int .i64 x.w.n)).drew from ⟨s.num 2 x.w.n, 1, dv, bv, by simp [tkF, hk], (fun y hy => by simp [tkF, hk] at hy; exact hy.symm), ⟨hst.bx, hst.dr, hst.by_⟩, ((Kp.of_below (N := fun i => i = b ∨ dv.ownBlock = some i) (bnext hb1 hb2)).trans kset (fun i hi => .inl (.inl hi))).drew⟩)
      have cb := h2.bx.cell 4 _ rfl
      have fb := h2.bx.frozen 4
      unfold encW at HF e0 e1 e2 r0 r1 r2 r3 cb fb
      clear hb0 h hr hb1 hbx hbX h1 w0 w1 w2 w3 w4 hbw hb2 h2 hk hglt hlen hN hsb kset hst
      go_enter Tryz.func60, Tryz.ntmps60
      go_upto_region 8 with fail
      go_region_law (go_simp; go_at_call 49; (with_reducible refine (ptr_in2 _ _).mono ?_); rintro e W2 ⟨rfl, rfl⟩)
      all_goals (
        go_wp2
        refine bodyPost_ret (results_tmp2 rfl _ _ _) rfl ?_
        exact unhide HF)
    · have kx : ((x.w.k : Int) == 3) = false := by rw [beq_eq_false_iff_ne]; omega
      have HF := hide (show TkR W0.heap.size W b s dv bv (tkF s 2 (x :: l)) (.returned (.tuple #[.int .i64 ((0 : Nat) : Int), .bool false])) (X.alloc (.cells (encW x).toArray 73)) from ⟨s, 0, dv, bv, by simp [tkF, hk], (fun y hy => by simp [tkF, hk] at hy), h2, Kp.of_below (bnext hb1 hb2)⟩)
      unfold encW at HF e0 e1 e2 r0 r1 r2 r3
      clear hb0 h hr hb1 hbx hbX h1 w0 w1 w2 w3 w4 hbw hb2 h2 hk hglt hlen hN e1 e2
      go_enter Tryz.func60, Tryz.ntmps60
      go_wp2
      refine bodyPost_ret (results_tmp2 rfl _ _ _) rfl ?_
      exact unhide HF

set_option maxRecDepth 100000 in
set_option maxHeartbeats 4000000 in
theorem take3 {W0 W : World} {b : Nat} {s : Sp} {dv bv wv : Value} {l : List It} (hb0 : Below W0.heap.size W0 W) (h : StO W0.heap.size W b s dv bv) (hNb : W0.heap.size ≤ b) (hr : RW W0 wv l) (hl : l.length ≤ 1000000) (hd : s.draws.length ≤ 1000000) (ht : ∀ x ∈ l, x.w.t.size ≤ 1000000) :
    Calls Tryz.prog 60 #[.agg #[(.func (.func 50) #[] #[]), .nilFunc, .nilFunc, .nilFunc], .pointer (some ⟨b, 0, none⟩), wv] W (TkR W0.heap.size W b s dv bv (tkF s 3 l)) := by
  obtain ⟨a0, c0, rfl⟩ := hr.form
  obtain ⟨X, hX⟩ : ∃ X, W.alloc (.cells #[(.func (.func 50) #[] #[]), .nilFunc, .nilFunc, .nilFunc] 117) = X := ⟨_, rfl⟩
  have hb1 : Below W.heap.size W X := by rw [← hX]; exact ballc (Below.refl _ _) _
  have hbx : Bq X W.heap.size 117 #[(.func (.func 50) #[] #[]), .nilFunc, .nilFunc, .nilFunc] := by rw [← hX]; exact Bq.new _ _ _
  have hbX := bnext hb0 hb1
  have h1 := h.below hb1
  have q0 := hbx.cell 0 _ rfl
  have q1 := hbx.cell 1 _ rfl
  have q2 := hbx.cell 2 _ rfl
  have q3 := hbx.cell 3 _ rfl
  have g0 := fun w => run_neq_fnn (P := Tryz.prog) w 112 Tryz.underlying112
  have g1 := fun w => run_neq_fnn (P := Tryz.prog) w 113 Tryz.underlying113
  have g2 := fun w => run_neq_fnn (P := Tryz.prog) w 114 Tryz.underlying114
  have g3 := fun w => run_neq_fnn (P := Tryz.prog) w 115 Tryz.underlying115
  have gf := fun w => run_neq_fnil (P := Tryz.prog) w 112 (.func 50) #[] #[] Tryz.underlying112
  cases l with
  | nil =>
    have HF := hide (show TkR W0.heap.size W b s dv bv (tkF s 3 []) (.returned (.tuple #[.int .i64 ((0 : Nat) : Int), .bool false])) X from ⟨s, 0, dv, bv, rfl, (fun x hx => by cases hx), h1, Kp.of_below hb1⟩)
    clear hb0 h hr hb1 hbx hbX h1
    go_enter Tryz.func60, Tryz.ntmps60
    go_wp2
    refine bodyPost_ret (results_tmp2 rfl _ _ _) rfl ?_
    exact unhide HF
  | cons x l =>
    obtain ⟨g, off, rfl, hglt, w0, w1, w2, w3, w4⟩ := hr.at (i := 0) (x := x) rfl
    rw [Nat.zero_mul, Nat.add_zero] at w0 w1 w2 w3 w4
    have d0 := cell_below w0 hbX
    have d1 := cell_below w1 hbX
    have d2 := cell_below w2 hbX
    have d3 := cell_below w3 hbX
    have d4 := cell_below w4 hbX
    have hbw := Bq.new X 73 (encW x).toArray
    have hb2 := ballc (Below.refl _ X) (.cells (encW x).toArray 73)
    have h2 := h1.below hb2
    have e0 := hbw.cell 0 (.int .i64 (x.w.k : Int)) rfl
    have e1 := hbw.cell 1 (.string x.w.t) rfl
    have e2 := hbw.cell 2 (.int .i64 x.w.n) rfl
    have r0 := (hbx.keep hb2 hbx.lt).cell 0 _ rfl
    have r1 := (hbx.keep hb2 hbx.lt).cell 1 _ rfl
    have r2 := (hbx.keep hb2 hbx.lt).cell 2 _ rfl
    have r3 := (hbx.keep hb2 hbx.lt).cell 3 _ rfl
    have hlen : ((x :: l).length : Int) ≠ 0 := by rw [List.length_cons]; omega
    obtain ⟨N, hN⟩ : ∃ N, (x :: l).length = N := ⟨_, rfl⟩
    rw [hN] at hlen ⊢
    have hz : ((N : Int) == 0) = false := by rw [beq_eq_false_iff_ne]; exact hlen
    have hN0 : (0 : Int) < (N : Int) := by rw [← hN, List.length_cons]; omega
    by_cases hk : x.w.k = 3
    · have kx : ((x.w.k : Int) == 3) = true := by rw [hk]; rfl
      have hsb := h2.bx.sets 5 (.int .i64 x.w.n)
      have kset := Kp.set (N := fun i => i = b) (X.alloc (.cells (encW x).toArray 73)) ⟨b, 5, none⟩ (.int .i64 x.w.n) rfl
      have hst : StO W0.heap.size ((X.alloc (.cells (encW x).toArray 73)).setCell ⟨b, 5, none⟩ (.int .i64 x.w.n)) b (s.num 3 x.w.n) dv bv := ⟨hsb, owns_kp h2.dr kset (fun i hi e => owns_ty h2.dr h2.bx (by decide) (by rw [hi, e])), ownsF_kp h2.by_ kset (fun i hi e => ownsF_ty h2.by_ h2.bx (by decide) (by rw [hi, e]))⟩
      have HF := hide (show TkR W0.heap.size W b s dv bv (tkF s 3 (x :: l)) (.returned (.tuple #[.int .i64 1, .bool true])) ((X.alloc (.cells (encW x).toArray 73)).setCell ⟨b, 5, none⟩ (.int .i64 x.w.n)).drew from ⟨s.num 3 x.w.n, 1, dv, bv, by simp [tkF, hk], (fun y hy => by simp [tkF, hk] at hy; exact hy.symm), ⟨hst.bx, hst.dr, hst.by_⟩, ((Kp.of_below (N := fun i => i = b ∨ dv.ownBlock = some i) (bnext hb1 hb2)).trans kset (fun i hi => .inl (.inl hi))).drew⟩)
      have cb := h2.bx.cell 5 _ rfl
      have fb := h2.bx.frozen 5
      unfold encW at HF e0 e1 e2 r0 r1 r2 r3 cb fb
      clear hb0 h hr hb1 hbx hbX h1 w0 w1 w2 w3 w4 hbw hb2 h2 hk hglt hlen hN hsb kset hst
      go_enter Tryz.func60, Tryz.ntmps60
      go_upto_region 8 with fail
      go_region_law (go_simp; go_at_call 50; (with_reducible refine (ptr_in3 _ _).mono ?_); rintro e W2 ⟨rfl, rfl⟩)
      all_goals (
        go_wp2
        refine bodyPost_ret (results_tmp2 rfl _ _ _) rfl ?_
        exact unhide HF)
    · have kx : ((x.w.k : Int) == 3) = false := by rw [beq_eq_false_iff_ne]; omega
      have HF := hide (show TkR W0.heap.size W b s dv bv (tkF s 3 (x :: l)) (.returned (.tuple #[.int .i64 ((0 : Nat) : Int), .bool false])) (X.alloc (.cells (encW x).toArray 73)) from ⟨s, 0, dv, bv, by simp [tkF, hk], (fun y hy => by simp [tkF, hk] at hy), h2, Kp.of_below (bnext hb1 hb2)⟩)
      unfold encW at HF e0 e1 e2 r0 r1 r2 r3
      clear hb0 h hr hb1 hbx hbX h1 w0 w1 w2 w3 w4 hbw hb2 h2 hk hglt hlen hN e1 e2
      go_enter Tryz.func60, Tryz.ntmps60
      go_wp2
      refine bodyPost_ret (results_tmp2 rfl _ _ _) rfl ?_
      exact unhide HF

set_option maxRecDepth 100000 in
set_option maxHeartbeats 4000000 in
theorem take4 {W0 W : World} {b : Nat} {s : Sp} {dv bv wv : Value} {l : List It} (hb0 : Below W0.heap.size W0 W) (h : StO W0.heap.size W b s dv bv) (hNb : W0.heap.size ≤ b) (hr : RW W0 wv l) (hl : l.length ≤ 1000000) (hd : s.draws.length ≤ 1000000) (ht : ∀ x ∈ l, x.w.t.size ≤ 1000000) :
    Calls Tryz.prog 60 #[.agg #[.nilFunc, (.func (.func 51) #[] #[]), .nilFunc, .nilFunc], .pointer (some ⟨b, 0, none⟩), wv] W (TkR W0.heap.size W b s dv bv (tkF s 4 l)) := by
  obtain ⟨a0, c0, rfl⟩ := hr.form
  obtain ⟨X, hX⟩ : ∃ X, W.alloc (.cells #[.nilFunc, (.func (.func 51) #[] #[]), .nilFunc, .nilFunc] 117) = X := ⟨_, rfl⟩
  have hb1 : Below W.heap.size W X := by rw [← hX]; exact ballc (Below.refl _ _) _
  have hbx : Bq X W.heap.size 117 #[.nilFunc, (.func (.func 51) #[] #[]), .nilFunc, .nilFunc] := by rw [← hX]; exact Bq.new _ _ _
  have hbX := bnext hb0 hb1
  have h1 := h.below hb1
  have q0 := hbx.cell 0 _ rfl
  have q1 := hbx.cell 1 _ rfl
  have q2 := hbx.cell 2 _ rfl
  have q3 := hbx.cell 3 _ rfl
  have g0 := fun w => run_neq_fnn (P := Tryz.prog) w 112 Tryz.underlying112
  have g1 := fun w => run_neq_fnn (P := Tryz.prog) w 113 Tryz.underlying113
  have g2 := fun w => run_neq_fnn (P := Tryz.prog) w 114 Tryz.underlying114
  have g3 := fun w => run_neq_fnn (P := Tryz.prog) w 115 Tryz.underlying115
  have gf := fun w => run_neq_fnil (P := Tryz.prog) w 113 (.func 51) #[] #[] Tryz.underlying113
  have hta := hide (takeAll_in hbX h1 hNb hr hl hd)
  have HB := hide hb1
  obtain ⟨N, hN⟩ : ∃ N, l.length = N := ⟨_, rfl⟩
  rw [hN] at hta ⊢
  have HN := hide hN
  clear hb0 h hr hb1 hbx hbX h1 hN
  go_enter Tryz.func60, Tryz.ntmps60
  go_wp2_with (go_at_call 51; refine (ptr_in4 _ _).mono ?_; rintro e W2 ⟨rfl, rfl⟩)
  refine (unhide hta).mono ?_
  rintro e W2 ⟨dv', ds, rfl, h2, h3, h4⟩
  have HF := hide (show TkR W0.heap.size W b s dv bv (tkF s 4 l) (.returned (.tuple #[.int .i64 (N : Int), .bool (allN l)])) W2 from ⟨s.dr ds, N, dv', bv, by
      unfold tkF
      cases allN l <;> rfl, (fun x hx => by
      unfold tkF at hx
      rw [if_pos rfl] at hx
      split at hx
      · rename_i ha
        cases hx
        rw [h2 ha, unhide HN]
      · cases hx), h3, ((Kp.of_below (N := fun i => i = b ∨ dv.ownBlock = some i) (unhide HB)).trans h4 (fun i hi => .inl hi))⟩)
  clear h2 h3 h4 hta HB HN
  go_wp2
  refine bodyPost_ret (results_tmp2 rfl _ _ _) rfl ?_
  exact unhide HF

set_option maxRecDepth 100000 in
set_option maxHeartbeats 4000000 in
theorem take5 {W0 W : World} {b : Nat} {s : Sp} {dv bv wv : Value} {l : List It} (hb0 : Below W0.heap.size W0 W) (h : StO W0.heap.size W b s dv bv) (hNb : W0.heap.size ≤ b) (hr : RW W0 wv l) (hl : l.length ≤ 1000000) (hd : s.draws.length ≤ 1000000) (ht : ∀ x ∈ l, x.w.t.size ≤ 1000000) :
    Calls Tryz.prog 60 #[.agg #[.nilFunc, .nilFunc, (.func (.func 52) #[] #[]), .nilFunc], .pointer (some ⟨b, 0, none⟩), wv] W (TkR W0.heap.size W b s dv bv (tkF s 5 l)) := by
  obtain ⟨a0, c0, rfl⟩ := hr.form
  obtain ⟨X, hX⟩ : ∃ X, W.alloc (.cells #[.nilFunc, .nilFunc, (.func (.func 52) #[] #[]), .nilFunc] 117) = X := ⟨_, rfl⟩
  have hb1 : Below W.heap.size W X := by rw [← hX]; exact ballc (Below.refl _ _) _
  have hbx : Bq X W.heap.size 117 #[.nilFunc, .nilFunc, (.func (.func 52) #[] #[]), .nilFunc] := by rw [← hX]; exact Bq.new _ _ _
  have hbX := bnext hb0 hb1
  have h1 := h.below hb1
  have q0 := hbx.cell 0 _ rfl
  have q1 := hbx.cell 1 _ rfl
  have q2 := hbx.cell 2 _ rfl
  have q3 := hbx.cell 3 _ rfl
  have g0 := fun w => run_neq_fnn (P := Tryz.prog) w 112 Tryz.underlying112
  have g1 := fun w => run_neq_fnn (P := Tryz.prog) w 113 Tryz.underlying113
  have g2 := fun w => run_neq_fnn (P := Tryz.prog) w 114 Tryz.underlying114
  have g3 := fun w => run_neq_fnn (P := Tryz.prog) w 115 Tryz.underlying115
  have gf := fun w => run_neq_fnil (P := Tryz.prog) w 114 (.func 52) #[] #[] Tryz.underlying114
  cases l with
  | nil =>
    have HF := hide (show TkR W0.heap.size W b s dv bv (tkF s 5 []) (.returned (.tuple #[.int .i64 ((0 : Nat) : Int), .bool false])) X from ⟨s, 0, dv, bv, rfl, (fun x hx => by cases hx), h1, Kp.of_below hb1⟩)
    clear hb0 h hr hb1 hbx hbX h1
    go_enter Tryz.func60, Tryz.ntmps60
    go_wp2
    refine bodyPost_ret (results_tmp2 rfl _ _ _) rfl ?_
    exact unhide HF
  | cons x l =>
    obtain ⟨g, off, rfl, hglt, w0, w1, w2, w3, w4⟩ := hr.at (i := 0) (x := x) rfl
    rw [Nat.zero_mul, Nat.add_zero] at w0 w1 w2 w3 w4
    have d0 := cell_below w0 hbX
    have d1 := cell_below w1 hbX
    have d2 := cell_below w2 hbX
    have d3 := cell_below w3 hbX
    have d4 := cell_below w4 hbX
    have hbw := Bq.new X 73 (encW x).toArray
    have hb2 := ballc (Below.refl _ X) (.cells (encW x).toArray 73)
    have h2 := h1.below hb2
    have e0 := hbw.cell 0 (.int .i64 (x.w.k : Int)) rfl
    have e1 := hbw.cell 1 (.string x.w.t) rfl
    have e2 := hbw.cell 2 (.int .i64 x.w.n) rfl
    have r0 := (hbx.keep hb2 hbx.lt).cell 0 _ rfl
    have r1 := (hbx.keep hb2 hbx.lt).cell 1 _ rfl
    have r2 := (hbx.keep hb2 hbx.lt).cell 2 _ rfl
    have r3 := (hbx.keep hb2 hbx.lt).cell 3 _ rfl
    have hlen : ((x :: l).length : Int) ≠ 0 := by rw [List.length_cons]; omega
    obtain ⟨N, hN⟩ : ∃ N, (x :: l).length = N := ⟨_, rfl⟩
    rw [hN] at hlen ⊢
    have hz : ((N : Int) == 0) = false := by rw [beq_eq_false_iff_ne]; exact hlen
    have hN0 : (0 : Int) < (N : Int) := by rw [← hN, List.length_cons]; omega
    by_cases hk : x.w.k = 2
    · have kx : ((x.w.k : Int) == 2) = true := by rw [hk]; rfl
      have hsb := h2.bx.sets 6 (.string x.w.t)
      have kset := Kp.set (N := fun i => i = b) (X.alloc (.cells (encW x).toArray 73)) ⟨b, 6, none⟩ (.string x.w.t) rfl
      have hst : StO W0.heap.size ((X.alloc (.cells (encW x).toArray 73)).setCell ⟨b, 6, none⟩ (.string x.w.t)) b (s.txt x.w.t) dv bv := ⟨hsb, owns_kp h2.dr kset (fun i hi e => owns_ty h2.dr h2.bx (by decide) (by rw [hi, e])), ownsF_kp h2.by_ kset (fun i hi e => ownsF_ty h2.by_ h2.bx (by decide) (by rw [hi, e]))⟩
      have HF := hide (show TkR W0.heap.size W b s dv bv (tkF s 5 (x :: l)) (.returned (.tuple #[.int .i64 1, .bool true])) ((X.alloc (.cells (encW x).toArray 73)).setCell ⟨b, 6, none⟩ (.string x.w.t)).drew from ⟨s.txt x.w.t, 1, dv, bv, by simp [tkF, hk], (fun y hy => by simp [tkF, hk] at hy; exact hy.symm), ⟨hst.bx, hst.dr, hst.by_⟩, ((Kp.of_below (N := fun i => i = b ∨ dv.ownBlock = some i) (bnext hb1 hb2)).trans kset (fun i hi => .inl (.inl hi))).drew⟩)
      have cb := h2.bx.cell 6 _ rfl
      have fb := h2.bx.frozen 6
      unfold encW at HF e0 e1 e2 r0 r1 r2 r3 cb fb
      clear hb0 h hr hb1 hbx hbX h1 w0 w1 w2 w3 w4 hbw hb2 h2 hk hglt hlen hN hsb kset hst
      go_enter Tryz.func60, Tryz.ntmps60
      go_upto_region 10 with fail
      go_region_law (go_simp; go_at_call 52; (with_reducible refine (ptr_in5 _ _).mono ?_); rintro e W2 ⟨rfl, rfl⟩)
      all_goals (
        go_wp2
        refine bodyPost_ret (results_tmp2 rfl _ _ _) rfl ?_
        exact unhide HF)
    · have kx : ((x.w.k : Int) == 2) = false := by rw [beq_eq_false_iff_ne]; omega
      have HF := hide (show TkR W0.heap.size W b s dv bv (tkF s 5 (x :: l)) (.returned (.tuple #[.int .i64 ((0 : Nat) : Int), .bool false])) (X.alloc (.cells (encW x).toArray 73)) from ⟨s, 0, dv, bv, by simp [tkF, hk], (fun y hy => by simp [tkF, hk] at hy), h2, Kp.of_below (bnext hb1 hb2)⟩)
      unfold encW at HF e0 e1 e2 r0 r1 r2 r3
      clear hb0 h hr hb1 hbx hbX h1 w0 w1 w2 w3 w4 hbw hb2 h2 hk hglt hlen hN e1 e2
      go_enter Tryz.func60, Tryz.ntmps60
      go_wp2
      refine bodyPost_ret (results_tmp2 rfl _ _ _) rfl ?_
      exact unhide HF

set_option maxRecDepth 100000 in
set_option maxHeartbeats 4000000 in
theorem take6 {W0 W : World} {b : Nat} {s : Sp} {dv bv wv : Value} {l : List It} (hb0 : Below W0.heap.size W0 W) (h : StO W0.heap.size W b s dv bv) (hNb : W0.heap.size ≤ b) (hr : RW W0 wv l) (hl : l.length ≤ 1000000) (hd : s.draws.length ≤ 1000000) (ht : ∀ x ∈ l, x.w.t.size ≤ 1000000) :
    Calls Tryz.prog 60 #[.agg #[.nilFunc, .nilFunc, .nilFunc, (.func (.func 53) #[] #[])], .pointer (some ⟨b, 0, none⟩), wv] W (TkR W0.heap.size W b s dv bv (tkF s 6 l)) := by
  obtain ⟨a0, c0, rfl⟩ := hr.form
  obtain ⟨X, hX⟩ : ∃ X, W.alloc (.cells #[.nilFunc, .nilFunc, .nilFunc, (.func (.func 53) #[] #[])] 117) = X := ⟨_, rfl⟩
  have hb1 : Below W.heap.size W X := by rw [← hX]; exact ballc (Below.refl _ _) _
  have hbx : Bq X W.heap.size 117 #[.nilFunc, .nilFunc, .nilFunc, (.func (.func 53) #[] #[])] := by rw [← hX]; exact Bq.new _ _ _
  have hbX := bnext hb0 hb1
  have h1 := h.below hb1
  have q0 := hbx.cell 0 _ rfl
  have q1 := hbx.cell 1 _ rfl
  have q2 := hbx.cell 2 _ rfl
  have q3 := hbx.cell 3 _ rfl
  have g0 := fun w => run_neq_fnn (P := Tryz.prog) w 112 Tryz.underlying112
  have g1 := fun w => run_neq_fnn (P := Tryz.prog) w 113 Tryz.underlying113
  have g2 := fun w => run_neq_fnn (P := Tryz.prog) w 114 Tryz.underlying114
  have g3 := fun w => run_neq_fnn (P := Tryz.prog) w 115 Tryz.underlying115
  have gf := fun w => run_neq_fnil (P := Tryz.prog) w 115 (.func 53) #[] #[] Tryz.underlying115
  cases l with
  | nil =>
    have HF := hide (show TkR W0.heap.size W b s dv bv (tkF s 6 []) (.returned (.tuple #[.int .i64 ((0 : Nat) : Int), .bool false])) X from ⟨s, 0, dv, bv, rfl, (fun x hx => by cases hx), h1, Kp.of_below hb1⟩)
    clear hb0 h hr hb1 hbx hbX h1
    go_enter Tryz.func60, Tryz.ntmps60
    go_wp2
    refine bodyPost_ret (results_tmp2 rfl _ _ _) rfl ?_
    exact unhide HF
  | cons x l =>
    obtain ⟨g, off, rfl, hglt, w0, w1, w2, w3, w4⟩ := hr.at (i := 0) (x := x) rfl
    rw [Nat.zero_mul, Nat.add_zero] at w0 w1 w2 w3 w4
    have d0 := cell_below w0 hbX
    have d1 := cell_below w1 hbX
    have d2 := cell_below w2 hbX
    have d3 := cell_below w3 hbX
    have d4 := cell_below w4 hbX
    have hbw := Bq.new X 73 (encW x).toArray
    have hb2 := ballc (Below.refl _ X) (.cells (encW x).toArray 73)
    have h2 := h1.below hb2
    have e0 := hbw.cell 0 (.int .i64 (x.w.k : Int)) rfl
    have e1 := hbw.cell 1 (.string x.w.t) rfl
    have e2 := hbw.cell 2 (.int .i64 x.w.n) rfl
    have r0 := (hbx.keep hb2 hbx.lt).cell 0 _ rfl
    have r1 := (hbx.keep hb2 hbx.lt).cell 1 _ rfl
    have r2 := (hbx.keep hb2 hbx.lt).cell 2 _ rfl
    have r3 := (hbx.keep hb2 hbx.lt).cell 3 _ rfl
    have hlen : ((x :: l).length : Int) ≠ 0 := by rw [List.length_cons]; omega
    obtain ⟨N, hN⟩ : ∃ N, (x :: l).length = N := ⟨_, rfl⟩
    rw [hN] at hlen ⊢
    have hz : ((N : Int) == 0) = false := by rw [beq_eq_false_iff_ne]; exact hlen
    have hN0 : (0 : Int) < (N : Int) := by rw [← hN, List.length_cons]; omega
    by_cases hk : x.w.k = 2
    · have kx : ((x.w.k : Int) == 2) = true := by rw [hk]; rfl
      have hts : x.w.t.size ≤ maxLen := by have := ht x (by simp); unfold maxLen; omega
      have hZb := Lib.bytesWorld_below ((X.alloc (.cells (encW x).toArray 73)).drew) 5 x.w.t
      have hZn := Lib.bytesWorld_at_new ((X.alloc (.cells (encW x).toArray 73)).drew) 5 x.w.t
      have hcv := Lib.run_convert_string_bytes (P := Tryz.prog) ((X.alloc (.cells (encW x).toArray 73)).drew) 9 38 5 x.w.t Tryz.underlying9 Tryz.underlying38 Tryz.underlying5
      have hG1 := grownCap_ge ((X.alloc (.cells (encW x).toArray 73)).drew) x.w.t.size 0 5
      have hG2 := grownCap_le_maxLen ((X.alloc (.cells (encW x).toArray 73)).drew) x.w.t.size 0 5 hts
      have hcs : (Lib.bytesCells ((X.alloc (.cells (encW x).toArray 73)).drew) 5 x.w.t).size = grownCap ((X.alloc (.cells (encW x).toArray 73)).drew) x.w.t.size 0 5 := by unfold Lib.bytesCells; simp only [Array.size_append, Array.size_map, Array.size_replicate]; show x.w.t.size + _ = _; omega
      have htk : (Lib.bytesCells ((X.alloc (.cells (encW x).toArray 73)).drew) 5 x.w.t).toList.take x.w.t.data.toList.length = Lib.byteCells x.w.t.data.toList := by
        unfold Lib.bytesCells Lib.byteCells
        rw [Array.toList_append, List.take_append_of_le_length (by simp)]
        simp
        exact List.take_of_length_le (by rw [List.length_map, Array.length_toList]; exact Nat.le_refl _)
      obtain ⟨G, hG⟩ : ∃ G, grownCap ((X.alloc (.cells (encW x).toArray 73)).drew) x.w.t.size 0 5 = G := ⟨_, rfl⟩
      obtain ⟨Z, hZ⟩ : ∃ Z, Lib.bytesWorld ((X.alloc (.cells (encW x).toArray 73)).drew) 5 x.w.t = Z := ⟨_, rfl⟩
      rw [hG] at hcv hG1 hG2 hcs
      rw [hZ] at hcv hZb hZn
      have hbZ : Below X.heap.size X Z := bnext hb2.drew hZb
      have hown : OwB Z W0.heap.size (.slice (some ⟨((X.alloc (.cells (encW x).toArray 73)).drew).heap.size, 0, none⟩) x.w.t.size G) x.w.t.data.toList := .inr ⟨_, G, _, _, rfl, Nat.le_trans hbX.size hb2.drew.size, hZn, .inr rfl, by rw [hcs] at *; exact hG1, hG2, hcs, htk⟩
      have h2' : StO W0.heap.size ((X.alloc (.cells (encW x).toArray 73)).drew) b s dv bv := ⟨h2.bx, h2.dr, h2.by_⟩
      have h3 := h2'.below hZb
      have hnb : (Value.slice (some ⟨((X.alloc (.cells (encW x).toArray 73)).drew).heap.size, 0, none⟩) x.w.t.size G).ownBlock ≠ some b := ownsF_ty hown h3.bx (by decide)
      have hsb := h3.bx.sets 8 (.slice (some ⟨((X.alloc (.cells (encW x).toArray 73)).drew).heap.size, 0, none⟩) x.w.t.size G)
      have kset := Kp.set (N := fun i => i = b) Z ⟨b, 8, none⟩ (.slice (some ⟨((X.alloc (.cells (encW x).toArray 73)).drew).heap.size, 0, none⟩) x.w.t.size G) rfl
      have hst : StO W0.heap.size (Z.setCell ⟨b, 8, none⟩ (.slice (some ⟨((X.alloc (.cells (encW x).toArray 73)).drew).heap.size, 0, none⟩) x.w.t.size G)) b (s.dat x.w.t.data.toList) dv (.slice (some ⟨((X.alloc (.cells (encW x).toArray 73)).drew).heap.size, 0, none⟩) x.w.t.size G) := ⟨hsb, owns_kp h3.dr kset (fun i hi e => owns_ty h3.dr h3.bx (by decide) (by rw [hi, e])), ownsF_kp hown kset (fun i hi e => hnb (by rw [hi, e]))⟩
      have HF := hide (show TkR W0.heap.size W b s dv bv (tkF s 6 (x :: l)) (.returned (.tuple #[.int .i64 1, .bool true])) (Z.setCell ⟨b, 8, none⟩ (.slice (some ⟨((X.alloc (.cells (encW x).toArray 73)).drew).heap.size, 0, none⟩) x.w.t.size G)) from ⟨s.dat x.w.t.data.toList, 1, dv, _, by simp [tkF, hk], (fun y hy => by simp [tkF, hk] at hy; exact hy.symm), hst, ((Kp.of_below (N := fun i => i = b ∨ dv.ownBlock = some i) (bnext hb1 hbZ)).trans kset (fun i hi => .inl (.inl hi)))⟩)
      have hY2 : Below X.heap.size X ((X.alloc (.cells (encW x).toArray 73)).drew) := hb2.drew
      have cb := h3.bx.cell 8 _ rfl
      have fb := h3.bx.frozen 8
      have z0 := (hbx.keep hbZ hbx.lt).cell 0 _ rfl
      have z1 := (hbx.keep hbZ hbx.lt).cell 1 _ rfl
      have z2 := (hbx.keep hbZ hbx.lt).cell 2 _ rfl
      have z3 := (hbx.keep hbZ hbx.lt).cell 3 _ rfl
      have ez1 := cell_below e1 (bnext (show Below (X.alloc (.cells (encW x).toArray 73)).heap.size (X.alloc (.cells (encW x).toArray 73)) ((X.alloc (.cells (encW x).toArray 73)).drew) from (Below.refl _ _).drew) hZb)
      rw [show ((X.alloc (.cells (encW x).toArray 73)).drew).heap.size = X.heap.size + 1 from by show ((X.alloc (.cells (encW x).toArray 73))).heap.size = _; simp] at HF hcv
      unfold encW at hcv e0 e1 e2 r0 r1 r2 r3
      clear hb0 h hr hb1 hbx hbX h1 w0 w1 w2 w3 w4 hbw hb2 h2 hk hglt hlen hN hsb kset hst hts hZb hZn hG1 hG2 hcs htk hG hZ hbZ hown h2' h3 hnb hY2 ht
      go_enter Tryz.func60, Tryz.ntmps60
      go_upto_region 12 with fail
      go_region_law (go_simp; go_at_call 53; (with_reducible refine (ptr_in6 _ _).mono ?_); rintro e W2 ⟨rfl, rfl⟩)
      all_goals (
        go_wp2
        refine bodyPost_ret (results_tmp2 rfl _ _ _) rfl ?_
        exact unhide HF)
    · have kx : ((x.w.k : Int) == 2) = false := by rw [beq_eq_false_iff_ne]; omega
      have HF := hide (show TkR W0.heap.size W b s dv bv (tkF s 6 (x :: l)) (.returned (.tuple #[.int .i64 ((0 : Nat) : Int), .bool false])) (X.alloc (.cells (encW x).toArray 73)) from ⟨s, 0, dv, bv, by simp [tkF, hk], (fun y hy => by simp [tkF, hk] at hy), h2, Kp.of_below (bnext hb1 hb2)⟩)
      unfold encW at HF e0 e1 e2 r0 r1 r2 r3
      clear hb0 h hr hb1 hbx hbX h1 w0 w1 w2 w3 w4 hbw hb2 h2 hk hglt hlen hN e1 e2
      go_enter Tryz.func60, Tryz.ntmps60
      go_wp2
      refine bodyPost_ret (results_tmp2 rfl _ _ _) rfl ?_
      exact unhide HF

theorem take_in {W0 W : World} {b : Nat} {s : Sp} {dv bv wv : Value} {l : List It} (hb0 : Below W0.heap.size W0 W) (h : StO W0.heap.size W b s dv bv) (hNb : W0.heap.size ≤ b) (hr : RW W0 wv l) (hl : l.length ≤ 1000000) (hd : s.draws.length ≤ 1000000) (ht : ∀ x ∈ l, x.w.t.size ≤ 1000000) (f : Nat) (hf : f < 7) :
    Calls Tryz.prog 60 #[.agg (fC f).toArray, .pointer (some ⟨b, 0, none⟩), wv] W (TkR W0.heap.size W b s dv bv (tkF s f l)) := by
  have hi2 : f = 0 ∨ f = 1 ∨ f = 2 ∨ f = 3 ∨ f = 4 ∨ f = 5 ∨ f = 6 := by omega
  rcases hi2 with rfl | rfl | rfl | rfl | rfl | rfl | rfl
  · exact take0 hb0 h hNb hr hl hd ht
  · exact take1 hb0 h hNb hr hl hd ht
  · exact take2 hb0 h hNb hr hl hd ht
  · exact take3 hb0 h hNb hr hl hd ht
  · exact take4 hb0 h hNb hr hl hd ht
  · exact take5 hb0 h hNb hr hl hd ht
  · exact take6 hb0 h hNb hr hl hd ht
end Go.Proofs.YtkndjbmlkfpfoaaGreatDoor
