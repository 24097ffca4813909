/-
  What script.takeAll does: numbers behind a step's Draws.
-/
import Derived.Test.YtkndjbmlkfpfoaaGreatDoorZTN
import Derived.Laws.EntriesVeiled
import Derived.Lib.AtoiErrMem

set_option linter.unusedSimpArgs false
set_option linter.unusedVariables false
namespace Go.Proofs.YtkndjbmlkfpfoaaGreatDoor
open Go.RowKit Go.Lib

def Sp.dr (s : Sp) (ds : List Int) : Sp := { s with draws := ds }
theorem spC_dr (s : Sp) (ds : List Int) (dv bv u : Value) : (spC s dv bv).setIfInBounds 7 u = spC (s.dr ds) u bv := rfl
theorem allN_take {l : List It} {j : Nat} {x : It} (h : l[j]? = some x) (hx : x.w.k = 3) (ha : allN (l.take j) = true) : allN (l.take (j + 1)) = true := by
  unfold allN at ha ⊢
  rw [List.take_add_one, h, List.all_append, ha]
  simp [hx]
theorem allN_not {l : List It} {j : Nat} {x : It} (h : l[j]? = some x) (hx : x.w.k ≠ 3) : allN l = false := by
  unfold allN
  rw [List.all_eq_false]
  exact ⟨x, List.mem_of_getElem? h, by simp [hx]⟩
theorem nums_take {l : List It} {j : Nat} {x : It} (h : l[j]? = some x) : (l.take (j + 1)).map (fun x => x.w.n) = (l.take j).map (fun x => x.w.n) ++ [x.w.n] := by
  rw [List.take_add_one, h]; simp

/-- what takeAll answers and leaves -/
def TkA (N : Nat) (W : World) (b : Nat) (s : Sp) (dv bv : Value) (l : List It) (e : Ending) (W' : World) : Prop :=
  ∃ dv' ds, e = .returned (.bool (allN l)) ∧ (allN l = true → ds = s.draws ++ l.map fun x => x.w.n) ∧ StO N W' b (s.dr ds) dv' bv ∧ Kp (fun i => i = b ∨ dv.ownBlock = some i) W W'

set_option maxRecDepth 100000 in
set_option maxHeartbeats 4000000 in
theorem takeAll_in {W0 W : World} {b : Nat} {s : Sp} {dv bv wv : Value} {l : List It} (hb0 : Below W0.heap.size W0 W) (h : StO W0.heap.size W b s dv bv) (hNb : W0.heap.size ≤ b) (hr : RW W0 wv l) (hl : l.length ≤ 1000000) (hd : s.draws.length ≤ 1000000) :
    Calls Tryz.prog 87 #[.pointer (some ⟨b, 7, none⟩), wv] W (TkA W0.heap.size W b s dv bv l) := by
  obtain ⟨a0, c0, rfl⟩ := hr.form
  obtain ⟨N, hN⟩ : ∃ N, l.length = N := ⟨_, rfl⟩
  have hat := fun i x hx => RW.at hr (i := i) (x := x) hx
  rw [hN] at hl ⊢
  have HAT := hide hat
  have HN := hide hN
  have HB0 := hide hb0
  have HP : Hid (∀ i, (i = b ∨ dv.ownBlock = some i) → W0.heap.size ≤ i) := fun i hi => by
    rcases hi with rfl | hi
    · exact hNb
    · exact (World.ownsRow.lt h.dr i hi).1
  have H0 := hide (show ∃ dvj, StO W0.heap.size W b (s.dr (s.draws ++ (l.take 0).map fun x => x.w.n)) dvj bv ∧ Kp (fun i => i = b ∨ dv.ownBlock = some i) W W ∧ (∀ i, dvj.ownBlock = some i → dv.ownBlock = some i ∨ W.heap.size ≤ i) ∧ allN (l.take 0) = true from ⟨dv, by simpa [Sp.dr] using h, Kp.refl _ _, fun i hi => .inl hi, rfl⟩)
  clear hat hN hr h hb0
  go_enter Tryz.func87, Tryz.ntmps87
  go_wp2_with fail
  go_loopw [6, 9] (fun v6 v9 wr => ∃ (j : Nat), v9 = .int .i64 (j : Int) ∧ j ≤ N ∧ Hid (∃ dvj, StO W0.heap.size wr b (s.dr (s.draws ++ (l.take j).map fun x => x.w.n)) dvj bv ∧ Kp (fun i => i = b ∨ dv.ownBlock = some i) W wr ∧ (∀ i, dvj.ownBlock = some i → dv.ownBlock = some i ∨ W.heap.size ≤ i) ∧ allN (l.take j) = true)) (fun _ v9 _ => N - (RowKit.intOf v9).toNat)
  case atStart => exact ⟨0, rfl, Nat.zero_le _, H0⟩
  case round =>
    clear H0
    obtain ⟨j, rfl, hj, H⟩ := hrel
    by_cases hjl : j < N
    · obtain ⟨dvj, hs, hk, hdo, hall⟩ := unhide H
      obtain ⟨x, hx⟩ : ∃ x, l[j]? = some x := ⟨_, List.getElem?_eq_getElem (by rw [unhide HN]; exact hjl)⟩
      obtain ⟨g, off, rfl, hglt, q0, q1, q2, q3, q4⟩ := unhide HAT j x hx
      have hbw := hk.below (unhide HB0) (unhide HP)
      have d0 := cell_below q0 hbw
      have d1 := cell_below q1 hbw
      have d2 := cell_below q2 hbw
      have d3 := cell_below q3 hbw
      have d4 := cell_below q4 hbw
      obtain ⟨a, c, ef⟩ := owns_form hs.dr
      obtain ⟨m, hm⟩ : ∃ m, (s.dr (s.draws ++ (l.take j).map fun x => x.w.n)).draws.length = m := ⟨_, rfl⟩
      rw [hm] at ef
      subst ef
      have hml : m ≤ 100000000 := by rw [← hm]; show (s.draws ++ (l.take j).map fun x => x.w.n).length ≤ _; simp; omega
      have k5 : (j : Int) < (N : Int) := by omega
      have k6 : (0 : Int) ≤ (j : Int) := by omega
      have hbx := Bq.new wr 73 (encW x).toArray
      have hb1 := ballc (Below.refl _ wr) (.cells (encW x).toArray 73)
      have hs1 := hs.below hb1
      have e0 := hbx.cell 0 (.int .i64 (x.w.k : Int)) rfl
      have e2 := hbx.cell 2 (.int .i64 x.w.n) rfl
      have cb := hs1.bx.cell 7 (.slice a m c) rfl
      by_cases h3 : x.w.k = 3
      · have kx : ((x.w.k : Int) != 3) = false := by rw [h3]; rfl
        have hbx2 := Bq.new (wr.alloc (.cells (encW x).toArray 73)) 3 #[.int .i64 x.w.n]
        have hb2 := ballc hb1 (.cells #[.int .i64 x.w.n] 3)
        have hs2 := hs.below hb2
        obtain ⟨V, hV⟩ : ∃ V, ((wr.alloc (.cells (encW x).toArray 73)).alloc (.cells #[.int .i64 x.w.n] 3)).drew = V := ⟨_, rfl⟩
        have hbV : Below wr.heap.size wr V := by rw [← hV]; exact hb2.drew
        have hsV : StO W0.heap.size V b (s.dr (s.draws ++ (l.take j).map fun x => x.w.n)) (.slice a m c) bv := by rw [← hV]; exact ⟨hs2.bx, hs2.dr, hs2.by_⟩
        have hxV : Bq V (wr.alloc (.cells (encW x).toArray 73)).heap.size 3 #[.int .i64 x.w.n] := by rw [← hV]; exact hbx2
        obtain ⟨v', w', p1, p2, p3, p4⟩ := append_num V 37 W0.heap.size (.slice a m c) _ x.w.n _ hsV.dr hxV (Nat.le_trans hbw.size hbV.size) (by omega)
        obtain ⟨a', c', ef'⟩ := owns_form p2
        have hm' : ((s.dr (s.draws ++ (l.take j).map fun x => x.w.n)).draws ++ [x.w.n]).length = m + 1 := by rw [List.length_append, hm]; rfl
        rw [hm'] at p2 ef'
        subst ef'
        have kg := Kp.of_grown (N := fun k => (Value.slice a m c).ownBlock = some k) p3 (fun k hk => hk)
        have hnb : (Value.slice a m c).ownBlock ≠ some b := owns_ty hsV.dr hsV.bx (by decide)
        have hbw' := hsV.bx.kp kg hnb
        have hnb' : (Value.slice a' (m + 1) c').ownBlock ≠ some b := owns_ty p2 hbw' (by decide)
        have cb' := hbw'.cell 7 (.slice a m c) rfl
        have fb' := hbw'.frozen 7
        have hne : ∀ i, bv.ownBlock = some i → (Value.slice a m c).ownBlock ≠ some i := fun i hi e => by
          rcases hsV.by_ with ⟨e1, _⟩ | ⟨g1, _, _, _, e1, _, hg1, _⟩
          · rw [e1] at hi; cases hi
          · obtain ⟨_, (⟨e2, _⟩ | ⟨g2, _, _, e2, _, hg2, _⟩)⟩ := hsV.dr
            · rw [e2] at e; cases e
            · rw [e1] at hi; rw [e2] at e; cases hi; cases e; rw [hg1] at hg2; cases hg2
        have hset : StO W0.heap.size (w'.setCell ⟨b, 7, none⟩ (.slice a' (m + 1) c')) b (s.dr (s.draws ++ (l.take (j + 1)).map fun x => x.w.n)) (.slice a' (m + 1) c') bv := by
          have kset := Kp.set (N := fun i => i = b) w' ⟨b, 7, none⟩ (.slice a' (m + 1) c') rfl
          refine ⟨?_, ?_, ?_⟩
          · have := hbw'.sets 7 (.slice a' (m + 1) c')
            exact this
          · rw [nums_take hx, ← List.append_assoc]
            refine owns_kp (C := flat enN ((s.draws ++ (l.take j).map fun x => x.w.n) ++ [x.w.n])) ?_ kset (fun i hi e => hnb' (by rw [hi, e]))
            have := p2
            rw [← hm'] at this
            rw [hm'] at this
            rw [show (s.dr ((s.draws ++ (l.take j).map fun x => x.w.n) ++ [x.w.n])).draws.length = m + 1 from hm']
            exact this
          · exact ownsF_kp (ownsF_kp hsV.by_ kg (fun i hi e => hne i hi e)) kset (fun i hi e => ownsF_ty hsV.by_ hsV.bx (by decide) (by rw [hi, e]))
        have hkk : Kp (fun i => i = b ∨ dv.ownBlock = some i) W (w'.setCell ⟨b, 7, none⟩ (.slice a' (m + 1) c')) := by
          refine (hk.trans (Kp.of_below (N := fun _ => False) hbV) (fun _ e => e.elim)).trans ((kg.wk (N' := fun k => (Value.slice a m c).ownBlock = some k ∨ k = b) (fun i h => .inl h)).trans (Kp.set (N := fun i => i = b) w' ⟨b, 7, none⟩ (.slice a' (m + 1) c') rfl) (fun i hi => .inl (.inr hi))) (fun i hi => ?_)
          rcases hi with hi | rfl
          · rcases hdo i hi with e | e
            · exact .inl (.inr e)
            · exact .inr e
          · exact .inl (.inl rfl)
        have hown : ∀ i, (Value.slice a' (m + 1) c').ownBlock = some i → dv.ownBlock = some i ∨ W.heap.size ≤ i := fun i hi => by
          rcases p4 with e | e
          · exact hdo i (by rw [← e]; exact hi)
          · rw [hi] at e; cases e; exact .inr (Nat.le_trans hk.size hbV.size)
        have HN2 := hide (show ∃ dvj, StO W0.heap.size (w'.setCell ⟨b, 7, none⟩ (.slice a' (m + 1) c')) b (s.dr (s.draws ++ (l.take (j + 1)).map fun x => x.w.n)) dvj bv ∧ Kp (fun i => i = b ∨ dv.ownBlock = some i) W (w'.setCell ⟨b, 7, none⟩ (.slice a' (m + 1) c')) ∧ (∀ i, dvj.ownBlock = some i → dv.ownBlock = some i ∨ W.heap.size ≤ i) ∧ allN (l.take (j + 1)) = true from ⟨_, hset, hkk, hown, allN_take hx h3 hall⟩)
        rw [← hV] at p1
        have cb2 := cell_below cb (ballc (Below.refl _ (wr.alloc (.cells (encW x).toArray 73))) (.cells #[.int .i64 x.w.n] 3))
        have e22 := cell_below e2 (ballc (Below.refl _ (wr.alloc (.cells (encW x).toArray 73))) (.cells #[.int .i64 x.w.n] 3))
        rw [World.size_alloc] at p1
        unfold encW at p1 e0 e2 cb cb2 e22
        have HA := hide p1
        clear hs hk hdo hall hx q0 q1 q2 q3 q4 hbw hm hbx hb1 hs1 h3 H hglt p1 p2 p3 p4 hm' kg hnb hbw' hnb' hne hset hkk hown hbx2 hb2 hs2 hbV hsV hxV hV hml
        go_upto_region 6 with fail
        go_region_law (refine step_append_eq rfl (.tmp 19) (.tmp 22) 37 rfl _ _ _ (by simp [Act.eval, Act.put]) (by simp [Act.eval, Act.put]) (unhide HA) ?_)
        all_goals (
          go_wp2
          go_roundw
          case rel => exact ⟨j + 1, by go_num, by omega, HN2⟩
          case measure => simp [RowKit.intOf]; omega)
      · have kx : ((x.w.k : Int) != 3) = true := by rw [bne_iff_ne]; omega
        have HF := hide (show TkA W0.heap.size W b s dv bv l (.returned (.bool false)) (wr.alloc (.cells (encW x).toArray 73)) from ⟨_, _, by rw [allN_not hx h3], (fun e => by rw [allN_not hx h3] at e; cases e), hs1, hk.trans (Kp.of_below (N := fun _ => False) hb1) (fun _ e => e.elim)⟩)
        unfold encW at HF e0 e2 cb
        clear hs hk hdo hall hx q0 q1 q2 q3 q4 hbw hm hbx hb1 hs1 h3 H hglt e2 cb
        go_wp2
        go_ret
        exact unhide HF
    · obtain rfl : j = N := by omega
      obtain ⟨dvj, hs, hk, hdo, hall⟩ := unhide H
      have kd : decide ((j : Int) < (j : Int)) = false := by simp
      have e1 : l.take j = l := List.take_of_length_le (by rw [unhide HN]; exact Nat.le_refl _)
      rw [e1] at hs hall
      have HF := hide (show TkA W0.heap.size W b s dv bv l (.returned (.bool true)) wr from ⟨_, _, by rw [hall], fun _ => rfl, hs, hk⟩)
      clear hs hk hdo hall H e1
      go_wp2
      go_ret
      exact unhide HF
end Go.Proofs.YtkndjbmlkfpfoaaGreatDoor

/-
  What a field takes of a line's words.
-/
set_option linter.unusedSimpArgs false
set_option linter.unusedVariables false
namespace Go.Proofs.YtkndjbmlkfpfoaaGreatDoor
open Go.RowKit Go.Lib

def Sp.num (s : Sp) (f : Nat) (v : Int) : Sp := match f with
  | 0 => { s with site := v }
  | 1 => { s with peer := v }
  | 2 => { s with at_ := v }
  | _ => { s with n := v }
def Sp.txt (s : Sp) (t : ByteArray) : Sp := { s with text := t }
def Sp.dat (s : Sp) (t : List UInt8) : Sp := { s with data := t }
/-- what a field takes: the step, and how many words -/
def tkF (s : Sp) (f : Nat) (l : List It) : Option (Sp × Nat) :=
  if f = 4 then (if allN l then some (s.dr (s.draws ++ l.map fun x => x.w.n), l.length) else none)
  else match l with
    | [] => none
    | x :: _ => if f < 4 then (if x.w.k = 3 then some (s.num f x.w.n, 1) else none)
        else if x.w.k = 2 then some (if f = 5 then s.txt x.w.t else s.dat x.w.t.data.toList, 1) else none
def TkR (N : Nat) (W : World) (b : Nat) (s : Sp) (dv bv : Value) (r : Option (Sp × Nat)) (e : Ending) (W' : World) : Prop :=
  ∃ (s' : Sp) (n : Nat) (dv' bv' : Value), e = .returned (.tuple #[.int .i64 (n : Int), .bool r.isSome]) ∧ (∀ x, r = some x → x = (s', n)) ∧ StO N W' b s' dv' bv' ∧ Kp (fun i => i = b ∨ dv.ownBlock = some i) W W'

set_option maxRecDepth 100000 in
set_option maxHeartbeats 4000000 in
theorem take0 {W0 W : World} {b : Nat} {s : Sp} {dv bv wv : Value} {l : List It} (hb0 : Below W0.heap.size W0 W) (h : StO W0.heap.size W b s dv bv) (hNb : W0.heap.size ≤ b) (hr : RW W0 wv l) (hl : l.length ≤ 1000000) (hd : s.draws.length ≤ 1000000) (ht : ∀ x ∈ l, x.w.t.size ≤ 1000000) :
    Calls Tryz.prog 60 #[.agg #[(.func (.func 47) #[] #[]), .nilFunc, .nilFunc, .nilFunc], .pointer (some ⟨b, 0, none⟩), wv] W (TkR W0.heap.size W b s dv bv (tkF s 0 l)) := by
  obtain ⟨a0, c0, rfl⟩ := hr.form
  obtain ⟨X, hX⟩ : ∃ X, W.alloc (.cells #[(.func (.func 47) #[] #[]), .nilFunc, .nilFunc, .nilFunc] 117) = X := ⟨_, rfl⟩
  have hb1 : Below W.heap.size W X := by rw [← hX]; exact ballc (Below.refl _ _) _
  have hbx : Bq X W.heap.size 117 #[(.func (.func 47) #[] #[]), .nilFunc, .nilFunc, .nilFunc] := by rw [← hX]; exact Bq.new _ _ _
  have hbX := bnext hb0 hb1
  have h1 := h.below hb1
  have q0 := hbx.cell 0 _ rfl
  have q1 := hbx.cell 1 _ rfl
  have q2 := hbx.cell 2 _ rfl
  have q3 := hbx.cell 3 _ rfl
  have g0 := fun w => run_neq_fnn (P := Tryz.prog) w 112 Tryz.underlying112
  have g1 := fun w => run_neq_fnn (P := Tryz.prog) w 113 Tryz.underlying113
  have g2 := fun w => run_neq_fnn (P := Tryz.prog) w 114 Tryz.underlying114
  have g3 := fun w => run_neq_fnn (P := Tryz.prog) w 115 Tryz.underlying115
  have gf := fun w => run_neq_fnil (P := Tryz.prog) w 112 (.func 47) #[] #[] Tryz.underlying112
  cases l with
  | nil =>
    have HF := hide (show TkR W0.heap.size W b s dv bv (tkF s 0 []) (.returned (.tuple #[.int .i64 ((0 : Nat) : Int), .bool false])) X from ⟨s, 0, dv, bv, rfl, (fun x hx => by cases hx), h1, Kp.of_below hb1⟩)
    clear hb0 h hr hb1 hbx hbX h1
    go_enter Tryz.func60, Tryz.ntmps60
    go_wp2
    refine bodyPost_ret (results_tmp2 rfl _ _ _) rfl ?_
    exact unhide HF
  | cons x l =>
    obtain ⟨g, off, rfl, hglt, w0, w1, w2, w3, w4⟩ := hr.at (i := 0) (x := x) rfl
    rw [Nat.zero_mul, Nat.add_zero] at w0 w1 w2 w3 w4
    have d0 := cell_below w0 hbX
    have d1 := cell_below w1 hbX
    have d2 := cell_below w2 hbX
    have d3 := cell_below w3 hbX
    have d4 := cell_below w4 hbX
    have hbw := Bq.new X 73 (encW x).toArray
    have hb2 := ballc (Below.refl _ X) (.cells (encW x).toArray 73)
    have h2 := h1.below hb2
    have e0 := hbw.cell 0 (.int .i64 (x.w.k : Int)) rfl
    have e1 := hbw.cell 1 (.string x.w.t) rfl
    have e2 := hbw.cell 2 (.int .i64 x.w.n) rfl
    have r0 := (hbx.keep hb2 hbx.lt).cell 0 _ rfl
    have r1 := (hbx.keep hb2 hbx.lt).cell 1 _ rfl
    have r2 := (hbx.keep hb2 hbx.lt).cell 2 _ rfl
    have r3 := (hbx.keep hb2 hbx.lt).cell 3 _ rfl
    have hlen : ((x :: l).length : Int) ≠ 0 := by rw [List.length_cons]; omega
    obtain ⟨N, hN⟩ : ∃ N, (x :: l).length = N := ⟨_, rfl⟩
    rw [hN] at hlen ⊢
    have hz : ((N : Int) == 0) = false := by rw [beq_eq_false_iff_ne]; exact hlen
    have hN0 : (0 : Int) < (N : Int) := by rw [← hN, List.length_cons]; omega
    by_cases hk : x.w.k = 3
    · have kx : ((x.w.k : Int) == 3) = true := by rw [hk]; rfl
      have hsb := h2.bx.sets 1 (.int .i64 x.w.n)
      have kset := Kp.set (N := fun i => i = b) (X.alloc (.cells (encW x).toArray 73)) ⟨b, 1, none⟩ (.int .i64 x.w.n) rfl
      have hst : StO W0.heap.size ((X.alloc (.cells (encW x).toArray 73)).setCell ⟨b, 1, none⟩ (.int .i64 x.w.n)) b (s.num 0 x.w.n) dv bv := ⟨hsb, owns_kp h2.dr kset (fun i hi e => owns_ty h2.dr h2.bx (by decide) (by rw [hi, e])), ownsF_kp h2.by_ kset (fun i hi e => ownsF_ty h2.by_ h2.bx (by decide) (by rw [hi, e]))⟩
      have HF := hide (show TkR W0.heap.size W b s dv bv (tkF s 0 (x :: l)) (.returned (.tuple #[.int .i64 1, .bool true])) ((X.alloc (.cells (encW x).toArray 73)).setCell ⟨b, 1, none⟩ (.int .i64 x.w.n)).drew from ⟨s.num 0 x.w.n, 1, dv, bv, by simp [tkF, hk], (fun y hy => by simp [tkF, hk] at hy; exact hy.symm), ⟨hst.bx, hst.dr, hst.by_⟩, ((Kp.of_below (N := fun i => i = b ∨ dv.ownBlock = some i) (bnext hb1 hb2)).trans kset (fun i hi => .inl (.inl hi))).drew⟩)
      have cb := h2.bx.cell 1 _ rfl
      have fb := h2.bx.frozen 1
      unfold encW at HF e0 e1 e2 r0 r1 r2 r3 cb fb
      clear hb0 h hr hb1 hbx hbX h1 w0 w1 w2 w3 w4 hbw hb2 h2 hk hglt hlen hN hsb kset hst
      go_enter Tryz.func60, Tryz.ntmps60
      go_upto_region 8 with fail
      go_region_law (go_simp; go_at_call 47; (with_reducible refine (ptr_in0 _ _).mono ?_); rintro e W2 ⟨rfl, rfl⟩)
      all_goals (
        go_wp2
        refine bodyPost_ret (results_tmp2 rfl _ _ _) rfl ?_
        exact unhide HF)
    · have kx : ((x.w.k : Int) == 3) = false := by rw [beq_eq_false_iff_ne]; omega
      have HF := hide (show TkR W0.heap.size W b s dv bv (tkF s 0 (x :: l)) (.returned (.tuple #[.int .i64 ((0 : Nat) : Int), .bool false])) (X.alloc (.cells (encW x).toArray 73)) from ⟨s, 0, dv, bv, by simp [tkF, hk], (fun y hy => by simp [tkF, hk] at hy), h2, Kp.of_below (bnext hb1 hb2)⟩)
      unfold encW at HF e0 e1 e2 r0 r1 r2 r3
      clear hb0 h hr hb1 hbx hbX h1 w0 w1 w2 w3 w4 hbw hb2 h2 hk hglt hlen hN e1 e2
      go_enter Tryz.func60, Tryz.ntmps60
      go_wp2
      refine bodyPost_ret (results_tmp2 rfl _ _ _) rfl ?_
      exact unhide HF

set_option maxRecDepth 100000 in
set_option maxHeartbeats 4000000 in
theorem take1 {W0 W : World} {b : Nat} {s : Sp} {dv bv wv : Value} {l : List It} (hb0 : Below W0.heap.size W0 W) (h : StO W0.heap.size W b s dv bv) (hNb : W0.heap.size ≤ b) (hr : RW W0 wv l) (hl : l.length ≤ 1000000) (hd : s.draws.length ≤ 1000000) (ht : ∀ x ∈ l, x.w.t.size ≤ 1000000) :
    Calls Tryz.prog 60 #[.agg #[(.func (.func 48) #[] #[]), .nilFunc, .nilFunc, .nilFunc], .pointer (some ⟨b, 0, none⟩), wv] W (TkR W0.heap.size W b s dv bv (tkF s 1 l)) := by
  obtain ⟨a0, c0, rfl⟩ := hr.form
  obtain ⟨X, hX⟩ : ∃ X, W.alloc (.cells #[(.func (.func 48) #[] #[]), .nilFunc, .nilFunc, .nilFunc] 117) = X := ⟨_, rfl⟩
  have hb1 : Below W.heap.size W X := by rw [← hX]; exact ballc (Below.refl _ _) _
  have hbx : Bq X W.heap.size 117 #[(.func (.func 48) #[] #[]), .nilFunc, .nilFunc, .nilFunc] := by rw [← hX]; exact Bq.new _ _ _
  have hbX := bnext hb0 hb1
  have h1 := h.below hb1
  have q0 := hbx.cell 0 _ rfl
  have q1 := hbx.cell 1 _ rfl
  have q2 := hbx.cell 2 _ rfl
  have q3 := hbx.cell 3 _ rfl
  have g0 := fun w => run_neq_fnn (P := Tryz.prog) w 112 Tryz.underlying112
  have g1 := fun w => run_neq_fnn (P := Tryz.prog) w 113 Tryz.underlying113
  have g2 := fun w => run_neq_fnn (P := Tryz.prog) w 114 Tryz.underlying114
  have g3 := fun w => run_neq_fnn (P := Tryz.prog) w 115 Tryz.underlying115
  have gf := fun w => run_neq_fnil (P := Tryz.prog) w 112 (.func 48) #[] #[] Tryz.underlying112
  cases l with
  | nil =>
    have HF := hide (show TkR W0.heap.size W b s dv bv (tkF s 1 []) (.returned (.tuple #[.int .i64 ((0 : Nat) : Int), .bool false])) X from ⟨s, 0, dv, bv, rfl, (fun x hx => by cases hx), h1, Kp.of_below hb1⟩)
    clear hb0 h hr hb1 hbx hbX h1
    go_enter Tryz.func60, Tryz.ntmps60
    go_wp2
    refine bodyPost_ret (results_tmp2 rfl _ _ _) rfl ?_
    exact unhide HF
  | cons x l =>
    obtain ⟨g, off, rfl, hglt, w0, w1, w2, w3, w4⟩ := hr.at (i := 0) (x := x) rfl
    rw [Nat.zero_mul, Nat.add_zero] at w0 w1 w2 w3 w4
    have d0 := cell_below w0 hbX
    have d1 := cell_below w1 hbX
    have d2 := cell_below w2 hbX
    have d3 := cell_below w3 hbX
    have d4 := cell_below w4 hbX
    have hbw := Bq.new X 73 (encW x).toArray
    have hb2 := ballc (Below.refl _ X) (.cells (encW x).toArray 73)
    have h2 := h1.below hb2
    have e0 := hbw.cell 0 (.int .i64 (x.w.k : Int)) rfl
    have e1 := hbw.cell 1 (.string x.w.t) rfl
    have e2 := hbw.cell 2 (.int .i64 x.w.n) rfl
    have r0 := (hbx.keep hb2 hbx.lt).cell 0 _ rfl
    have r1 := (hbx.keep hb2 hbx.lt).cell 1 _ rfl
    have r2 := (hbx.keep hb2 hbx.lt).cell 2 _ rfl
    have r3 := (hbx.keep hb2 hbx.lt).cell 3 _ rfl
    have hlen : ((x :: l).length : Int) ≠ 0 := by rw [List.length_cons]; omega
    obtain ⟨N, hN⟩ : ∃ N, (x :: l).length = N := ⟨_, rfl⟩
    rw [hN] at hlen ⊢
    have hz : ((N : Int) == 0) = false := by rw [beq_eq_false_iff_ne]; exact hlen
    have hN0 : (0 : Int) < (N : Int) := by rw [← hN, List.length_cons]; omega
    by_cases hk : x.w.k = 3
    · have kx : ((x.w.k : Int) == 3) = true := by rw [hk]; rfl
      have hsb := h2.bx.sets 2 (.int .i64 x.w.n)
      have kset := Kp.set (N := fun i => i = b) (X.alloc (.cells (encW x).toArray 73)) ⟨b, 2, none⟩ (.int .i64 x.w.n) rfl
      have hst : StO W0.heap.size ((X.alloc (.cells (encW x).toArray 73)).setCell ⟨b, 2, none⟩ (.int .i64 x.w.n)) b (s.num 1 x.w.n) dv bv := ⟨hsb, owns_kp h2.dr kset (fun i hi e => owns_ty h2.dr h2.bx (by decide) (by rw [hi, e])), ownsF_kp h2.by_ kset (fun i hi e => ownsF_ty h2.by_ h2.bx (by decide) (by rw [hi, e]))⟩
      have HF := hide (show TkR W0.heap.size W b s dv bv (tkF s 1 (x :: l)) (.returned (.tuple #[.int .i64 1, .bool true])) ((X.alloc (.cells (encW x).toArray 73)).setCell ⟨b, 2, none⟩ (.int .i64 x.w.n)).drew from ⟨s.num 1 x.w.n, 1, dv, bv, by simp [tkF, hk], (fun y hy => by simp [tkF, hk] at hy; exact hy.symm), ⟨hst.bx, hst.dr, hst.by_⟩, ((Kp.of_below (N := fun i => i = b ∨ dv.ownBlock = some i) (bnext hb1 hb2)).trans kset (fun i hi => .inl (.inl hi))).drew⟩)
      have cb := h2.bx.cell 2 _ rfl
      have fb := h2.bx.frozen 2
      unfold encW at HF e0 e1 e2 r0 r1 r2 r3 cb fb
      clear hb0 h hr hb1 hbx hbX h1 w0 w1 w2 w3 w4 hbw hb2 h2 hk hglt hlen hN hsb kset hst
      go_enter Tryz.func60, Tryz.ntmps60
      go_upto_region 8 with fail
      go_region_law (go_simp; go_at_call 48; (with_reducible refine (ptr_in1 _ _).mono ?_); rintro e W2 ⟨rfl, rfl⟩)
      all_goals (
        go_wp2
        refine bodyPost_ret (results_tmp2 rfl _ _ _) rfl ?_
        exact unhide HF)
    · have kx : ((x.w.k : Int) == 3) = false := by rw [beq_eq_false_iff_ne]; omega
      have HF := hide (show TkR W0.heap.size W b s dv bv (tkF s 1 (x :: l)) (.returned (.tuple #[.int .i64 ((0 : Nat) : Int), .bool false])) (X.alloc (.cells (encW x).toArray 73)) from ⟨s, 0, dv, bv, by simp [tkF, hk], (fun y hy => by simp [tkF, hk] at hy), h2, Kp.of_below (bnext hb1 hb2)⟩)
      unfold encW at HF e0 e1 e2 r0 r1 r2 r3
      clear hb0 h hr hb1 hbx hbX h1 w0 w1 w2 w3 w4 hbw hb2 h2 hk hglt hlen hN e1 e2
      go_enter Tryz.func60, Tryz.ntmps60
      go_wp2
      refine bodyPost_ret (results_tmp2 rfl _ _ _) rfl ?_
      exact unhide HF

set_option maxRecDepth 100000 in
set_option maxHeartbeats 4000000 in
theorem take2 {W0 W : World} {b : Nat} {s : Sp} {dv bv wv : Value} {l : List It} (hb0 : Below W0.heap.size W0 W) (h : StO W0.heap.size W b s dv bv) (hNb : W0.heap.size ≤ b) (hr : RW W0 wv l) (hl : l.length ≤ 1000000) (hd : s.draws.length ≤ 1000000) (ht : ∀ x ∈ l, x.w.t.size ≤ 1000000) :
    Calls Tryz.prog 60 #[.agg #[(.func (.func 49) #[] #[]), .nilFunc, .nilFunc, .nilFunc], .pointer (some ⟨b, 0, none⟩), wv] W (TkR W0.heap.size W b s dv bv (tkF s 2 l)) := by
  obtain ⟨a0, c0, rfl⟩ := hr.form
  obtain ⟨X, hX⟩ : ∃ X, W.alloc (.cells #[(.func (.func 49) #[] #[]), .nilFunc, .nilFunc, .nilFunc] 117) = X := ⟨_, rfl⟩
  have hb1 : Below W.heap.size W X := by rw [← hX]; exact ballc (Below.refl _ _) _
  have hbx : Bq X W.heap.size 117 #[(.func (.func 49) #[] #[]), .nilFunc, .nilFunc, .nilFunc] := by rw [← hX]; exact Bq.new _ _ _
  have hbX := bnext hb0 hb1
  have h1 := h.below hb1
  have q0 := hbx.cell 0 _ rfl
  have q1 := hbx.cell 1 _ rfl
  have q2 := hbx.cell 2 _ rfl
  have q3 := hbx.cell 3 _ rfl
  have g0 := fun w => run_neq_fnn (P := Tryz.prog) w 112 Tryz.underlying112
  have g1 := fun w => run_neq_fnn (P := Tryz.prog) w 113 Tryz.underlying113
  have g2 := fun w => run_neq_fnn (P := Tryz.prog) w 114 Tryz.underlying114
  have g3 := fun w => run_neq_fnn (P := Tryz.prog) w 115 Tryz.underlying115
  have gf := fun w => run_neq_fnil (P := Tryz.prog) w 112 (.func 49) #[] #[] Tryz.underlying112
  cases l with
  | nil =>
    have HF := hide (show TkR W0.heap.size W b s dv bv (tkF s 2 []) (.returned (.tuple #[.int .i64 ((0 : Nat) : Int), .bool false])) X from ⟨s, 0, dv, bv, rfl, (fun x hx => by cases hx), h1, Kp.of_below hb1⟩)
    clear hb0 h hr hb1 hbx hbX h1
    go_enter Tryz.func60, Tryz.ntmps60
    go_wp2
    refine bodyPost_ret (results_tmp2 rfl _ _ _) rfl ?_
    exact unhide HF
  | cons x l =>
    obtain ⟨g, off, rfl, hglt, w0, w1, w2, w3, w4⟩ := hr.at (i := 0) (x := x) rfl
    rw [Nat.zero_mul, Nat.add_zero] at w0 w1 w2 w3 w4
    have d0 := cell_below w0 hbX
    have d1 := cell_below w1 hbX
    have d2 := cell_below w2 hbX
    have d3 := cell_below w3 hbX
    have d4 := cell_below w4 hbX
    have hbw := Bq.new X 73 (encW x).toArray
    have hb2 := ballc (Below.refl _ X) (.cells (encW x).toArray 73)
    have h2 := h1.below hb2
    have e0 := hbw.cell 0 (.int .i64 (x.w.k : Int)) rfl
    have e1 := hbw.cell 1 (.string x.w.t) rfl
    have e2 := hbw.cell 2 (.int .i64 x.w.n) rfl
    have r0 := (hbx.keep hb2 hbx.lt).cell 0 _ rfl
    have r1 := (hbx.keep hb2 hbx.lt).cell 1 _ rfl
    have r2 := (hbx.keep hb2 hbx.lt).cell 2 _ rfl
    have r3 := (hbx.keep hb2 hbx.lt).cell 3 _ rfl
    have hlen : ((x :: l).length : Int) ≠ 0 := by rw [List.length_cons]; omega
    obtain ⟨N, hN⟩ : ∃ N, (x :: l).length = N := ⟨_, rfl⟩
    rw [hN] at hlen ⊢
    have hz : ((N : Int) == 0) = false := by rw [beq_eq_false_iff_ne]; exact hlen
    have hN0 : (0 : Int) < (N : Int) := by rw [← hN, List.length_cons]; omega
    by_cases hk : x.w.k = 3
    · have kx : ((x.w.k : Int) == 3) = true := by rw [hk]; rfl
      have hsb := h2.bx.sets 4 (.int .i64 x.w.n)
      have kset := Kp.set (N := fun i => i = b) (X.alloc (.cells (encW x).toArray 73)) ⟨b, 4, none⟩ (.int .i64 x.w.n) rfl
      have hst : StO W0.heap.size ((X.alloc (.cells (encW x).toArray 73)).setCell ⟨b, 4, none⟩ (.int .i64 x.w.n)) b (s.num 2 x.w.n) dv bv := ⟨hsb, owns_kp h2.dr kset (fun i hi e => owns_ty h2.dr h2.bx (by decide) (by rw [hi, e])), ownsF_kp h2.by_ kset (fun i hi e => ownsF_ty h2.by_ h2.bx (by decide) (by rw [hi, e]))⟩
      have HF := hide (show TkR W0.heap.size W b s dv bv (tkF s 2 (x :: l)) (.returned (.tuple #[.int .i64 1, .bool true])) ((X.alloc (.cells (encW x).toArray 73)).setCell ⟨b, 4, none⟩ (.int .i64 x.w.n)).drew from ⟨s.num 2 x.w.n, 1, dv, bv, by simp [tkF, hk], (fun y hy => by simp [tkF, hk] at hy; exact hy.symm), ⟨hst.bx, hst.dr, hst.by_⟩, ((Kp.of_below (N := fun i => i = b ∨ dv.ownBlock = some i) (bnext hb1 hb2)).trans kset (fun i hi => .inl (.inl hi))).drew⟩)
      have cb := h2.bx.cell 4 _ rfl
      have fb := h2.bx.frozen 4
      unfold encW at HF e0 e1 e2 r0 r1 r2 r3 cb fb
      clear hb0 h hr hb1 hbx hbX h1 w0 w1 w2 w3 w4 hbw hb2 h2 hk hglt hlen hN hsb kset hst
      go_enter Tryz.func60, Tryz.ntmps60
      go_upto_region 8 with fail
      go_region_law (go_simp; go_at_call 49; (with_reducible refine (ptr_in2 _ _).mono ?_); rintro e W2 ⟨rfl, rfl⟩)
      all_goals (
        go_wp2
        refine bodyPost_ret (results_tmp2 rfl _ _ _) rfl ?_
        exact unhide HF)
    · have kx : ((x.w.k : Int) == 3) = false := by rw [beq_eq_false_iff_ne]; omega
      have HF := hide (show TkR W0.heap.size W b s dv bv (tkF s 2 (x :: l)) (.returned (.tuple #[.int .i64 ((0 : Nat) : Int), .bool false])) (X.alloc (.cells (encW x).toArray 73)) from ⟨s, 0, dv, bv, by simp [tkF, hk], (fun y hy => by simp [tkF, hk] at hy), h2, Kp.of_below (bnext hb1 hb2)⟩)
      unfold encW at HF e0 e1 e2 r0 r1 r2 r3
      clear hb0 h hr hb1 hbx hbX h1 w0 w1 w2 w3 w4 hbw hb2 h2 hk hglt hlen hN e1 e2
      go_enter Tryz.func60, Tryz.ntmps60
      go_wp2
      refine bodyPost_ret (results_tmp2 rfl _ _ _) rfl ?_
      exact unhide HF

set_option maxRecDepth 100000 in
set_option maxHeartbeats 4000000 in
theorem take3 {W0 W : World} {b : Nat} {s : Sp} {dv bv wv : Value} {l : List It} (hb0 : Below W0.heap.size W0 W) (h : StO W0.heap.size W b s dv bv) (hNb : W0.heap.size ≤ b) (hr : RW W0 wv l) (hl : l.length ≤ 1000000) (hd : s.draws.length ≤ 1000000) (ht : ∀ x ∈ l, x.w.t.size ≤ 1000000) :
    Calls Tryz.prog 60 #[.agg #[(.func (.func 50) #[] #[]), .nilFunc, .nilFunc, .nilFunc], .pointer (some ⟨b, 0, none⟩), wv] W (TkR W0.heap.size W b s dv bv (tkF s 3 l)) := by
  obtain ⟨a0, c0, rfl⟩ := hr.form
  obtain ⟨X, hX⟩ : ∃ X, W.alloc (.cells #[(.func (.func 50) #[] #[]), .nilFunc, .nilFunc, .nilFunc] 117) = X := ⟨_, rfl⟩
  have hb1 : Below W.heap.size W X := by rw [← hX]; exact ballc (Below.refl _ _) _
  have hbx : Bq X W.heap.size 117 #[(.func (.func 50) #[] #[]), .nilFunc, .nilFunc, .nilFunc] := by rw [← hX]; exact Bq.new _ _ _
  have hbX := bnext hb0 hb1
  have h1 := h.below hb1
  have q0 := hbx.cell 0 _ rfl
  have q1 := hbx.cell 1 _ rfl
  have q2 := hbx.cell 2 _ rfl
  have q3 := hbx.cell 3 _ rfl
  have g0 := fun w => run_neq_fnn (P := Tryz.prog) w 112 Tryz.underlying112
  have g1 := fun w => run_neq_fnn (P := Tryz.prog) w 113 Tryz.underlying113
  have g2 := fun w => run_neq_fnn (P := Tryz.prog) w 114 Tryz.underlying114
  have g3 := fun w => run_neq_fnn (P := Tryz.prog) w 115 Tryz.underlying115
  have gf := fun w => run_neq_fnil (P := Tryz.prog) w 112 (.func 50) #[] #[] Tryz.underlying112
  cases l with
  | nil =>
    have HF := hide (show TkR W0.heap.size W b s dv bv (tkF s 3 []) (.returned (.tuple #[.int .i64 ((0 : Nat) : Int), .bool false])) X from ⟨s, 0, dv, bv, rfl, (fun x hx => by cases hx), h1, Kp.of_below hb1⟩)
    clear hb0 h hr hb1 hbx hbX h1
    go_enter Tryz.func60, Tryz.ntmps60
    go_wp2
    refine bodyPost_ret (results_tmp2 rfl _ _ _) rfl ?_
    exact unhide HF
  | cons x l =>
    obtain ⟨g, off, rfl, hglt, w0, w1, w2, w3, w4⟩ := hr.at (i := 0) (x := x) rfl
    rw [Nat.zero_mul, Nat.add_zero] at w0 w1 w2 w3 w4
    have d0 := cell_below w0 hbX
    have d1 := cell_below w1 hbX
    have d2 := cell_below w2 hbX
    have d3 := cell_below w3 hbX
    have d4 := cell_below w4 hbX
    have hbw := Bq.new X 73 (encW x).toArray
    have hb2 := ballc (Below.refl _ X) (.cells (encW x).toArray 73)
    have h2 := h1.below hb2
    have e0 := hbw.cell 0 (.int .i64 (x.w.k : Int)) rfl
    have e1 := hbw.cell 1 (.string x.w.t) rfl
    have e2 := hbw.cell 2 (.int .i64 x.w.n) rfl
    have r0 := (hbx.keep hb2 hbx.lt).cell 0 _ rfl
    have r1 := (hbx.keep hb2 hbx.lt).cell 1 _ rfl
    have r2 := (hbx.keep hb2 hbx.lt).cell 2 _ rfl
    have r3 := (hbx.keep hb2 hbx.lt).cell 3 _ rfl
    have hlen : ((x :: l).length : Int) ≠ 0 := by rw [List.length_cons]; omega
    obtain ⟨N, hN⟩ : ∃ N, (x :: l).length = N := ⟨_, rfl⟩
    rw [hN] at hlen ⊢
    have hz : ((N : Int) == 0) = false := by rw [beq_eq_false_iff_ne]; exact hlen
    have hN0 : (0 : Int) < (N : Int) := by rw [← hN, List.length_cons]; omega
    by_cases hk : x.w.k = 3
    · have kx : ((x.w.k : Int) == 3) = true := by rw [hk]; rfl
      have hsb := h2.bx.sets 5 (.int .i64 x.w.n)
      have kset := Kp.set (N := fun i => i = b) (X.alloc (.cells (encW x).toArray 73)) ⟨b, 5, none⟩ (.int .i64 x.w.n) rfl
      have hst : StO W0.heap.size ((X.alloc (.cells (encW x).toArray 73)).setCell ⟨b, 5, none⟩ (.int .i64 x.w.n)) b (s.num 3 x.w.n) dv bv := ⟨hsb, owns_kp h2.dr kset (fun i hi e => owns_ty h2.dr h2.bx (by decide) (by rw [hi, e])), ownsF_kp h2.by_ kset (fun i hi e => ownsF_ty h2.by_ h2.bx (by decide) (by rw [hi, e]))⟩
      have HF := hide (show TkR W0.heap.size W b s dv bv (tkF s 3 (x :: l)) (.returned (.tuple #[.int .i64 1, .bool true])) ((X.alloc (.cells (encW x).toArray 73)).setCell ⟨b, 5, none⟩ (.int .i64 x.w.n)).drew from ⟨s.num 3 x.w.n, 1, dv, bv, by simp [tkF, hk], (fun y hy => by simp [tkF, hk] at hy; exact hy.symm), ⟨hst.bx, hst.dr, hst.by_⟩, ((Kp.of_below (N := fun i => i = b ∨ dv.ownBlock = some i) (bnext hb1 hb2)).trans kset (fun i hi => .inl (.inl hi))).drew⟩)
      have cb := h2.bx.cell 5 _ rfl
      have fb := h2.bx.frozen 5
      unfold encW at HF e0 e1 e2 r0 r1 r2 r3 cb fb
      clear hb0 h hr hb1 hbx hbX h1 w0 w1 w2 w3 w4 hbw hb2 h2 hk hglt hlen hN hsb kset hst
      go_enter Tryz.func60, Tryz.ntmps60
      go_upto_region 8 with fail
      go_region_law (go_simp; go_at_call 50; (with_reducible refine (ptr_in3 _ _).mono ?_); rintro e W2 ⟨rfl, rfl⟩)
      all_goals (
        go_wp2
        refine bodyPost_ret (results_tmp2 rfl _ _ _) rfl ?_
        exact unhide HF)
    · have kx : ((x.w.k : Int) == 3) = false := by rw [beq_eq_false_iff_ne]; omega
      have HF := hide (show TkR W0.heap.size W b s dv bv (tkF s 3 (x :: l)) (.returned (.tuple #[.int .i64 ((0 : Nat) : Int), .bool false])) (X.alloc (.cells (encW x).toArray 73)) from ⟨s, 0, dv, bv, by simp [tkF, hk], (fun y hy => by simp [tkF, hk] at hy), h2, Kp.of_below (bnext hb1 hb2)⟩)
      unfold encW at HF e0 e1 e2 r0 r1 r2 r3
      clear hb0 h hr hb1 hbx hbX h1 w0 w1 w2 w3 w4 hbw hb2 h2 hk hglt hlen hN e1 e2
      go_enter Tryz.func60, Tryz.ntmps60
      go_wp2
      refine bodyPost_ret (results_tmp2 rfl _ _ _) rfl ?_
      exact unhide HF

set_option maxRecDepth 100000 in
set_option maxHeartbeats 4000000 in
theorem take4 {W0 W : World} {b : Nat} {s : Sp} {dv bv wv : Value} {l : List It} (hb0 : Below W0.heap.size W0 W) (h : StO W0.heap.size W b s dv bv) (hNb : W0.heap.size ≤ b) (hr : RW W0 wv l) (hl : l.length ≤ 1000000) (hd : s.draws.length ≤ 1000000) (ht : ∀ x ∈ l, x.w.t.size ≤ 1000000) :
    Calls Tryz.prog 60 #[.agg #[.nilFunc, (.func (.func 51) #[] #[]), .nilFunc, .nilFunc], .pointer (some ⟨b, 0, none⟩), wv] W (TkR W0.heap.size W b s dv bv (tkF s 4 l)) := by
  obtain ⟨a0, c0, rfl⟩ := hr.form
  obtain ⟨X, hX⟩ : ∃ X, W.alloc (.cells #[.nilFunc, (.func (.func 51) #[] #[]), .nilFunc, .nilFunc] 117) = X := ⟨_, rfl⟩
  have hb1 : Below W.heap.size W X := by rw [← hX]; exact ballc (Below.refl _ _) _
  have hbx : Bq X W.heap.size 117 #[.nilFunc, (.func (.func 51) #[] #[]), .nilFunc, .nilFunc] := by rw [← hX]; exact Bq.new _ _ _
  have hbX := bnext hb0 hb1
  have h1 := h.below hb1
  have q0 := hbx.cell 0 _ rfl
  have q1 := hbx.cell 1 _ rfl
  have q2 := hbx.cell 2 _ rfl
  have q3 := hbx.cell 3 _ rfl
  have g0 := fun w => run_neq_fnn (P := Tryz.prog) w 112 Tryz.underlying112
  have g1 := fun w => run_neq_fnn (P := Tryz.prog) w 113 Tryz.underlying113
  have g2 := fun w => run_neq_fnn (P := Tryz.prog) w 114 Tryz.underlying114
  have g3 := fun w => run_neq_fnn (P := Tryz.prog) w 115 Tryz.underlying115
  have gf := fun w => run_neq_fnil (P := Tryz.prog) w 113 (.func 51) #[] #[] Tryz.underlying113
  have hta := hide (takeAll_in hbX h1 hNb hr hl hd)
  have HB := hide hb1
  obtain ⟨N, hN⟩ : ∃ N, l.length = N := ⟨_, rfl⟩
  rw [hN] at hta ⊢
  have HN := hide hN
  clear hb0 h hr hb1 hbx hbX h1 hN
  go_enter Tryz.func60, Tryz.ntmps60
  go_wp2_with (go_at_call 51; refine (ptr_in4 _ _).mono ?_; rintro e W2 ⟨rfl, rfl⟩)
  refine (unhide hta).mono ?_
  rintro e W2 ⟨dv', ds, rfl, h2, h3, h4⟩
  have HF := hide (show TkR W0.heap.size W b s dv bv (tkF s 4 l) (.returned (.tuple #[.int .i64 (N : Int), .bool (allN l)])) W2 from ⟨s.dr ds, N, dv', bv, by
      unfold tkF
      cases allN l <;> rfl, (fun x hx => by
      unfold tkF at hx
      rw [if_pos rfl] at hx
      split at hx
      · rename_i ha
        cases hx
        rw [h2 ha, unhide HN]
      · cases hx), h3, ((Kp.of_below (N := fun i => i = b ∨ dv.ownBlock = some i) (unhide HB)).trans h4 (fun i hi => .inl hi))⟩)
  clear h2 h3 h4 hta HB HN
  go_wp2
  refine bodyPost_ret (results_tmp2 rfl _ _ _) rfl ?_
  exact unhide HF

set_option maxRecDepth 100000 in
set_option maxHeartbeats 4000000 in
theorem take5 {W0 W : World} {b : Nat} {s : Sp} {dv bv wv : Value} {l : List It} (hb0 : Below W0.heap.size W0 W) (h : StO W0.heap.size W b s dv bv) (hNb : W0.heap.size ≤ b) (hr : RW W0 wv l) (hl : l.length ≤ 1000000) (hd : s.draws.length ≤ 1000000) (ht : ∀ x ∈ l, x.w.t.size ≤ 1000000) :
    Calls Tryz.prog 60 #[.agg #[.nilFunc, .nilFunc, (.func (.func 52) #[] #[]), .nilFunc], .pointer (some ⟨b, 0, none⟩), wv] W (TkR W0.heap.size W b s dv bv (tkF s 5 l)) := by
  obtain ⟨a0, c0, rfl⟩ := hr.form
  obtain ⟨X, hX⟩ : ∃ X, W.alloc (.cells #[.nilFunc, .nilFunc, (.func (.func 52) #[] #[]), .nilFunc] 117) = X := ⟨_, rfl⟩
  have hb1 : Below W.heap.size W X := by rw [← hX]; exact ballc (Below.refl _ _) _
  have hbx : Bq X W.heap.size 117 #[.nilFunc, .nilFunc, (.func (.func 52) #[] #[]), .nilFunc] := by rw [← hX]; exact Bq.new _ _ _
  have hbX := bnext hb0 hb1
  have h1 := h.below hb1
  have q0 := hbx.cell 0 _ rfl
  have q1 := hbx.cell 1 _ rfl
  have q2 := hbx.cell 2 _ rfl
  have q3 := hbx.cell 3 _ rfl
  have g0 := fun w => run_neq_fnn (P := Tryz.prog) w 112 Tryz.underlying112
  have g1 := fun w => run_neq_fnn (P := Tryz.prog) w 113 Tryz.underlying113
  have g2 := fun w => run_neq_fnn (P := Tryz.prog) w 114 Tryz.underlying114
  have g3 := fun w => run_neq_fnn (P := Tryz.prog) w 115 Tryz.underlying115
  have gf := fun w => run_neq_fnil (P := Tryz.prog) w 114 (.func 52) #[] #[] Tryz.underlying114
  cases l with
  | nil =>
    have HF := hide (show TkR W0.heap.size W b s dv bv (tkF s 5 []) (.returned (.tuple #[.int .i64 ((0 : Nat) : Int), .bool false])) X from ⟨s, 0, dv, bv, rfl, (fun x hx => by cases hx), h1, Kp.of_below hb1⟩)
    clear hb0 h hr hb1 hbx hbX h1
    go_enter Tryz.func60, Tryz.ntmps60
    go_wp2
    refine bodyPost_ret (results_tmp2 rfl _ _ _) rfl ?_
    exact unhide HF
  | cons x l =>
    obtain ⟨g, off, rfl, hglt, w0, w1, w2, w3, w4⟩ := hr.at (i := 0) (x := x) rfl
    rw [Nat.zero_mul, Nat.add_zero] at w0 w1 w2 w3 w4
    have d0 := cell_below w0 hbX
    have d1 := cell_below w1 hbX
    have d2 := cell_below w2 hbX
    have d3 := cell_below w3 hbX
    have d4 := cell_below w4 hbX
    have hbw := Bq.new X 73 (encW x).toArray
    have hb2 := ballc (Below.refl _ X) (.cells (encW x).toArray 73)
    have h2 := h1.below hb2
    have e0 := hbw.cell 0 (.int .i64 (x.w.k : Int)) rfl
    have e1 := hbw.cell 1 (.string x.w.t) rfl
    have e2 := hbw.cell 2 (.int .i64 x.w.n) rfl
    have r0 := (hbx.keep hb2 hbx.lt).cell 0 _ rfl
    have r1 := (hbx.keep hb2 hbx.lt).cell 1 _ rfl
    have r2 := (hbx.keep hb2 hbx.lt).cell 2 _ rfl
    have r3 := (hbx.keep hb2 hbx.lt).cell 3 _ rfl
    have hlen : ((x :: l).length : Int) ≠ 0 := by rw [List.length_cons]; omega
    obtain ⟨N, hN⟩ : ∃ N, (x :: l).length = N := ⟨_, rfl⟩
    rw [hN] at hlen ⊢
    have hz : ((N : Int) == 0) = false := by rw [beq_eq_false_iff_ne]; exact hlen
    have hN0 : (0 : Int) < (N : Int) := by rw [← hN, List.length_cons]; omega
    by_cases hk : x.w.k = 2
    · have kx : ((x.w.k : Int) == 2) = true := by rw [hk]; rfl
      have hsb := h2.bx.sets 6 (.string x.w.t)
      have kset := Kp.set (N := fun i => i = b) (X.alloc (.cells (encW x).toArray 73)) ⟨b, 6, none⟩ (.string x.w.t) rfl
      have hst : StO W0.heap.size ((X.alloc (.cells (encW x).toArray 73)).setCell ⟨b, 6, none⟩ (.string x.w.t)) b (s.txt x.w.t) dv bv := ⟨hsb, owns_kp h2.dr kset (fun i hi e => owns_ty h2.dr h2.bx (by decide) (by rw [hi, e])), ownsF_kp h2.by_ kset (fun i hi e => ownsF_ty h2.by_ h2.bx (by decide) (by rw [hi, e]))⟩
      have HF := hide (show TkR W0.heap.size W b s dv bv (tkF s 5 (x :: l)) (.returned (.tuple #[.int .i64 1, .bool true])) ((X.alloc (.cells (encW x).toArray 73)).setCell ⟨b, 6, none⟩ (.string x.w.t)).drew from ⟨s.txt x.w.t, 1, dv, bv, by simp [tkF, hk], (fun y hy => by simp [tkF, hk] at hy; exact hy.symm), ⟨hst.bx, hst.dr, hst.by_⟩, ((Kp.of_below (N := fun i => i = b ∨ dv.ownBlock = some i) (bnext hb1 hb2)).trans kset (fun i hi => .inl (.inl hi))).drew⟩)
      have cb := h2.bx.cell 6 _ rfl
      have fb := h2.bx.frozen 6
      unfold encW at HF e0 e1 e2 r0 r1 r2 r3 cb fb
      clear hb0 h hr hb1 hbx hbX h1 w0 w1 w2 w3 w4 hbw hb2 h2 hk hglt hlen hN hsb kset hst
      go_enter Tryz.func60, Tryz.ntmps60
      go_upto_region 10 with fail
      go_region_law (go_simp; go_at_call 52; (with_reducible refine (ptr_in5 _ _).mono ?_); rintro e W2 ⟨rfl, rfl⟩)
      all_goals (
        go_wp2
        refine bodyPost_ret (results_tmp2 rfl _ _ _) rfl ?_
        exact unhide HF)
    · have kx : ((x.w.k : Int) == 2) = false := by rw [beq_eq_false_iff_ne]; omega
      have HF := hide (show TkR W0.heap.size W b s dv bv (tkF s 5 (x :: l)) (.returned (.tuple #[.int .i64 ((0 : Nat) : Int), .bool false])) (X.alloc (.cells (encW x).toArray 73)) from ⟨s, 0, dv, bv, by simp [tkF, hk], (fun y hy => by simp [tkF, hk] at hy), h2, Kp.of_below (bnext hb1 hb2)⟩)
      unfold encW at HF e0 e1 e2 r0 r1 r2 r3
      clear hb0 h hr hb1 hbx hbX h1 w0 w1 w2 w3 w4 hbw hb2 h2 hk hglt hlen hN e1 e2
      go_enter Tryz.func60, Tryz.ntmps60
      go_wp2
      refine bodyPost_ret (results_tmp2 rfl _ _ _) rfl ?_
      exact unhide HF

set_option maxRecDepth 100000 in
set_option maxHeartbeats 4000000 in
theorem take6 {W0 W : World} {b : Nat} {s : Sp} {dv bv wv : Value} {l : List It} (hb0 : Below W0.heap.size W0 W) (h : StO W0.heap.size W b s dv bv) (hNb : W0.heap.size ≤ b) (hr : RW W0 wv l) (hl : l.length ≤ 1000000) (hd : s.draws.length ≤ 1000000) (ht : ∀ x ∈ l, x.w.t.size ≤ 1000000) :
    Calls Tryz.prog 60 #[.agg #[.nilFunc, .nilFunc, .nilFunc, (.func (.func 53) #[] #[])], .pointer (some ⟨b, 0, none⟩), wv] W (TkR W0.heap.size W b s dv bv (tkF s 6 l)) := by
  obtain ⟨a0, c0, rfl⟩ := hr.form
  obtain ⟨X, hX⟩ : ∃ X, W.alloc (.cells #[.nilFunc, .nilFunc, .nilFunc, (.func (.func 53) #[] #[])] 117) = X := ⟨_, rfl⟩
  have hb1 : Below W.heap.size W X := by rw [← hX]; exact ballc (Below.refl _ _) _
  have hbx : Bq X W.heap.size 117 #[.nilFunc, .nilFunc, .nilFunc, (.func (.func 53) #[] #[])] := by rw [← hX]; exact Bq.new _ _ _
  have hbX := bnext hb0 hb1
  have h1 := h.below hb1
  have q0 := hbx.cell 0 _ rfl
  have q1 := hbx.cell 1 _ rfl
  have q2 := hbx.cell 2 _ rfl
  have q3 := hbx.cell 3 _ rfl
  have g0 := fun w => run_neq_fnn (P := Tryz.prog) w 112 Tryz.underlying112
  have g1 := fun w => run_neq_fnn (P := Tryz.prog) w 113 Tryz.underlying113
  have g2 := fun w => run_neq_fnn (P := Tryz.prog) w 114 Tryz.underlying114
  have g3 := fun w => run_neq_fnn (P := Tryz.prog) w 115 Tryz.underlying115
  have gf := fun w => run_neq_fnil (P := Tryz.prog) w 115 (.func 53) #[] #[] Tryz.underlying115
  cases l with
  | nil =>
    have HF := hide (show TkR W0.heap.size W b s dv bv (tkF s 6 []) (.returned (.tuple #[.int .i64 ((0 : Nat) : Int), .bool false])) X from ⟨s, 0, dv, bv, rfl, (fun x hx => by cases hx), h1, Kp.of_below hb1⟩)
    clear hb0 h hr hb1 hbx hbX h1
    go_enter Tryz.func60, Tryz.ntmps60
    go_wp2
    refine bodyPost_ret (results_tmp2 rfl _ _ _) rfl ?_
    exact unhide HF
  | cons x l =>
    obtain ⟨g, off, rfl, hglt, w0, w1, w2, w3, w4⟩ := hr.at (i := 0) (x := x) rfl
    rw [Nat.zero_mul, Nat.add_zero] at w0 w1 w2 w3 w4
    have d0 := cell_below w0 hbX
    have d1 := cell_below w1 hbX
    have d2 := cell_below w2 hbX
    have d3 := cell_below w3 hbX
    have d4 := cell_below w4 hbX
    have hbw := Bq.new X 73 (encW x).toArray
    have hb2 := ballc (Below.refl _ X) (.cells (encW x).toArray 73)
    have h2 := h1.below hb2
    have e0 := hbw.cell 0 (.int .i64 (x.w.k : Int)) rfl
    have e1 := hbw.cell 1 (.string x.w.t) rfl
    have e2 := hbw.cell 2 (.int .i64 x.w.n) rfl
    have r0 := (hbx.keep hb2 hbx.lt).cell 0 _ rfl
    have r1 := (hbx.keep hb2 hbx.lt).cell 1 _ rfl
    have r2 := (hbx.keep hb2 hbx.lt).cell 2 _ rfl
    have r3 := (hbx.keep hb2 hbx.lt).cell 3 _ rfl
    have hlen : ((x :: l).length : Int) ≠ 0 := by rw [List.length_cons]; omega
    obtain ⟨N, hN⟩ : ∃ N, (x :: l).length = N := ⟨_, rfl⟩
    rw [hN] at hlen ⊢
    have hz : ((N : Int) == 0) = false := by rw [beq_eq_false_iff_ne]; exact hlen
    have hN0 : (0 : Int) < (N : Int) := by rw [← hN, List.length_cons]; omega
    by_cases hk : x.w.k = 2
    · have kx : ((x.w.k : Int) == 2) = true := by rw [hk]; rfl
      have hts : x.w.t.size ≤ maxLen := by have := ht x (by simp); unfold maxLen; omega
      have hZb := Lib.bytesWorld_below ((X.alloc (.cells (encW x).toArray 73)).drew) 5 x.w.t
      have hZn := Lib.bytesWorld_at_new ((X.alloc (.cells (encW x).toArray 73)).drew) 5 x.w.t
      have hcv := Lib.run_convert_string_bytes (P := Tryz.prog) ((X.alloc (.cells (encW x).toArray 73)).drew) 9 38 5 x.w.t Tryz.underlying9 Tryz.underlying38 Tryz.underlying5
      have hG1 := grownCap_ge ((X.alloc (.cells (encW x).toArray 73)).drew) x.w.t.size 0 5
      have hG2 := grownCap_le_maxLen ((X.alloc (.cells (encW x).toArray 73)).drew) x.w.t.size 0 5 hts
      have hcs : (Lib.bytesCells ((X.alloc (.cells (encW x).toArray 73)).drew) 5 x.w.t).size = grownCap ((X.alloc (.cells (encW x).toArray 73)).drew) x.w.t.size 0 5 := by unfold Lib.bytesCells; simp only [Array.size_append, Array.size_map, Array.size_replicate]; show x.w.t.size + _ = _; omega
      have htk : (Lib.bytesCells ((X.alloc (.cells (encW x).toArray 73)).drew) 5 x.w.t).toList.take x.w.t.data.toList.length = Lib.byteCells x.w.t.data.toList := by
        unfold Lib.bytesCells Lib.byteCells
        rw [Array.toList_append, List.take_append_of_le_length (by simp)]
        simp
        exact List.take_of_length_le (by rw [List.length_map, Array.length_toList]; exact Nat.le_refl _)
      obtain ⟨G, hG⟩ : ∃ G, grownCap ((X.alloc (.cells (encW x).toArray 73)).drew) x.w.t.size 0 5 = G := ⟨_, rfl⟩
      obtain ⟨Z, hZ⟩ : ∃ Z, Lib.bytesWorld ((X.alloc (.cells (encW x).toArray 73)).drew) 5 x.w.t = Z := ⟨_, rfl⟩
      rw [hG] at hcv hG1 hG2 hcs
      rw [hZ] at hcv hZb hZn
      have hbZ : Below X.heap.size X Z := bnext hb2.drew hZb
      have hown : OwB Z W0.heap.size (.slice (some ⟨((X.alloc (.cells (encW x).toArray 73)).drew).heap.size, 0, none⟩) x.w.t.size G) x.w.t.data.toList := .inr ⟨_, G, _, _, rfl, Nat.le_trans hbX.size hb2.drew.size, hZn, .inr rfl, by rw [hcs] at *; exact hG1, hG2, hcs, htk⟩
      have h2' : StO W0.heap.size ((X.alloc (.cells (encW x).toArray 73)).drew) b s dv bv := ⟨h2.bx, h2.dr, h2.by_⟩
      have h3 := h2'.below hZb
      have hnb : (Value.slice (some ⟨((X.alloc (.cells (encW x).toArray 73)).drew).heap.size, 0, none⟩) x.w.t.size G).ownBlock ≠ some b := ownsF_ty hown h3.bx (by decide)
      have hsb := h3.bx.sets 8 (.slice (some ⟨((X.alloc (.cells (encW x).toArray 73)).drew).heap.size, 0, none⟩) x.w.t.size G)
      have kset := Kp.set (N := fun i => i = b) Z ⟨b, 8, none⟩ (.slice (some ⟨((X.alloc (.cells (encW x).toArray 73)).drew).heap.size, 0, none⟩) x.w.t.size G) rfl
      have hst : StO W0.heap.size (Z.setCell ⟨b, 8, none⟩ (.slice (some ⟨((X.alloc (.cells (encW x).toArray 73)).drew).heap.size, 0, none⟩) x.w.t.size G)) b (s.dat x.w.t.data.toList) dv (.slice (some ⟨((X.alloc (.cells (encW x).toArray 73)).drew).heap.size, 0, none⟩) x.w.t.size G) := ⟨hsb, owns_kp h3.dr kset (fun i hi e => owns_ty h3.dr h3.bx (by decide) (by rw [hi, e])), ownsF_kp hown kset (fun i hi e => hnb (by rw [hi, e]))⟩
      have HF := hide (show TkR W0.heap.size W b s dv bv (tkF s 6 (x :: l)) (.returned (.tuple #[.int .i64 1, .bool true])) (Z.setCell ⟨b, 8, none⟩ (.slice (some ⟨((X.alloc (.cells (encW x).toArray 73)).drew).heap.size, 0, none⟩) x.w.t.size G)) from ⟨s.dat x.w.t.data.toList, 1, dv, _, by simp [tkF, hk], (fun y hy => by simp [tkF, hk] at hy; exact hy.symm), hst, ((Kp.of_below (N := fun i => i = b ∨ dv.ownBlock = some i) (bnext hb1 hbZ)).trans kset (fun i hi => .inl (.inl hi)))⟩)
      have hY2 : Below X.heap.size X ((X.alloc (.cells (encW x).toArray 73)).drew) := hb2.drew
      have cb := h3.bx.cell 8 _ rfl
      have fb := h3.bx.frozen 8
      have z0 := (hbx.keep hbZ hbx.lt).cell 0 _ rfl
      have z1 := (hbx.keep hbZ hbx.lt).cell 1 _ rfl
      have z2 := (hbx.keep hbZ hbx.lt).cell 2 _ rfl
      have z3 := (hbx.keep hbZ hbx.lt).cell 3 _ rfl
      have ez1 := cell_below e1 (bnext (show Below (X.alloc (.cells (encW x).toArray 73)).heap.size (X.alloc (.cells (encW x).toArray 73)) ((X.alloc (.cells (encW x).toArray 73)).drew) from (Below.refl _ _).drew) hZb)
      rw [show ((X.alloc (.cells (encW x).toArray 73)).drew).heap.size = X.heap.size + 1 from by show ((X.alloc (.cells (encW x).toArray 73))).heap.size = _; simp] at HF hcv
      unfold encW at hcv e0 e1 e2 r0 r1 r2 r3
      clear hb0 h hr hb1 hbx hbX h1 w0 w1 w2 w3 w4 hbw hb2 h2 hk hglt hlen hN hsb kset hst hts hZb hZn hG1 hG2 hcs htk hG hZ hbZ hown h2' h3 hnb hY2 ht
      go_enter Tryz.func60, Tryz.ntmps60
      go_upto_region 12 with fail
      go_region_law (go_simp; go_at_call 53; (with_reducible refine (ptr_in6 _ _).mono ?_); rintro e W2 ⟨rfl, rfl⟩)
      all_goals (
        go_wp2
        refine bodyPost_ret (results_tmp2 rfl _ _ _) rfl ?_
        exact unhide HF)
    · have kx : ((x.w.k : Int) == 2) = false := by rw [beq_eq_false_iff_ne]; omega
      have HF := hide (show TkR W0.heap.size W b s dv bv (tkF s 6 (x :: l)) (.returned (.tuple #[.int .i64 ((0 : Nat) : Int), .bool false])) (X.alloc (.cells (encW x).toArray 73)) from ⟨s, 0, dv, bv, by simp [tkF, hk], (fun y hy => by simp [tkF, hk] at hy), h2, Kp.of_below (bnext hb1 hb2)⟩)
      unfold encW at HF e0 e1 e2 r0 r1 r2 r3
      clear hb0 h hr hb1 hbx hbX h1 w0 w1 w2 w3 w4 hbw hb2 h2 hk hglt hlen hN e1 e2
      go_enter Tryz.func60, Tryz.ntmps60
      go_wp2
      refine bodyPost_ret (results_tmp2 rfl _ _ _) rfl ?_
      exact unhide HF

theorem take_in {W0 W : World} {b : Nat} {s : Sp} {dv bv wv : Value} {l : List It} (hb0 : Below W0.heap.size W0 W) (h : StO W0.heap.size W b s dv bv) (hNb : W0.heap.size ≤ b) (hr : RW W0 wv l) (hl : l.length ≤ 1000000) (hd : s.draws.length ≤ 1000000) (ht : ∀ x ∈ l, x.w.t.size ≤ 1000000) (f : Nat) (hf : f < 7) :
    Calls Tryz.prog 60 #[.agg (fC f).toArray, .pointer (some ⟨b, 0, none⟩), wv] W (TkR W0.heap.size W b s dv bv (tkF s f l)) := by
  have hi2 : f = 0 ∨ f = 1 ∨ f = 2 ∨ f = 3 ∨ f = 4 ∨ f = 5 ∨ f = 6 := by omega
  rcases hi2 with rfl | rfl | rfl | rfl | rfl | rfl | rfl
  · exact take0 hb0 h hNb hr hl hd ht
  · exact take1 hb0 h hNb hr hl hd ht
  · exact take2 hb0 h hNb hr hl hd ht
  · exact take3 hb0 h hNb hr hl hd ht
  · exact take4 hb0 h hNb hr hl hd ht
  · exact take5 hb0 h hNb hr hl hd ht
  · exact take6 hb0 h hNb hr hl hd ht
end Go.Proofs.YtkndjbmlkfpfoaaGreatDoor
