/-
  What script.takeAll does: numbers behind a step's Draws.
-/
import Derived.Test.YtkndjbmlkfpfoaaGreatDoorZTN
import Derived.Laws.EntriesVeiled
import Derived.Lib.AtoiErrMem
import Derived.Deep.QuietTactic
import Derived.BigQuiet

set_option linter.unusedSimpArgs false
set_option linter.unusedVariables false
namespace Go.Proofs.YtkndjbmlkfpfoaaGreatDoor
open Go.RowKit Go.Lib

def Sp.dr (s : Sp) (ds : List Int) : Sp := { s with draws := ds }
theorem allN_take {l : List It} {j : Nat} {x : It} (h : l[j]? = some x) (hx : x.w.k = 3) (ha : allN (l.take j) = true) : allN (l.take (j + 1)) = true := by
  unfold allN at ha ⊢
  rw [List.take_add_one, h, List.all_append, ha]
  simp [hx]
theorem allN_not {l : List It} {j : Nat} {x : It} (h : l[j]? = some x) (hx : x.w.k ≠ 3) : allN l = false := by
  unfold allN
  rw [List.all_eq_false]
  exact ⟨x, List.mem_of_getElem? h, by simp [hx]⟩
theorem nums_take {l : List It} {j : Nat} {x : It} (h : l[j]? = some x) : (l.take (j + 1)).map (fun x => x.w.n) = (l.take j).map (fun x => x.w.n) ++ [x.w.n] := by
  rw [List.take_add_one, h]; simp

/-- what takeAll answers and leaves -/
def TkA (N : Nat) (W : World) (b : Nat) (s : Sp) (dv bv : Value) (l : List It) (e : Ending) (W' : World) : Prop :=
  ∃ dv' ds, e = .returned (.bool (allN l)) ∧ (allN l = true → ds = s.draws ++ l.map fun x => x.w.n) ∧ StO N W' b (s.dr ds) dv' bv ∧ Kp (fun i => i = b ∨ dv.ownBlock = some i) W W'

set_option maxRecDepth 100000 in
set_option maxHeartbeats 4000000 in
theorem takeAll_in {W0 W : World} {b : Nat} {s : Sp} {dv bv wv : Value} {l : List It} (hb0 : Below W0.heap.size W0 W) (h : StO W0.heap.size W b s dv bv) (hNb : W0.heap.size ≤ b) (hr : RW W0 wv l) (hl : l.length ≤ 1000000) (hd : s.draws.length ≤ 1000000) :
    Calls Tryz.prog 87 #[.pointer (some ⟨b, 7, none⟩), wv] W (TkA W0.heap.size W b s dv bv l) := by
  obtain ⟨a0, c0, rfl⟩ := hr.form
  obtain ⟨N, hN⟩ : ∃ N, l.length = N := ⟨_, rfl⟩
  have hat := fun i x hx => RW.at hr (i := i) (x := x) hx
  rw [hN] at hl ⊢
  have HAT := hide hat
  have HN := hide hN
  have HB0 := hide hb0
  have HP : Hid (∀ i, (i = b ∨ dv.ownBlock = some i) → W0.heap.size ≤ i) := fun i hi => by
    rcases hi with rfl | hi
    · exact hNb
    · exact (World.ownsRow.lt h.dr i hi).1
  have H0 := hide (show ∃ dvj, StO W0.heap.size W b (s.dr (s.draws ++ (l.take 0).map fun x => x.w.n)) dvj bv ∧ Kp (fun i => i = b ∨ dv.ownBlock = some i) W W ∧ (∀ i, dvj.ownBlock = some i → dv.ownBlock = some i ∨ W.heap.size ≤ i) ∧ allN (l.take 0) = true from ⟨dv, by simpa [Sp.dr] using h, Kp.refl _ _, fun i hi => .inl hi, rfl⟩)
  clear hat hN hr h hb0
  go_enter Tryz.func87, Tryz.ntmps87
  go_wp2_with fail
  go_loopw [6, 9] (fun v6 v9 wr => ∃ (j : Nat), v9 = .int .i64 (j : Int) ∧ j ≤ N ∧ Hid (∃ dvj, StO W0.heap.size wr b (s.dr (s.draws ++ (l.take j).map fun x => x.w.n)) dvj bv ∧ Kp (fun i => i = b ∨ dv.ownBlock = some i) W wr ∧ (∀ i, dvj.ownBlock = some i → dv.ownBlock = some i ∨ W.heap.size ≤ i) ∧ allN (l.take j) = true)) (fun _ v9 _ => N - (RowKit.intOf v9).toNat)
  case atStart => exact ⟨0, rfl, Nat.zero_le _, H0⟩
  case round =>
    clear H0
    obtain ⟨j, rfl, hj, H⟩ := hrel
    by_cases hjl : j < N
    · obtain ⟨dvj, hs, hk, hdo, hall⟩ := unhide H
      obtain ⟨x, hx⟩ : ∃ x, l[j]? = some x := ⟨_, List.getElem?_eq_getElem (by rw [unhide HN]; exact hjl)⟩
      obtain ⟨g, off, rfl, hglt, q0, q1, q2, q3, q4⟩ := unhide HAT j x hx
      have hbw := hk.below (unhide HB0) (unhide HP)
      have d0 := cell_below q0 hbw
      have d1 := cell_below q1 hbw
      have d2 := cell_below q2 hbw
      have d3 := cell_below q3 hbw
      have d4 := cell_below q4 hbw
      obtain ⟨a, c, ef⟩ := owns_form hs.dr
      obtain ⟨m, hm⟩ : ∃ m, (s.dr (s.draws ++ (l.take j).map fun x => x.w.n)).draws.length = m := ⟨_, rfl⟩
      rw [hm] at ef
      subst ef
      have hml : m ≤ 100000000 := by rw [← hm]; show (s.draws ++ (l.take j).map fun x => x.w.n).length ≤ _; simp; omega
      have k5 : (j : Int) < (N : Int) := by omega
      have k6 : (0 : Int) ≤ (j : Int) := by omega
      have hbx := Bq.new wr 73 (encW x).toArray
      have hb1 := ballc (Below.refl _ wr) (.cells (encW x).toArray 73)
      have hs1 := hs.below hb1
      have e0 := hbx.cell 0 (.int .i64 (x.w.k : Int)) rfl
      have e2 := hbx.cell 2 (.int .i64 x.w.n) rfl
      have cb := hs1.bx.cell 7 (.slice a m c) rfl
      by_cases h3 : x.w.k = 3
      · have kx : ((x.w.k : Int) != 3) = false := by rw [h3]; rfl
        have hbx2 := Bq.new (wr.alloc (.cells (encW x).toArray 73)) 3 #[.int .i64 x.w.n]
        have hb2 := ballc hb1 (.cells #[.int .i64 x.w.n] 3)
        have hs2 := hs.below hb2
        obtain ⟨V, hV⟩ : ∃ V, ((wr.alloc (.cells (encW x).toArray 73)).alloc (.cells #[.int .i64 x.w.n] 3)).drew = V := ⟨_, rfl⟩
        have hbV : Below wr.heap.size wr V := by rw [← hV]; exact hb2.drew
        have hsV : StO W0.heap.size V b (s.dr (s.draws ++ (l.take j).map fun x => x.w.n)) (.slice a m c) bv := by rw [← hV]; exact ⟨hs2.bx, hs2.dr, hs2.by_⟩
        have hxV : Bq V (wr.alloc (.cells (encW x).toArray 73)).heap.size 3 #[.int .i64 x.w.n] := by rw [← hV]; exact hbx2
        obtain ⟨v', w', p1, p2, p3, p4⟩ := append_num V 37 W0.heap.size (.slice a m c) _ x.w.n _ hsV.dr hxV (Nat.le_trans hbw.size hbV.size) (by omega)
        obtain ⟨a', c', ef'⟩ := owns_form p2
        have hm' : ((s.dr (s.draws ++ (l.take j).map fun x => x.w.n)).draws ++ [x.w.n]).length = m + 1 := by rw [List.length_append, hm]; rfl
        rw [hm'] at p2 ef'
        subst ef'
        have kg := Kp.of_grown (N := fun k => (Value.slice a m c).ownBlock = some k) p3 (fun k hk => hk)
        have hnb : (Value.slice a m c).ownBlock ≠ some b := owns_ty hsV.dr hsV.bx (by decide)
        have hbw' := hsV.bx.kp kg hnb
        have hnb' : (Value.slice a' (m + 1) c').ownBlock ≠ some b := owns_ty p2 hbw' (by decide)
        have cb' := hbw'.cell 7 (.slice a m c) rfl
        have fb' := hbw'.frozen 7
        have hne : ∀ i, bv.ownBlock = some i → (Value.slice a m c).ownBlock ≠ some i := fun i hi e => by
          rcases hsV.by_ with ⟨e1, _⟩ | ⟨g1, _, _, _, e1, _, hg1, _⟩
          · rw [e1] at hi; cases hi
          · obtain ⟨_, (⟨e2, _⟩ | ⟨g2, _, _, e2, _, hg2, _⟩)⟩ := hsV.dr
            · rw [e2] at e; cases e
            · rw [e1] at hi; rw [e2] at e; cases hi; cases e; rw [hg1] at hg2; cases hg2
        have hset : StO W0.heap.size (w'.setCell ⟨b, 7, none⟩ (.slice a' (m + 1) c')) b (s.dr (s.draws ++ (l.take (j + 1)).map fun x => x.w.n)) (.slice a' (m + 1) c') bv := by
          have kset := Kp.set (N := fun i => i = b) w' ⟨b, 7, none⟩ (.slice a' (m + 1) c') rfl
          refine ⟨?_, ?_, ?_⟩
          · have := hbw'.sets 7 (.slice a' (m + 1) c')
            exact this
          · rw [nums_take hx, ← List.append_assoc]
            refine owns_kp (C := flat enN ((s.draws ++ (l.take j).map fun x => x.w.n) ++ [x.w.n])) ?_ kset (fun i hi e => hnb' (by rw [hi, e]))
            have := p2
            rw [← hm'] at this
            rw [hm'] at this
            rw [show (s.dr ((s.draws ++ (l.take j).map fun x => x.w.n) ++ [x.w.n])).draws.length = m + 1 from hm']
            exact this
          · exact ownsF_kp (ownsF_kp hsV.by_ kg (fun i hi e => hne i hi e)) kset (fun i hi e => ownsF_ty hsV.by_ hsV.bx (by decide) (by rw [hi, e]))
        have hkk : Kp (fun i => i = b ∨ dv.ownBlock = some i) W (w'.setCell ⟨b, 7, none⟩ (.slice a' (m + 1) c')) := by
          refine (hk.trans (Kp.of_below (N := fun _ => False) hbV) (fun _ e => e.elim)).trans ((kg.wk (N' := fun k => (Value.slice a m c).ownBlock = some k ∨ k = b) (fun i h => .inl h)).trans (Kp.set (N := fun i => i = b) w' ⟨b, 7, none⟩ (.slice a' (m + 1) c') rfl) (fun i hi => .inl (.inr hi))) (fun i hi => ?_)
          rcases hi with hi | rfl
          · rcases hdo i hi with e | e
            · exact .inl (.inr e)
            · exact .inr e
          · exact .inl (.inl rfl)
        have hown : ∀ i, (Value.slice a' (m + 1) c').ownBlock = some i → dv.ownBlock = some i ∨ W.heap.size ≤ i := fun i hi => by
          rcases p4 with e | e
          · exact hdo i (by rw [← e]; exact hi)
          · rw [hi] at e; cases e; exact .inr (Nat.le_trans hk.size hbV.size)
        have HN2 := hide (show ∃ dvj, StO W0.heap.size (w'.setCell ⟨b, 7, none⟩ (.slice a' (m + 1) c')) b (s.dr (s.draws ++ (l.take (j + 1)).map fun x => x.w.n)) dvj bv ∧ Kp (fun i => i = b ∨ dv.ownBlock = some i) W (w'.setCell ⟨b, 7, none⟩ (.slice a' (m + 1) c')) ∧ (∀ i, dvj.ownBlock = some i → dv.ownBlock = some i ∨ W.heap.size ≤ i) ∧ allN (l.take (j + 1)) = true from ⟨_, hset, hkk, hown, allN_take hx h3 hall⟩)
        rw [← hV] at p1
        have cb2 := cell_below cb (ballc (Below.refl _ (wr.alloc (.cells (encW x).toArray 73))) (.cells #[.int .i64 x.w.n] 3))
        have e22 := cell_below e2 (ballc (Below.refl _ (wr.alloc (.cells (encW x).toArray 73))) (.cells #[.int .i64 x.w.n] 3))
        rw [World.size_alloc] at p1
        unfold encW at p1 e0 e2 cb cb2 e22
        have HA := hide p1
        clear hs hk hdo hall hx q0 q1 q2 q3 q4 hbw hm hbx hb1 hs1 h3 H hglt p1 p2 p3 p4 hm' kg hnb hbw' hnb' hne hset hkk hown hbx2 hb2 hs2 hbV hsV hxV hV hml
        go_upto_region 6 with fail
        go_region_law (refine step_append_eq rfl (.tmp 19) (.tmp 22) 37 rfl _ _ _ (by simp [Act.eval, Act.put]) (by simp [Act.eval, Act.put]) (unhide HA) ?_)
        all_goals (
          go_wp2
          go_roundw
          case rel => exact ⟨j + 1, by go_num, by omega, HN2⟩
          case measure => simp [RowKit.intOf]; omega)
      · have kx : ((x.w.k : Int) != 3) = true := by rw [bne_iff_ne]; omega
        have HF := hide (show TkA W0.heap.size W b s dv bv l (.returned (.bool false)) (wr.alloc (.cells (encW x).toArray 73)) from ⟨_, _, by rw [allN_not hx h3], (fun e => by rw [allN_not hx h3] at e; cases e), hs1, hk.trans (Kp.of_below (N := fun _ => False) hb1) (fun _ e => e.elim)⟩)
        unfold encW at HF e0 e2 cb
        clear hs hk hdo hall hx q0 q1 q2 q3 q4 hbw hm hbx hb1 hs1 h3 H hglt e2 cb
        go_wp2
        go_ret
        exact unhide HF
    · obtain rfl : j = N := by omega
      obtain ⟨dvj, hs, hk, hdo, hall⟩ := unhide H
      have kd : decide ((j : Int) < (j : Int)) = false := by simp
      have e1 : l.take j = l := List.take_of_length_le (by rw [unhide HN]; exact Nat.le_refl _)
      rw [e1] at hs hall
      have HF := hide (show TkA W0.heap.size W b s dv bv l (.returned (.bool true)) wr from ⟨_, _, by rw [hall], fun _ => rfl, hs, hk⟩)
      clear hs hk hdo hall H e1
      go_wp2
      go_ret
      exact unhide HF
end Go.Proofs.YtkndjbmlkfpfoaaGreatDoor

/-
  What a field takes of a line's words.
-/
set_option linter.unusedSimpArgs false
set_option linter.unusedVariables false
namespace Go.Proofs.YtkndjbmlkfpfoaaGreatDoor
open Go.RowKit Go.Lib

def Sp.num (s : Sp) (f : Nat) (v : Int) : Sp := match f with
  | 0 => { s with site := v }
  | 1 => { s with peer := v }
  | 2 => { s with at_ := v }
  | _ => { s with n := v }
def Sp.txt (s : Sp) (t : ByteArray) : Sp := { s with text := t }
def Sp.dat (s : Sp) (t : List UInt8) : Sp := { s with data := t }
/-- what a field takes: the step, and how many words -/
def tkF (s : Sp) (f : Nat) (l : List It) : Option (Sp × Nat) :=
  if f = 4 then (if allN l then some (s.dr (s.draws ++ l.map fun x => x.w.n), l.length) else none)
  else match l with
    | [] => none
    | x :: _ => if f < 4 then (if x.w.k = 3 then some (s.num f x.w.n, 1) else none)
        else if x.w.k = 2 then some (if f = 5 then s.txt x.w.t else s.dat x.w.t.data.toList, 1) else none
def TkR (N : Nat) (W : World) (b : Nat) (s : Sp) (dv bv : Value) (r : Option (Sp × Nat)) (e : Ending) (W' : World) : Prop :=
  ∃ (s' : Sp) (n : Nat) (dv' bv' : Value), e = .returned (.tuple #[.int .i64 (n : Int), .bool r.isSome]) ∧ (∀ x, r = some x → x = (s', n)) ∧ StO N W' b s' dv' bv' ∧ Kp (fun i => i = b ∨ dv.ownBlock = some i) W W'

set_option maxRecDepth 100000 in
set_option maxHeartbeats 4000000 in
theorem take0 {W0 W : World} {b : Nat} {s : Sp} {dv bv wv : Value} {l : List It} (hb0 : Below W0.heap.size W0 W) (h : StO W0.heap.size W b s dv bv) (hNb : W0.heap.size ≤ b) (hr : RW W0 wv l) (hl : l.length ≤ 1000000) (hd : s.draws.length ≤ 1000000) (ht : ∀ x ∈ l, x.w.t.size ≤ 1000000) :
    Calls Tryz.prog 60 #[.agg #[(.func (.func 47) #[] #[]), .nilFunc, .nilFunc, .nilFunc], .pointer (some ⟨b, 0, none⟩), wv] W (TkR W0.heap.size W b s dv bv (tkF s 0 l)) := by
  obtain ⟨a0, c0, rfl⟩ := hr.form
  obtain ⟨X, hX⟩ : ∃ X, W.alloc (.cells #[(.func (.func 47) #[] #[]), .nilFunc, .nilFunc, .nilFunc] 117) = X := ⟨_, rfl⟩
  have hb1 : Below W.heap.size W X := by rw [← hX]; exact ballc (Below.refl _ _) _
  have hbx : Bq X W.heap.size 117 #[(.func (.func 47) #[] #[]), .nilFunc, .nilFunc, .nilFunc] := by rw [← hX]; exact Bq.new _ _ _
  have hbX := bnext hb0 hb1
  have h1 := h.below hb1
  have q0 := hbx.cell 0 _ rfl
  have q1 := hbx.cell 1 _ rfl
  have q2 := hbx.cell 2 _ rfl
  have q3 := hbx.cell 3 _ rfl
  have g0 := fun w => run_neq_fnn (P := Tryz.prog) w 112 Tryz.underlying112
  have g1 := fun w => run_neq_fnn (P := Tryz.prog) w 113 Tryz.underlying113
  have g2 := fun w => run_neq_fnn (P := Tryz.prog) w 114 Tryz.underlying114
  have g3 := fun w => run_neq_fnn (P := Tryz.prog) w 115 Tryz.underlying115
  have gf := fun w => run_neq_fnil (P := Tryz.prog) w 112 (.func 47) #[] #[] Tryz.underlying112
  cases l with
  | nil =>
    have HF := hide (show TkR W0.heap.size W b s dv bv (tkF s 0 []) (.returned (.tuple #[.int .i64 ((0 : Nat) : Int), .bool false])) X from ⟨s, 0, dv, bv, rfl, (fun x hx => by cases hx), h1, Kp.of_below hb1⟩)
    clear hb0 h hr hb1 hbx hbX h1
    go_enter Tryz.func60, Tryz.ntmps60
    go_wp2
    refine bodyPost_ret (results_tmp2 rfl _ _ _) rfl ?_
    exact unhide HF
  | cons x l =>
    obtain ⟨g, off, rfl, hglt, w0, w1, w2, w3, w4⟩ := hr.at (i := 0) (x := x) rfl
    rw [Nat.zero_mul, Nat.add_zero] at w0 w1 w2 w3 w4
    have d0 := cell_below w0 hbX
    have d1 := cell_below w1 hbX
    have d2 := cell_below w2 hbX
    have d3 := cell_below w3 hbX
    have d4 := cell_below w4 hbX
    have hbw := Bq.new X 73 (encW x).toArray
    have hb2 := ballc (Below.refl _ X) (.cells (encW x).toArray 73)
    have h2 := h1.below hb2
    have e0 := hbw.cell 0 (.int .i64 (x.w.k : Int)) rfl
    have e1 := hbw.cell 1 (.string x.w.t) rfl
    have e2 := hbw.cell 2 (.int .i64 x.w.n) rfl
    have r0 := (hbx.keep hb2 hbx.lt).cell 0 _ rfl
    have r1 := (hbx.keep hb2 hbx.lt).cell 1 _ rfl
    have r2 := (hbx.keep hb2 hbx.lt).cell 2 _ rfl
    have r3 := (hbx.keep hb2 hbx.lt).cell 3 _ rfl
    have hlen : ((x :: l).length : Int) ≠ 0 := by rw [List.length_cons]; omega
    obtain ⟨N, hN⟩ : ∃ N, (x :: l).length = N := ⟨_, rfl⟩
    rw [hN] at hlen ⊢
    have hz : ((N : Int) == 0) = false := by rw [beq_eq_false_iff_ne]; exact hlen
    have hN0 : (0 : Int) < (N : Int) := by rw [← hN, List.length_cons]; omega
    by_cases hk : x.w.k = 3
    · have kx : ((x.w.k : Int) == 3) = true := by rw [hk]; rfl
      have hsb := h2.bx.sets 1 (.int .i64 x.w.n)
      have kset := Kp.set (N := fun i => i = b) (X.alloc (.cells (encW x).toArray 73)) ⟨b, 1, none⟩ (.int .i64 x.w.n) rfl
      have hst : StO W0.heap.size ((X.alloc (.cells (encW x).toArray 73)).setCell ⟨b, 1, none⟩ (.int .i64 x.w.n)) b (s.num 0 x.w.n) dv bv := ⟨hsb, owns_kp h2.dr kset (fun i hi e => owns_ty h2.dr h2.bx (by decide) (by rw [hi, e])), ownsF_kp h2.by_ kset (fun i hi e => ownsF_ty h2.by_ h2.bx (by decide) (by rw [hi, e]))⟩
      have HF := hide (show TkR W0.heap.size W b s dv bv (tkF s 0 (x :: l)) (.returned (.tuple #[.int .i64 1, .bool true])) ((X.alloc (.cells (encW x).toArray 73)).setCell ⟨b, 1, none⟩ (.int .i64 x.w.n)).drew from ⟨s.num 0 x.w.n, 1, dv, bv, by simp [tkF, hk], (fun y hy => by simp [tkF, hk] at hy; exact hy.symm), ⟨hst.bx, hst.dr, hst.by_⟩, ((Kp.of_below (N := fun i => i = b ∨ dv.ownBlock = some i) (bnext hb1 hb2)).trans kset (fun i hi => .inl (.inl hi))).drew⟩)
      have cb := h2.bx.cell 1 _ rfl
      have fb := h2.bx.frozen 1
      unfold encW at HF e0 e1 e2 r0 r1 r2 r3 cb fb
      clear hb0 h hr hb1 hbx hbX h1 w0 w1 w2 w3 w4 hbw hb2 h2 hk hglt hlen hN hsb kset hst
      go_enter Tryz.func60, Tryz.ntmps60
      go_upto_region 8 with fail
      go_region_law (go_simp; go_at_call 47; (with_reducible refine (ptr_in0 _ _).mono ?_); rintro e W2 ⟨rfl, rfl⟩)
      all_goals (
        go_wp2
        refine bodyPost_ret (results_tmp2 rfl _ _ _) rfl ?_
        exact unhide HF)
    · have kx : ((x.w.k : Int) == 3) = false := by rw [beq_eq_false_iff_ne]; omega
      have HF := hide (show TkR W0.heap.size W b s dv bv (tkF s 0 (x :: l)) (.returned (.tuple #[.int .i64 ((0 : Nat) : Int), .bool false])) (X.alloc (.cells (encW x).toArray 73)) from ⟨s, 0, dv, bv, by simp [tkF, hk], (fun y hy => by simp [tkF, hk] at hy), h2, Kp.of_below (bnext hb1 hb2)⟩)
      unfold encW at HF e0 e1 e2 r0 r1 r2 r3
      clear hb0 h hr hb1 hbx hbX h1 w0 w1 w2 w3 w4 hbw hb2 h2 hk hglt hlen hN e1 e2
      go_enter Tryz.func60, Tryz.ntmps60
      go_wp2
      refine bodyPost_ret (results_tmp2 rfl _ _ _) rfl ?_
      exact unhide HF

set_option maxRecDepth 100000 in
set_option maxHeartbeats 4000000 in
theorem take1 {W0 W : World} {b : Nat} {s : Sp} {dv bv wv : Value} {l : List It} (hb0 : Below W0.heap.size W0 W) (h : StO W0.heap.size W b s dv bv) (hNb : W0.heap.size ≤ b) (hr : RW W0 wv l) (hl : l.length ≤ 1000000) (hd : s.draws.length ≤ 1000000) (ht : ∀ x ∈ l, x.w.t.size ≤ 1000000) :
    Calls Tryz.prog 60 #[.agg #[(.func (.func 48) #[] #[]), .nilFunc, .nilFunc, .nilFunc], .pointer (some ⟨b, 0, none⟩), wv] W (TkR W0.heap.size W b s dv bv (tkF s 1 l)) := by
  obtain ⟨a0, c0, rfl⟩ := hr.form
  obtain ⟨X, hX⟩ : ∃ X, W.alloc (.cells #[(.func (.func 48) #[] #[]), .nilFunc, .nilFunc, .nilFunc] 117) = X := ⟨_, rfl⟩
  have hb1 : Below W.heap.size W X := by rw [← hX]; exact ballc (Below.refl _ _) _
  have hbx : Bq X W.heap.size 117 #[(.func (.func 48) #[] #[]), .nilFunc, .nilFunc, .nilFunc] := by rw [← hX]; exact Bq.new _ _ _
  have hbX := bnext hb0 hb1
  have h1 := h.below hb1
  have q0 := hbx.cell 0 _ rfl
  have q1 := hbx.cell 1 _ rfl
  have q2 := hbx.cell 2 _ rfl
  have q3 := hbx.cell 3 _ rfl
  have g0 := fun w => run_neq_fnn (P := Tryz.prog) w 112 Tryz.underlying112
  have g1 := fun w => run_neq_fnn (P := Tryz.prog) w 113 Tryz.underlying113
  have g2 := fun w => run_neq_fnn (P := Tryz.prog) w 114 Tryz.underlying114
  have g3 := fun w => run_neq_fnn (P := Tryz.prog) w 115 Tryz.underlying115
  have gf := fun w => run_neq_fnil (P := Tryz.prog) w 112 (.func 48) #[] #[] Tryz.underlying112
  cases l with
  | nil =>
    have HF := hide (show TkR W0.heap.size W b s dv bv (tkF s 1 []) (.returned (.tuple #[.int .i64 ((0 : Nat) : Int), .bool false])) X from ⟨s, 0, dv, bv, rfl, (fun x hx => by cases hx), h1, Kp.of_below hb1⟩)
    clear hb0 h hr hb1 hbx hbX h1
    go_enter Tryz.func60, Tryz.ntmps60
    go_wp2
    refine bodyPost_ret (results_tmp2 rfl _ _ _) rfl ?_
    exact unhide HF
  | cons x l =>
    obtain ⟨g, off, rfl, hglt, w0, w1, w2, w3, w4⟩ := hr.at (i := 0) (x := x) rfl
    rw [Nat.zero_mul, Nat.add_zero] at w0 w1 w2 w3 w4
    have d0 := cell_below w0 hbX
    have d1 := cell_below w1 hbX
    have d2 := cell_below w2 hbX
    have d3 := cell_below w3 hbX
    have d4 := cell_below w4 hbX
    have hbw := Bq.new X 73 (encW x).toArray
    have hb2 := ballc (Below.refl _ X) (.cells (encW x).toArray 73)
    have h2 := h1.below hb2
    have e0 := hbw.cell 0 (.int .i64 (x.w.k : Int)) rfl
    have e1 := hbw.cell 1 (.string x.w.t) rfl
    have e2 := hbw.cell 2 (.int .i64 x.w.n) rfl
    have r0 := (hbx.keep hb2 hbx.lt).cell 0 _ rfl
    have r1 := (hbx.keep hb2 hbx.lt).cell 1 _ rfl
    have r2 := (hbx.keep hb2 hbx.lt).cell 2 _ rfl
    have r3 := (hbx.keep hb2 hbx.lt).cell 3 _ rfl
    have hlen : ((x :: l).length : Int) ≠ 0 := by rw [List.length_cons]; omega
    obtain ⟨N, hN⟩ : ∃ N, (x :: l).length = N := ⟨_, rfl⟩
    rw [hN] at hlen ⊢
    have hz : ((N : Int) == 0) = false := by rw [beq_eq_false_iff_ne]; exact hlen
    have hN0 : (0 : Int) < (N : Int) := by rw [← hN, List.length_cons]; omega
    by_cases hk : x.w.k = 3
    · have kx : ((x.w.k : Int) == 3) = true := by rw [hk]; rfl
      have hsb := h2.bx.sets 2 (.int .i64 x.w.n)
      have kset := Kp.set (N := fun i => i = b) (X.alloc (.cells (encW x).toArray 73)) ⟨b, 2, none⟩ (.int .i64 x.w.n) rfl
      have hst : StO W0.heap.size ((X.alloc (.cells (encW x).toArray 73)).setCell ⟨b, 2, none⟩ (.int .i64 x.w.n)) b (s.num 1 x.w.n) dv bv := ⟨hsb, owns_kp h2.dr kset (fun i hi e => owns_ty h2.dr h2.bx (by decide) (by rw [hi, e])), ownsF_kp h2.by_ kset (fun i hi e => ownsF_ty h2.by_ h2.bx (by decide) (by rw [hi, e]))⟩
      have HF := hide (show TkR W0.heap.size W b s dv bv (tkF s 1 (x :: l)) (.returned (.tuple #[.int .i64 1, .bool true])) ((X.alloc (.cells (encW x).toArray 73)).setCell ⟨b, 2, none⟩ (.int .i64 x.w.n)).drew from ⟨s.num 1 x.w.n, 1, dv, bv, by simp [tkF, hk], (fun y hy => by simp [tkF, hk] at hy; exact hy.symm), ⟨hst.bx, hst.dr, hst.by_⟩, ((Kp.of_below (N := fun i => i = b ∨ dv.ownBlock = some i) (bnext hb1 hb2)).trans kset (fun i hi => .inl (.inl hi))).drew⟩)
      have cb := h2.bx.cell 2 _ rfl
      have fb := h2.bx.frozen 2
      unfold encW at HF e0 e1 e2 r0 r1 r2 r3 cb fb
      clear hb0 h hr hb1 hbx hbX h1 w0 w1 w2 w3 w4 hbw hb2 h2 hk hglt hlen hN hsb kset hst
      go_enter Tryz.func60, Tryz.ntmps60
      go_upto_region 8 with fail
      go_region_law (go_simp; go_at_call 48; (with_reducible refine (ptr_in1 _ _).mono ?_); rintro e W2 ⟨rfl, rfl⟩)
      all_goals (
        go_wp2
        refine bodyPost_ret (results_tmp2 rfl _ _ _) rfl ?_
        exact unhide HF)
    · have kx : ((x.w.k : Int) == 3) = false := by rw [beq_eq_false_iff_ne]; omega
      have HF := hide (show TkR W0.heap.size W b s dv bv (tkF s 1 (x :: l)) (.returned (.tuple #[.int .i64 ((0 : Nat) : Int), .bool false])) (X.alloc (.cells (encW x).toArray 73)) from ⟨s, 0, dv, bv, by simp [tkF, hk], (fun y hy => by simp [tkF, hk] at hy), h2, Kp.of_below (bnext hb1 hb2)⟩)
      unfold encW at HF e0 e1 e2 r0 r1 r2 r3
      clear hb0 h hr hb1 hbx hbX h1 w0 w1 w2 w3 w4 hbw hb2 h2 hk hglt hlen hN e1 e2
      go_enter Tryz.func60, Tryz.ntmps60
      go_wp2
      refine bodyPost_ret (results_tmp2 rfl _ _ _) rfl ?_
      exact unhide HF

set_option maxRecDepth 100000 in
set_option maxHeartbeats 4000000 in
theorem take2 {W0 W : World} {b : Nat} {s : Sp} {dv bv wv : Value} {l : List It} (hb0 : Below W0.heap.size W0 W) (h : StO W0.heap.size W b s dv bv) (hNb : W0.heap.size ≤ b) (hr : RW W0 wv l) (hl : l.length ≤ 1000000) (hd : s.draws.length ≤ 1000000) (ht : ∀ x ∈ l, x.w.t.size ≤ 1000000) :
    Calls Tryz.prog 60 #[.agg #[(.func (.func 49) #[] #[]), .nilFunc, .nilFunc, .nilFunc], .pointer (some ⟨b, 0, none⟩), wv] W (TkR W0.heap.size W b s dv bv (tkF s 2 l)) := by
  obtain ⟨a0, c0, rfl⟩ := hr.form
  obtain ⟨X, hX⟩ : ∃ X, W.alloc (.cells #[(.func (.func 49) #[] #[]), .nilFunc, .nilFunc, .nilFunc] 117) = X := ⟨_, rfl⟩
  have hb1 : Below W.heap.size W X := by rw [← hX]; exact ballc (Below.refl _ _) _
  have hbx : Bq X W.heap.size 117 #[(.func (.func 49) #[] #[]), .nilFunc, .nilFunc, .nilFunc] := by rw [← hX]; exact Bq.new _ _ _
  have hbX := bnext hb0 hb1
  have h1 := h.below hb1
  have q0 := hbx.cell 0 _ rfl
  have q1 := hbx.cell 1 _ rfl
  have q2 := hbx.cell 2 _ rfl
  have q3 := hbx.cell 3 _ rfl
  have g0 := fun w => run_neq_fnn (P := Tryz.prog) w 112 Tryz.underlying112
  have g1 := fun w => run_neq_fnn (P := Tryz.prog) w 113 Tryz.underlying113
  have g2 := fun w => run_neq_fnn (P := Tryz.prog) w 114 Tryz.underlying114
  have g3 := fun w => run_neq_fnn (P := Tryz.prog) w 115 Tryz.underlying115
  have gf := fun w => run_neq_fnil (P := Tryz.prog) w 112 (.func 49) #[] #[] Tryz.underlying112
  cases l with
  | nil =>
    have HF := hide (show TkR W0.heap.size W b s dv bv (tkF s 2 []) (.returned (.tuple #[.int .i64 ((0 : Nat) : Int), .bool false])) X from ⟨s, 0, dv, bv, rfl, (fun x hx => by cases hx), h1, Kp.of_below hb1⟩)
    clear hb0 h hr hb1 hbx hbX h1
    go_enter Tryz.func60, Tryz.ntmps60
    go_wp2
    refine bodyPost_ret (results_tmp2 rfl _ _ _) rfl ?_
    exact unhide HF
  | cons x l =>
    obtain ⟨g, off, rfl, hglt, w0, w1, w2, w3, w4⟩ := hr.at (i := 0) (x := x) rfl
    rw [Nat.zero_mul, Nat.add_zero] at w0 w1 w2 w3 w4
    have d0 := cell_below w0 hbX
    have d1 := cell_below w1 hbX
    have d2 := cell_below w2 hbX
    have d3 := cell_below w3 hbX
    have d4 := cell_below w4 hbX
    have hbw := Bq.new X 73 (encW x).toArray
    have hb2 := ballc (Below.refl _ X) (.cells (encW x).toArray 73)
    have h2 := h1.below hb2
    have e0 := hbw.cell 0 (.int .i64 (x.w.k : Int)) rfl
    have e1 := hbw.cell 1 (.string x.w.t) rfl
    have e2 := hbw.cell 2 (.int .i64 x.w.n) rfl
    have r0 := (hbx.keep hb2 hbx.lt).cell 0 _ rfl
    have r1 := (hbx.keep hb2 hbx.lt).cell 1 _ rfl
    have r2 := (hbx.keep hb2 hbx.lt).cell 2 _ rfl
    have r3 := (hbx.keep hb2 hbx.lt).cell 3 _ rfl
    have hlen : ((x :: l).length : Int) ≠ 0 := by rw [List.length_cons]; omega
    obtain ⟨N, hN⟩ : ∃ N, (x :: l).length = N := ⟨_, rfl⟩
    rw [hN] at hlen ⊢
    have hz : ((N : Int) == 0) = false := by rw [beq_eq_false_iff_ne]; exact hlen
    have hN0 : (0 : Int) < (N : Int) := by rw [← hN, List.length_cons]; omega
    by_cases hk : x.w.k = 3
    · have kx : ((x.w.k : Int) == 3) = true := by rw [hk]; rfl
      have hsb := h2.bx.sets 4 (.int .i64 x.w.n)
      have kset := Kp.set (N := fun i => i = b) (X.alloc (.cells (encW x).toArray 73)) ⟨b, 4, none⟩ (.int .i64 x.w.n) rfl
      have hst : StO W0.heap.size ((X.alloc (.cells (encW x).toArray 73)).setCell ⟨b, 4, none⟩ (.int .i64 x.w.n)) b (s.num 2 x.w.n) dv bv := ⟨hsb, owns_kp h2.dr kset (fun i hi e => owns_ty h2.dr h2.bx (by decide) (by rw [hi, e])), ownsF_kp h2.by_ kset (fun i hi e => ownsF_ty h2.by_ h2.bx (by decide) (by rw [hi, e]))⟩
      have HF := hide (show TkR W0.heap.size W b s dv bv (tkF s 2 (x :: l)) (.returned (.tuple #[.int .i64 1, .bool true])) ((X.alloc (.cells (encW x).toArray 73)).setCell ⟨b, 4, none⟩ (.int .i64 x.w.n)).drew from ⟨s.num 2 x.w.n, 1, dv, bv, by simp [tkF, hk], (fun y hy => by simp [tkF, hk] at hy; exact hy.symm), ⟨hst.bx, hst.dr, hst.by_⟩, ((Kp.of_below (N := fun i => i = b ∨ dv.ownBlock = some i) (bnext hb1 hb2)).trans kset (fun i hi => .inl (.inl hi))).drew⟩)
      have cb := h2.bx.cell 4 _ rfl
      have fb := h2.bx.frozen 4
      unfold encW at HF e0 e1 e2 r0 r1 r2 r3 cb fb
      clear hb0 h hr hb1 hbx hbX h1 w0 w1 w2 w3 w4 hbw hb2 h2 hk hglt hlen hN hsb kset hst
      go_enter Tryz.func60, Tryz.ntmps60
      go_upto_region 8 with fail
      go_region_law (go_simp; go_at_call 49; (with_reducible refine (ptr_in2 _ _).mono ?_); rintro e W2 ⟨rfl, rfl⟩)
      all_goals (
        go_wp2
        refine bodyPost_ret (results_tmp2 rfl _ _ _) rfl ?_
        exact unhide HF)
    · have kx : ((x.w.k : Int) == 3) = false := by rw [beq_eq_false_iff_ne]; omega
      have HF := hide (show TkR W0.heap.size W b s dv bv (tkF s 2 (x :: l)) (.returned (.tuple #[.int .i64 ((0 : Nat) : Int), .bool false])) (X.alloc (.cells (encW x).toArray 73)) from ⟨s, 0, dv, bv, by simp [tkF, hk], (fun y hy => by simp [tkF, hk] at hy), h2, Kp.of_below (bnext hb1 hb2)⟩)
      unfold encW at HF e0 e1 e2 r0 r1 r2 r3
      clear hb0 h hr hb1 hbx hbX h1 w0 w1 w2 w3 w4 hbw hb2 h2 hk hglt hlen hN e1 e2
      go_enter Tryz.func60, Tryz.ntmps60
      go_wp2
      refine bodyPost_ret (results_tmp2 rfl _ _ _) rfl ?_
      exact unhide HF

set_option maxRecDepth 100000 in
set_option maxHeartbeats 4000000 in
theorem take3 {W0 W : World} {b : Nat} {s : Sp} {dv bv wv : Value} {l : List It} (hb0 : Below W0.heap.size W0 W) (h : StO W0.heap.size W b s dv bv) (hNb : W0.heap.size ≤ b) (hr : RW W0 wv l) (hl : l.length ≤ 1000000) (hd : s.draws.length ≤ 1000000) (ht : ∀ x ∈ l, x.w.t.size ≤ 1000000) :
    Calls Tryz.prog 60 #[.agg #[(.func (.func 50) #[] #[]), .nilFunc, .nilFunc, .nilFunc], .pointer (some ⟨b, 0, none⟩), wv] W (TkR W0.heap.size W b s dv bv (tkF s 3 l)) := by
  obtain ⟨a0, c0, rfl⟩ := hr.form
  obtain ⟨X, hX⟩ : ∃ X, W.alloc (.cells #[(.func (.func 50) #[] #[]), .nilFunc, .nilFunc, .nilFunc] 117) = X := ⟨_, rfl⟩
  have hb1 : Below W.heap.size W X := by rw [← hX]; exact ballc (Below.refl _ _) _
  have hbx : Bq X W.heap.size 117 #[(.func (.func 50) #[] #[]), .nilFunc, .nilFunc, .nilFunc] := by rw [← hX]; exact Bq.new _ _ _
  have hbX := bnext hb0 hb1
  have h1 := h.below hb1
  have q0 := hbx.cell 0 _ rfl
  have q1 := hbx.cell 1 _ rfl
  have q2 := hbx.cell 2 _ rfl
  have q3 := hbx.cell 3 _ rfl
  have g0 := fun w => run_neq_fnn (P := Tryz.prog) w 112 Tryz.underlying112
  have g1 := fun w => run_neq_fnn (P := Tryz.prog) w 113 Tryz.underlying113
  have g2 := fun w => run_neq_fnn (P := Tryz.prog) w 114 Tryz.underlying114
  have g3 := fun w => run_neq_fnn (P := Tryz.prog) w 115 Tryz.underlying115
  have gf := fun w => run_neq_fnil (P := Tryz.prog) w 112 (.func 50) #[] #[] Tryz.underlying112
  cases l with
  | nil =>
    have HF := hide (show TkR W0.heap.size W b s dv bv (tkF s 3 []) (.returned (.tuple #[.int .i64 ((0 : Nat) : Int), .bool false])) X from ⟨s, 0, dv, bv, rfl, (fun x hx => by cases hx), h1, Kp.of_below hb1⟩)
    clear hb0 h hr hb1 hbx hbX h1
    go_enter Tryz.func60, Tryz.ntmps60
    go_wp2
    refine bodyPost_ret (results_tmp2 rfl _ _ _) rfl ?_
    exact unhide HF
  | cons x l =>
    obtain ⟨g, off, rfl, hglt, w0, w1, w2, w3, w4⟩ := hr.at (i := 0) (x := x) rfl
    rw [Nat.zero_mul, Nat.add_zero] at w0 w1 w2 w3 w4
    have d0 := cell_below w0 hbX
    have d1 := cell_below w1 hbX
    have d2 := cell_below w2 hbX
    have d3 := cell_below w3 hbX
    have d4 := cell_below w4 hbX
    have hbw := Bq.new X 73 (encW x).toArray
    have hb2 := ballc (Below.refl _ X) (.cells (encW x).toArray 73)
    have h2 := h1.below hb2
    have e0 := hbw.cell 0 (.int .i64 (x.w.k : Int)) rfl
    have e1 := hbw.cell 1 (.string x.w.t) rfl
    have e2 := hbw.cell 2 (.int .i64 x.w.n) rfl
    have r0 := (hbx.keep hb2 hbx.lt).cell 0 _ rfl
    have r1 := (hbx.keep hb2 hbx.lt).cell 1 _ rfl
    have r2 := (hbx.keep hb2 hbx.lt).cell 2 _ rfl
    have r3 := (hbx.keep hb2 hbx.lt).cell 3 _ rfl
    have hlen : ((x :: l).length : Int) ≠ 0 := by rw [List.length_cons]; omega
    obtain ⟨N, hN⟩ : ∃ N, (x :: l).length = N := ⟨_, rfl⟩
    rw [hN] at hlen ⊢
    have hz : ((N : Int) == 0) = false := by rw [beq_eq_false_iff_ne]; exact hlen
    have hN0 : (0 : Int) < (N : Int) := by rw [← hN, List.length_cons]; omega
    by_cases hk : x.w.k = 3
    · have kx : ((x.w.k : Int) == 3) = true := by rw [hk]; rfl
      have hsb := h2.bx.sets 5 (.int .i64 x.w.n)
      have kset := Kp.set (N := fun i => i = b) (X.alloc (.cells (encW x).toArray 73)) ⟨b, 5, none⟩ (.int .i64 x.w.n) rfl
      have hst : StO W0.heap.size ((X.alloc (.cells (encW x).toArray 73)).setCell ⟨b, 5, none⟩ (.int .i64 x.w.n)) b (s.num 3 x.w.n) dv bv := ⟨hsb, owns_kp h2.dr kset (fun i hi e => owns_ty h2.dr h2.bx (by decide) (by rw [hi, e])), ownsF_kp h2.by_ kset (fun i hi e => ownsF_ty h2.by_ h2.bx (by decide) (by rw [hi, e]))⟩
      have HF := hide (show TkR W0.heap.size W b s dv bv (tkF s 3 (x :: l)) (.returned (.tuple #[.int .i64 1, .bool true])) ((X.alloc (.cells (encW x).toArray 73)).setCell ⟨b, 5, none⟩ (.int .i64 x.w.n)).drew from ⟨s.num 3 x.w.n, 1, dv, bv, by simp [tkF, hk], (fun y hy => by simp [tkF, hk] at hy; exact hy.symm), ⟨hst.bx, hst.dr, hst.by_⟩, ((Kp.of_below (N := fun i => i = b ∨ dv.ownBlock = some i) (bnext hb1 hb2)).trans kset (fun i hi => .inl (.inl hi))).drew⟩)
      have cb := h2.bx.cell 5 _ rfl
      have fb := h2.bx.frozen 5
      unfold encW at HF e0 e1 e2 r0 r1 r2 r3 cb fb
      clear hb0 h hr hb1 hbx hbX h1 w0 w1 w2 w3 w4 hbw hb2 h2 hk hglt hlen hN hsb kset hst
      go_enter Tryz.func60, Tryz.ntmps60
      go_upto_region 8 with fail
      go_region_law (go_simp; go_at_call 50; (with_reducible refine (ptr_in3 _ _).mono ?_); rintro e W2 ⟨rfl, rfl⟩)
      all_goals (
        go_wp2
        refine bodyPost_ret (results_tmp2 rfl _ _ _) rfl ?_
        exact unhide HF)
    · have kx : ((x.w.k : Int) == 3) = false := by rw [beq_eq_false_iff_ne]; omega
      have HF := hide (show TkR W0.heap.size W b s dv bv (tkF s 3 (x :: l)) (.returned (.tuple #[.int .i64 ((0 : Nat) : Int), .bool false])) (X.alloc (.cells (encW x).toArray 73)) from ⟨s, 0, dv, bv, by simp [tkF, hk], (fun y hy => by simp [tkF, hk] at hy), h2, Kp.of_below (bnext hb1 hb2)⟩)
      unfold encW at HF e0 e1 e2 r0 r1 r2 r3
      clear hb0 h hr hb1 hbx hbX h1 w0 w1 w2 w3 w4 hbw hb2 h2 hk hglt hlen hN e1 e2
      go_enter Tryz.func60, Tryz.ntmps60
      go_wp2
      refine bodyPost_ret (results_tmp2 rfl _ _ _) rfl ?_
      exact unhide HF

set_option maxRecDepth 100000 in
set_option maxHeartbeats 4000000 in
theorem take4 {W0 W : World} {b : Nat} {s : Sp} {dv bv wv : Value} {l : List It} (hb0 : Below W0.heap.size W0 W) (h : StO W0.heap.size W b s dv bv) (hNb : W0.heap.size ≤ b) (hr : RW W0 wv l) (hl : l.length ≤ 1000000) (hd : s.draws.length ≤ 1000000) (ht : ∀ x ∈ l, x.w.t.size ≤ 1000000) :
    Calls Tryz.prog 60 #[.agg #[.nilFunc, (.func (.func 51) #[] #[]), .nilFunc, .nilFunc], .pointer (some ⟨b, 0, none⟩), wv] W (TkR W0.heap.size W b s dv bv (tkF s 4 l)) := by
  obtain ⟨a0, c0, rfl⟩ := hr.form
  obtain ⟨X, hX⟩ : ∃ X, W.alloc (.cells #[.nilFunc, (.func (.func 51) #[] #[]), .nilFunc, .nilFunc] 117) = X := ⟨_, rfl⟩
  have hb1 : Below W.heap.size W X := by rw [← hX]; exact ballc (Below.refl _ _) _
  have hbx : Bq X W.heap.size 117 #[.nilFunc, (.func (.func 51) #[] #[]), .nilFunc, .nilFunc] := by rw [← hX]; exact Bq.new _ _ _
  have hbX := bnext hb0 hb1
  have h1 := h.below hb1
  have q0 := hbx.cell 0 _ rfl
  have q1 := hbx.cell 1 _ rfl
  have q2 := hbx.cell 2 _ rfl
  have q3 := hbx.cell 3 _ rfl
  have g0 := fun w => run_neq_fnn (P := Tryz.prog) w 112 Tryz.underlying112
  have g1 := fun w => run_neq_fnn (P := Tryz.prog) w 113 Tryz.underlying113
  have g2 := fun w => run_neq_fnn (P := Tryz.prog) w 114 Tryz.underlying114
  have g3 := fun w => run_neq_fnn (P := Tryz.prog) w 115 Tryz.underlying115
  have gf := fun w => run_neq_fnil (P := Tryz.prog) w 113 (.func 51) #[] #[] Tryz.underlying113
  have hta := hide (takeAll_in hbX h1 hNb hr hl hd)
  have HB := hide hb1
  obtain ⟨N, hN⟩ : ∃ N, l.length = N := ⟨_, rfl⟩
  rw [hN] at hta ⊢
  have HN := hide hN
  clear hb0 h hr hb1 hbx hbX h1 hN
  go_enter Tryz.func60, Tryz.ntmps60
  go_wp2_with (go_at_call 51; refine (ptr_in4 _ _).mono ?_; rintro e W2 ⟨rfl, rfl⟩)
  refine (unhide hta).mono ?_
  rintro e W2 ⟨dv', ds, rfl, h2, h3, h4⟩
  have HF := hide (show TkR W0.heap.size W b s dv bv (tkF s 4 l) (.returned (.tuple #[.int .i64 (N : Int), .bool (allN l)])) W2 from ⟨s.dr ds, N, dv', bv, by
      unfold tkF
      cases allN l <;> rfl, (fun x hx => by
      unfold tkF at hx
      rw [if_pos rfl] at hx
      split at hx
      · rename_i ha
        cases hx
        rw [h2 ha, unhide HN]
      · cases hx), h3, ((Kp.of_below (N := fun i => i = b ∨ dv.ownBlock = some i) (unhide HB)).trans h4 (fun i hi => .inl hi))⟩)
  clear h2 h3 h4 hta HB HN
  go_wp2
  refine bodyPost_ret (results_tmp2 rfl _ _ _) rfl ?_
  exact unhide HF

set_option maxRecDepth 100000 in
set_option maxHeartbeats 4000000 in
theorem take5 {W0 W : World} {b : Nat} {s : Sp} {dv bv wv : Value} {l : List It} (hb0 : Below W0.heap.size W0 W) (h : StO W0.heap.size W b s dv bv) (hNb : W0.heap.size ≤ b) (hr : RW W0 wv l) (hl : l.length ≤ 1000000) (hd : s.draws.length ≤ 1000000) (ht : ∀ x ∈ l, x.w.t.size ≤ 1000000) :
    Calls Tryz.prog 60 #[.agg #[.nilFunc, .nilFunc, (.func (.func 52) #[] #[]), .nilFunc], .pointer (some ⟨b, 0, none⟩), wv] W (TkR W0.heap.size W b s dv bv (tkF s 5 l)) := by
  obtain ⟨a0, c0, rfl⟩ := hr.form
  obtain ⟨X, hX⟩ : ∃ X, W.alloc (.cells #[.nilFunc, .nilFunc, (.func (.func 52) #[] #[]), .nilFunc] 117) = X := ⟨_, rfl⟩
  have hb1 : Below W.heap.size W X := by rw [← hX]; exact ballc (Below.refl _ _) _
  have hbx : Bq X W.heap.size 117 #[.nilFunc, .nilFunc, (.func (.func 52) #[] #[]), .nilFunc] := by rw [← hX]; exact Bq.new _ _ _
  have hbX := bnext hb0 hb1
  have h1 := h.below hb1
  have q0 := hbx.cell 0 _ rfl
  have q1 := hbx.cell 1 _ rfl
  have q2 := hbx.cell 2 _ rfl
  have q3 := hbx.cell 3 _ rfl
  have g0 := fun w => run_neq_fnn (P := Tryz.prog) w 112 Tryz.underlying112
  have g1 := fun w => run_neq_fnn (P := Tryz.prog) w 113 Tryz.underlying113
  have g2 := fun w => run_neq_fnn (P := Tryz.prog) w 114 Tryz.underlying114
  have g3 := fun w => run_neq_fnn (P := Tryz.prog) w 115 Tryz.underlying115
  have gf := fun w => run_neq_fnil (P := Tryz.prog) w 114 (.func 52) #[] #[] Tryz.underlying114
  cases l with
  | nil =>
    have HF := hide (show TkR W0.heap.size W b s dv bv (tkF s 5 []) (.returned (.tuple #[.int .i64 ((0 : Nat) : Int), .bool false])) X from ⟨s, 0, dv, bv, rfl, (fun x hx => by cases hx), h1, Kp.of_below hb1⟩)
    clear hb0 h hr hb1 hbx hbX h1
    go_enter Tryz.func60, Tryz.ntmps60
    go_wp2
    refine bodyPost_ret (results_tmp2 rfl _ _ _) rfl ?_
    exact unhide HF
  | cons x l =>
    obtain ⟨g, off, rfl, hglt, w0, w1, w2, w3, w4⟩ := hr.at (i := 0) (x := x) rfl
    rw [Nat.zero_mul, Nat.add_zero] at w0 w1 w2 w3 w4
    have d0 := cell_below w0 hbX
    have d1 := cell_below w1 hbX
    have d2 := cell_below w2 hbX
    have d3 := cell_below w3 hbX
    have d4 := cell_below w4 hbX
    have hbw := Bq.new X 73 (encW x).toArray
    have hb2 := ballc (Below.refl _ X) (.cells (encW x).toArray 73)
    have h2 := h1.below hb2
    have e0 := hbw.cell 0 (.int .i64 (x.w.k : Int)) rfl
    have e1 := hbw.cell 1 (.string x.w.t) rfl
    have e2 := hbw.cell 2 (.int .i64 x.w.n) rfl
    have r0 := (hbx.keep hb2 hbx.lt).cell 0 _ rfl
    have r1 := (hbx.keep hb2 hbx.lt).cell 1 _ rfl
    have r2 := (hbx.keep hb2 hbx.lt).cell 2 _ rfl
    have r3 := (hbx.keep hb2 hbx.lt).cell 3 _ rfl
    have hlen : ((x :: l).length : Int) ≠ 0 := by rw [List.length_cons]; omega
    obtain ⟨N, hN⟩ : ∃ N, (x :: l).length = N := ⟨_, rfl⟩
    rw [hN] at hlen ⊢
    have hz : ((N : Int) == 0) = false := by rw [beq_eq_false_iff_ne]; exact hlen
    have hN0 : (0 : Int) < (N : Int) := by rw [← hN, List.length_cons]; omega
    by_cases hk : x.w.k = 2
    · have kx : ((x.w.k : Int) == 2) = true := by rw [hk]; rfl
      have hsb := h2.bx.sets 6 (.string x.w.t)
      have kset := Kp.set (N := fun i => i = b) (X.alloc (.cells (encW x).toArray 73)) ⟨b, 6, none⟩ (.string x.w.t) rfl
      have hst : StO W0.heap.size ((X.alloc (.cells (encW x).toArray 73)).setCell ⟨b, 6, none⟩ (.string x.w.t)) b (s.txt x.w.t) dv bv := ⟨hsb, owns_kp h2.dr kset (fun i hi e => owns_ty h2.dr h2.bx (by decide) (by rw [hi, e])), ownsF_kp h2.by_ kset (fun i hi e => ownsF_ty h2.by_ h2.bx (by decide) (by rw [hi, e]))⟩
      have HF := hide (show TkR W0.heap.size W b s dv bv (tkF s 5 (x :: l)) (.returned (.tuple #[.int .i64 1, .bool true])) ((X.alloc (.cells (encW x).toArray 73)).setCell ⟨b, 6, none⟩ (.string x.w.t)).drew from ⟨s.txt x.w.t, 1, dv, bv, by simp [tkF, hk], (fun y hy => by simp [tkF, hk] at hy; exact hy.symm), ⟨hst.bx, hst.dr, hst.by_⟩, ((Kp.of_below (N := fun i => i = b ∨ dv.ownBlock = some i) (bnext hb1 hb2)).trans kset (fun i hi => .inl (.inl hi))).drew⟩)
      have cb := h2.bx.cell 6 _ rfl
      have fb := h2.bx.frozen 6
      unfold encW at HF e0 e1 e2 r0 r1 r2 r3 cb fb
      clear hb0 h hr hb1 hbx hbX h1 w0 w1 w2 w3 w4 hbw hb2 h2 hk hglt hlen hN hsb kset hst
      go_enter Tryz.func60, Tryz.ntmps60
      go_upto_region 10 with fail
      go_region_law (go_simp; go_at_call 52; (with_reducible refine (ptr_in5 _ _).mono ?_); rintro e W2 ⟨rfl, rfl⟩)
      all_goals (
        go_wp2
        refine bodyPost_ret (results_tmp2 rfl _ _ _) rfl ?_
        exact unhide HF)
    · have kx : ((x.w.k : Int) == 2) = false := by rw [beq_eq_false_iff_ne]; omega
      have HF := hide (show TkR W0.heap.size W b s dv bv (tkF s 5 (x :: l)) (.returned (.tuple #[.int .i64 ((0 : Nat) : Int), .bool false])) (X.alloc (.cells (encW x).toArray 73)) from ⟨s, 0, dv, bv, by simp [tkF, hk], (fun y hy => by simp [tkF, hk] at hy), h2, Kp.of_below (bnext hb1 hb2)⟩)
      unfold encW at HF e0 e1 e2 r0 r1 r2 r3
      clear hb0 h hr hb1 hbx hbX h1 w0 w1 w2 w3 w4 hbw hb2 h2 hk hglt hlen hN e1 e2
      go_enter Tryz.func60, Tryz.ntmps60
      go_wp2
      refine bodyPost_ret (results_tmp2 rfl _ _ _) rfl ?_
      exact unhide HF

set_option maxRecDepth 100000 in
set_option maxHeartbeats 4000000 in
theorem take6 {W0 W : World} {b : Nat} {s : Sp} {dv bv wv : Value} {l : List It} (hb0 : Below W0.heap.size W0 W) (h : StO W0.heap.size W b s dv bv) (hNb : W0.heap.size ≤ b) (hr : RW W0 wv l) (hl : l.length ≤ 1000000) (hd : s.draws.length ≤ 1000000) (ht : ∀ x ∈ l, x.w.t.size ≤ 1000000) :
    Calls Tryz.prog 60 #[.agg #[.nilFunc, .nilFunc, .nilFunc, (.func (.func 53) #[] #[])], .pointer (some ⟨b, 0, none⟩), wv] W (TkR W0.heap.size W b s dv bv (tkF s 6 l)) := by
  obtain ⟨a0, c0, rfl⟩ := hr.form
  obtain ⟨X, hX⟩ : ∃ X, W.alloc (.cells #[.nilFunc, .nilFunc, .nilFunc, (.func (.func 53) #[] #[])] 117) = X := ⟨_, rfl⟩
  have hb1 : Below W.heap.size W X := by rw [← hX]; exact ballc (Below.refl _ _) _
  have hbx : Bq X W.heap.size 117 #[.nilFunc, .nilFunc, .nilFunc, (.func (.func 53) #[] #[])] := by rw [← hX]; exact Bq.new _ _ _
  have hbX := bnext hb0 hb1
  have h1 := h.below hb1
  have q0 := hbx.cell 0 _ rfl
  have q1 := hbx.cell 1 _ rfl
  have q2 := hbx.cell 2 _ rfl
  have q3 := hbx.cell 3 _ rfl
  have g0 := fun w => run_neq_fnn (P := Tryz.prog) w 112 Tryz.underlying112
  have g1 := fun w => run_neq_fnn (P := Tryz.prog) w 113 Tryz.underlying113
  have g2 := fun w => run_neq_fnn (P := Tryz.prog) w 114 Tryz.underlying114
  have g3 := fun w => run_neq_fnn (P := Tryz.prog) w 115 Tryz.underlying115
  have gf := fun w => run_neq_fnil (P := Tryz.prog) w 115 (.func 53) #[] #[] Tryz.underlying115
  cases l with
  | nil =>
    have HF := hide (show TkR W0.heap.size W b s dv bv (tkF s 6 []) (.returned (.tuple #[.int .i64 ((0 : Nat) : Int), .bool false])) X from ⟨s, 0, dv, bv, rfl, (fun x hx => by cases hx), h1, Kp.of_below hb1⟩)
    clear hb0 h hr hb1 hbx hbX h1
    go_enter Tryz.func60, Tryz.ntmps60
    go_wp2
    refine bodyPost_ret (results_tmp2 rfl _ _ _) rfl ?_
    exact unhide HF
  | cons x l =>
    obtain ⟨g, off, rfl, hglt, w0, w1, w2, w3, w4⟩ := hr.at (i := 0) (x := x) rfl
    rw [Nat.zero_mul, Nat.add_zero] at w0 w1 w2 w3 w4
    have d0 := cell_below w0 hbX
    have d1 := cell_below w1 hbX
    have d2 := cell_below w2 hbX
    have d3 := cell_below w3 hbX
    have d4 := cell_below w4 hbX
    have hbw := Bq.new X 73 (encW x).toArray
    have hb2 := ballc (Below.refl _ X) (.cells (encW x).toArray 73)
    have h2 := h1.below hb2
    have e0 := hbw.cell 0 (.int .i64 (x.w.k : Int)) rfl
    have e1 := hbw.cell 1 (.string x.w.t) rfl
    have e2 := hbw.cell 2 (.int .i64 x.w.n) rfl
    have r0 := (hbx.keep hb2 hbx.lt).cell 0 _ rfl
    have r1 := (hbx.keep hb2 hbx.lt).cell 1 _ rfl
    have r2 := (hbx.keep hb2 hbx.lt).cell 2 _ rfl
    have r3 := (hbx.keep hb2 hbx.lt).cell 3 _ rfl
    have hlen : ((x :: l).length : Int) ≠ 0 := by rw [List.length_cons]; omega
    obtain ⟨N, hN⟩ : ∃ N, (x :: l).length = N := ⟨_, rfl⟩
    rw [hN] at hlen ⊢
    have hz : ((N : Int) == 0) = false := by rw [beq_eq_false_iff_ne]; exact hlen
    have hN0 : (0 : Int) < (N : Int) := by rw [← hN, List.length_cons]; omega
    by_cases hk : x.w.k = 2
    · have kx : ((x.w.k : Int) == 2) = true := by rw [hk]; rfl
      have hts : x.w.t.size ≤ maxLen := by have := ht x (by simp); unfold maxLen; omega
      have hZb := Lib.bytesWorld_below ((X.alloc (.cells (encW x).toArray 73)).drew) 5 x.w.t
      have hZn := Lib.bytesWorld_at_new ((X.alloc (.cells (encW x).toArray 73)).drew) 5 x.w.t
      have hcv := Lib.run_convert_string_bytes (P := Tryz.prog) ((X.alloc (.cells (encW x).toArray 73)).drew) 9 38 5 x.w.t Tryz.underlying9 Tryz.underlying38 Tryz.underlying5
      have hG1 := grownCap_ge ((X.alloc (.cells (encW x).toArray 73)).drew) x.w.t.size 0 5
      have hG2 := grownCap_le_maxLen ((X.alloc (.cells (encW x).toArray 73)).drew) x.w.t.size 0 5 hts
      have hcs : (Lib.bytesCells ((X.alloc (.cells (encW x).toArray 73)).drew) 5 x.w.t).size = grownCap ((X.alloc (.cells (encW x).toArray 73)).drew) x.w.t.size 0 5 := by unfold Lib.bytesCells; simp only [Array.size_append, Array.size_map, Array.size_replicate]; show x.w.t.size + _ = _; omega
      have htk : (Lib.bytesCells ((X.alloc (.cells (encW x).toArray 73)).drew) 5 x.w.t).toList.take x.w.t.data.toList.length = Lib.byteCells x.w.t.data.toList := by
        unfold Lib.bytesCells Lib.byteCells
        rw [Array.toList_append, List.take_append_of_le_length (by simp)]
        simp
        exact List.take_of_length_le (by rw [List.length_map, Array.length_toList]; exact Nat.le_refl _)
      obtain ⟨G, hG⟩ : ∃ G, grownCap ((X.alloc (.cells (encW x).toArray 73)).drew) x.w.t.size 0 5 = G := ⟨_, rfl⟩
      obtain ⟨Z, hZ⟩ : ∃ Z, Lib.bytesWorld ((X.alloc (.cells (encW x).toArray 73)).drew) 5 x.w.t = Z := ⟨_, rfl⟩
      rw [hG] at hcv hG1 hG2 hcs
      rw [hZ] at hcv hZb hZn
      have hbZ : Below X.heap.size X Z := bnext hb2.drew hZb
      have hown : OwB Z W0.heap.size (.slice (some ⟨((X.alloc (.cells (encW x).toArray 73)).drew).heap.size, 0, none⟩) x.w.t.size G) x.w.t.data.toList := .inr ⟨_, G, _, _, rfl, Nat.le_trans hbX.size hb2.drew.size, hZn, .inr rfl, by rw [hcs] at *; exact hG1, hG2, hcs, htk⟩
      have h2' : StO W0.heap.size ((X.alloc (.cells (encW x).toArray 73)).drew) b s dv bv := ⟨h2.bx, h2.dr, h2.by_⟩
      have h3 := h2'.below hZb
      have hnb : (Value.slice (some ⟨((X.alloc (.cells (encW x).toArray 73)).drew).heap.size, 0, none⟩) x.w.t.size G).ownBlock ≠ some b := ownsF_ty hown h3.bx (by decide)
      have hsb := h3.bx.sets 8 (.slice (some ⟨((X.alloc (.cells (encW x).toArray 73)).drew).heap.size, 0, none⟩) x.w.t.size G)
      have kset := Kp.set (N := fun i => i = b) Z ⟨b, 8, none⟩ (.slice (some ⟨((X.alloc (.cells (encW x).toArray 73)).drew).heap.size, 0, none⟩) x.w.t.size G) rfl
      have hst : StO W0.heap.size (Z.setCell ⟨b, 8, none⟩ (.slice (some ⟨((X.alloc (.cells (encW x).toArray 73)).drew).heap.size, 0, none⟩) x.w.t.size G)) b (s.dat x.w.t.data.toList) dv (.slice (some ⟨((X.alloc (.cells (encW x).toArray 73)).drew).heap.size, 0, none⟩) x.w.t.size G) := ⟨hsb, owns_kp h3.dr kset (fun i hi e => owns_ty h3.dr h3.bx (by decide) (by rw [hi, e])), ownsF_kp hown kset (fun i hi e => hnb (by rw [hi, e]))⟩
      have HF := hide (show TkR W0.heap.size W b s dv bv (tkF s 6 (x :: l)) (.returned (.tuple #[.int .i64 1, .bool true])) (Z.setCell ⟨b, 8, none⟩ (.slice (some ⟨((X.alloc (.cells (encW x).toArray 73)).drew).heap.size, 0, none⟩) x.w.t.size G)) from ⟨s.dat x.w.t.data.toList, 1, dv, _, by simp [tkF, hk], (fun y hy => by simp [tkF, hk] at hy; exact hy.symm), hst, ((Kp.of_below (N := fun i => i = b ∨ dv.ownBlock = some i) (bnext hb1 hbZ)).trans kset (fun i hi => .inl (.inl hi)))⟩)
      have hY2 : Below X.heap.size X ((X.alloc (.cells (encW x).toArray 73)).drew) := hb2.drew
      have cb := h3.bx.cell 8 _ rfl
      have fb := h3.bx.frozen 8
      have z0 := (hbx.keep hbZ hbx.lt).cell 0 _ rfl
      have z1 := (hbx.keep hbZ hbx.lt).cell 1 _ rfl
      have z2 := (hbx.keep hbZ hbx.lt).cell 2 _ rfl
      have z3 := (hbx.keep hbZ hbx.lt).cell 3 _ rfl
      have ez1 := cell_below e1 (bnext (show Below (X.alloc (.cells (encW x).toArray 73)).heap.size (X.alloc (.cells (encW x).toArray 73)) ((X.alloc (.cells (encW x).toArray 73)).drew) from (Below.refl _ _).drew) hZb)
      rw [show ((X.alloc (.cells (encW x).toArray 73)).drew).heap.size = X.heap.size + 1 from by show ((X.alloc (.cells (encW x).toArray 73))).heap.size = _; simp] at HF hcv
      unfold encW at hcv e0 e1 e2 r0 r1 r2 r3
      clear hb0 h hr hb1 hbx hbX h1 w0 w1 w2 w3 w4 hbw hb2 h2 hk hglt hlen hN hsb kset hst hts hZb hZn hG1 hG2 hcs htk hG hZ hbZ hown h2' h3 hnb hY2 ht
      go_enter Tryz.func60, Tryz.ntmps60
      go_upto_region 12 with fail
      go_region_law (go_simp; go_at_call 53; (with_reducible refine (ptr_in6 _ _).mono ?_); rintro e W2 ⟨rfl, rfl⟩)
      all_goals (
        go_wp2
        refine bodyPost_ret (results_tmp2 rfl _ _ _) rfl ?_
        exact unhide HF)
    · have kx : ((x.w.k : Int) == 2) = false := by rw [beq_eq_false_iff_ne]; omega
      have HF := hide (show TkR W0.heap.size W b s dv bv (tkF s 6 (x :: l)) (.returned (.tuple #[.int .i64 ((0 : Nat) : Int), .bool false])) (X.alloc (.cells (encW x).toArray 73)) from ⟨s, 0, dv, bv, by simp [tkF, hk], (fun y hy => by simp [tkF, hk] at hy), h2, Kp.of_below (bnext hb1 hb2)⟩)
      unfold encW at HF e0 e1 e2 r0 r1 r2 r3
      clear hb0 h hr hb1 hbx hbX h1 w0 w1 w2 w3 w4 hbw hb2 h2 hk hglt hlen hN e1 e2
      go_enter Tryz.func60, Tryz.ntmps60
      go_wp2
      refine bodyPost_ret (results_tmp2 rfl _ _ _) rfl ?_
      exact unhide HF

theorem take_in {W0 W : World} {b : Nat} {s : Sp} {dv bv wv : Value} {l : List It} (hb0 : Below W0.heap.size W0 W) (h : StO W0.heap.size W b s dv bv) (hNb : W0.heap.size ≤ b) (hr : RW W0 wv l) (hl : l.length ≤ 1000000) (hd : s.draws.length ≤ 1000000) (ht : ∀ x ∈ l, x.w.t.size ≤ 1000000) (f : Nat) (hf : f < 7) :
    Calls Tryz.prog 60 #[.agg (fC f).toArray, .pointer (some ⟨b, 0, none⟩), wv] W (TkR W0.heap.size W b s dv bv (tkF s f l)) := by
  have hi2 : f = 0 ∨ f = 1 ∨ f = 2 ∨ f = 3 ∨ f = 4 ∨ f = 5 ∨ f = 6 := by omega
  rcases hi2 with rfl | rfl | rfl | rfl | rfl | rfl | rfl
  · exact take0 hb0 h hNb hr hl hd ht
  · exact take1 hb0 h hNb hr hl hd ht
  · exact take2 hb0 h hNb hr hl hd ht
  · exact take3 hb0 h hNb hr hl hd ht
  · exact take4 hb0 h hNb hr hl hd ht
  · exact take5 hb0 h hNb hr hl hd ht
  · exact take6 hb0 h hNb hr hl hd ht
end Go.Proofs.YtkndjbmlkfpfoaaGreatDoor

/-
  A row of the table reads a line's words.
-/
set_option linter.unusedSimpArgs false
set_option linter.unusedVariables false
namespace Go.Proofs.YtkndjbmlkfpfoaaGreatDoor
open Go.RowKit Go.Lib

/-- the fields take, one behind the other -/
def rdFs : List Nat → Sp → List It → Option (Sp × List It)
  | [], s, l => some (s, l)
  | f :: fs, s, l => match tkF s f l with
    | none => none
    | some (s', n) => rdFs fs s' (l.drop n)
def sp0 (k : Int) : Sp := ⟨k, 0, 0, 0, 0, 0, ⟨#[]⟩, [], []⟩
/-- what row i of the table reads -/
def rdRw (i : Nat) (l : List It) : Option Sp := match l with
  | [] => none
  | x :: l => if x.w.k = 1 ∧ x.w.t = ofL (tnm.getD i []) then (match rdFs (tfl.getD i []) (sp0 ((i : Int) + 1)) l with
      | some (s, []) => some s
      | _ => none) else none
theorem rdFs_snoc : ∀ (fs : List Nat) (f : Nat) (s : Sp) (l : List It), rdFs (fs ++ [f]) s l = match rdFs fs s l with
    | none => none
    | some (s', l') => match tkF s' f l' with
      | none => none
      | some (s2, n) => some (s2, l'.drop n) := by
  intro fs
  induction fs with
  | nil =>
    intro f s l
    show (match tkF s f l with | none => none | some (s', n) => rdFs [] s' (l.drop n)) = _
    cases h : tkF s f l with
    | none => simp [rdFs, h]
    | some p => obtain ⟨s', n⟩ := p; simp [rdFs, h]
  | cons g fs ih =>
    intro f s l
    show (match tkF s g l with | none => none | some (s', n) => rdFs (fs ++ [f]) s' (l.drop n)) = _
    cases h : tkF s g l with
    | none => simp [rdFs, h]
    | some p => obtain ⟨s', n⟩ := p; simp [rdFs, h, ih]
theorem rdFs_none : ∀ (fs gs : List Nat) (s : Sp) (l : List It), rdFs fs s l = none → rdFs (fs ++ gs) s l = none := by
  intro fs
  induction fs with
  | nil => intro gs s l h; cases h
  | cons g fs ih =>
    intro gs s l h
    show (match tkF s g l with | none => none | some (s', n) => rdFs (fs ++ gs) s' (l.drop n)) = none
    have h' : (match tkF s g l with | none => none | some (s', n) => rdFs fs s' (l.drop n)) = none := h
    cases h2 : tkF s g l with
    | none => rfl
    | some p => obtain ⟨s', n⟩ := p; rw [h2] at h'; exact ih gs s' _ h'
theorem tkF_cnt {s : Sp} {f : Nat} {l : List It} {s2 : Sp} {n2 : Nat} (h : tkF s f l = some (s2, n2)) : n2 ≤ l.length ∧ s2.draws.length + (l.drop n2).length ≤ s.draws.length + l.length := by
  unfold tkF at h
  split at h
  · split at h
    · cases h
      refine ⟨Nat.le_refl _, ?_⟩
      simp [Sp.dr]
    · cases h
  · split at h
    · cases h
    · rename_i x l2
      split at h
      · split at h
        · cases h
          refine ⟨by simp, ?_⟩
          have : (s.num f x.w.n).draws = s.draws := by unfold Sp.num; split <;> rfl
          rw [this]
          simp
        · cases h
      · split at h
        · cases h
          refine ⟨by simp, ?_⟩
          have : (if f = 5 then s.txt x.w.t else s.dat x.w.t.data.toList).draws = s.draws := by split <;> rfl
          rw [this]
          simp
        · cases h
/-- a Step out of new memory: its two rows -/
def StV (W : World) (N : Nat) (s : Sp) (dv bv : Value) : Prop := W.ownsRow N 3 1 dv s.draws.length (flat enN s.draws) ∧ OwB W N bv s.data
/-- what read answers -/
def RdA (W : World) (r : Option Sp) (e : Ending) (W' : World) : Prop :=
  match r with
  | some s => ∃ dv bv, e = .returned (.tuple #[.agg (spC s dv bv), .bool true]) ∧ StV W' W.heap.size s dv bv ∧ Below W.heap.size W W'
  | none => ∃ (s : Sp) (a1 : Option Addr) (n1 c1 : Nat) (a2 : Option Addr) (n2 c2 : Nat), e = .returned (.tuple #[.agg (spC s (.slice a1 n1 c1) (.slice a2 n2 c2)), .bool false]) ∧ Below W.heap.size W W'

theorem results_ctS {P : Program} {fn : Func} {j p : Tmp} {ty : TypeId} (h : fn.results = #[.cell p ty, .tmp j]) (tmps : Array Value) (w : World) (g : Nat) (t : TypeId) (cs : Array Value) (fr : Nat × Nat) (d : TypeDesc)
    (hp : tmps.getD p undef = .pointer (some ⟨g, 0, none⟩)) (hg : w.heap[g]? = some (.cells cs t fr))
    (hu : P.underlying ty = some d) (hd : (match d with | .struct _ | .array _ _ => true | _ => false) = true) (hi : (P.info? ty).map (·.size) = some cs.size) :
    (results fn tmps).run P w = .ok (.tuple #[.agg cs, tmps.getD j undef]) w := by
  have hp' : tmps[p]?.getD undef = .pointer (some ⟨g, 0, none⟩) := by simpa using hp
  simp [results, h, hp', asAddr, run_loadVar_row w g t ty cs fr d hg hu hd hi]
theorem sizeSt : (Tryz.prog.info? 40).map (·.size) = some 9 := by kernel_rfl
theorem wpl_storeS {w : World} {ops : Array Oper} {rest : List Oper} {o : Oper} {a : Act} {Q : Exit → Act → World → Prop} (hgd : o.guard = none) (x y : Operand) (ho : o.op = .store 40 x y)
    {g : Nat} (hx : a.eval x = .pointer (some ⟨g, 0, none⟩)) {cs : Array Value} (hy : a.eval y = .agg cs) {t : TypeId} {old : Array Value} (hg : Bq w g t old) (h1 : old.size = 9) (h2 : cs.size = 9) (h3 : cs.all (·.oneCell') = true) (h : wpList Tryz.prog ops Q rest (a.put o.dst undef) (w.setRow g cs)) : wpList Tryz.prog ops Q (o :: rest) a w :=
  wpList_store_row hgd _ x y ho g cs hx hy t old hg (by rw [h2]; exact sizeSt) (by rw [h1, h2]) h3 h
theorem kp_setRow (w : World) (g : Nat) (cs : Array Value) : Kp (fun i => i = g) w (w.setRow g cs) := ⟨rfl, rfl, rfl, by simp, fun k _ hk => setRow_other _ _ k _ hk⟩
theorem flat_drop {α : Type} {enc : α → List Value} {k : Nat} (hk : ∀ x, (enc x).length = k) : ∀ (l : List α) (n : Nat), flat enc (l.drop n) = (flat enc l).drop (n * k) := by
  intro l
  induction l with
  | nil => intro n; simp [flat]
  | cons x l ih =>
    intro n
    cases n with
    | zero => simp
    | succ n =>
      have e : (n + 1) * k = (enc x).length + n * k := by rw [hk, Nat.add_mul, Nat.one_mul, Nat.add_comm]
      rw [List.drop_succ_cons, ih, flat_cons, e, ← List.drop_drop, List.drop_left']
      rfl
theorem RW.drop {W : World} {b off n c : Nat} {l : List It} (h : RW W (.slice (some ⟨b, off, none⟩) n c) l) (k : Nat) (hk : k ≤ l.length) : RW W (.slice (some ⟨b, off + k * 5, none⟩) (n - k) (c - k)) (l.drop k) := by
  have hn := RC.len h
  unfold RW at h ⊢
  rw [List.length_drop, ← hn]
  rcases h with ⟨h0, a, cap, e⟩ | ⟨b', off', cap, e, h1, h2, h3⟩
  · exact .inl ⟨by omega, _, _, by rw [hn, h0, Nat.zero_sub]⟩
  · simp at e
    obtain ⟨⟨rfl, rfl⟩, _, rfl⟩ := e
    refine .inr ⟨b, off + k * 5, c - k, rfl, by omega, h2, fun j x hx => ?_⟩
    rw [flat_drop encW_len, List.getElem?_drop] at hx
    have := h3 _ _ hx
    rwa [← Nat.add_assoc] at this

theorem wpl_loadS {w : World} {ops : Array Oper} {rest : List Oper} {o : Oper} {a : Act} {Q : Exit → Act → World → Prop} (hgd : o.guard = none) (x : Operand) (ho : o.op = .load 40 x)
    {g : Nat} (hx : a.eval x = .pointer (some ⟨g, 0, none⟩)) {t : TypeId} {cs : Array Value} (hg : Bq w g t cs) (hs : cs.size = 9) (h : wpList Tryz.prog ops Q rest (a.put o.dst (.agg cs)) w) : wpList Tryz.prog ops Q (o :: rest) a w :=
  wpList_load_row hgd _ x ho g hx t cs (0, 0) _ hg Tryz.underlying40 rfl (by rw [hs]; exact sizeSt) h
theorem RW.dropI {W : World} {la : Option Addr} {ln lc : Nat} {l : List It} (h : RW W (.slice la ln lc) l) (k : Nat) (hk : k ≤ l.length) (hlc : ln ≤ lc) : RW W (.slice (if lc = k then la else Option.map (fun x => x.add (k * 5)) la) (ln - k) (lc - k)) (l.drop k) := by
  have hn := RC.len h
  by_cases hck : lc = k
  · have h0 : ln - k = 0 := by omega
    have hd : l.drop k = [] := List.drop_eq_nil_of_le (by omega)
    rw [h0, hd]
    exact RC.nil _ _ _
  · rw [if_neg hck]
    have h' := h
    rcases h with ⟨h0, _⟩ | ⟨b', off', cap, e, h1, h2, h3⟩
    · have h0' : ln - k = 0 := by omega
      have hd : l.drop k = [] := List.drop_eq_nil_of_le (by omega)
      rw [h0', hd]
      exact RC.nil _ _ _
    · simp at e
      obtain ⟨rfl, e2, rfl⟩ := e
      show RW W (.slice (some ((⟨b', off', none⟩ : Addr).add (k * 5))) (ln - k) (lc - k)) (l.drop k)
      rw [Addr.add_lit]
      exact h'.drop k hk
def zSt : Array Value := #[.int .i64 0, .int .i64 0, .int .i64 0, .int .i64 0, .int .i64 0, .int .i64 0, .string ⟨#[]⟩, .slice none 0 0, .slice none 0 0]
theorem zSt_one : zSt.all (·.oneCell') = true := by simp [zSt, Value.oneCell']
set_option maxRecDepth 100000 in
set_option maxHeartbeats 4000000 in
theorem rowRead_in {W : World} {v wv : Value} {b0 : Nat} {bs : Nat → Nat} {i : Nat} {l : List It} (ht : Tb W v b0 bs) (hi : i < 14) (hr : RW W wv l) (hne : l ≠ []) (hl : l.length ≤ 1000000) (hts : ∀ x ∈ l, x.w.t.size ≤ 1000000) :
    Calls Tryz.prog 25 #[.agg (rwC bs i).toArray, wv] W (RdA W (rdRw i l)) := by
  obtain ⟨fa, fe, hfl⟩ := ht.fields hi
  unfold rwC
  rw [fe]
  obtain ⟨x, l1, rfl⟩ : ∃ x l1, l = x :: l1 := by cases l with | nil => exact absurd rfl hne | cons x l1 => exact ⟨x, l1, rfl⟩
  obtain ⟨a0, c0, rfl⟩ := hr.form
  obtain ⟨g, off, rfl, hglt, w0, w1, w2, w3, w4⟩ := hr.at (i := 0) (x := x) rfl
  rw [Nat.zero_mul, Nat.add_zero] at w0 w1
  obtain ⟨N, hN⟩ : ∃ N, (x :: l1).length = N := ⟨_, rfl⟩
  rw [hN] at hr hl ⊢
  have hN0 : (0 : Int) < (N : Int) := by rw [← hN, List.length_cons]; omega
  obtain ⟨nm, hnm⟩ : ∃ nm, ofL (tnm.getD i []) = nm := ⟨_, rfl⟩
  obtain ⟨fl, hfl0⟩ : ∃ fl, tfl.getD i [] = fl := ⟨_, rfl⟩
  rw [hfl0] at hfl ⊢
  rw [hnm]
  obtain ⟨n, hn⟩ : ∃ n, fl.length = n := ⟨_, rfl⟩
  rw [hn]
  obtain ⟨X, hX⟩ : ∃ X, (W.alloc (.cells #[.string nm, .int .i64 ((i : Int) + 1), .slice fa n n] 76)).alloc (.cells zSt 40) = X := ⟨_, rfl⟩
  have hbX : Below W.heap.size W X := by rw [← hX]; exact ballc (ballc (Below.refl _ _) _) _
  have hrow : Bq X W.heap.size 76 #[.string nm, .int .i64 ((i : Int) + 1), .slice fa n n] := by
    rw [← hX]
    exact (Bq.new W _ _).keep (ballc (Below.refl _ _) _) (Bq.new W _ _).lt
  have hres : Bq X (W.heap.size + 1) 40 zSt := by
    rw [← hX]
    have := Bq.new (W.alloc (.cells #[.string nm, .int .i64 ((i : Int) + 1), .slice fa n n] 76)) 40 zSt
    rw [World.size_alloc] at this
    exact this
  have q0 := hrow.cell 0 (.string nm) rfl
  have q1 := hrow.cell 1 (.int .i64 ((i : Int) + 1)) rfl
  have q2 := hrow.cell 2 (.slice fa n n) rfl
  have d0 := cell_below w0 hbX
  have d1 := cell_below w1 hbX
  have HX := hide hX
  have fail_ : ∀ (Y : World), rdRw i (x :: l1) = none → Below W.heap.size W Y → RdA W (rdRw i (x :: l1)) (.returned (.tuple #[.agg zSt, .bool false])) Y := fun Y hz hb => by rw [hz]; exact ⟨sp0 0, none, 0, 0, none, 0, 0, rfl, hb⟩
  unfold zSt at hX hres
  by_cases hk : x.w.k = 1
  · have kx : ((x.w.k : Int) != 1) = false := by rw [hk]; rfl
    by_cases htx : x.w.t = nm
    · have kt : (x.w.t.toList == nm.toList) = true := by rw [htx, lists_beq]; simp
      have hrd : rdRw i (x :: l1) = match rdFs fl (sp0 ((i : Int) + 1)) l1 with | some (s, []) => some s | _ => none := by
        show (if x.w.k = 1 ∧ x.w.t = ofL (tnm.getD i []) then _ else none) = _
        rw [if_pos ⟨hk, htx.trans hnm.symm⟩, hfl0]
      have hi7 := tfl_lt i hi
      rw [hfl0] at hi7
      have hl3 := tfl_le i hi
      rw [hfl0, hn] at hl3
      have hr1 : RW W (.slice (some ⟨g, off + 5, none⟩) (N - 1) (c0 - 1)) l1 := hr.drop 1 (by rw [List.length_cons]; omega)
      have hN1 : N - 1 = l1.length := by rw [← hN, List.length_cons]; omega
      have hcN : N ≤ c0 := by
        rcases hr with ⟨h0, _⟩ | ⟨_, _, _, e9, hn9, _⟩
        · simp at h0
        · simp at e9; rw [e9.2.2, ← hN]; exact hn9
      have HRD := hide hrd
      have HFL := hide hfl
      have HI7 := hide hi7
      have HR1 := hide hr1
      have HROW := hide hrow
      have HRES := hide hres
      have HBX := hide hbX
      have HN1 := hide hN1
      have HTS := hide hts
      have HNn := hide hn
      have kcN : (N : Int) ≤ (c0 : Int) := by omega
      have k1N : (1 : Int) ≤ (N : Int) := by omega
      clear hrd hfl hi7 hr1 hrow hres hbX hN1 hts hn hr w0 w1 w2 w3 w4 fail_ htx hk hne hN hfl0 hnm fe hcN
      go_enter Tryz.func25, Tryz.ntmps25
      go_upto_region 1 with fail
      go_quiet (fail)
      have hrowq := (show Bq (X.drewN nq) W.heap.size 76 #[.string nm, .int .i64 ((i : Int) + 1), .slice fa n n] from unhide HROW)
      have p0 := hrowq.cell 0 (.string nm) rfl
      have p1 := hrowq.cell 1 (.int .i64 ((i : Int) + 1)) rfl
      have p2 := hrowq.cell 2 (.slice fa n n) rfl
      obtain ⟨Y, hY⟩ : ∃ Y, X.drewN nq = Y := ⟨_, rfl⟩
      rw [hY] at p0 p1 p2 hrowq ⊢
      go_upto_region 5 with fail
      obtain ⟨la, hla⟩ : ∃ la, (if c0 = 1 then some (⟨g, off, none⟩ : Addr) else some ⟨g, off + 5, none⟩) = la := ⟨_, rfl⟩
      have hR0 : RW W (.slice la (N - 1) (c0 - 1)) l1 := by
        rw [← hla]
        by_cases hc1 : c0 = 1
        · rw [if_pos hc1]
          have h0 : N - 1 = 0 := by omega
          have := unhide HN1
          rw [h0] at this ⊢
          obtain rfl := List.eq_nil_of_length_eq_zero this.symm
          exact RC.nil _ _ _
        · rw [if_neg hc1]; exact unhide HR1
      rw [hla]
      have hYX : Below W.heap.size W Y := by rw [← hY]; exact bdrew (unhide HBX) nq
      have hzY : Y.heap.size = W.heap.size + 2 := by rw [← hY]; show X.heap.size = _; rw [← hX]; simp
      have hresY : Bq Y (W.heap.size + 1) 40 zSt := by rw [← hY]; exact unhide HRES
      have hbZ := ballc (Below.refl _ Y) (.cells (spC (sp0 ((i : Int) + 1)) (.slice none 0 0) (.slice none 0 0)) 40)
      have hstZ : StO W.heap.size (Y.alloc (.cells (spC (sp0 ((i : Int) + 1)) (.slice none 0 0) (.slice none 0 0)) 40)) Y.heap.size (sp0 ((i : Int) + 1)) (.slice none 0 0) (.slice none 0 0) := ⟨Bq.new _ _ _, World.ownsRow_nil _ _ _ _, .inl ⟨rfl, rfl⟩⟩
      have HS0 := hide (show rdFs (fl.take 0) (sp0 ((i : Int) + 1)) l1 = some (sp0 ((i : Int) + 1), l1) ∧ RW W (.slice la (N - 1) (c0 - 1)) l1 ∧ StO W.heap.size (Y.alloc (.cells (spC (sp0 ((i : Int) + 1)) (.slice none 0 0) (.slice none 0 0)) 40)) Y.heap.size (sp0 ((i : Int) + 1)) (.slice none 0 0) (.slice none 0 0) ∧ Bq (Y.alloc (.cells (spC (sp0 ((i : Int) + 1)) (.slice none 0 0) (.slice none 0 0)) 40)) W.heap.size 76 #[.string nm, .int .i64 ((i : Int) + 1), .slice fa n n] ∧ Bq (Y.alloc (.cells (spC (sp0 ((i : Int) + 1)) (.slice none 0 0) (.slice none 0 0)) 40)) (W.heap.size + 1) 40 zSt ∧ Below W.heap.size W (Y.alloc (.cells (spC (sp0 ((i : Int) + 1)) (.slice none 0 0) (.slice none 0 0)) 40)) ∧ 0 + l1.length ≤ 1000000 ∧ (∀ y ∈ l1, y.w.t.size ≤ 1000000) from ⟨rfl, hR0, hstZ, hrowq.keep hbZ hrowq.lt, hresY.keep hbZ hresY.lt, bnext hYX hbZ, by have := unhide HN1; omega, fun y hy => unhide HTS y (List.mem_cons_of_mem _ hy)⟩)
      unfold spC sp0 at HS0
      have hp2 := cell_below p2 hbZ
      unfold spC sp0 at hp2
      obtain ⟨b, hb⟩ : ∃ b, Y.heap.size = b := ⟨_, rfl⟩
      rw [hb] at HS0 hzY ⊢
      have hbW : W.heap.size + 1 < b := by omega
      obtain ⟨Z, hZ⟩ : ∃ Z, Y.alloc (.cells #[.int .i64 ((i : Int) + 1), .int .i64 0, .int .i64 0, .int .i64 0, .int .i64 0, .int .i64 0, .string ⟨#[]⟩, .slice none 0 0, .slice none 0 0] 40) = Z := ⟨_, rfl⟩
      rw [hZ] at HS0 hp2 ⊢
      have HSP := HS0
      clear HS0 hla hR0 hYX hzY hresY hbZ hstZ hY hX q0 q1 q2 p0 p1 p2 hrowq HR1 HROW HRES HBX HX hZ hb d0 d1 kx kt
      go_wp2_with fail
      go_loopw [7, 9, 10, 11, 35] (fun v7 v9 v10 v11 v35 wr => ∃ (j ln lc : Nat) (la : Option Addr), v35 = .int .i64 (j : Int) ∧ v7 = .slice la ln lc ∧ j ≤ n ∧ Hid (∃ (s' : Sp) (l' : List It) (dv bv : Value), rdFs (fl.take j) (sp0 ((i : Int) + 1)) l1 = some (s', l') ∧ RW W (.slice la ln lc) l' ∧ StO W.heap.size wr b s' dv bv ∧ Bq wr W.heap.size 76 #[.string nm, .int .i64 ((i : Int) + 1), .slice fa n n] ∧ Bq wr (W.heap.size + 1) 40 zSt ∧ Below W.heap.size W wr ∧ s'.draws.length + l'.length ≤ 1000000 ∧ (∀ y ∈ l', y.w.t.size ≤ 1000000))) (fun _ _ _ _ v35 _ => n - (RowKit.intOf v35).toNat)
      case atStart => exact ⟨0, N - 1, c0 - 1, la, rfl, by go_num, Nat.zero_le _, hide ⟨_, _, _, _, unhide HSP⟩⟩
      case round =>
        clear HSP
        obtain ⟨j, ln, lc, la2, rfl, rfl, hj, H⟩ := hrel
        obtain ⟨s', l', dv, bv, h1, h2, h3, h4, h5, h6, h7, h8⟩ := unhide H
        by_cases hjl : j < n
        · obtain ⟨f, hf⟩ : ∃ f, fl[j]? = some f := ⟨_, List.getElem?_eq_getElem (by rw [unhide HNn]; exact hjl)⟩
          obtain ⟨gf, rfl, hglt2, hcs⟩ := unhide HFL j f hf
          obtain ⟨u0, u1, u2, u3, hu, -⟩ := fC_four f
          rw [hu] at hcs
          have d0 := cell_below (hcs 0 u0 rfl) h6
          rw [Nat.add_zero] at d0
          have d1 := cell_below (hcs 1 u1 rfl) h6
          have d2 := cell_below (hcs 2 u2 rfl) h6
          have d3 := cell_below (hcs 3 u3 rfl) h6
          have k5 : (j : Int) < (n : Int) := by omega
          have k6 : (0 : Int) ≤ (j : Int) := by omega
          have hf7 := unhide HI7 f (List.mem_of_getElem? hf)
          have hb3 := ballc (Below.refl _ wr) (.cells #[u0, u1, u2, u3] 117)
          have hbx := Bq.new wr 117 #[u0, u1, u2, u3]
          have h3' := h3.below hb3
          have h4' := h4.keep hb3 h4.lt
          have h5' := h5.keep hb3 h5.lt
          have h6' := bnext h6 hb3
          have htk := hide (take_in (W0 := W) h6' h3' (by omega) h2 (by omega) (by omega) h8 f hf7)
          rw [hu] at htk
          have e0 := hbx.cell 0 u0 rfl
          have e1 := hbx.cell 1 u1 rfl
          have e2 := hbx.cell 2 u2 rfl
          have e3 := hbx.cell 3 u3 rfl
          have HU := hide hu
          have HF := hide hf
          have hln := hide (RC.len h2)
          have HST := hide (show rdFs (fl.take j) (sp0 ((i : Int) + 1)) l1 = some (s', l') ∧ RW W (.slice la2 ln lc) l' ∧ StO W.heap.size (wr.alloc (.cells #[u0, u1, u2, u3] 117)) b s' dv bv ∧ Bq (wr.alloc (.cells #[u0, u1, u2, u3] 117)) W.heap.size 76 #[.string nm, .int .i64 ((i : Int) + 1), .slice (some ⟨gf, 0, none⟩) n n] ∧ Bq (wr.alloc (.cells #[u0, u1, u2, u3] 117)) (W.heap.size + 1) 40 zSt ∧ Below W.heap.size W (wr.alloc (.cells #[u0, u1, u2, u3] 117)) ∧ s'.draws.length + l'.length ≤ 1000000 ∧ (∀ y ∈ l', y.w.t.size ≤ 1000000) from ⟨h1, h2, h3', h4', h5', h6', h7, h8⟩)
          clear h1 h2 h3 h4 h5 h6 h7 h8 h3' h4' h5' h6' hcs hu hf hb3 hbx hglt2 H
          go_upto_region 7 with fail
          go_cut [9] from 37 to 38 (fun v wx => v = .pointer (some ⟨wr.heap.size, 0, none⟩) ∧ wx = wr.alloc (.cells #[u0, u1, u2, u3] 117))
          case first =>
            have hu := unhide HU
            have hi2 : f = 0 ∨ f = 1 ∨ f = 2 ∨ f = 3 ∨ f = 4 ∨ f = 5 ∨ f = 6 := by omega
            clear htk e0 e1 e2 e3 HF HST HU
            rcases hi2 with rfl | rfl | rfl | rfl | rfl | rfl | rfl <;> (simp only [fC, List.cons.injEq, and_true] at hu; obtain ⟨rfl, rfl, rfl, rfl⟩ := hu; go_wp2; go_meet; exact ⟨rfl, rfl⟩)
          case rest =>
          obtain ⟨rfl, rfl⟩ := hcut
          go_wp2_with fail
          refine (unhide htk).mono ?_
          rintro e W4 ⟨s2, n2, dv2, bv2, rfl, hr2, hs2, hk2⟩
          obtain ⟨h1, h2, h3, h4, h5, h6, h7, h8⟩ := unhide HST
          have hnw : ∀ q t vs, Bq (wr.alloc (.cells #[u0, u1, u2, u3] 117)) q t vs → q ≠ b → t ≠ 3 → Bq W4 q t vs := fun q t vs hq hqb hqt => hq.kp hk2 (fun hh => by
            rcases hh with hh | hh
            · exact hqb hh
            · exact owns_ty h3.dr hq hqt hh)
          have g4 := hnw _ _ _ h4 (by omega) (by decide)
          have g5 := hnw _ _ _ h5 (by omega) (by decide)
          have g6 : Below W.heap.size W W4 := hk2.below h6 (fun q hq => by
            rcases hq with rfl | hq
            · omega
            · exact (World.ownsRow.lt h3.dr q hq).1)
          cases hr : tkF s' f l' with
          | none =>
            have hz : rdRw i (x :: l1) = none := by
              have e := rdFs_none (fl.take (j + 1)) (fl.drop (j + 1)) (sp0 ((i : Int) + 1)) l1 (by rw [List.take_add_one, unhide HF]; show rdFs (fl.take j ++ [f]) _ l1 = none; rw [rdFs_snoc, h1]; simp [hr])
              rw [List.take_append_drop] at e
              rw [unhide HRD, e]
            have hb2 := hide (show Bq W4 (W.heap.size + 1) 40 zSt ∧ RdA W (rdRw i (x :: l1)) (.returned (.tuple #[.agg zSt, .bool false])) (W4.setRow (W.heap.size + 1) zSt) from ⟨g5, by rw [hz]; exact ⟨sp0 0, none, 0, 0, none, 0, 0, rfl, (kp_setRow W4 (W.heap.size + 1) zSt).below g6 (fun i e => by omega)⟩⟩)
            clear h1 h2 h3 h4 h5 h6 h7 h8 hnw g4 g5 g6 hz hr hr2 hs2 hk2 htk HST HF HU
            rw [show (none : Option (Sp × Nat)).isSome = false from rfl]
            go_wp2_with (refine wpl_storeS (cs := zSt) rfl _ _ rfl rfl rfl (unhide hb2).1 rfl rfl zSt_one ?_)
            refine bodyPost_ret (results_ctS rfl _ _ (W.heap.size + 1) _ zSt _ _ rfl (setRow_heap _ _ _ zSt _ _ (unhide hb2).1) Tryz.underlying40 rfl sizeSt) rfl ?_
            exact (unhide hb2).2
          | some p =>
            have hp := hr2 p hr
            subst hp
            obtain ⟨hc1, hc2⟩ := tkF_cnt hr
            have hl2 := unhide hln
            have kn1 : (n2 : Int) ≤ (ln : Int) := by rw [hl2]; omega
            have kn0 : (0 : Int) ≤ (n2 : Int) := by omega
            have hlc : ln ≤ lc := by
              rcases h2 with ⟨h0, _⟩ | ⟨_, _, _, e9, h9, _⟩
              · omega
              · simp at e9; omega
            have klc : (ln : Int) ≤ (lc : Int) := by omega
            have HSN := hide (show StO W.heap.size W4 b s2 dv2 bv2 ∧ Bq W4 W.heap.size 76 #[.string nm, .int .i64 ((i : Int) + 1), .slice (some ⟨gf, 0, none⟩) n n] ∧ Bq W4 (W.heap.size + 1) 40 zSt ∧ Below W.heap.size W W4 ∧ s2.draws.length + (l'.drop n2).length ≤ 1000000 ∧ (∀ y ∈ l'.drop n2, y.w.t.size ≤ 1000000) from ⟨hs2, g4, g5, g6, Nat.le_trans hc2 h7, fun y hy => h8 y (List.mem_of_mem_drop hy)⟩)
            have HR2 := hide h2
            have HRF := hide (show rdFs (fl.take (j + 1)) (sp0 ((i : Int) + 1)) l1 = some (s2, l'.drop n2) from by rw [List.take_add_one, unhide HF]; show rdFs (fl.take j ++ [f]) _ l1 = _; rw [rdFs_snoc, h1]; simp [hr])
            have HC1 := hide hc1
            clear h1 h2 h3 h4 h5 h6 h7 h8 hnw g4 g5 g6 hr hr2 hs2 hk2 htk HST HF HU hc1 hc2 hl2 hlc
            rw [show (some (s2, n2) : Option (Sp × Nat)).isSome = true from rfl]
            have hdr := (unhide HR2).dropI n2 (unhide HC1) (by omega)
            have HNX := hide (show ∃ (s' : Sp) (l' : List It) (dv bv : Value), rdFs (fl.take (j + 1)) (sp0 ((i : Int) + 1)) l1 = some (s', l') ∧ RW W (.slice (if lc = n2 then la2 else Option.map (fun x => x.add (n2 * 5)) la2) (ln - n2) (lc - n2)) l' ∧ StO W.heap.size W4 b s' dv bv ∧ Bq W4 W.heap.size 76 #[.string nm, .int .i64 ((i : Int) + 1), .slice (some ⟨gf, 0, none⟩) n n] ∧ Bq W4 (W.heap.size + 1) 40 zSt ∧ Below W.heap.size W W4 ∧ s'.draws.length + l'.length ≤ 1000000 ∧ (∀ y ∈ l', y.w.t.size ≤ 1000000) from ⟨_, _, _, _, unhide HRF, hdr, unhide HSN⟩)
            clear hdr HR2 HRF HSN HC1
            go_wp2
            go_roundw
            case rel =>
              refine ⟨j + 1, ln - n2, lc - n2, if lc = n2 then la2 else Option.map (fun x => x.add (n2 * 5)) la2, by go_num, ?_, by omega, HNX⟩
              rfl
            case measure =>
              simp [RowKit.intOf]
              omega
        · have hjn : j = n := by omega
          have e1 : fl.take j = fl := List.take_of_length_le (by rw [unhide HNn, hjn]; exact Nat.le_refl _)
          rw [e1] at h1
          have kd : decide ((j : Int) < (n : Int)) = false := by rw [decide_eq_false_iff_not]; omega
          obtain ⟨a1, c1, f1⟩ := owns_form h3.dr
          obtain ⟨n1, hn1⟩ : ∃ n1, s'.draws.length = n1 := ⟨_, rfl⟩
          obtain ⟨a2, n2, c2, f2⟩ : ∃ a n c, bv = .slice a n c := by
            rcases h3.by_ with ⟨e, _⟩ | ⟨_, _, _, _, e, _⟩
            · exact ⟨_, _, _, e⟩
            · exact ⟨_, _, _, e⟩
          rw [hn1] at f1
          subst f1 f2
          have hone : (spC s' (.slice a1 n1 c1) (.slice a2 n2 c2)).all (·.oneCell') = true := by simp [spC, Value.oneCell']
          have kS := kp_setRow wr (W.heap.size + 1) (spC s' (.slice a1 n1 c1) (.slice a2 n2 c2))
          have hln := RC.len h2
          have hSV : StV (wr.setRow (W.heap.size + 1) (spC s' (.slice a1 n1 c1) (.slice a2 n2 c2))) W.heap.size s' (.slice a1 n1 c1) (.slice a2 n2 c2) := ⟨owns_kp h3.dr kS (fun q hq e => owns_ty h3.dr h5 (by decide) (by rw [hq, e])), ownsF_kp h3.by_ kS (fun q hq e => ownsF_ty h3.by_ h5 (by decide) (by rw [hq, e]))⟩
          have hBS : Below W.heap.size W (wr.setRow (W.heap.size + 1) (spC s' (.slice a1 n1 c1) (.slice a2 n2 c2))) := kS.below h6 (fun q hq => by omega)
          have hz : ∀ bb, bb = ((ln : Int) == 0) → RdA W (rdRw i (x :: l1)) (.returned (.tuple #[.agg (spC s' (.slice a1 n1 c1) (.slice a2 n2 c2)), .bool bb])) (wr.setRow (W.heap.size + 1) (spC s' (.slice a1 n1 c1) (.slice a2 n2 c2))) := fun bb hbb => by
            rw [unhide HRD, h1]
            cases l' with
            | nil =>
              have : ln = 0 := hln
              rw [hbb, this]
              exact ⟨_, _, rfl, hSV, hBS⟩
            | cons y l2 =>
              have : ((ln : Int) == 0) = false := by rw [beq_eq_false_iff_ne, hln, List.length_cons]; omega
              rw [hbb, this]
              exact ⟨s', a1, n1, c1, a2, n2, c2, rfl, hBS⟩
          have HG := hide (show Bq wr b 40 (spC s' (.slice a1 n1 c1) (.slice a2 n2 c2)) ∧ Bq wr (W.heap.size + 1) 40 zSt from ⟨h3.bx, h5⟩)
          have HZ := hide (hz _ rfl)
          have HO := hide hone
          clear h1 h2 h3 h4 h5 h6 h7 h8 hone kS hln hSV hBS hz hn1 H e1
          go_wp2_with (first | refine wpl_loadS rfl _ rfl rfl (unhide HG).1 rfl ?_ | refine wpl_storeS (cs := spC s' (.slice a1 n1 c1) (.slice a2 n2 c2)) rfl _ _ rfl rfl rfl (unhide HG).2 rfl rfl (unhide HO) ?_)
          refine bodyPost_ret (results_ctS rfl _ _ (W.heap.size + 1) _ (spC s' (.slice a1 n1 c1) (.slice a2 n2 c2)) _ _ rfl (setRow_heap _ _ _ (spC s' (.slice a1 n1 c1) (.slice a2 n2 c2)) _ _ (unhide HG).2) Tryz.underlying40 rfl sizeSt) rfl ?_
          exact unhide HZ
    · have kt : (x.w.t.toList == nm.toList) = false := by rw [lists_beq]; exact decide_eq_false (fun e => htx (toList_inj e))
      have hz : rdRw i (x :: l1) = none := by show (if x.w.k = 1 ∧ x.w.t = ofL (tnm.getD i []) then _ else none) = none; exact if_neg (fun h => htx (h.2.trans hnm))
      have hbad := fun nq => hide (show Bq (X.drewN nq) (W.heap.size + 1) 40 zSt ∧ RdA W (rdRw i (x :: l1)) (.returned (.tuple #[.agg zSt, .bool false])) ((X.drewN nq).setRow (W.heap.size + 1) zSt) from ⟨hres, fail_ _ hz ((kp_setRow (X.drewN nq) (W.heap.size + 1) zSt).below (bdrew hbX nq) (fun i e => by omega))⟩)
      clear hfl hr w0 w1 w2 w3 w4 fail_ hz htx hk hrow hbX hres
      go_enter Tryz.func25, Tryz.ntmps25
      go_upto_region 1 with fail
      go_quiet (fail)
      have hb2 := hbad nq
      unfold zSt at hb2
      go_wp2_with (refine wpl_storeS (cs := zSt) rfl _ _ rfl rfl rfl (unhide hb2).1 rfl rfl zSt_one ?_)
      refine bodyPost_ret (results_ctS rfl _ _ (W.heap.size + 1) _ zSt _ _ rfl (setRow_heap _ _ _ zSt _ _ (unhide hb2).1) Tryz.underlying40 rfl sizeSt) rfl ?_
      exact (unhide hb2).2
  · have kx : ((x.w.k : Int) != 1) = true := by rw [bne_iff_ne]; omega
    have hz : rdRw i (x :: l1) = none := by show (if x.w.k = 1 ∧ x.w.t = ofL (tnm.getD i []) then _ else none) = none; exact if_neg (fun h => hk h.1)
    have hbad := fun nq => hide (show Bq (X.drewN nq) (W.heap.size + 1) 40 zSt ∧ RdA W (rdRw i (x :: l1)) (.returned (.tuple #[.agg zSt, .bool false])) ((X.drewN nq).setRow (W.heap.size + 1) zSt) from ⟨hres, fail_ _ hz ((kp_setRow (X.drewN nq) (W.heap.size + 1) zSt).below (bdrew hbX nq) (fun i e => by omega))⟩)
    clear hfl hr w0 w1 w2 w3 w4 fail_ hz hk hrow hbX hres
    go_enter Tryz.func25, Tryz.ntmps25
    go_upto_region 1 with fail
    go_quiet (fail)
    have hb2 := hbad nq
    unfold zSt at hb2
    go_wp2_with (refine wpl_storeS (cs := zSt) rfl _ _ rfl rfl rfl (unhide hb2).1 rfl rfl zSt_one ?_)
    refine bodyPost_ret (results_ctS rfl _ _ (W.heap.size + 1) _ zSt _ _ rfl (setRow_heap _ _ _ zSt _ _ (unhide hb2).1) Tryz.underlying40 rfl sizeSt) rfl ?_
    exact (unhide hb2).2
end Go.Proofs.YtkndjbmlkfpfoaaGreatDoor
