/-
  The document's own Number and Text; a row put behind nothing.
-/
import Derived.Test.YtfkdpkckbmbmdaaGreatZXT
import Derived.Test.YtfkdpkckbmbmdaaGreatZW1
import Derived.Test.YtfkdpkckbmbmdaaGreatZXN
import Derived.Test.YtfkdpkckbmbmdaaGreatZXU
import Derived.Deep.CutRange
import Derived.Deep.RegionWith
import Derived.Test.YtfkdpkckbmbmdaaGreatZO5
import Derived.Test.YtfkdpkckbmbmdaaGreatZXO6
import Derived.Test.YtfkdpkckbmbmdaaGreatZXP7

set_option linter.unusedSimpArgs false
set_option linter.unusedVariables false
namespace Go.Proofs.YtfkdpkckbmbmdaaGreat
open Go.RowKit Go.Lib

theorem bC_oneR (L : List Nat) : ∀ u ∈ bC L, u.oneCell' = true := fun u hu => by
  unfold bC at hu
  obtain ⟨x, _, rfl⟩ := List.mem_map.1 hu
  rfl

/-- append(b, x) of a byte -/
theorem append_byte (w : World) (ty : TypeId) (N : Nat) (v : Value) (L : List Nat) (x : Nat) (h : w.ownsRow N 5 1 v L.length (bC L)) (hN : N ≤ w.heap.size) (hl : L.length ≤ 100000000000) :
    ∃ v' w', (Builtin.append_ #[41, 41] ty #[v, .slice (some ⟨w.heap.size, 0, none⟩) 1 1]).run Tryz.prog (w.alloc (.cells #[.int .u8 (x : Nat)] 5)) = .ok v' w' ∧ w'.ownsRow N 5 1 v' (L ++ [x]).length (bC (L ++ [x])) ∧ (w.alloc (.cells #[.int .u8 (x : Nat)] 5)).grownBy w' v.ownBlock := by
  obtain ⟨i0, hi, hz0, hz1, hz2⟩ := info_parts infoB
  obtain ⟨v', w', h1, h2, h3, _⟩ := run_append_own (P := Tryz.prog) (w.alloc (.cells #[.int .u8 (x : Nat)] 5)) N 41 ty 5 i0 _ 1 1 Tryz.underlying41 hi hz0 hz1 hz2 rfl (by decide) v L.length _ (h.alloc _) ⟨w.heap.size, 0, none⟩ 1 1 [.int .u8 (x : Nat)] rfl (cell_one_new _ _ _) (by intro u hu; simp at hu; subst hu; rfl) (by unfold maxLen; omega) (by omega) (by simp; omega)
  exact ⟨v', w', h1, by simpa [bC] using h2, h3⟩

theorem owns_lo {W : World} {B B' E k n : Nat} {v : Value} {C : List Value} (hb : B' ≤ B) (h : W.ownsRow B E k v n C) : W.ownsRow B' E k v n C := by
  obtain ⟨h1, h2⟩ := h
  refine ⟨h1, h2.imp id ?_⟩
  rintro ⟨g, cap, cur, e1, e2, e3⟩
  exact ⟨g, cap, cur, e1, by omega, e3⟩

/-- a row of one's own beside two boxes -/
structure RNu (w : World) (W : World) (A B : Array Value) (v : Value) (L : List Nat) : Prop where
  bA : Bx W w.heap.size 54 A
  bB : Bx W (w.heap.size + 1) 54 B
  row : W.ownsRow (w.heap.size + 2) 5 1 v L.length (bC L)
  bel : Below w.heap.size w W
theorem RNu.grown {w W W' : World} {A B : Array Value} {v v' : Value} {L L' : List Nat} {o : Obj} (h : RNu w W A B v L) (hr : W'.ownsRow (w.heap.size + 2) 5 1 v' L'.length (bC L')) (hg : (W.alloc o).grownBy W' v.ownBlock) : RNu w W' A B v' L' := by
  have hne : ∀ k, v.ownBlock = some k → w.heap.size + 2 ≤ k := fun k hk => (h.row.lt k hk).1
  have b1 := ballc (Below.refl _ W) o
  refine ⟨(hg.block _ (h.bA.below b1).lt (fun e => by have := hne _ e.symm; omega)).trans (h.bA.below b1), (hg.block _ (h.bB.below b1).lt (fun e => by have := hne _ e.symm; omega)).trans (h.bB.below b1), hr, ?_⟩
  exact (ballc h.bel o).grown hg (ballc h.bel o).size (fun k hk => by have := hne k hk; omega)

theorem RNu.put {w W : World} {A0 A1 B0 B1 v : Value} {L : List Nat} (h : RNu w W #[A0, A1] #[B0, B1] v L) :
    (Bx (W.setCell ⟨w.heap.size, 0, none⟩ v) w.heap.size 54 #[v, A1] ∧ Bx (W.setCell ⟨w.heap.size, 0, none⟩ v) (w.heap.size + 1) 54 #[B0, B1]) ∧
    (Bx (((W.setCell ⟨w.heap.size, 0, none⟩ v).setCell ⟨w.heap.size + 1, 0, none⟩ v).setCell ⟨w.heap.size + 1, 1, none⟩ A1) (w.heap.size + 1) 54 #[v, A1] ∧
     (((W.setCell ⟨w.heap.size, 0, none⟩ v).setCell ⟨w.heap.size + 1, 0, none⟩ v).setCell ⟨w.heap.size + 1, 1, none⟩ A1).ownsRow w.heap.size 5 1 v L.length (bC L) ∧
     Below w.heap.size w (((W.setCell ⟨w.heap.size, 0, none⟩ v).setCell ⟨w.heap.size + 1, 0, none⟩ v).setCell ⟨w.heap.size + 1, 1, none⟩ A1)) := by
  have k1 : Bx (W.setCell ⟨w.heap.size, 0, none⟩ v) (w.heap.size + 1) 54 #[B0, B1] := h.bB.setO _ (by show w.heap.size + 1 ≠ w.heap.size; omega) _
  refine ⟨⟨by simpa using h.bA.set 0 v, k1⟩, by simpa using (k1.set 0 v).set 1 A1, ?_, ?_⟩
  · have p1 := Kp.set (N := fun k => k < w.heap.size + 2) W ⟨w.heap.size, 0, none⟩ v (by show w.heap.size < w.heap.size + 2; omega)
    have p2 := Kp.set (N := fun k => k < w.heap.size + 2) (W.setCell ⟨w.heap.size, 0, none⟩ v) ⟨w.heap.size + 1, 0, none⟩ v (by show w.heap.size + 1 < w.heap.size + 2; omega)
    have p3 := Kp.set (N := fun k => k < w.heap.size + 2) ((W.setCell ⟨w.heap.size, 0, none⟩ v).setCell ⟨w.heap.size + 1, 0, none⟩ v) ⟨w.heap.size + 1, 1, none⟩ A1 (by show w.heap.size + 1 < w.heap.size + 2; omega)
    exact owns_lo (by omega) (owns_kp h.row ((p1.trans p2 (fun i h => .inl h)).trans p3 (fun i h => .inl h)) (fun i hi e => by have := (h.row.lt i hi).1; omega))
  · exact bset (bset (bset h.bel ⟨w.heap.size, 0, none⟩ (Nat.le_refl _) v) ⟨w.heap.size + 1, 0, none⟩ (by show w.heap.size ≤ w.heap.size + 1; omega) v) ⟨w.heap.size + 1, 1, none⟩ (by show w.heap.size ≤ w.heap.size + 1; omega) A1

theorem sizeW : (Tryz.prog.info? 54).map (·.size) = some 2 := by kernel_rfl

set_option maxRecDepth 100000 in
set_option maxHeartbeats 2000000 in
theorem refNumber_in (w : World) (v : Value) (L : List Nat) (e n : Int) (h : RC w v L.length (bC L)) (h0 : -9223372036854775808 ≤ n) (h1 : n ≤ 9223372036854775807) (hL : L.length ≤ 10000000000) :
    Calls Tryz.prog 21 #[.agg #[v, .int .i64 e], .int .i64 n] w fun r W => ∃ v', r = .returned (.agg #[v', .int .i64 (wNum (L, e) n).2]) ∧ RC W v' (wNum (L, e) n).1.length (bC (wNum (L, e) n).1) ∧ (e = 0 → 0 ≤ n → W.ownsRow w.heap.size 5 1 v' (wNum (L, e) n).1.length (bC (wNum (L, e) n).1)) ∧ (e ≠ 0 ∨ n < 0 → v' = v) ∧ Below w.heap.size w W := by
  obtain ⟨a, c, rfl⟩ := RC.form h
  have H := hide h
  clear h
  by_cases he : e = 0
  · subst he
    by_cases hn : n < 0
    · have hw : wNum (L, 0) n = (L, 1) := by unfold wNum; simp [hn]
      rw [hw]
      clear hw
      go_enter Tryz.func21, Tryz.ntmps21
      go_wp2
      have hbx := Bx.new (w.alloc (.cells #[.slice a L.length c, .int .i64 1] 54)) 54 #[.slice a L.length c, .int .i64 1]
      rw [show (w.alloc (.cells #[.slice a L.length c, .int .i64 1] 54)).heap.size = w.heap.size + 1 by simp] at hbx
      refine bodyPost_ret (results_cell_row rfl _ _ (w.heap.size + 1) _ _ _ _ rfl hbx Tryz.underlying54 rfl sizeW) rfl ?_
      exact ⟨_, rfl, (unhide H).below (ballc (ballc (Below.refl _ _) _) _), by first | (intro _ h; omega) | (intro h; omega) | trivial, by first | exact fun _ => rfl | trivial | simp, ballc (ballc (Below.refl _ _) _) _⟩
    · obtain ⟨N, rfl⟩ : ∃ N : Nat, n = (N : Int) := ⟨n.toNat, by omega⟩
      have hw : wNum (L, 0) (N : Int) = (L ++ num N, 0) := by unfold wNum; simp [hn]
      rw [hw]
      clear hw hn
      have hn : 0 ≤ (N : Int) := by omega
      have HL := hide hL
      clear hL h0
      have b2 := ballc (ballc (Below.refl _ w) (.cells #[.slice a L.length c, .int .i64 0] 54)) (.cells #[.slice none 0 0, .int .i64 0] 54)
      obtain ⟨W2, hW2⟩ : ∃ W2, (w.alloc (.cells #[.slice a L.length c, .int .i64 0] 54)).alloc (.cells #[.slice none 0 0, .int .i64 0] 54) = W2 := ⟨_, rfl⟩
      have bA : Bx W2 w.heap.size 54 #[.slice a L.length c, .int .i64 0] := by rw [← hW2]; exact (Bx.new w _ _).below (ballc (Below.refl _ _) _)
      have bB : Bx W2 (w.heap.size + 1) 54 #[.slice none 0 0, .int .i64 0] := by
        rw [← hW2]
        have := Bx.new (w.alloc (.cells #[.slice a L.length c, .int .i64 0] 54)) 54 #[.slice none 0 0, .int .i64 0]
        rw [show (w.alloc (.cells #[.slice a L.length c, .int .i64 0] 54)).heap.size = w.heap.size + 1 by simp] at this
        exact this
      rw [hW2] at b2
      have hs2 : w.heap.size + 2 ≤ W2.heap.size := by have := bB.lt; omega
      obtain ⟨v3, W3, hap, ho3, hg3⟩ := app_nil 41 5 1 1 _ Tryz.underlying41 infoB rfl (by decide) W2 (w.heap.size + 2) 41 _ L.length (bC L) ((unhide H).below b2) (by rw [bC_len]; omega) (bC_oneR L) hs2 (by have := unhide HL; unfold maxLen; omega) (by have := unhide HL; omega)
      have HR : Hid (RNu w W3 #[.slice a L.length c, .int .i64 0] #[.slice none 0 0, .int .i64 0] v3 L) := ⟨(hg3.block _ bA.lt (by simp)).trans bA, (hg3.block _ bB.lt (by simp)).trans bB, ho3, b2.grown hg3 b2.size (fun k hk => by cases hk)⟩
      have cA := bA.cell 0 _ rfl
      have cA1 := bA.cell 1 _ rfl
      replace bA := hide bA
      replace bB := hide bB
      replace b2 := hide b2
      replace ho3 := hide ho3
      replace hg3 := hide hg3
      replace hap := hide hap
      go_enter Tryz.func21, Tryz.ntmps21
      go_wp2_with (at_builtin; refine wpList_append_eq rfl _ _ 41 rfl _ _ _ _ rfl rfl (unhide hap) ?_)
      clear hap ho3 hg3 bA bB b2 cA cA1
      go_loopw [1, 5] (fun nv rv wr => ∃ (m : Nat) (P : List Nat), nv = .int .i64 (m : Nat) ∧ (m : Int) ≤ 9223372036854775807 ∧ Hid (P ++ num m = num N) ∧ Hid (RNu w wr #[.slice a L.length c, .int .i64 0] #[.slice none 0 0, .int .i64 0] rv (L ++ P))) (fun nv _ _ => (Lib.intOf nv).toNat)
      case atStart => exact ⟨N, [], rfl, h1, hide (by simp), hide (by simpa using unhide HR)⟩
      case round =>
        obtain ⟨m, P, rfl, hm, HP, HS⟩ := hrel
        have HPL : Hid (P.length ≤ 11) := by
          have h2 := num_len N
          rw [← unhide HP, List.length_append] at h2
          exact (by omega : P.length ≤ 11)
        have hsz := (unhide HS).bB.lt
        have hLP : (L ++ P).length ≤ 100000000000 := by have := unhide HPL; have := unhide HL; rw [List.length_append]; omega
        by_cases hlt : m < 128
        · have hlt' : ¬ (128 : Int) ≤ (m : Int) := by omega
          obtain ⟨v4, W4, hap, ho4, hg4⟩ := append_byte wr 41 (w.heap.size + 2) _ (L ++ P) m (unhide HS).row (by omega) hLP
          have S4 := (unhide HS).grown ho4 hg4
          obtain ⟨a4, c4, hv4⟩ := owns_form ho4
          subst hv4
          have HE := hide (show L ++ P ++ [m] = L ++ num N by rw [← unhide HP, num_last m hlt]; simp)
          rw [unhide HE] at S4 ho4 hap
          generalize (L ++ num N).length = LN at S4 ho4 hap
          obtain ⟨k5, k6⟩ := S4.put
          have f0 := S4.bA.frozen 0
          have c0 := S4.bA.cell 0 _ rfl
          have c1 := S4.bA.cell 1 _ rfl
          obtain ⟨X5, hX5⟩ : ∃ X5, W4.setCell ⟨w.heap.size, 0, none⟩ (.slice a4 LN c4) = X5 := ⟨_, rfl⟩
          rw [hX5] at k5 k6
          have e0 := k5.1.cell 0 _ rfl
          have e1 := k5.1.cell 1 _ rfl
          have g0 := k5.2.cell 0 _ rfl
          have g1 := k5.2.cell 1 _ rfl
          have gf0 := k5.2.frozen 0
          have gf1 := k5.2.frozen 1
          replace S4 := hide S4
          replace k5 := hide k5
          replace k6 := hide k6
          replace ho4 := hide ho4
          replace hg4 := hide hg4
          replace hap := hide hap
          go_wp2_with (at_builtin; refine wpList_append_eq rfl _ _ 41 rfl _ _ _ _ rfl rfl (unhide hap) ?_)
          obtain ⟨bx6, rc6, bl6⟩ := unhide k6
          refine bodyPost_ret (results_cell_row rfl _ _ (w.heap.size + 1) _ _ _ _ rfl bx6 Tryz.underlying54 rfl sizeW) rfl ?_
          rw [← List.length_append]
          first | exact ⟨_, rfl, RC.of_owns rc6, rc6, bl6⟩ | exact ⟨_, rfl, RC.of_owns rc6, rc6, fun h => by omega, bl6⟩ | exact ⟨_, rfl, RC.of_owns rc6, fun _ _ => rc6, fun h => by omega, bl6⟩
        · have hlt' : (128 : Int) ≤ (m : Int) := by omega
          obtain ⟨v4, W4, hap, ho4, hg4⟩ := append_byte wr 41 (w.heap.size + 2) _ (L ++ P) (m % 128 + 128) (unhide HS).row (by omega) hLP
          have S4 := hide ((unhide HS).grown ho4 hg4)
          replace ho4 := hide ho4
          replace hg4 := hide hg4
          push_cast at hap
          replace hap := hide hap
          go_wp2_with (at_builtin; refine wpList_append_eq rfl _ _ 41 rfl _ _ _ _ rfl rfl (unhide hap) ?_)
          go_roundw
          case measure => show ((m : Int) / 128).toNat < ((m : Nat) : Int).toNat; omega
          case rel => exact ⟨m / 128, P ++ [m % 128 + 128], by go_num, by omega, hide (by rw [← unhide HP, num_step m (by omega) (by omega)]; simp), hide (by rw [← List.append_assoc]; exact unhide S4)⟩
  · have hw : wNum (L, e) n = (L, e) := by unfold wNum; simp [he]
    rw [hw]
    have he' : (e == 0) = false := by simpa using he
    clear hw
    go_enter Tryz.func21, Tryz.ntmps21
    go_wp2
    have hbx := Bx.new (w.alloc (.cells #[.slice a L.length c, .int .i64 e] 54)) 54 #[.slice a L.length c, .int .i64 e]
    rw [show (w.alloc (.cells #[.slice a L.length c, .int .i64 e] 54)).heap.size = w.heap.size + 1 by simp] at hbx
    refine bodyPost_ret (results_cell_row rfl _ _ (w.heap.size + 1) _ _ _ _ rfl hbx Tryz.underlying54 rfl sizeW) rfl ?_
    exact ⟨_, rfl, (unhide H).below (ballc (ballc (Below.refl _ _) _) _), fun h _ => absurd h he, fun _ => rfl, ballc (ballc (Below.refl _ _) _) _⟩

theorem wpList_append_eq2 {w : World} {ops : Array Oper} {rest : List Oper} {o : Oper} {a : Act} {Q : Exit → Act → World → Prop} (hgd : o.guard = none) (s x : Operand) (t u : TypeId)
    (ho : o.op = .call { callee := .builtin .append, args := #[s, x], argTypes := #[t, u] }) (v y v' : Value) (w' : World) (hs : a.eval s = v) (hx : a.eval x = y) (hr : (Builtin.append_ #[t, u] o.type #[v, y]).run Tryz.prog w = .ok v' w')
    (h : wpList Tryz.prog ops Q rest (a.put o.dst v') w') : wpList Tryz.prog ops Q (o :: rest) a w := by
  refine wpList_plain hgd fun K hK => ?_
  unfold Oper.wp execOp
  simp only [ho, resolve, invoke, builtin, Sem.run_bind, Sem.run_pure, Result.andThen_ok, List.map_toArray, List.map_cons, List.map_nil, hs, hx, hr]
  exact hK _ _ h

theorem RNu.grown0 {w W W' : World} {A B : Array Value} {v v' : Value} {L L' : List Nat} (h : RNu w W A B v L) (hr : W'.ownsRow (w.heap.size + 2) 5 1 v' L'.length (bC L')) (hg : W.grownBy W' v.ownBlock) : RNu w W' A B v' L' := by
  have hne : ∀ k, v.ownBlock = some k → w.heap.size + 2 ≤ k := fun k hk => (h.row.lt k hk).1
  refine ⟨(hg.block _ h.bA.lt (fun e => by have := hne _ e.symm; omega)).trans h.bA, (hg.block _ h.bB.lt (fun e => by have := hne _ e.symm; omega)).trans h.bB, hr, ?_⟩
  exact h.bel.grown hg h.bel.size (fun k hk => by have := hne k hk; omega)

set_option maxRecDepth 100000 in
set_option maxHeartbeats 2000000 in
theorem refText_in (w : World) (v : Value) (L : List Nat) (e : Int) (t : ByteArray) (h : RC w v L.length (bC L)) (ht : t.size ≤ 100000000000) (hL : L.length ≤ 1000000000) :
    Calls Tryz.prog 20 #[.agg #[v, .int .i64 e], .string t] w fun r W => ∃ v', r = .returned (.agg #[v', .int .i64 (wTxt (L, e) t).2]) ∧ RC W v' (wTxt (L, e) t).1.length (bC (wTxt (L, e) t).1) ∧ (e = 0 → W.ownsRow w.heap.size 5 1 v' (wTxt (L, e) t).1.length (bC (wTxt (L, e) t).1)) ∧ Below w.heap.size w W := by
  obtain ⟨a, c, rfl⟩ := RC.form h
  have h0 := hide h
  have b2 := ballc (ballc (Below.refl _ w) (.cells #[.slice a L.length c, .int .i64 e] 54)) (.cells #[.slice none 0 0, .int .i64 0] 54)
  obtain ⟨W2, hW2⟩ : ∃ W2, (w.alloc (.cells #[.slice a L.length c, .int .i64 e] 54)).alloc (.cells #[.slice none 0 0, .int .i64 0] 54) = W2 := ⟨_, rfl⟩
  have bA : Bx W2 w.heap.size 54 #[.slice a L.length c, .int .i64 e] := by rw [← hW2]; exact (Bx.new w _ _).below (ballc (Below.refl _ _) _)
  have bB : Bx W2 (w.heap.size + 1) 54 #[.slice none 0 0, .int .i64 0] := by
    rw [← hW2]
    have := Bx.new (w.alloc (.cells #[.slice a L.length c, .int .i64 e] 54)) 54 #[.slice none 0 0, .int .i64 0]
    rw [show (w.alloc (.cells #[.slice a L.length c, .int .i64 e] 54)).heap.size = w.heap.size + 1 by simp] at this
    exact this
  rw [hW2] at b2
  have HN := hide (refNumber_in W2 _ L e (t.size : Nat) (h.below b2) (by omega) (by omega) (by omega))
  have HL := hide hL
  have Ht := hide ht
  have cA := bA.cell 0 _ rfl
  have cA1 := bA.cell 1 _ rfl
  replace bA := hide bA
  replace bB := hide bB
  replace b2 := hide b2
  clear h hL ht
  by_cases he : e = 0
  · subst he
    have hw : wNum (L, 0) ((t.size : Nat) : Int) = (L ++ num t.size, 0) := by unfold wNum; simp
    rw [hw] at HN
    simp only at HN
    have hT : wTxt (L, 0) t = (L ++ num t.size ++ sB t, 0) := by unfold wTxt; simp
    rw [hT]
    obtain ⟨L1, hL1⟩ : ∃ L1, L ++ num t.size = L1 := ⟨_, rfl⟩
    rw [hL1] at HN ⊢
    have HL1 := hide (show L1.length ≤ 1000000011 by
      have h1 := num_len t.size
      have h2 := unhide HL
      rw [← hL1, List.length_append]
      omega)
    clear hw hT hL1
    go_enter Tryz.func20, Tryz.ntmps20
    go_wp2_with fail
    refine (unhide HN).mono ?_
    rintro r W3 ⟨v3, rfl, -, ho3, -, hb3⟩
    have ho3 := ho3 (by trivial) (by omega)
    obtain ⟨a3, c3, rfl⟩ := owns_form ho3
    have hs2 : w.heap.size + 2 ≤ W2.heap.size := by have := (unhide bB).lt; omega
    have bA3 := (unhide bA).below hb3
    have bB3 := (unhide bB).below hb3
    have b3 := bnext (unhide b2) hb3
    have cA := bA3.cell 0 _ rfl
    have cA1 := bA3.cell 1 _ rfl
    have fA := bA3.frozen 0
    have fA1 := bA3.frozen 1
    obtain ⟨X4, hX4⟩ : ∃ X4, (W3.setCell ⟨w.heap.size, 0, none⟩ (.slice a3 L1.length c3)).setCell ⟨w.heap.size, 1, none⟩ (.int .i64 0) = X4 := ⟨_, rfl⟩
    have bA4 : Bx X4 w.heap.size 54 #[.slice a3 L1.length c3, .int .i64 0] := by rw [← hX4]; simpa using (bA3.set 0 (.slice a3 L1.length c3)).set 1 (.int .i64 0)
    have bB4 : Bx X4 (w.heap.size + 1) 54 #[.slice none 0 0, .int .i64 0] := by rw [← hX4]; exact (bB3.setO _ (by show w.heap.size + 1 ≠ w.heap.size; omega) _).setO _ (by show w.heap.size + 1 ≠ w.heap.size; omega) _
    have b4 : Below w.heap.size w X4 := by rw [← hX4]; exact bset (bset b3 _ (Nat.le_refl _) _) _ (Nat.le_refl _) _
    have ho4 : X4.ownsRow W2.heap.size 5 1 (.slice a3 L1.length c3) L1.length (bC L1) := by
      rw [← hX4]
      have p1 := Kp.set (N := fun k => k = w.heap.size) W3 ⟨w.heap.size, 0, none⟩ (.slice a3 L1.length c3) rfl
      have p2 := Kp.set (N := fun k => k = w.heap.size) (W3.setCell ⟨w.heap.size, 0, none⟩ (.slice a3 L1.length c3)) ⟨w.heap.size, 1, none⟩ (.int .i64 0) rfl
      exact owns_kp ho3 (p1.trans p2 (fun i h => .inl h)) (fun i hi e => by have := (ho3.lt i hi).1; omega)
    have hs4 : w.heap.size + 2 ≤ X4.heap.size := by have := bB4.lt; omega
    obtain ⟨v5, W5, hap, ho5, hg5⟩ := app_nil 41 5 1 1 _ Tryz.underlying41 infoB rfl (by decide) X4 (w.heap.size + 2) 41 _ L1.length (bC L1) (RC.of_owns ho4) (by rw [bC_len]; omega) (bC_oneR L1) hs4 (by have := unhide HL1; unfold maxLen; omega) (by have := unhide HL1; omega)
    have S5 : RNu w W5 #[.slice a3 L1.length c3, .int .i64 0] #[.slice none 0 0, .int .i64 0] v5 L1 := ⟨(hg5.block _ bA4.lt (by simp)).trans bA4, (hg5.block _ bB4.lt (by simp)).trans bB4, ho5, b4.grown hg5 b4.size (fun k hk => by cases hk)⟩
    obtain ⟨v6, W6, hap2, ho6, hg6, -⟩ := append_text_at W5 41 (w.heap.size + 2) v5 L1.length (bC L1) S5.row t (by have := unhide HL1; have := unhide Ht; omega) (by have := S5.bB.lt; omega)
    have hl6 : L1.length + t.size = (L1 ++ sB t).length := by rw [List.length_append, sB_len]
    rw [← sB_cells, ← bC_app, hl6] at ho6
    have S6 := S5.grown0 ho6 hg6
    obtain ⟨a6, c6, hv6⟩ := owns_form ho6
    subst hv6
    have HL6 := hide (show (L1 ++ sB t).length = (L1 ++ sB t).length from rfl)
    obtain ⟨LN, hLN⟩ : ∃ LN, (L1 ++ sB t).length = LN := ⟨_, rfl⟩
    have hput := S6.put
    have s0 := S5.bA.cell 0 _ rfl
    have s1 := S5.bA.cell 1 _ rfl
    have z0 := bA4.cell 0 _ rfl
    have z1 := bA4.cell 1 _ rfl
    have f6 := S6.bA.frozen 0
    have q0 := S6.bA.cell 0 _ rfl
    have q1 := S6.bA.cell 1 _ rfl
    obtain ⟨k5, k6⟩ := hput
    rw [hLN] at k5 hap2 k6
    obtain ⟨X7, hX7⟩ : ∃ X7, W6.setCell ⟨w.heap.size, 0, none⟩ (.slice a6 LN c6) = X7 := ⟨_, rfl⟩
    rw [hX7] at k5 k6
    have e0 := k5.1.cell 0 _ rfl
    have e1 := k5.1.cell 1 _ rfl
    have g0 := k5.2.cell 0 _ rfl
    have g1 := k5.2.cell 1 _ rfl
    have gf0 := k5.2.frozen 0
    have gf1 := k5.2.frozen 1
    replace S5 := hide S5
    replace S6 := hide S6
    replace k5 := hide k5
    replace k6 := hide k6
    replace ho3 := hide ho3
    replace ho4 := hide ho4
    replace ho5 := hide ho5
    replace ho6 := hide ho6
    replace hg5 := hide hg5
    replace hg6 := hide hg6
    replace hap := hide hap
    replace hap2 := hide hap2
    replace hLN := hide hLN
    replace bA3 := hide bA3
    replace bB3 := hide bB3
    replace b3 := hide b3
    replace bA4 := hide bA4
    replace bB4 := hide bB4
    replace b4 := hide b4
    replace hb3 := hide hb3
    clear hl6
    go_wp2_with (at_builtin; first | refine wpList_append_eq2 rfl _ _ 41 41 rfl _ _ _ _ rfl rfl (unhide hap) ?_ | refine wpList_append_eq2 rfl _ _ 41 9 rfl _ _ _ _ rfl rfl (unhide hap2) ?_)
    obtain ⟨bx6, rc6, bl6⟩ := unhide k6
    refine bodyPost_ret (results_cell_row rfl _ _ (w.heap.size + 1) _ _ _ _ rfl bx6 Tryz.underlying54 rfl sizeW) rfl ?_
    refine ⟨_, rfl, ?_, fun _ => ?_, bl6⟩
    · have := RC.of_owns rc6
      simpa [List.length_append, unhide hLN] using this
    · simpa [List.length_append, unhide hLN] using rc6
  · have hT : wTxt (L, e) t = (L, e) := by unfold wTxt; simp [he]
    have hw : wNum (L, e) ((t.size : Nat) : Int) = (L, e) := by unfold wNum; simp [he]
    rw [hw] at HN
    simp only at HN
    rw [hT]
    have he' : (e == 0) = false := by simpa using he
    have H := h0
    clear hT hw
    go_enter Tryz.func20, Tryz.ntmps20
    go_wp2_with fail
    refine (unhide HN).mono ?_
    rintro r W3 ⟨v3, rfl, -, -, hv3, hb3⟩
    obtain rfl := hv3 (.inl he)
    have bA3 := (unhide bA).below hb3
    have bB3 := (unhide bB).below hb3
    have b3 := bnext (unhide b2) hb3
    have cA := bA3.cell 0 _ rfl
    have cA1 := bA3.cell 1 _ rfl
    have fA := bA3.frozen 0
    have fA1 := bA3.frozen 1
    obtain ⟨X4, hX4⟩ : ∃ X4, (W3.setCell ⟨w.heap.size, 0, none⟩ (.slice a L.length c)).setCell ⟨w.heap.size, 1, none⟩ (.int .i64 e) = X4 := ⟨_, rfl⟩
    have bA4 : Bx X4 w.heap.size 54 #[.slice a L.length c, .int .i64 e] := by rw [← hX4]; simpa using (bA3.set 0 (.slice a L.length c)).set 1 (.int .i64 e)
    have bB4 : Bx X4 (w.heap.size + 1) 54 #[.slice none 0 0, .int .i64 0] := by rw [← hX4]; exact (bB3.setO _ (by show w.heap.size + 1 ≠ w.heap.size; omega) _).setO _ (by show w.heap.size + 1 ≠ w.heap.size; omega) _
    have b4 : Below w.heap.size w X4 := by rw [← hX4]; exact bset (bset b3 _ (Nat.le_refl _) _) _ (Nat.le_refl _) _
    have z0 := bA4.cell 0 _ rfl
    have z1 := bA4.cell 1 _ rfl
    have g0 := bB4.cell 0 _ rfl
    have g1 := bB4.cell 1 _ rfl
    have gf0 := bB4.frozen 0
    have gf1 := bB4.frozen 1
    replace bA3 := hide bA3
    replace bB3 := hide bB3
    replace b3 := hide b3
    replace bA4 := hide bA4
    replace bB4 := hide bB4
    replace b4 := hide b4
    replace hb3 := hide hb3
    go_wp2
    have bx6 : Bx ((X4.setCell ⟨w.heap.size + 1, 0, none⟩ (.slice a L.length c)).setCell ⟨w.heap.size + 1, 1, none⟩ (.int .i64 e)) (w.heap.size + 1) 54 #[.slice a L.length c, .int .i64 e] := by simpa using ((unhide bB4).set 0 (.slice a L.length c)).set 1 (.int .i64 e)
    have bl6 := bset (bset (unhide b4) ⟨w.heap.size + 1, 0, none⟩ (by show w.heap.size ≤ w.heap.size + 1; omega) (.slice a L.length c)) ⟨w.heap.size + 1, 1, none⟩ (by show w.heap.size ≤ w.heap.size + 1; omega) (.int .i64 e)
    refine bodyPost_ret (results_cell_row rfl _ _ (w.heap.size + 1) _ _ _ _ rfl bx6 Tryz.underlying54 rfl sizeW) rfl ?_
    exact ⟨_, rfl, (unhide H).below bl6, fun h => absurd h he, bl6⟩

end Go.Proofs.YtfkdpkckbmbmdaaGreat

/-
  The document's own Put.
-/
set_option linter.unusedSimpArgs false
set_option linter.unusedVariables false
namespace Go.Proofs.YtfkdpkckbmbmdaaGreat
open Go.RowKit Go.Lib

/-- the document's Writer in its variable, and the Dots beside it -/
structure PQ (w W : World) (v dv : Value) (d : List (Int × Int)) : Prop where
  bx : Bx W w.heap.size 54 #[v, .int .i64 0]
  rs : Bx W (w.heap.size + 1) 54 #[.slice none 0 0, .int .i64 0]
  dots : OwD W (w.heap.size + 2) dv d
  bel : Below w.heap.size w W
theorem PQ.below {w W W' : World} {v dv : Value} {d : List (Int × Int)} (h : PQ w W v dv d) (hb : Below W.heap.size W W') : PQ w W' v dv d :=
  ⟨h.bx.below hb, h.rs.below hb, owns_kp (N := fun _ => False) h.dots (Kp.of_below hb) (fun _ _ h => h), bnext h.bel hb⟩
def PZ (w W : World) (v dv : Value) (d : List (Int × Int)) (L : List Nat) : Prop := PQ w W v dv d ∧ W.ownsRow (w.heap.size + 2) 5 1 v L.length (bC L)
theorem PQ.store {w W W2 : World} {v v' dv : Value} {d : List (Int × Int)} {L' : List Nat} (h : PQ w W v dv d) (hb : Below W.heap.size W W2) (hr : W2.ownsRow W.heap.size 5 1 v' L'.length (bC L')) :
    PZ w ((W2.setCell ⟨w.heap.size, 0, none⟩ v').setCell ⟨w.heap.size, 1, none⟩ (.int .i64 0)) v' dv d L' := by
  have h2 := h.below hb
  have hs := h.rs.lt
  have k1 := Kp.set (N := fun i => i = w.heap.size) W2 ⟨w.heap.size, 0, none⟩ v' rfl
  have k2 := Kp.set (N := fun i => i = w.heap.size) (W2.setCell ⟨w.heap.size, 0, none⟩ v') ⟨w.heap.size, 1, none⟩ (.int .i64 0) rfl
  have k := k1.trans k2 (fun i h => .inl h)
  refine ⟨⟨?_, h2.rs.kp k (by omega), owns_kp h2.dots k (fun i hi e => by have := (h2.dots.lt i hi).1; omega), ?_⟩, ?_⟩
  · have := (h2.bx.set 0 v').set 1 (.int .i64 0)
    simpa using this
  · exact bset (bset h2.bel ⟨w.heap.size, 0, none⟩ (Nat.le_refl _) v') ⟨w.heap.size, 1, none⟩ (Nat.le_refl _) _
  · exact owns_lo (by omega) (owns_kp hr k (fun i hi e => by have := (hr.lt i hi).1; omega))
theorem PQ.num {w W W0 : World} {v dv : Value} {d : List (Int × Int)} {L : List Nat} (h : PQ w W v dv d) (hr : RC W v L.length (bC L)) (hb0 : Below W.heap.size W W0) (x : Int) (h0 : 0 ≤ x) (h1 : x ≤ 9223372036854775807) (hL : L.length ≤ 10000000000) :
    Calls Tryz.prog 21 #[.agg #[v, .int .i64 0], .int .i64 x] W0 fun r X2 => ∃ a5 n5 c5, r = .returned (.agg #[.slice a5 n5 c5, .int .i64 0]) ∧ X2.cell? ⟨w.heap.size, 0, none⟩ = some v ∧ X2.cell? ⟨w.heap.size, 1, none⟩ = some (.int .i64 0) ∧ X2.frozen? ⟨w.heap.size, 0, none⟩ = false ∧ X2.frozen? ⟨w.heap.size, 1, none⟩ = false ∧ w.heap.size < X2.heap.size ∧ Hid (PZ w ((X2.setCell ⟨w.heap.size, 0, none⟩ (.slice a5 n5 c5)).setCell ⟨w.heap.size, 1, none⟩ (.int .i64 0)) (.slice a5 n5 c5) dv d (L ++ num x.toNat)) := by
  refine (refNumber_in W0 v L 0 x (hr.below hb0) (by omega) h1 hL).mono ?_
  rintro r X2 ⟨v', rfl, _, ho, _, hb⟩
  have ho' := ho rfl h0
  rw [wNum_pos L h0] at ho' ⊢
  simp only at ho' ⊢
  obtain ⟨a5, c5, rfl⟩ := owns_form ho'
  have hb2 : Below W.heap.size W X2 := bnext hb0 hb
  have hbb := h.bx.below hb2
  exact ⟨a5, _, c5, rfl, hbb.cell 0 _ rfl, hbb.cell 1 _ rfl, hbb.frozen 0, hbb.frozen 1, hbb.lt, hide (h.store hb2 (owns_lo hb0.size ho'))⟩

theorem pb_step {d : List (Int × Int)} {i : Nat} {x : Int × Int} (h : d[i]? = some x) : pb (d.take (i + 1)) = pb (d.take i) ++ num x.1.toNat ++ num x.2.toNat := by
  rw [List.take_add_one, h]
  simp [pb, List.append_assoc]
theorem pb_len (d : List (Int × Int)) : (pb d).length ≤ 22 * d.length := by
  induction d with
  | nil => simp [pb]
  | cons x d ih =>
    have h1 := num_len x.1.toNat
    have h2 := num_len x.2.toNat
    have e : pb (x :: d) = num x.1.toNat ++ num x.2.toNat ++ pb d := by simp [pb]
    rw [e]
    simp only [List.length_append, List.length_cons]
    omega

set_option maxRecDepth 100000 in
set_option maxHeartbeats 4000000 in
theorem refPut_in (v u : Value) (L : List Nat) (l : List (Int × Int)) (w : World) (h : RC w v L.length (bC L)) (hu : RI w u l) (hl : l.length ≤ 140737488355328) (hL : L.length ≤ 1000000000) :
    Calls Tryz.prog 47 #[.agg #[v, .int .i64 0], u] w fun r W => ∃ v', r = .returned (.agg #[v', .int .i64 0]) ∧ W.ownsRow w.heap.size 5 1 v' (L ++ num (vec (sy l)).length ++ pb (vec (sy l))).length (bC (L ++ num (vec (sy l)).length ++ pb (vec (sy l)))) ∧ Below w.heap.size w W := by
  obtain ⟨a, c, rfl⟩ := h.form
  obtain ⟨a2, c2, rfl⟩ := hu.form
  obtain ⟨X, hX⟩ : ∃ X, (w.alloc (.cells #[.slice a L.length c, .int .i64 0] 54)).alloc (.cells #[.slice none 0 0, .int .i64 0] 54) = X := ⟨_, rfl⟩
  have b1 : Below w.heap.size w X := by rw [← hX]; exact ballc (ballc (Below.refl _ _) _) _
  have x1 : Bx X w.heap.size 54 #[.slice a L.length c, .int .i64 0] := by rw [← hX]; exact (Bx.new w _ _).below (ballc (Below.refl _ _) _)
  have x2 : Bx X (w.heap.size + 1) 54 #[.slice none 0 0, .int .i64 0] := by
    rw [← hX]
    have := Bx.new (w.alloc (.cells #[.slice a L.length c, .int .i64 0] 54)) 54 #[.slice none 0 0, .int .i64 0]
    rw [show (w.alloc (.cells #[.slice a L.length c, .int .i64 0] 54)).heap.size = w.heap.size + 1 by simp] at this
    exact this
  have hXs : X.heap.size = w.heap.size + 2 := by rw [← hX]; simp
  have HR := hide (Says_in _ l X (hu.below b1) hl)
  have HG := hide (sy_good l)
  have HRow := hide (h.below b1)
  generalize sy l = s at *
  have HV := hide (fun W => Of_in s (unhide HG).zero W)
  have hvl := vec_len s
  obtain ⟨d, hd⟩ : ∃ d, vec s = d := ⟨_, rfl⟩
  have HD := hide (fun x (hx : x ∈ vec s) => vec_in (unhide HG) hx)
  rw [hd] at HV hvl HD ⊢
  obtain ⟨n, hn⟩ : ∃ n, d.length = n := ⟨_, rfl⟩
  have Hn := hide hn
  obtain ⟨m, hm⟩ : ∃ m, L.length = m := ⟨_, rfl⟩
  have Hm := hide hm
  rw [hm] at x1 HRow hX ⊢
  rw [hn] at hvl ⊢
  obtain ⟨R, hR⟩ : ∃ R, L ++ num n ++ pb d = R := ⟨_, rfl⟩
  rw [hR]
  replace hR := hide hR
  clear hd HG h hu hn hm
  replace b1 := hide b1
  replace x1 := hide x1
  replace x2 := hide x2
  go_enter Tryz.func47, Tryz.ntmps47
  go_wp2_with fail
  refine (unhide HR).mono ?_
  rintro e W1 ⟨rfl, hb1⟩
  replace hb1 := hide hb1
  go_wp2_with fail
  refine (unhide HV _).mono ?_
  rintro e W2 ⟨dv, rfl, ho, hb2⟩
  obtain ⟨ad, cd, hdv⟩ := ho.form
  rw [unhide Hn] at hdv
  have hb12 := bnext (unhide hb1) hb2
  have PA : PQ w W2 (.slice a m c) dv d := ⟨(unhide x1).below hb12, (unhide x2).below hb12, ho.base (by have := (unhide hb1).size; omega), bnext (unhide b1) hb12⟩
  subst hdv
  have HRow2 := (unhide HRow).below hb12
  have c0 := PA.bx.cell 0 _ rfl
  have c1 := PA.bx.cell 1 _ rfl
  have HN := hide (PA.num (L := L) (by rw [unhide Hm]; exact HRow2) (Below.refl _ _) (n : Int) (by omega) (by omega) (by omega))
  rw [Int.toNat_natCast] at HN
  clear HR HV x1 x2 b1 hb1 hb2 ho hb12 HRow HRow2 PA hX hXs
  go_wp2_with fail
  refine (unhide HN).mono ?_
  rintro e X2 ⟨a5, n5, c5, rfl, y0, y1, z0, z1, hlt2, HF⟩
  obtain ⟨W3, hW3⟩ : ∃ W3, (X2.setCell ⟨w.heap.size, 0, none⟩ (.slice a5 n5 c5)).setCell ⟨w.heap.size, 1, none⟩ (.int .i64 0) = W3 := ⟨_, rfl⟩
  rw [hW3] at HF
  clear HN c0 c1
  go_wp2
  clear hW3 y0 y1 z0 z1 hlt2
  go_loopw [6] (fun iv wr => ∃ (i : Nat) (v2 : Value), iv = .int .i64 (i : Nat) ∧ i ≤ n ∧ Hid (PZ w wr v2 (.slice ad n cd) d (L ++ num n ++ pb (d.take i)))) (fun iv _ => n - (Lib.intOf iv).toNat)
  case atStart => exact ⟨0, _, rfl, by omega, hide (by simpa [pb] using unhide HF)⟩
  case round =>
    clear HF
    obtain ⟨i, v2, rfl, hin, PC⟩ := hrel
    obtain ⟨av, nv, cv, rfl⟩ : ∃ av nv cv, v2 = .slice av nv cv := by
      obtain ⟨av, cv, e⟩ := owns_form (unhide PC).2
      exact ⟨av, _, cv, e⟩
    by_cases hlt : i < n
    · have hlt' : (i : Int) < (n : Int) := by omega
      obtain ⟨x, hx⟩ : ∃ x, d[i]? = some x := ⟨_, List.getElem?_eq_getElem (by have := unhide Hn; omega)⟩
      obtain ⟨k1, k2, k3, k4⟩ := unhide HD x (List.mem_of_getElem? hx)
      have hlen : (L ++ num n ++ pb (d.take i)).length ≤ 1000000400 := by
        have h1 := pb_len (d.take i)
        have h2 := num_len n
        have h3 : (d.take i).length ≤ 17 := by rw [List.length_take]; omega
        have h4 := unhide Hm
        simp only [List.length_append]
        omega
      have Hst := hide (pb_step hx)
      obtain ⟨b, off, rfl, hb, q0, q1⟩ := (unhide PC).1.dots.row.at hx
      have HX := hide hx
      clear hx
      obtain ⟨y0, y1⟩ := x
      simp only at q0 q1 k1 k2 k3 k4 Hst
      have HN := hide ((unhide PC).1.num (RC.of_owns (unhide PC).2) (Below.refl _ wr).drew y0 (by omega) (by omega) (by omega))
      have c0 := (unhide PC).1.bx.cell 0 _ rfl
      have c1 := (unhide PC).1.bx.cell 1 _ rfl
      go_upto_region 6 with fail
      go_cut [26] from 20 to 26 (fun v wx => Hid (∃ v3, PZ w wx v3 (.slice (some ⟨b, off, none⟩) n cd) d (L ++ num n ++ pb (d.take i) ++ num y0.toNat)))
      case first =>
        go_region_with (go_at_call 21; refine (unhide HN).mono ?_; rintro r X2 ⟨a5, n5, c5, rfl, y0, y1, z0, z1, hlt2, HF⟩)
        all_goals (go_wp2; go_meet)
        all_goals exact ⟨_, unhide HF⟩
      case rest =>
        obtain ⟨v3, hS⟩ := unhide hcut
        clear hcut c0 c1 q0 q1 HN
        obtain ⟨av3, cv3, e3⟩ := owns_form hS.2
        subst e3
        obtain ⟨b', off', eb, hb', q0, q1⟩ := hS.1.dots.row.at (unhide HX)
        simp only [Option.some.injEq, Addr.mk.injEq, and_true] at eb
        obtain ⟨rfl, rfl⟩ := eb
        simp only at q0 q1
        have hlen2 : (L ++ num n ++ pb (d.take i) ++ num y0.toNat).length ≤ 2000000000 := by have := num_len y0.toNat; rw [List.length_append]; omega
        have HN := hide (hS.1.num (RC.of_owns hS.2) (Below.refl _ wc).drew y1 (by omega) (by omega) (by omega))
        have c0 := hS.1.bx.cell 0 _ rfl
        have c1 := hS.1.bx.cell 1 _ rfl
        generalize (L ++ num n ++ pb (d.take i) ++ num y0.toNat).length = nq at *
        have HS := hide hS
        clear hS
        go_upto_region 7 with fail
        go_region_with (go_at_call 21; refine (unhide HN).mono ?_; rintro r X2 ⟨a5, n5, c5, rfl, y0, y1, z0, z1, hlt2, HF⟩)
        all_goals
          go_wp2
          go_roundw
          case measure => show n - ((i : Int) + 1).toNat < n - ((i : Nat) : Int).toNat; omega
          case rel => exact ⟨i + 1, _, by go_num, by omega, hide (by rw [unhide Hst, ← List.append_assoc, ← List.append_assoc]; exact unhide HF)⟩
    · have hlt' : ¬ (i : Int) < (n : Int) := by omega
      have Hend := hide (show d.take i = d from List.take_of_length_le (by have := unhide Hn; omega))
      rw [unhide Hend, unhide hR] at PC
      have c0 := (unhide PC).1.bx.cell 0 _ rfl
      have c1 := (unhide PC).1.bx.cell 1 _ rfl
      have r0 := (unhide PC).1.rs.cell 0 _ rfl
      have r1 := (unhide PC).1.rs.cell 1 _ rfl
      have g0 := (unhide PC).1.rs.frozen 0
      have g1 := (unhide PC).1.rs.frozen 1
      have hrl := (unhide PC).1.rs.lt
      obtain ⟨Y, hY⟩ : ∃ Y, (wr.setCell ⟨w.heap.size + 1, 0, none⟩ (.slice av nv cv)).setCell ⟨w.heap.size + 1, 1, none⟩ (.int .i64 0) = Y := ⟨_, rfl⟩
      have Y1 : Bx Y (w.heap.size + 1) 54 #[.slice av nv cv, .int .i64 0] := by
        rw [← hY]
        have := ((unhide PC).1.rs.set 0 (.slice av nv cv)).set 1 (.int .i64 0)
        simpa using this
      replace Y1 := hide Y1
      have k1 := Kp.set (N := fun i => i = w.heap.size + 1) wr ⟨w.heap.size + 1, 0, none⟩ (.slice av nv cv) rfl
      have k2 := Kp.set (N := fun i => i = w.heap.size + 1) (wr.setCell ⟨w.heap.size + 1, 0, none⟩ (.slice av nv cv)) ⟨w.heap.size + 1, 1, none⟩ (.int .i64 0) rfl
      have k := k1.trans k2 (fun i h => .inl h)
      rw [hY] at k
      have Y2 := hide (owns_lo (show w.heap.size ≤ w.heap.size + 2 by omega) (owns_kp (unhide PC).2 k (fun i hi e => by have := ((unhide PC).2.lt i hi).1; omega)))
      have Y3 := hide (k.below (unhide PC).1.bel (fun i hi => by omega))
      clear k1 k2 k
      go_wp2
      refine bodyPost_ret (results_cell_row rfl _ _ (w.heap.size + 1) _ _ _ _ rfl (unhide Y1) Tryz.underlying54 rfl sizeW) rfl ?_
      exact ⟨_, rfl, unhide Y2, unhide Y3⟩

end Go.Proofs.YtfkdpkckbmbmdaaGreat

/-
  The document's own Put of an operation.
-/
set_option linter.unusedSimpArgs false
set_option linter.unusedVariables false
namespace Go.Proofs.YtfkdpkckbmbmdaaGreat
open Go.RowKit Go.Lib

/-- the document's Writer in its variable, the operation beside it, and the result's -/
structure PE (w W : World) (v : Value) (O : Array Value) : Prop where
  bx : Bx W w.heap.size 54 #[v, .int .i64 0]
  ox : Bx W (w.heap.size + 1) 30 O
  rs : Bx W (w.heap.size + 2) 54 #[.slice none 0 0, .int .i64 0]
  bel : Below w.heap.size w W
theorem PE.below {w W W' : World} {v : Value} {O : Array Value} (h : PE w W v O) (hb : Below W.heap.size W W') : PE w W' v O :=
  ⟨h.bx.below hb, h.ox.below hb, h.rs.below hb, bnext h.bel hb⟩
def PF (w W : World) (v : Value) (O : Array Value) (L : List Nat) (m : Nat) : Prop := PE w W v O ∧ W.ownsRow (w.heap.size + 3) 5 1 v L.length (bC L) ∧ L.length ≤ m
theorem PE.store {w W W2 : World} {v v' : Value} {O : Array Value} {L' : List Nat} {m : Nat} (h : PE w W v O) (hb : Below W.heap.size W W2) (hr : W2.ownsRow W.heap.size 5 1 v' L'.length (bC L')) (hm : L'.length ≤ m) :
    PF w ((W2.setCell ⟨w.heap.size, 0, none⟩ v').setCell ⟨w.heap.size, 1, none⟩ (.int .i64 0)) v' O L' m := by
  have h2 := h.below hb
  have hs := h.rs.lt
  have k1 := Kp.set (N := fun i => i = w.heap.size) W2 ⟨w.heap.size, 0, none⟩ v' rfl
  have k2 := Kp.set (N := fun i => i = w.heap.size) (W2.setCell ⟨w.heap.size, 0, none⟩ v') ⟨w.heap.size, 1, none⟩ (.int .i64 0) rfl
  have k := k1.trans k2 (fun i h => .inl h)
  refine ⟨⟨?_, h2.ox.kp k (by omega), h2.rs.kp k (by omega), ?_⟩, ?_, hm⟩
  · have := (h2.bx.set 0 v').set 1 (.int .i64 0)
    simpa using this
  · exact bset (bset h2.bel ⟨w.heap.size, 0, none⟩ (Nat.le_refl _) v') ⟨w.heap.size, 1, none⟩ (Nat.le_refl _) _
  · exact owns_lo (by omega) (owns_kp hr k (fun i hi e => by have := (hr.lt i hi).1; omega))
theorem PE.nmb {w W W0 : World} {v : Value} {O : Array Value} {L : List Nat} {m : Nat} (h : PE w W v O) (hr : RC W v L.length (bC L)) (hm : L.length ≤ m) (hb0 : Below W.heap.size W W0) (x : Int) (h0 : 0 ≤ x) (h1 : x ≤ 9223372036854775807) (hL : m ≤ 10000000000) :
    Calls Tryz.prog 21 #[.agg #[v, .int .i64 0], .int .i64 x] W0 fun r X2 => ∃ a5 n5 c5, r = .returned (.agg #[.slice a5 n5 c5, .int .i64 0]) ∧ X2.cell? ⟨w.heap.size, 0, none⟩ = some v ∧ X2.cell? ⟨w.heap.size, 1, none⟩ = some (.int .i64 0) ∧ X2.frozen? ⟨w.heap.size, 0, none⟩ = false ∧ X2.frozen? ⟨w.heap.size, 1, none⟩ = false ∧ w.heap.size < X2.heap.size ∧ Hid (PF w ((X2.setCell ⟨w.heap.size, 0, none⟩ (.slice a5 n5 c5)).setCell ⟨w.heap.size, 1, none⟩ (.int .i64 0)) (.slice a5 n5 c5) O (L ++ num x.toNat) (m + 11)) := by
  refine (refNumber_in W0 v L 0 x (hr.below hb0) (by omega) h1 (by omega)).mono ?_
  rintro r X2 ⟨v', rfl, _, ho, _, hb⟩
  have ho' := ho rfl h0
  rw [wNum_pos L h0] at ho' ⊢
  simp only at ho' ⊢
  obtain ⟨a5, c5, rfl⟩ := owns_form ho'
  have hb2 : Below W.heap.size W X2 := bnext hb0 hb
  have hbb := h.bx.below hb2
  have hl := num_len x.toNat
  exact ⟨a5, _, c5, rfl, hbb.cell 0 _ rfl, hbb.cell 1 _ rfl, hbb.frozen 0, hbb.frozen 1, hbb.lt, hide (h.store hb2 (owns_lo hb0.size ho') (by rw [List.length_append]; omega))⟩
theorem PE.txt {w W W0 : World} {v : Value} {O : Array Value} {L : List Nat} {m : Nat} (h : PE w W v O) (hr : RC W v L.length (bC L)) (hm : L.length ≤ m) (hb0 : Below W.heap.size W W0) (t : ByteArray) (ht : t.size ≤ 1000000) (hL : m ≤ 1000000000) :
    Calls Tryz.prog 20 #[.agg #[v, .int .i64 0], .string t] W0 fun r X2 => ∃ a5 n5 c5, r = .returned (.agg #[.slice a5 n5 c5, .int .i64 0]) ∧ X2.cell? ⟨w.heap.size, 0, none⟩ = some v ∧ X2.cell? ⟨w.heap.size, 1, none⟩ = some (.int .i64 0) ∧ X2.frozen? ⟨w.heap.size, 0, none⟩ = false ∧ X2.frozen? ⟨w.heap.size, 1, none⟩ = false ∧ w.heap.size < X2.heap.size ∧ Hid (PF w ((X2.setCell ⟨w.heap.size, 0, none⟩ (.slice a5 n5 c5)).setCell ⟨w.heap.size, 1, none⟩ (.int .i64 0)) (.slice a5 n5 c5) O (L ++ num t.size ++ sB t) (m + 11 + t.size)) := by
  refine (refText_in W0 v L 0 t (hr.below hb0) (by omega) (by omega)).mono ?_
  rintro r X2 ⟨v', rfl, _, ho, hb⟩
  have ho' := ho rfl
  rw [wTxt_pos L t] at ho' ⊢
  simp only at ho' ⊢
  obtain ⟨a5, c5, rfl⟩ := owns_form ho'
  have hb2 : Below W.heap.size W X2 := bnext hb0 hb
  have hbb := h.bx.below hb2
  have hl := num_len t.size
  exact ⟨a5, _, c5, rfl, hbb.cell 0 _ rfl, hbb.cell 1 _ rfl, hbb.frozen 0, hbb.frozen 1, hbb.lt, hide (h.store hb2 (owns_lo hb0.size ho') (by rw [List.length_append, List.length_append, sB_len]; omega))⟩
theorem PE.vcs {w W W0 : World} {v : Value} {O : Array Value} {L : List Nat} {m : Nat} (h : PE w W v O) (hr : RC W v L.length (bC L)) (hm : L.length ≤ m) (hb0 : Below W.heap.size W W0) (u : Value) (l : List (Int × Int)) (hu : RI W u l) (hc : chk l = 0) (hl : l.length ≤ 1000000) (hL : m ≤ 100000000) :
    Calls Tryz.prog 47 #[.agg #[v, .int .i64 0], u] W0 fun r X2 => ∃ a5 n5 c5, r = .returned (.agg #[.slice a5 n5 c5, .int .i64 0]) ∧ X2.cell? ⟨w.heap.size, 0, none⟩ = some v ∧ X2.cell? ⟨w.heap.size, 1, none⟩ = some (.int .i64 0) ∧ X2.frozen? ⟨w.heap.size, 0, none⟩ = false ∧ X2.frozen? ⟨w.heap.size, 1, none⟩ = false ∧ w.heap.size < X2.heap.size ∧ Hid (PF w ((X2.setCell ⟨w.heap.size, 0, none⟩ (.slice a5 n5 c5)).setCell ⟨w.heap.size, 1, none⟩ (.int .i64 0)) (.slice a5 n5 c5) O (L ++ num l.length ++ pb l) (m + 400)) := by
  refine (refPut_in v u L l W0 (hr.below hb0) (hu.below hb0) (by omega) (by omega)).mono ?_
  rintro r X2 ⟨v', rfl, ho', hb⟩
  have hvl := vec_len (sy l)
  rw [vec_of_chk hc] at ho' hvl
  obtain ⟨a5, c5, rfl⟩ := owns_form ho'
  have hb2 : Below W.heap.size W X2 := bnext hb0 hb
  have hbb := h.bx.below hb2
  have hl1 := num_len l.length
  have hl2 := pb_len l
  exact ⟨a5, _, c5, rfl, hbb.cell 0 _ rfl, hbb.cell 1 _ rfl, hbb.frozen 0, hbb.frozen 1, hbb.lt, hide (h.store hb2 (owns_lo hb0.size ho') (by rw [List.length_append, List.length_append]; omega))⟩
theorem PE.fin {w W : World} {v : Value} {O : Array Value} (h : PE w W v O) :
    Bx ((W.setCell ⟨w.heap.size + 2, 0, none⟩ v).setCell ⟨w.heap.size + 2, 1, none⟩ (.int .i64 0)) (w.heap.size + 2) 54 #[v, .int .i64 0] ∧ Below w.heap.size w ((W.setCell ⟨w.heap.size + 2, 0, none⟩ v).setCell ⟨w.heap.size + 2, 1, none⟩ (.int .i64 0)) := by
  refine ⟨?_, bset (bset h.bel ⟨w.heap.size + 2, 0, none⟩ (by show w.heap.size ≤ w.heap.size + 2; omega) v) ⟨w.heap.size + 2, 1, none⟩ (by show w.heap.size ≤ w.heap.size + 2; omega) _⟩
  have := (h.rs.set 0 v).set 1 (.int .i64 0)
  simpa using this
theorem PF.fin {w W : World} {v : Value} {O : Array Value} {L : List Nat} {m : Nat} (h : PF w W v O L m) :
    Bx ((W.setCell ⟨w.heap.size + 2, 0, none⟩ v).setCell ⟨w.heap.size + 2, 1, none⟩ (.int .i64 0)) (w.heap.size + 2) 54 #[v, .int .i64 0] ∧ RC ((W.setCell ⟨w.heap.size + 2, 0, none⟩ v).setCell ⟨w.heap.size + 2, 1, none⟩ (.int .i64 0)) v L.length (bC L) ∧ Below w.heap.size w ((W.setCell ⟨w.heap.size + 2, 0, none⟩ v).setCell ⟨w.heap.size + 2, 1, none⟩ (.int .i64 0)) := by
  have k1 := Kp.set (N := fun i => i = w.heap.size + 2) W ⟨w.heap.size + 2, 0, none⟩ v rfl
  have k2 := Kp.set (N := fun i => i = w.heap.size + 2) (W.setCell ⟨w.heap.size + 2, 0, none⟩ v) ⟨w.heap.size + 2, 1, none⟩ (.int .i64 0) rfl
  have k := k1.trans k2 (fun i h => .inl h)
  exact ⟨h.1.fin.1, RC.of_owns (owns_kp h.2.1 k (fun i hi e => by have := (h.2.1.lt i hi).1; omega)), h.1.fin.2⟩
theorem PF.rc {w W : World} {v : Value} {O : Array Value} {L : List Nat} {m : Nat} (h : PF w W v O L m) : RC W v L.length (bC L) := RC.of_owns h.2.1
theorem gb_step {d : List ((Int × Int) × Int)} {i : Nat} {x : (Int × Int) × Int} (h : d[i]? = some x) : gb (d.take (i + 1)) = gb (d.take i) ++ num x.1.1.toNat ++ num x.1.2.toNat ++ num x.2.toNat := by
  rw [List.take_add_one, h]
  simp [gb, List.append_assoc]

set_option maxRecDepth 100000 in
set_option maxHeartbeats 4000000 in
theorem rPut_in (o : Opn) (v : Value) (L : List Nat) (ad ag : Option Addr) (cd cg : Nat) (w : World) (h : RC w v L.length (bC L)) (hL : L.length ≤ 1000000) (hd : RI w (.slice ad o.deps.length cd) o.deps) (hg : RR w (.slice ag o.gone.length cg) o.gone) (hin : InO o) (hs1 : o.deps.length ≤ 1000000) (hs2 : o.gone.length ≤ 1000000) (hs3 : o.text.size ≤ 1000000) :
    Calls Tryz.prog 22 #[.agg #[v, .int .i64 0], .agg #[.int .i64 o.ds, .int .i64 o.dq, .slice ad o.deps.length cd, .int .i64 o.kind, .int .i64 o.it, .int .i64 o.is, .int .i64 o.rt, .int .i64 o.rs, .string o.text, .slice ag o.gone.length cg, .int .i64 o.site]] w fun r W => ∃ v', r = .returned (.agg #[v', .int .i64 0]) ∧ RC W v' (putO (L, 0) o).1.length (bC (putO (L, 0) o).1) ∧ Below w.heap.size w W := by
  obtain ⟨a, c, rfl⟩ := h.form
  obtain ⟨kd, hkd⟩ : ∃ kd, o.kind = kd := ⟨_, rfl⟩
  obtain ⟨m0, hm0⟩ : ∃ m, L.length = m := ⟨_, rfl⟩
  obtain ⟨X, hX⟩ : ∃ X, ((w.alloc (.cells #[.slice a L.length c, .int .i64 0] 54)).alloc (.cells #[.int .i64 o.ds, .int .i64 o.dq, .slice ad o.deps.length cd, .int .i64 kd, .int .i64 o.it, .int .i64 o.is, .int .i64 o.rt, .int .i64 o.rs, .string o.text, .slice ag o.gone.length cg, .int .i64 o.site] 30)).alloc (.cells #[.slice none 0 0, .int .i64 0] 54) = X := ⟨_, rfl⟩
  have PA : PE w X (.slice a L.length c) #[.int .i64 o.ds, .int .i64 o.dq, .slice ad o.deps.length cd, .int .i64 kd, .int .i64 o.it, .int .i64 o.is, .int .i64 o.rt, .int .i64 o.rs, .string o.text, .slice ag o.gone.length cg, .int .i64 o.site] := by
    refine ⟨?_, ?_, ?_, ?_⟩
    · rw [← hX]; exact (Bx.new w _ _).below (ballc (ballc (Below.refl _ _) _) _)
    · rw [← hX]
      have := Bx.new (w.alloc (.cells #[.slice a L.length c, .int .i64 0] 54)) 30 #[.int .i64 o.ds, .int .i64 o.dq, .slice ad o.deps.length cd, .int .i64 kd, .int .i64 o.it, .int .i64 o.is, .int .i64 o.rt, .int .i64 o.rs, .string o.text, .slice ag o.gone.length cg, .int .i64 o.site]
      rw [show (w.alloc (.cells #[.slice a L.length c, .int .i64 0] 54)).heap.size = w.heap.size + 1 by simp] at this
      exact this.below (ballc (Below.refl _ _) _)
    · rw [← hX]
      have := Bx.new ((w.alloc (.cells #[.slice a L.length c, .int .i64 0] 54)).alloc (.cells #[.int .i64 o.ds, .int .i64 o.dq, .slice ad o.deps.length cd, .int .i64 kd, .int .i64 o.it, .int .i64 o.is, .int .i64 o.rt, .int .i64 o.rs, .string o.text, .slice ag o.gone.length cg, .int .i64 o.site] 30)) 54 #[.slice none 0 0, .int .i64 0]
      rw [show ((w.alloc (.cells #[.slice a L.length c, .int .i64 0] 54)).alloc (.cells #[.int .i64 o.ds, .int .i64 o.dq, .slice ad o.deps.length cd, .int .i64 kd, .int .i64 o.it, .int .i64 o.is, .int .i64 o.rt, .int .i64 o.rs, .string o.text, .slice ag o.gone.length cg, .int .i64 o.site] 30)).heap.size = w.heap.size + 2 by simp] at this
      exact this
    · rw [← hX]; exact ballc (ballc (ballc (Below.refl _ _) _) _) _
  have HC := hide (rCheck_in o ad ag cd cg X (hd.below PA.bel) (RC.below hg PA.bel) hin hs1 hs2 hs3)
  have HD := hide (fun (W : World) (hb : Below w.heap.size w W) => hd.below hb)
  have HG := hide (fun (W : World) (hb : Below w.heap.size w W) => (RC.below hg hb : RR W _ _))
  have HH := hide h
  have HE := hide (show okO o = true → (putO (L, 0) o).1 = L ++ ob o from fun h => by rw [putO_ob h])
  have Hi := hide hin
  rw [hkd] at HC ⊢
  rw [hm0] at PA hX ⊢
  have hsz : X.heap.size = w.heap.size + 3 := by rw [← hX]; simp
  obtain ⟨x0, x1, x2, x3, x4, x5, x6, x7, x8, x9, x10⟩ := cells_op PA.ox
  clear hd hg hin h
  by_cases hok : okO o = true
  rotate_left
  · have hc10 : chkO o = 10 := by unfold chkO; rw [if_neg hok]
    have hp : putO (L, 0) o = (L, 0) := by unfold putO; rw [if_neg hok]
    rw [hc10] at HC
    rw [hp]
    replace PA := hide PA
    clear HD HG HE Hi hp hc10 hok
    go_enter Tryz.func22, Tryz.ntmps22
    go_wp2_with fail
    refine (unhide HC).mono ?_
    rintro e W1 ⟨rfl, hb1⟩
    have PB := hide ((unhide PA).below hb1)
    have c0 := (unhide PB).bx.cell 0 _ rfl
    have c1 := (unhide PB).bx.cell 1 _ rfl
    have r0 := (unhide PB).rs.cell 0 _ rfl
    have r1 := (unhide PB).rs.cell 1 _ rfl
    have g0 := (unhide PB).rs.frozen 0
    have g1 := (unhide PB).rs.frozen 1
    have hrl := (unhide PB).rs.lt
    have HF := hide (unhide PB).fin
    clear x0 x1 x2 x3 x4 x5 x6 x7 x8 x9 x10 hX hsz PA hb1
    go_wp2
    refine bodyPost_ret (results_cell_row rfl _ _ (w.heap.size + 2) _ _ _ _ rfl (unhide HF).1 Tryz.underlying54 rfl sizeW) rfl ?_
    exact ⟨_, rfl, by have := RC.below (unhide HH) (unhide HF).2; rw [hm0] at this ⊢; exact this, (unhide HF).2⟩
  have hc0 : chkO o = 0 := by unfold chkO; rw [if_pos hok]
  rw [hc0] at HC
  have k := OkN.of hok
  have HR := hide ((unhide HE) hok)
  obtain ⟨R, hR⟩ : ∃ R, (putO (L, 0) o).1 = R := ⟨_, rfl⟩
  rw [hR] at HR ⊢
  have hk := k.kind
  rw [hkd] at hk
  have k1 := k.ds
  have k2 := k.dq
  have Hchk := hide k.deps
  have HK := hide k
  clear hR HE hc0 hok k
  replace PA := hide PA
  go_enter Tryz.func22, Tryz.ntmps22
  go_wp2_with fail
  refine (unhide HC).mono ?_
  rintro e W1 ⟨rfl, hb1⟩
  have PB := hide ((unhide PA).below hb1)
  have HRow := hide (show RC W1 (.slice a m0 c) L.length (bC L) by have := RC.below (unhide HH) (unhide PB).bel; rw [hm0] at this ⊢; exact this)
  clear x0 x1 x2 x3 x4 x5 x6 x7 x8 x9 x10 hX hsz PA hb1 HC HH
  obtain ⟨x0, x1, x2, x3, x4, x5, x6, x7, x8, x9, x10⟩ := cells_op (unhide PB).ox
  have c0 := (unhide PB).bx.cell 0 _ rfl
  have c1 := (unhide PB).bx.cell 1 _ rfl
  have HN := hide ((unhide PB).nmb (unhide HRow) (m := 1000000) (by omega) (Below.refl _ _) kd (by omega) (by omega) (by omega))
  clear PB HRow
  go_wp2_with fail
  refine (unhide HN).mono ?_
  rintro e X2 ⟨a5, n5, c5, rfl, y0, y1, z0, z1, hlt2, HF⟩
  obtain ⟨W2, hW2⟩ : ∃ W3, (X2.setCell ⟨w.heap.size, 0, none⟩ (.slice a5 n5 c5)).setCell ⟨w.heap.size, 1, none⟩ (.int .i64 0) = W3 := ⟨_, rfl⟩
  rw [hW2] at HF
  clear HN x0 x1 x2 x3 x4 x5 x6 x7 x8 x9 x10 c0 c1
  obtain ⟨x0, x1, x2, x3, x4, x5, x6, x7, x8, x9, x10⟩ := cells_op (unhide HF).1.ox
  have c0 := (unhide HF).1.bx.cell 0 _ rfl
  have c1 := (unhide HF).1.bx.cell 1 _ rfl
  have HN := hide ((unhide HF).1.nmb (unhide HF).rc (unhide HF).2.2 (Below.refl _ _) o.ds (by omega) (by omega) (by omega))
  clear HF
  go_wp2_with fail
  refine (unhide HN).mono ?_
  rintro e X2 ⟨a5, n5, c5, rfl, y0, y1, z0, z1, hlt2, HF⟩
  obtain ⟨W3, hW3⟩ : ∃ W3, (X2.setCell ⟨w.heap.size, 0, none⟩ (.slice a5 n5 c5)).setCell ⟨w.heap.size, 1, none⟩ (.int .i64 0) = W3 := ⟨_, rfl⟩
  rw [hW3] at HF
  clear HN x0 x1 x2 x3 x4 x5 x6 x7 x8 x9 x10 c0 c1
  obtain ⟨x0, x1, x2, x3, x4, x5, x6, x7, x8, x9, x10⟩ := cells_op (unhide HF).1.ox
  have c0 := (unhide HF).1.bx.cell 0 _ rfl
  have c1 := (unhide HF).1.bx.cell 1 _ rfl
  have HN := hide ((unhide HF).1.nmb (unhide HF).rc (unhide HF).2.2 (Below.refl _ _) o.dq (by omega) (by omega) (by omega))
  clear HF
  go_wp2_with fail
  refine (unhide HN).mono ?_
  rintro e X2 ⟨a5, n5, c5, rfl, y0, y1, z0, z1, hlt2, HF⟩
  obtain ⟨W4, hW4⟩ : ∃ W3, (X2.setCell ⟨w.heap.size, 0, none⟩ (.slice a5 n5 c5)).setCell ⟨w.heap.size, 1, none⟩ (.int .i64 0) = W3 := ⟨_, rfl⟩
  rw [hW4] at HF
  clear HN x0 x1 x2 x3 x4 x5 x6 x7 x8 x9 x10 c0 c1
  obtain ⟨x0, x1, x2, x3, x4, x5, x6, x7, x8, x9, x10⟩ := cells_op (unhide HF).1.ox
  have c0 := (unhide HF).1.bx.cell 0 _ rfl
  have c1 := (unhide HF).1.bx.cell 1 _ rfl
  have HN := hide ((unhide HF).1.vcs (unhide HF).rc (unhide HF).2.2 (Below.refl _ _) _ o.deps (unhide HD _ (unhide HF).1.bel) (unhide Hchk) (by omega) (by omega))
  clear HF
  go_wp2_with fail
  refine (unhide HN).mono ?_
  rintro e X2 ⟨a5, n5, c5, rfl, y0, y1, z0, z1, hlt2, HF⟩
  obtain ⟨W5, hW5⟩ : ∃ W3, (X2.setCell ⟨w.heap.size, 0, none⟩ (.slice a5 n5 c5)).setCell ⟨w.heap.size, 1, none⟩ (.int .i64 0) = W3 := ⟨_, rfl⟩
  rw [hW5] at HF
  clear HN x0 x1 x2 x3 x4 x5 x6 x7 x8 x9 x10 c0 c1
  obtain ⟨x0, x1, x2, x3, x4, x5, x6, x7, x8, x9, x10⟩ := cells_op (unhide HF).1.ox
  have c0 := (unhide HF).1.bx.cell 0 _ rfl
  have c1 := (unhide HF).1.bx.cell 1 _ rfl
  rcases hk with rfl | rfl | rfl | rfl
  · obtain ⟨-, i1, i2, i3, -, -⟩ := (unhide HK).ins hkd
    have HN := hide ((unhide HF).1.nmb (unhide HF).rc (unhide HF).2.2 (Below.refl _ _) o.it (by omega) (by omega) (by omega))
    clear HF
    go_wp2_with fail
    refine (unhide HN).mono ?_
    rintro e X2 ⟨a5, n5, c5, rfl, y0, y1, z0, z1, hlt2, HF⟩
    obtain ⟨W6, hW6⟩ : ∃ W3, (X2.setCell ⟨w.heap.size, 0, none⟩ (.slice a5 n5 c5)).setCell ⟨w.heap.size, 1, none⟩ (.int .i64 0) = W3 := ⟨_, rfl⟩
    rw [hW6] at HF
    clear HN x0 x1 x2 x3 x4 x5 x6 x7 x8 x9 x10 c0 c1
    obtain ⟨x0, x1, x2, x3, x4, x5, x6, x7, x8, x9, x10⟩ := cells_op (unhide HF).1.ox
    have c0 := (unhide HF).1.bx.cell 0 _ rfl
    have c1 := (unhide HF).1.bx.cell 1 _ rfl
    have HN := hide ((unhide HF).1.nmb (unhide HF).rc (unhide HF).2.2 (Below.refl _ _) o.rt (by omega) (by omega) (by omega))
    clear HF
    go_wp2_with fail
    refine (unhide HN).mono ?_
    rintro e X2 ⟨a5, n5, c5, rfl, y0, y1, z0, z1, hlt2, HF⟩
    obtain ⟨W7, hW7⟩ : ∃ W3, (X2.setCell ⟨w.heap.size, 0, none⟩ (.slice a5 n5 c5)).setCell ⟨w.heap.size, 1, none⟩ (.int .i64 0) = W3 := ⟨_, rfl⟩
    rw [hW7] at HF
    clear HN x0 x1 x2 x3 x4 x5 x6 x7 x8 x9 x10 c0 c1
    obtain ⟨x0, x1, x2, x3, x4, x5, x6, x7, x8, x9, x10⟩ := cells_op (unhide HF).1.ox
    have c0 := (unhide HF).1.bx.cell 0 _ rfl
    have c1 := (unhide HF).1.bx.cell 1 _ rfl
    have HN := hide ((unhide HF).1.nmb (unhide HF).rc (unhide HF).2.2 (Below.refl _ _) o.rs (by omega) (by omega) (by omega))
    clear HF
    go_wp2_with fail
    refine (unhide HN).mono ?_
    rintro e X2 ⟨a5, n5, c5, rfl, y0, y1, z0, z1, hlt2, HF⟩
    obtain ⟨W8, hW8⟩ : ∃ W3, (X2.setCell ⟨w.heap.size, 0, none⟩ (.slice a5 n5 c5)).setCell ⟨w.heap.size, 1, none⟩ (.int .i64 0) = W3 := ⟨_, rfl⟩
    rw [hW8] at HF
    clear HN x0 x1 x2 x3 x4 x5 x6 x7 x8 x9 x10 c0 c1
    obtain ⟨x0, x1, x2, x3, x4, x5, x6, x7, x8, x9, x10⟩ := cells_op (unhide HF).1.ox
    have c0 := (unhide HF).1.bx.cell 0 _ rfl
    have c1 := (unhide HF).1.bx.cell 1 _ rfl
    have HN := hide ((unhide HF).1.txt (unhide HF).rc (unhide HF).2.2 (Below.refl _ _) o.text (by omega) (by omega))
    clear HF
    go_wp2_with fail
    refine (unhide HN).mono ?_
    rintro e X2 ⟨a5, n5, c5, rfl, y0, y1, z0, z1, hlt2, HF⟩
    obtain ⟨W9, hW9⟩ : ∃ W3, (X2.setCell ⟨w.heap.size, 0, none⟩ (.slice a5 n5 c5)).setCell ⟨w.heap.size, 1, none⟩ (.int .i64 0) = W3 := ⟨_, rfl⟩
    rw [hW9] at HF
    clear HN x0 x1 x2 x3 x4 x5 x6 x7 x8 x9 x10 c0 c1
    obtain ⟨x0, x1, x2, x3, x4, x5, x6, x7, x8, x9, x10⟩ := cells_op (unhide HF).1.ox
    have c0 := (unhide HF).1.bx.cell 0 _ rfl
    have c1 := (unhide HF).1.bx.cell 1 _ rfl
    have r0 := (unhide HF).1.rs.cell 0 _ rfl
    have r1 := (unhide HF).1.rs.cell 1 _ rfl
    have g0 := (unhide HF).1.rs.frozen 0
    have g1 := (unhide HF).1.rs.frozen 1
    have hrl := (unhide HF).1.rs.lt
    have HZ := hide (unhide HF).fin
    clear HF
    go_wp2
    obtain ⟨z1', z2', z3'⟩ := unhide HZ
    refine bodyPost_ret (results_cell_row rfl _ _ (w.heap.size + 2) _ _ _ _ rfl z1' Tryz.underlying54 rfl sizeW) rfl ?_
    refine ⟨_, rfl, ?_, z3'⟩
    have e9 := unhide HR
    unfold ob kb at e9
    rw [hkd] at e9
    simp at e9
    rw [e9]
    simpa using z2'
  · obtain ⟨-, -, -, -, -, -, hgl, hgr⟩ := (unhide HK).del hkd
    have Hgr := hide hgr
    clear hgr
    have HN := hide ((unhide HF).1.nmb (unhide HF).rc (unhide HF).2.2 (Below.refl _ _) (o.gone.length : Nat) (by omega) (by omega) (by omega))
    clear HF
    go_wp2_with fail
    refine (unhide HN).mono ?_
    rintro e X2 ⟨a5, n5, c5, rfl, y0, y1, z0, z1, hlt2, HF⟩
    obtain ⟨W6, hW6⟩ : ∃ W3, (X2.setCell ⟨w.heap.size, 0, none⟩ (.slice a5 n5 c5)).setCell ⟨w.heap.size, 1, none⟩ (.int .i64 0) = W3 := ⟨_, rfl⟩
    rw [hW6] at HF
    clear HN x0 x1 x2 x3 x4 x5 x6 x7 x8 x9 x10 c0 c1
    obtain ⟨x0, x1, x2, x3, x4, x5, x6, x7, x8, x9, x10⟩ := cells_op (unhide HF).1.ox
    have c0 := (unhide HF).1.bx.cell 0 _ rfl
    have c1 := (unhide HF).1.bx.cell 1 _ rfl
    rw [Int.toNat_natCast] at HF
    go_wp2
    clear hW6 y0 y1 z0 z1 hlt2 x0 x1 x2 x3 x4 x5 x6 x7 x8 x9 x10 c0 c1
    obtain ⟨L2, hL2⟩ : ∃ L2, L ++ num (2 : Int).toNat ++ num o.ds.toNat ++ num o.dq.toNat ++ num o.deps.length ++ pb o.deps ++ num o.gone.length = L2 := ⟨_, rfl⟩
    have HR2 := hide (show R = L2 ++ gb o.gone by
      have e9 := unhide HR
      unfold ob kb at e9
      rw [hkd] at e9
      simp at e9
      rw [e9, ← hL2]
      simp)
    have HF2 : Hid (PF w W6 (.slice a5 n5 c5) #[.int .i64 o.ds, .int .i64 o.dq, .slice ad o.deps.length cd, .int .i64 2, .int .i64 o.it, .int .i64 o.is, .int .i64 o.rt, .int .i64 o.rs, .string o.text, .slice ag o.gone.length cg, .int .i64 o.site] L2 2000000) := by
      have h := unhide HF
      have e : L ++ num (2 : Int).toNat ++ num o.ds.toNat ++ num o.dq.toNat ++ (num o.deps.length) ++ pb o.deps ++ num o.gone.length = L2 := hL2
      refine ⟨h.1, ?_, ?_⟩
      · have := h.2.1
        rw [← hL2]
        simpa using this
      · have := h.2.2
        rw [← hL2]
        simp at this ⊢
        omega
    clear HF hL2 HR
    go_loopw [5] (fun iv wr => ∃ (i : Nat) (v2 : Value), iv = .int .i64 (i : Nat) ∧ i ≤ o.gone.length ∧ Hid (PF w wr v2 #[.int .i64 o.ds, .int .i64 o.dq, .slice ad o.deps.length cd, .int .i64 2, .int .i64 o.it, .int .i64 o.is, .int .i64 o.rt, .int .i64 o.rs, .string o.text, .slice ag o.gone.length cg, .int .i64 o.site] (L2 ++ gb (o.gone.take i)) (2000000 + 33 * i))) (fun iv _ => o.gone.length - (Lib.intOf iv).toNat)
    case atStart => exact ⟨0, _, rfl, by omega, hide (by simpa [gb] using unhide HF2)⟩
    case round =>
      clear HF2
      obtain ⟨i, v2, rfl, hin, PC⟩ := hrel
      obtain ⟨av, nv, cv, rfl⟩ : ∃ av nv cv, v2 = .slice av nv cv := by
        obtain ⟨av, cv, e⟩ := owns_form (unhide PC).2.1
        exact ⟨av, _, cv, e⟩
      obtain ⟨x0, x1, x2, x3, x4, x5, x6, x7, x8, x9, x10⟩ := cells_op (unhide PC).1.ox
      have c0 := (unhide PC).1.bx.cell 0 _ rfl
      have c1 := (unhide PC).1.bx.cell 1 _ rfl
      by_cases hlt : i < o.gone.length
      · have hlt' : (i : Int) < (o.gone.length : Int) := by omega
        obtain ⟨x, hx⟩ : ∃ x, o.gone[i]? = some x := ⟨_, List.getElem?_eq_getElem hlt⟩
        obtain ⟨⟨j1, j2⟩, ⟨j3, j4⟩, j5, j6⟩ := isR_full (unhide Hgr x (List.mem_of_getElem? hx))
        have Hst := hide (gb_step hx)
        obtain ⟨b, off, hb0, hb, q0, q1, q2⟩ := RR.at (unhide HG _ (unhide PC).1.bel) hx
        have HX := hide hx
        clear hx
        obtain ⟨⟨y0, y1⟩, y2⟩ := x
        simp only at q0 q1 q2 j1 j2 j3 j4 j5 j6 Hst
        subst hb0
        have HN := hide ((unhide PC).1.nmb (unhide PC).rc (unhide PC).2.2 (Below.refl _ wr).drew y0 (by omega) (by omega) (by omega))
        go_upto_region 18 with fail
        go_cut [90] from 58 to 90 (fun v wx => Hid (∃ v3, PF w wx v3 #[.int .i64 o.ds, .int .i64 o.dq, .slice ad o.deps.length cd, .int .i64 2, .int .i64 o.it, .int .i64 o.is, .int .i64 o.rt, .int .i64 o.rs, .string o.text, .slice (some ⟨b, off, none⟩) o.gone.length cg, .int .i64 o.site] (L2 ++ gb (o.gone.take i) ++ num y0.toNat) (2000000 + 33 * i + 11)))
        case first =>
          go_region_with (go_at_call 21; refine (unhide HN).mono ?_; rintro r X2 ⟨a5, n5, c5, rfl, y0, y1, z0, z1, hlt2, HF⟩)
          all_goals (go_wp2; go_meet)
          all_goals exact ⟨_, unhide HF⟩
        case rest =>
          obtain ⟨v3, hS⟩ := unhide hcut
          clear hcut c0 c1 q0 q1 q2 HN PC x0 x1 x2 x3 x4 x5 x6 x7 x8 x9 x10
          obtain ⟨av3, nv3, cv3, rfl⟩ : ∃ av nv cv, v3 = .slice av nv cv := by
            obtain ⟨av, cv, e⟩ := owns_form hS.2.1
            exact ⟨av, _, cv, e⟩
          obtain ⟨b', off', eb, hb', q0, q1, q2⟩ := RR.at (unhide HG _ hS.1.bel) (unhide HX)
          simp only [Option.some.injEq, Addr.mk.injEq, and_true] at eb
          obtain ⟨rfl, rfl⟩ := eb
          simp only at q0 q1 q2
          have HN := hide (hS.1.nmb hS.rc hS.2.2 (Below.refl _ wc).drew y1 (by omega) (by omega) (by omega))
          obtain ⟨x0, x1, x2, x3, x4, x5, x6, x7, x8, x9, x10⟩ := cells_op hS.1.ox
          have c0 := hS.1.bx.cell 0 _ rfl
          have c1 := hS.1.bx.cell 1 _ rfl
          clear hS
          go_upto_region 19 with fail
          go_cut [90] from 58 to 90 (fun v wx => Hid (∃ v3, PF w wx v3 #[.int .i64 o.ds, .int .i64 o.dq, .slice ad o.deps.length cd, .int .i64 2, .int .i64 o.it, .int .i64 o.is, .int .i64 o.rt, .int .i64 o.rs, .string o.text, .slice (some ⟨b, off, none⟩) o.gone.length cg, .int .i64 o.site] (L2 ++ gb (o.gone.take i) ++ num y0.toNat ++ num y1.toNat) (2000000 + 33 * i + 11 + 11)))
          case first =>
            go_region_with (go_at_call 21; refine (unhide HN).mono ?_; rintro r X2 ⟨a5, n5, c5, rfl, y0, y1, z0, z1, hlt2, HF⟩)
            all_goals (go_wp2; go_meet)
            all_goals exact ⟨_, unhide HF⟩
          case rest =>
            obtain ⟨v4, hS⟩ := unhide hcut
            clear hcut c0 c1 q0 q1 q2 HN x0 x1 x2 x3 x4 x5 x6 x7 x8 x9 x10
            obtain ⟨av4, nv4, cv4, rfl⟩ : ∃ av nv cv, v4 = .slice av nv cv := by
              obtain ⟨av, cv, e⟩ := owns_form hS.2.1
              exact ⟨av, _, cv, e⟩
            obtain ⟨b', off', eb, hb', q0, q1, q2⟩ := RR.at (unhide HG _ hS.1.bel) (unhide HX)
            simp only [Option.some.injEq, Addr.mk.injEq, and_true] at eb
            obtain ⟨rfl, rfl⟩ := eb
            simp only at q0 q1 q2
            have HN := hide (hS.1.nmb hS.rc hS.2.2 (Below.refl _ _).drew y2 (by omega) (by omega) (by omega))
            obtain ⟨x0, x1, x2, x3, x4, x5, x6, x7, x8, x9, x10⟩ := cells_op hS.1.ox
            have c0 := hS.1.bx.cell 0 _ rfl
            have c1 := hS.1.bx.cell 1 _ rfl
            clear hS
            go_upto_region 20 with fail
            go_region_with (go_at_call 21; refine (unhide HN).mono ?_; rintro r X2 ⟨a5, n5, c5, rfl, y0, y1, z0, z1, hlt2, HF⟩)
            all_goals
              go_wp2
              go_roundw
              case measure => show o.gone.length - ((i : Int) + 1).toNat < o.gone.length - ((i : Nat) : Int).toNat; omega
              case rel => exact ⟨i + 1, _, by go_num, by omega, hide (by rw [unhide Hst, ← List.append_assoc, ← List.append_assoc, ← List.append_assoc, show 2000000 + 33 * (i + 1) = 2000000 + 33 * i + 11 + 11 + 11 by omega]; exact unhide HF)⟩
      · have hlt' : ¬ (i : Int) < (o.gone.length : Int) := by omega
        have Hend := hide (show o.gone.take i = o.gone from List.take_of_length_le (by omega))
        rw [unhide Hend, ← unhide HR2] at PC
        have r0 := (unhide PC).1.rs.cell 0 _ rfl
        have r1 := (unhide PC).1.rs.cell 1 _ rfl
        have g0 := (unhide PC).1.rs.frozen 0
        have g1 := (unhide PC).1.rs.frozen 1
        have hrl := (unhide PC).1.rs.lt
        have HZ := hide (unhide PC).fin
        clear PC
        go_wp2
        obtain ⟨z1', z2', z3'⟩ := unhide HZ
        refine bodyPost_ret (results_cell_row rfl _ _ (w.heap.size + 2) _ _ _ _ rfl z1' Tryz.underlying54 rfl sizeW) rfl ?_
        exact ⟨_, rfl, z2', z3'⟩
  · obtain ⟨-, -, -, -, -, -, i6, i7⟩ := (unhide HK).join hkd
    have HN := hide ((unhide HF).1.nmb (unhide HF).rc (unhide HF).2.2 (Below.refl _ _) o.site (by omega) (by omega) (by omega))
    clear HF
    go_wp2_with fail
    refine (unhide HN).mono ?_
    rintro e X2 ⟨a5, n5, c5, rfl, y0, y1, z0, z1, hlt2, HF⟩
    obtain ⟨W6, hW6⟩ : ∃ W3, (X2.setCell ⟨w.heap.size, 0, none⟩ (.slice a5 n5 c5)).setCell ⟨w.heap.size, 1, none⟩ (.int .i64 0) = W3 := ⟨_, rfl⟩
    rw [hW6] at HF
    clear HN x0 x1 x2 x3 x4 x5 x6 x7 x8 x9 x10 c0 c1
    obtain ⟨x0, x1, x2, x3, x4, x5, x6, x7, x8, x9, x10⟩ := cells_op (unhide HF).1.ox
    have c0 := (unhide HF).1.bx.cell 0 _ rfl
    have c1 := (unhide HF).1.bx.cell 1 _ rfl
    have r0 := (unhide HF).1.rs.cell 0 _ rfl
    have r1 := (unhide HF).1.rs.cell 1 _ rfl
    have g0 := (unhide HF).1.rs.frozen 0
    have g1 := (unhide HF).1.rs.frozen 1
    have hrl := (unhide HF).1.rs.lt
    have HZ := hide (unhide HF).fin
    clear HF
    go_wp2
    obtain ⟨z1', z2', z3'⟩ := unhide HZ
    refine bodyPost_ret (results_cell_row rfl _ _ (w.heap.size + 2) _ _ _ _ rfl z1' Tryz.underlying54 rfl sizeW) rfl ?_
    refine ⟨_, rfl, ?_, z3'⟩
    have e9 := unhide HR
    unfold ob kb at e9
    rw [hkd] at e9
    simp at e9
    rw [e9]
    simpa using z2'
  · have h_ := (unhide HK).leave hkd
    clear h_
    have r0 := (unhide HF).1.rs.cell 0 _ rfl
    have r1 := (unhide HF).1.rs.cell 1 _ rfl
    have g0 := (unhide HF).1.rs.frozen 0
    have g1 := (unhide HF).1.rs.frozen 1
    have hrl := (unhide HF).1.rs.lt
    have HZ := hide (unhide HF).fin
    clear HF
    go_wp2
    obtain ⟨z1', z2', z3'⟩ := unhide HZ
    refine bodyPost_ret (results_cell_row rfl _ _ (w.heap.size + 2) _ _ _ _ rfl z1' Tryz.underlying54 rfl sizeW) rfl ?_
    refine ⟨_, rfl, ?_, z3'⟩
    have e9 := unhide HR
    unfold ob kb at e9
    rw [hkd] at e9
    simp at e9
    rw [e9]
    simpa using z2'

end Go.Proofs.YtfkdpkckbmbmdaaGreat

/-
  The document's own Encode of an operation.
-/
set_option linter.unusedSimpArgs false
set_option linter.unusedVariables false
namespace Go.Proofs.YtfkdpkckbmbmdaaGreat
open Go.RowKit Go.Lib

theorem field_w (a : Option Addr) (n c : Nat) (e : Int) (w : World) : (Instr.field 54 (.agg #[.slice a n c, .int .i64 e]) 0).run Tryz.prog w = .ok (.slice a n c) w := by kernel_rfl
set_option maxRecDepth 100000 in
set_option maxHeartbeats 4000000 in
theorem rEncode_in (o : Opn) (ad ag : Option Addr) (cd cg : Nat) (w : World) (hd : RI w (.slice ad o.deps.length cd) o.deps) (hg : RR w (.slice ag o.gone.length cg) o.gone) (hin : InO o) (hs1 : o.deps.length ≤ 1000000) (hs2 : o.gone.length ≤ 1000000) (hs3 : o.text.size ≤ 1000000) :
    Calls Tryz.prog 15 #[.agg #[.int .i64 o.ds, .int .i64 o.dq, .slice ad o.deps.length cd, .int .i64 o.kind, .int .i64 o.it, .int .i64 o.is, .int .i64 o.rt, .int .i64 o.rs, .string o.text, .slice ag o.gone.length cg, .int .i64 o.site]] w fun r W => ∃ v', r = .returned (.tuple #[v', .int .i64 (chkO o)]) ∧ RC W v' (encL o).length (bC (encL o)) ∧ Below w.heap.size w W := by
  obtain ⟨X, hX⟩ : ∃ X, w.alloc (.cells #[.int .i64 o.ds, .int .i64 o.dq, .slice ad o.deps.length cd, .int .i64 o.kind, .int .i64 o.it, .int .i64 o.is, .int .i64 o.rt, .int .i64 o.rs, .string o.text, .slice ag o.gone.length cg, .int .i64 o.site] 30) = X := ⟨_, rfl⟩
  have HX : Bx X w.heap.size 30 #[.int .i64 o.ds, .int .i64 o.dq, .slice ad o.deps.length cd, .int .i64 o.kind, .int .i64 o.it, .int .i64 o.is, .int .i64 o.rt, .int .i64 o.rs, .string o.text, .slice ag o.gone.length cg, .int .i64 o.site] := by rw [← hX]; exact Bx.new w _ _
  have bX : Below w.heap.size w X := by rw [← hX]; exact ballc (Below.refl _ _) _
  have HC := hide (rCheck_in o ad ag cd cg X (hd.below bX) (RC.below hg bX) hin hs1 hs2 hs3)
  have HP := hide (fun (W : World) (hb : Below X.heap.size X W) => rPut_in o (.slice none 0 0) [] ad ag cd cg W (.inl ⟨rfl, _, _, rfl⟩) (by simp) ((hd.below bX).below hb) (RC.below (RC.below hg bX) hb) hin hs1 hs2 hs3)
  obtain ⟨x0, x1, x2, x3, x4, x5, x6, x7, x8, x9, x10⟩ := cells_op HX
  have xl := HX.lt
  replace HX := hide HX
  replace bX := hide bX
  clear hd hg hin
  unfold encL chkO at *
  by_cases hok : okO o = true
  · rw [if_pos hok] at HC ⊢
    rw [if_pos hok]
    clear hok
    generalize (putO ([], 0) o).1 = R at *
    go_enter Tryz.func15, Tryz.ntmps15
    go_wp2_with fail
    refine (unhide HC).mono ?_
    rintro e W1 ⟨rfl, hb1⟩
    have HP1 := hide (unhide HP W1 hb1)
    clear x0 x1 x2 x3 x4 x5 x6 x7 x8 x9 x10 hX HC HP
    obtain ⟨x0, x1, x2, x3, x4, x5, x6, x7, x8, x9, x10⟩ := cells_op ((unhide HX).below hb1)
    replace hb1 := hide hb1
    go_wp2_with fail
    refine (unhide HP1).mono ?_
    rintro e W2 ⟨v', rfl, hr, hb2⟩
    obtain ⟨a', c', rfl⟩ := hr.form
    have HB := hide (bnext (bnext (unhide bX) (unhide hb1)) hb2)
    replace hr := hide hr
    clear hb2 hb1 x0 x1 x2 x3 x4 x5 x6 x7 x8 x9 x10
    have hfw := field_w a' R.length c' 0 W2
    go_wp2
    refine bodyPost_ret (results_tmp2 rfl _ _ _) rfl ?_
    exact ⟨_, rfl, unhide hr, unhide HB⟩
  · rw [if_neg hok] at HC ⊢
    rw [if_neg hok]
    clear hok HP
    go_enter Tryz.func15, Tryz.ntmps15
    go_wp2_with fail
    refine (unhide HC).mono ?_
    rintro e W1 ⟨rfl, hb1⟩
    have HB := hide (bnext (unhide bX) hb1)
    clear x0 x1 x2 x3 x4 x5 x6 x7 x8 x9 x10 hb1
    go_wp2
    refine bodyPost_ret (results_tmp2 rfl _ _ _) rfl ?_
    exact ⟨_, rfl, .inl ⟨rfl, _, _, rfl⟩, unhide HB⟩

end Go.Proofs.YtfkdpkckbmbmdaaGreat
