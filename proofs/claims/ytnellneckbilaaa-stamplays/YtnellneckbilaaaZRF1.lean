/-
  The document's own Number and Text; a row put behind nothing.
-/
import Derived.Test.YtnellneckbilaaaZPK3
import Derived.Test.YtnellneckbilaaaZW1
set_option linter.unusedSimpArgs false
set_option linter.unusedVariables false
namespace Go.Proofs.Ytnellneckbilaaa
open Go.RowKit Go.Lib

/-- append(nil, l...) -/
theorem app_nil (TS E : TypeId) (k bytes : Nat) (z : Value) (ht : Try.prog.underlying TS = some (.slice E)) (hinf : (Try.prog.info? E).map (fun i => (i.zero, i.size, i.bytes)) = some (some z, k, bytes)) (hzs : z.cells.size = k) (k0 : 0 < k)
    (w : World) (base : Nat) (ty : TypeId) (v : Value) (n : Nat) (C : List Value) (h : RC w v n C) (hC : C.length = n * k) (h1 : ∀ u ∈ C, u.oneCell' = true) (hb : base ≤ w.heap.size) (hn : n ≤ maxLen) (hby : n * bytes ≤ 140737488355328) :
    ∃ v' w', (Builtin.append_ #[TS, TS] ty #[.slice none 0 0, v]).run Try.prog w = .ok v' w' ∧ w'.ownsRow base E k v' n C ∧ w.grownBy w' none := by
  obtain ⟨i0, hi, hz0, hz1, hz2⟩ := info_parts hinf
  have step : ∀ (ad : Addr) (cc : Nat), v = .slice (some ad) n cc → (∀ j x, C[j]? = some x → w.cell? (ad.add j) = some x) → ∃ v' w', (Builtin.append_ #[TS, TS] ty #[.slice none 0 0, v]).run Try.prog w = .ok v' w' ∧ w'.ownsRow base E k v' n C ∧ w.grownBy w' none := by
    rintro ad cc rfl hc
    obtain ⟨v', w', q1, q2, q3, _⟩ := run_append_own (P := Try.prog) w base TS ty E i0 z k bytes ht hi hz0 hz1 hz2 hzs k0 (.slice none 0 0) 0 [] (World.ownsRow_nil _ _ _ _) ad n cc C hC hc h1 (by omega) (by rw [Nat.zero_add]; exact hby) hb
    exact ⟨v', w', q1, by simpa using q2, q3⟩
  rcases h with ⟨h0, a, cap, rfl⟩ | ⟨b, off, cap, rfl, _, _, hc⟩
  · subst h0
    have e : C = [] := List.eq_nil_of_length_eq_zero (by simpa using hC)
    subst e
    cases a with
    | some ad => exact step ad cap rfl (fun j x hx => by simp at hx)
    | none =>
      refine ⟨.slice none 0 0, w, ?_, World.ownsRow_nil _ _ _ _, ⟨rfl, rfl, rfl, Nat.le_refl _, fun _ _ _ => rfl⟩⟩
      simp [Builtin.append_, run_underlying ht, sizeOf, typeInfo, hi, Builtin.lenOf, Builtin.firstCells, storeCells]
  · exact step ⟨b, off, none⟩ cap rfl (fun j x hx => by rw [Addr.add_lit]; exact hc j x hx)

theorem bC_one (L : List Nat) : ∀ u ∈ bC L, u.oneCell' = true := fun u hu => by
  unfold bC at hu
  obtain ⟨x, _, rfl⟩ := List.mem_map.1 hu
  rfl

/-- append(b, x) of a byte -/
theorem append_byte (w : World) (ty : TypeId) (N : Nat) (v : Value) (L : List Nat) (x : Nat) (h : w.ownsRow N 5 1 v L.length (bC L)) (hN : N ≤ w.heap.size) (hl : L.length ≤ 100000000000) :
    ∃ v' w', (Builtin.append_ #[50, 50] ty #[v, .slice (some ⟨w.heap.size, 0, none⟩) 1 1]).run Try.prog (w.alloc (.cells #[.int .u8 (x : Nat)] 5)) = .ok v' w' ∧ w'.ownsRow N 5 1 v' (L ++ [x]).length (bC (L ++ [x])) ∧ (w.alloc (.cells #[.int .u8 (x : Nat)] 5)).grownBy w' v.ownBlock := by
  obtain ⟨i0, hi, hz0, hz1, hz2⟩ := info_parts infoB
  obtain ⟨v', w', h1, h2, h3, _⟩ := run_append_own (P := Try.prog) (w.alloc (.cells #[.int .u8 (x : Nat)] 5)) N 50 ty 5 i0 _ 1 1 Try.underlying50 hi hz0 hz1 hz2 rfl (by decide) v L.length _ (h.alloc _) ⟨w.heap.size, 0, none⟩ 1 1 [.int .u8 (x : Nat)] rfl (cell_one_new _ _ _) (by intro u hu; simp at hu; subst hu; rfl) (by unfold maxLen; omega) (by omega) (by simp; omega)
  exact ⟨v', w', h1, by simpa [bC] using h2, h3⟩

theorem owns_base {W : World} {B B' E k n : Nat} {v : Value} {C : List Value} (hb : B' ≤ B) (h : W.ownsRow B E k v n C) : W.ownsRow B' E k v n C := by
  obtain ⟨h1, h2⟩ := h
  refine ⟨h1, h2.imp id ?_⟩
  rintro ⟨g, cap, cur, e1, e2, e3⟩
  exact ⟨g, cap, cur, e1, by omega, e3⟩

/-- a row of one's own beside two boxes -/
structure RNu (w : World) (W : World) (A B : Array Value) (v : Value) (L : List Nat) : Prop where
  bA : Bx W w.heap.size 54 A
  bB : Bx W (w.heap.size + 1) 54 B
  row : W.ownsRow (w.heap.size + 2) 5 1 v L.length (bC L)
  bel : Below w.heap.size w W
theorem RNu.grown {w W W' : World} {A B : Array Value} {v v' : Value} {L L' : List Nat} {o : Obj} (h : RNu w W A B v L) (hr : W'.ownsRow (w.heap.size + 2) 5 1 v' L'.length (bC L')) (hg : (W.alloc o).grownBy W' v.ownBlock) : RNu w W' A B v' L' := by
  have hne : ∀ k, v.ownBlock = some k → w.heap.size + 2 ≤ k := fun k hk => (h.row.lt k hk).1
  have b1 := ballc (Below.refl _ W) o
  refine ⟨(hg.block _ (h.bA.below b1).lt (fun e => by have := hne _ e.symm; omega)).trans (h.bA.below b1), (hg.block _ (h.bB.below b1).lt (fun e => by have := hne _ e.symm; omega)).trans (h.bB.below b1), hr, ?_⟩
  exact (ballc h.bel o).grown hg (ballc h.bel o).size (fun k hk => by have := hne k hk; omega)

theorem RNu.put {w W : World} {A0 A1 B0 B1 v : Value} {L : List Nat} (h : RNu w W #[A0, A1] #[B0, B1] v L) :
    (Bx (W.setCell ⟨w.heap.size, 0, none⟩ v) w.heap.size 54 #[v, A1] ∧ Bx (W.setCell ⟨w.heap.size, 0, none⟩ v) (w.heap.size + 1) 54 #[B0, B1]) ∧
    (Bx (((W.setCell ⟨w.heap.size, 0, none⟩ v).setCell ⟨w.heap.size + 1, 0, none⟩ v).setCell ⟨w.heap.size + 1, 1, none⟩ A1) (w.heap.size + 1) 54 #[v, A1] ∧
     (((W.setCell ⟨w.heap.size, 0, none⟩ v).setCell ⟨w.heap.size + 1, 0, none⟩ v).setCell ⟨w.heap.size + 1, 1, none⟩ A1).ownsRow w.heap.size 5 1 v L.length (bC L) ∧
     Below w.heap.size w (((W.setCell ⟨w.heap.size, 0, none⟩ v).setCell ⟨w.heap.size + 1, 0, none⟩ v).setCell ⟨w.heap.size + 1, 1, none⟩ A1)) := by
  have k1 : Bx (W.setCell ⟨w.heap.size, 0, none⟩ v) (w.heap.size + 1) 54 #[B0, B1] := h.bB.setO _ (by show w.heap.size + 1 ≠ w.heap.size; omega) _
  refine ⟨⟨by simpa using h.bA.set 0 v, k1⟩, by simpa using (k1.set 0 v).set 1 A1, ?_, ?_⟩
  · have p1 := Kp.set (N := fun k => k < w.heap.size + 2) W ⟨w.heap.size, 0, none⟩ v (by show w.heap.size < w.heap.size + 2; omega)
    have p2 := Kp.set (N := fun k => k < w.heap.size + 2) (W.setCell ⟨w.heap.size, 0, none⟩ v) ⟨w.heap.size + 1, 0, none⟩ v (by show w.heap.size + 1 < w.heap.size + 2; omega)
    have p3 := Kp.set (N := fun k => k < w.heap.size + 2) ((W.setCell ⟨w.heap.size, 0, none⟩ v).setCell ⟨w.heap.size + 1, 0, none⟩ v) ⟨w.heap.size + 1, 1, none⟩ A1 (by show w.heap.size + 1 < w.heap.size + 2; omega)
    exact owns_base (by omega) (owns_kp h.row ((p1.trans p2 (fun i h => .inl h)).trans p3 (fun i h => .inl h)) (fun i hi e => by have := (h.row.lt i hi).1; omega))
  · exact bset (bset (bset h.bel ⟨w.heap.size, 0, none⟩ (Nat.le_refl _) v) ⟨w.heap.size + 1, 0, none⟩ (by show w.heap.size ≤ w.heap.size + 1; omega) v) ⟨w.heap.size + 1, 1, none⟩ (by show w.heap.size ≤ w.heap.size + 1; omega) A1

theorem sizeW : (Try.prog.info? 54).map (·.size) = some 2 := by kernel_rfl

set_option maxRecDepth 100000 in
set_option maxHeartbeats 2000000 in
theorem refNumber_in (w : World) (v : Value) (L : List Nat) (e n : Int) (h : RC w v L.length (bC L)) (h0 : -9223372036854775808 ≤ n) (h1 : n ≤ 9223372036854775807) (hL : L.length ≤ 10000000000) :
    Calls Try.prog 55 #[.agg #[v, .int .i64 e], .int .i64 n] w fun r W => ∃ v', r = .returned (.agg #[v', .int .i64 (wNum (L, e) n).2]) ∧ RC W v' (wNum (L, e) n).1.length (bC (wNum (L, e) n).1) ∧ (e = 0 → 0 ≤ n → W.ownsRow w.heap.size 5 1 v' (wNum (L, e) n).1.length (bC (wNum (L, e) n).1)) ∧ (e ≠ 0 ∨ n < 0 → v' = v) ∧ Below w.heap.size w W := by
  obtain ⟨a, c, rfl⟩ := RC.form h
  have H := hide h
  clear h
  by_cases he : e = 0
  · subst he
    by_cases hn : n < 0
    · have hw : wNum (L, 0) n = (L, 1) := by unfold wNum; simp [hn]
      rw [hw]
      clear hw
      go_enter Try.func55, Try.ntmps55
      go_wp2
      have hbx := Bx.new (w.alloc (.cells #[.slice a L.length c, .int .i64 1] 54)) 54 #[.slice a L.length c, .int .i64 1]
      rw [show (w.alloc (.cells #[.slice a L.length c, .int .i64 1] 54)).heap.size = w.heap.size + 1 by simp] at hbx
      refine bodyPost_ret (results_cell_row rfl _ _ (w.heap.size + 1) _ _ _ _ rfl hbx Try.underlying54 rfl sizeW) rfl ?_
      exact ⟨_, rfl, (unhide H).below (ballc (ballc (Below.refl _ _) _) _), by first | (intro _ h; omega) | (intro h; omega) | trivial, by first | exact fun _ => rfl | trivial | simp, ballc (ballc (Below.refl _ _) _) _⟩
    · obtain ⟨N, rfl⟩ : ∃ N : Nat, n = (N : Int) := ⟨n.toNat, by omega⟩
      have hw : wNum (L, 0) (N : Int) = (L ++ num N, 0) := by unfold wNum; simp [hn]
      rw [hw]
      clear hw hn
      have hn : 0 ≤ (N : Int) := by omega
      have HL := hide hL
      clear hL h0
      have b2 := ballc (ballc (Below.refl _ w) (.cells #[.slice a L.length c, .int .i64 0] 54)) (.cells #[.slice none 0 0, .int .i64 0] 54)
      obtain ⟨W2, hW2⟩ : ∃ W2, (w.alloc (.cells #[.slice a L.length c, .int .i64 0] 54)).alloc (.cells #[.slice none 0 0, .int .i64 0] 54) = W2 := ⟨_, rfl⟩
      have bA : Bx W2 w.heap.size 54 #[.slice a L.length c, .int .i64 0] := by rw [← hW2]; exact (Bx.new w _ _).below (ballc (Below.refl _ _) _)
      have bB : Bx W2 (w.heap.size + 1) 54 #[.slice none 0 0, .int .i64 0] := by
        rw [← hW2]
        have := Bx.new (w.alloc (.cells #[.slice a L.length c, .int .i64 0] 54)) 54 #[.slice none 0 0, .int .i64 0]
        rw [show (w.alloc (.cells #[.slice a L.length c, .int .i64 0] 54)).heap.size = w.heap.size + 1 by simp] at this
        exact this
      rw [hW2] at b2
      have hs2 : w.heap.size + 2 ≤ W2.heap.size := by have := bB.lt; omega
      obtain ⟨v3, W3, hap, ho3, hg3⟩ := app_nil 50 5 1 1 _ Try.underlying50 infoB rfl (by decide) W2 (w.heap.size + 2) 50 _ L.length (bC L) ((unhide H).below b2) (by rw [bC_len]; omega) (bC_one L) hs2 (by have := unhide HL; unfold maxLen; omega) (by have := unhide HL; omega)
      have HR : Hid (RNu w W3 #[.slice a L.length c, .int .i64 0] #[.slice none 0 0, .int .i64 0] v3 L) := ⟨(hg3.block _ bA.lt (by simp)).trans bA, (hg3.block _ bB.lt (by simp)).trans bB, ho3, b2.grown hg3 b2.size (fun k hk => by cases hk)⟩
      have cA := bA.cell 0 _ rfl
      have cA1 := bA.cell 1 _ rfl
      replace bA := hide bA
      replace bB := hide bB
      replace b2 := hide b2
      replace ho3 := hide ho3
      replace hg3 := hide hg3
      replace hap := hide hap
      go_enter Try.func55, Try.ntmps55
      go_wp2_with (at_builtin; refine wpList_append_eq rfl _ _ 50 rfl _ _ _ _ rfl rfl (unhide hap) ?_)
      clear hap ho3 hg3 bA bB b2 cA cA1
      go_loopw [1, 5] (fun nv rv wr => ∃ (m : Nat) (P : List Nat), nv = .int .i64 (m : Nat) ∧ (m : Int) ≤ 9223372036854775807 ∧ Hid (P ++ num m = num N) ∧ Hid (RNu w wr #[.slice a L.length c, .int .i64 0] #[.slice none 0 0, .int .i64 0] rv (L ++ P))) (fun nv _ _ => (Lib.intOf nv).toNat)
      case atStart => exact ⟨N, [], rfl, h1, hide (by simp), hide (by simpa using unhide HR)⟩
      case round =>
        obtain ⟨m, P, rfl, hm, HP, HS⟩ := hrel
        have HPL : Hid (P.length ≤ 11) := by
          have h2 := num_len N
          rw [← unhide HP, List.length_append] at h2
          exact (by omega : P.length ≤ 11)
        have hsz := (unhide HS).bB.lt
        have hLP : (L ++ P).length ≤ 100000000000 := by have := unhide HPL; have := unhide HL; rw [List.length_append]; omega
        by_cases hlt : m < 128
        · have hlt' : ¬ (128 : Int) ≤ (m : Int) := by omega
          obtain ⟨v4, W4, hap, ho4, hg4⟩ := append_byte wr 50 (w.heap.size + 2) _ (L ++ P) m (unhide HS).row (by omega) hLP
          have S4 := (unhide HS).grown ho4 hg4
          obtain ⟨a4, c4, hv4⟩ := owns_form ho4
          subst hv4
          have HE := hide (show L ++ P ++ [m] = L ++ num N by rw [← unhide HP, num_last m hlt]; simp)
          rw [unhide HE] at S4 ho4 hap
          generalize (L ++ num N).length = LN at S4 ho4 hap
          obtain ⟨k5, k6⟩ := S4.put
          have f0 := S4.bA.frozen 0
          have c0 := S4.bA.cell 0 _ rfl
          have c1 := S4.bA.cell 1 _ rfl
          obtain ⟨X5, hX5⟩ : ∃ X5, W4.setCell ⟨w.heap.size, 0, none⟩ (.slice a4 LN c4) = X5 := ⟨_, rfl⟩
          rw [hX5] at k5 k6
          have e0 := k5.1.cell 0 _ rfl
          have e1 := k5.1.cell 1 _ rfl
          have g0 := k5.2.cell 0 _ rfl
          have g1 := k5.2.cell 1 _ rfl
          have gf0 := k5.2.frozen 0
          have gf1 := k5.2.frozen 1
          replace S4 := hide S4
          replace k5 := hide k5
          replace k6 := hide k6
          replace ho4 := hide ho4
          replace hg4 := hide hg4
          replace hap := hide hap
          go_wp2_with (at_builtin; refine wpList_append_eq rfl _ _ 50 rfl _ _ _ _ rfl rfl (unhide hap) ?_)
          obtain ⟨bx6, rc6, bl6⟩ := unhide k6
          refine bodyPost_ret (results_cell_row rfl _ _ (w.heap.size + 1) _ _ _ _ rfl bx6 Try.underlying54 rfl sizeW) rfl ?_
          rw [← List.length_append]
          first | exact ⟨_, rfl, RC.of_owns rc6, rc6, bl6⟩ | exact ⟨_, rfl, RC.of_owns rc6, rc6, fun h => by omega, bl6⟩ | exact ⟨_, rfl, RC.of_owns rc6, fun _ _ => rc6, fun h => by omega, bl6⟩
        · have hlt' : (128 : Int) ≤ (m : Int) := by omega
          obtain ⟨v4, W4, hap, ho4, hg4⟩ := append_byte wr 50 (w.heap.size + 2) _ (L ++ P) (m % 128 + 128) (unhide HS).row (by omega) hLP
          have S4 := hide ((unhide HS).grown ho4 hg4)
          replace ho4 := hide ho4
          replace hg4 := hide hg4
          push_cast at hap
          replace hap := hide hap
          go_wp2_with (at_builtin; refine wpList_append_eq rfl _ _ 50 rfl _ _ _ _ rfl rfl (unhide hap) ?_)
          go_roundw
          case measure => show ((m : Int) / 128).toNat < ((m : Nat) : Int).toNat; omega
          case rel => exact ⟨m / 128, P ++ [m % 128 + 128], by go_num, by omega, hide (by rw [← unhide HP, num_step m (by omega) (by omega)]; simp), hide (by rw [← List.append_assoc]; exact unhide S4)⟩
  · have hw : wNum (L, e) n = (L, e) := by unfold wNum; simp [he]
    rw [hw]
    have he' : (e == 0) = false := by simpa using he
    clear hw
    go_enter Try.func55, Try.ntmps55
    go_wp2
    have hbx := Bx.new (w.alloc (.cells #[.slice a L.length c, .int .i64 e] 54)) 54 #[.slice a L.length c, .int .i64 e]
    rw [show (w.alloc (.cells #[.slice a L.length c, .int .i64 e] 54)).heap.size = w.heap.size + 1 by simp] at hbx
    refine bodyPost_ret (results_cell_row rfl _ _ (w.heap.size + 1) _ _ _ _ rfl hbx Try.underlying54 rfl sizeW) rfl ?_
    exact ⟨_, rfl, (unhide H).below (ballc (ballc (Below.refl _ _) _) _), fun h _ => absurd h he, fun _ => rfl, ballc (ballc (Below.refl _ _) _) _⟩

theorem wpList_append_eq2 {w : World} {ops : Array Oper} {rest : List Oper} {o : Oper} {a : Act} {Q : Exit → Act → World → Prop} (hgd : o.guard = none) (s x : Operand) (t u : TypeId)
    (ho : o.op = .call { callee := .builtin .append, args := #[s, x], argTypes := #[t, u] }) (v y v' : Value) (w' : World) (hs : a.eval s = v) (hx : a.eval x = y) (hr : (Builtin.append_ #[t, u] o.type #[v, y]).run Try.prog w = .ok v' w')
    (h : wpList Try.prog ops Q rest (a.put o.dst v') w') : wpList Try.prog ops Q (o :: rest) a w := by
  refine wpList_plain hgd fun K hK => ?_
  unfold Oper.wp execOp
  simp only [ho, resolve, invoke, builtin, Sem.run_bind, Sem.run_pure, Result.andThen_ok, List.map_toArray, List.map_cons, List.map_nil, hs, hx, hr]
  exact hK _ _ h

theorem RNu.grown0 {w W W' : World} {A B : Array Value} {v v' : Value} {L L' : List Nat} (h : RNu w W A B v L) (hr : W'.ownsRow (w.heap.size + 2) 5 1 v' L'.length (bC L')) (hg : W.grownBy W' v.ownBlock) : RNu w W' A B v' L' := by
  have hne : ∀ k, v.ownBlock = some k → w.heap.size + 2 ≤ k := fun k hk => (h.row.lt k hk).1
  refine ⟨(hg.block _ h.bA.lt (fun e => by have := hne _ e.symm; omega)).trans h.bA, (hg.block _ h.bB.lt (fun e => by have := hne _ e.symm; omega)).trans h.bB, hr, ?_⟩
  exact h.bel.grown hg h.bel.size (fun k hk => by have := hne k hk; omega)

set_option maxRecDepth 100000 in
set_option maxHeartbeats 2000000 in
theorem refText_in (w : World) (v : Value) (L : List Nat) (e : Int) (t : ByteArray) (h : RC w v L.length (bC L)) (ht : t.size ≤ 100000000000) (hL : L.length ≤ 1000000000) :
    Calls Try.prog 54 #[.agg #[v, .int .i64 e], .string t] w fun r W => ∃ v', r = .returned (.agg #[v', .int .i64 (wTxt (L, e) t).2]) ∧ RC W v' (wTxt (L, e) t).1.length (bC (wTxt (L, e) t).1) ∧ (v' = v ∨ W.ownsRow w.heap.size 5 1 v' (wTxt (L, e) t).1.length (bC (wTxt (L, e) t).1)) ∧ Below w.heap.size w W := by
  obtain ⟨a, c, rfl⟩ := RC.form h
  have h0 := hide h
  have b2 := ballc (ballc (Below.refl _ w) (.cells #[.slice a L.length c, .int .i64 e] 54)) (.cells #[.slice none 0 0, .int .i64 0] 54)
  obtain ⟨W2, hW2⟩ : ∃ W2, (w.alloc (.cells #[.slice a L.length c, .int .i64 e] 54)).alloc (.cells #[.slice none 0 0, .int .i64 0] 54) = W2 := ⟨_, rfl⟩
  have bA : Bx W2 w.heap.size 54 #[.slice a L.length c, .int .i64 e] := by rw [← hW2]; exact (Bx.new w _ _).below (ballc (Below.refl _ _) _)
  have bB : Bx W2 (w.heap.size + 1) 54 #[.slice none 0 0, .int .i64 0] := by
    rw [← hW2]
    have := Bx.new (w.alloc (.cells #[.slice a L.length c, .int .i64 e] 54)) 54 #[.slice none 0 0, .int .i64 0]
    rw [show (w.alloc (.cells #[.slice a L.length c, .int .i64 e] 54)).heap.size = w.heap.size + 1 by simp] at this
    exact this
  rw [hW2] at b2
  have HN := hide (refNumber_in W2 _ L e (t.size : Nat) (h.below b2) (by omega) (by omega) (by omega))
  have HL := hide hL
  have Ht := hide ht
  have cA := bA.cell 0 _ rfl
  have cA1 := bA.cell 1 _ rfl
  replace bA := hide bA
  replace bB := hide bB
  replace b2 := hide b2
  clear h hL ht
  by_cases he : e = 0
  · subst he
    have hw : wNum (L, 0) ((t.size : Nat) : Int) = (L ++ num t.size, 0) := by unfold wNum; simp
    rw [hw] at HN
    simp only at HN
    have hT : wTxt (L, 0) t = (L ++ num t.size ++ sB t, 0) := by unfold wTxt; simp
    rw [hT]
    obtain ⟨L1, hL1⟩ : ∃ L1, L ++ num t.size = L1 := ⟨_, rfl⟩
    rw [hL1] at HN ⊢
    have HL1 := hide (show L1.length ≤ 1000000011 by
      have h1 := num_len t.size
      have h2 := unhide HL
      rw [← hL1, List.length_append]
      omega)
    clear hw hT hL1
    go_enter Try.func54, Try.ntmps54
    go_wp2_with fail
    refine (unhide HN).mono ?_
    rintro r W3 ⟨v3, rfl, -, ho3, -, hb3⟩
    have ho3 := ho3 (by trivial) (by omega)
    obtain ⟨a3, c3, rfl⟩ := owns_form ho3
    have hs2 : w.heap.size + 2 ≤ W2.heap.size := by have := (unhide bB).lt; omega
    have bA3 := (unhide bA).below hb3
    have bB3 := (unhide bB).below hb3
    have b3 := bnext (unhide b2) hb3
    have cA := bA3.cell 0 _ rfl
    have cA1 := bA3.cell 1 _ rfl
    have fA := bA3.frozen 0
    have fA1 := bA3.frozen 1
    obtain ⟨X4, hX4⟩ : ∃ X4, (W3.setCell ⟨w.heap.size, 0, none⟩ (.slice a3 L1.length c3)).setCell ⟨w.heap.size, 1, none⟩ (.int .i64 0) = X4 := ⟨_, rfl⟩
    have bA4 : Bx X4 w.heap.size 54 #[.slice a3 L1.length c3, .int .i64 0] := by rw [← hX4]; simpa using (bA3.set 0 (.slice a3 L1.length c3)).set 1 (.int .i64 0)
    have bB4 : Bx X4 (w.heap.size + 1) 54 #[.slice none 0 0, .int .i64 0] := by rw [← hX4]; exact (bB3.setO _ (by show w.heap.size + 1 ≠ w.heap.size; omega) _).setO _ (by show w.heap.size + 1 ≠ w.heap.size; omega) _
    have b4 : Below w.heap.size w X4 := by rw [← hX4]; exact bset (bset b3 _ (Nat.le_refl _) _) _ (Nat.le_refl _) _
    have ho4 : X4.ownsRow W2.heap.size 5 1 (.slice a3 L1.length c3) L1.length (bC L1) := by
      rw [← hX4]
      have p1 := Kp.set (N := fun k => k = w.heap.size) W3 ⟨w.heap.size, 0, none⟩ (.slice a3 L1.length c3) rfl
      have p2 := Kp.set (N := fun k => k = w.heap.size) (W3.setCell ⟨w.heap.size, 0, none⟩ (.slice a3 L1.length c3)) ⟨w.heap.size, 1, none⟩ (.int .i64 0) rfl
      exact owns_kp ho3 (p1.trans p2 (fun i h => .inl h)) (fun i hi e => by have := (ho3.lt i hi).1; omega)
    have hs4 : w.heap.size + 2 ≤ X4.heap.size := by have := bB4.lt; omega
    obtain ⟨v5, W5, hap, ho5, hg5⟩ := app_nil 50 5 1 1 _ Try.underlying50 infoB rfl (by decide) X4 (w.heap.size + 2) 50 _ L1.length (bC L1) (RC.of_owns ho4) (by rw [bC_len]; omega) (bC_one L1) hs4 (by have := unhide HL1; unfold maxLen; omega) (by have := unhide HL1; omega)
    have S5 : RNu w W5 #[.slice a3 L1.length c3, .int .i64 0] #[.slice none 0 0, .int .i64 0] v5 L1 := ⟨(hg5.block _ bA4.lt (by simp)).trans bA4, (hg5.block _ bB4.lt (by simp)).trans bB4, ho5, b4.grown hg5 b4.size (fun k hk => by cases hk)⟩
    obtain ⟨v6, W6, hap2, ho6, hg6, -⟩ := append_text_at W5 50 (w.heap.size + 2) v5 L1.length (bC L1) S5.row t (by have := unhide HL1; have := unhide Ht; omega) (by have := S5.bB.lt; omega)
    have hl6 : L1.length + t.size = (L1 ++ sB t).length := by rw [List.length_append, sB_len]
    rw [← sB_cells, ← bC_app, hl6] at ho6
    have S6 := S5.grown0 ho6 hg6
    obtain ⟨a6, c6, hv6⟩ := owns_form ho6
    subst hv6
    have HL6 := hide (show (L1 ++ sB t).length = (L1 ++ sB t).length from rfl)
    obtain ⟨LN, hLN⟩ : ∃ LN, (L1 ++ sB t).length = LN := ⟨_, rfl⟩
    have hput := S6.put
    have s0 := S5.bA.cell 0 _ rfl
    have s1 := S5.bA.cell 1 _ rfl
    have z0 := bA4.cell 0 _ rfl
    have z1 := bA4.cell 1 _ rfl
    have f6 := S6.bA.frozen 0
    have q0 := S6.bA.cell 0 _ rfl
    have q1 := S6.bA.cell 1 _ rfl
    obtain ⟨k5, k6⟩ := hput
    rw [hLN] at k5 hap2 k6
    obtain ⟨X7, hX7⟩ : ∃ X7, W6.setCell ⟨w.heap.size, 0, none⟩ (.slice a6 LN c6) = X7 := ⟨_, rfl⟩
    rw [hX7] at k5 k6
    have e0 := k5.1.cell 0 _ rfl
    have e1 := k5.1.cell 1 _ rfl
    have g0 := k5.2.cell 0 _ rfl
    have g1 := k5.2.cell 1 _ rfl
    have gf0 := k5.2.frozen 0
    have gf1 := k5.2.frozen 1
    replace S5 := hide S5
    replace S6 := hide S6
    replace k5 := hide k5
    replace k6 := hide k6
    replace ho3 := hide ho3
    replace ho4 := hide ho4
    replace ho5 := hide ho5
    replace ho6 := hide ho6
    replace hg5 := hide hg5
    replace hg6 := hide hg6
    replace hap := hide hap
    replace hap2 := hide hap2
    replace hLN := hide hLN
    replace bA3 := hide bA3
    replace bB3 := hide bB3
    replace b3 := hide b3
    replace bA4 := hide bA4
    replace bB4 := hide bB4
    replace b4 := hide b4
    replace hb3 := hide hb3
    clear hl6
    go_wp2_with (at_builtin; first | refine wpList_append_eq2 rfl _ _ 50 50 rfl _ _ _ _ rfl rfl (unhide hap) ?_ | refine wpList_append_eq2 rfl _ _ 50 9 rfl _ _ _ _ rfl rfl (unhide hap2) ?_)
    obtain ⟨bx6, rc6, bl6⟩ := unhide k6
    refine bodyPost_ret (results_cell_row rfl _ _ (w.heap.size + 1) _ _ _ _ rfl bx6 Try.underlying54 rfl sizeW) rfl ?_
    refine ⟨_, rfl, ?_, .inr ?_, bl6⟩
    · have := RC.of_owns rc6
      simpa [List.length_append, unhide hLN] using this
    · simpa [List.length_append, unhide hLN] using rc6
  · have hT : wTxt (L, e) t = (L, e) := by unfold wTxt; simp [he]
    have hw : wNum (L, e) ((t.size : Nat) : Int) = (L, e) := by unfold wNum; simp [he]
    rw [hw] at HN
    simp only at HN
    rw [hT]
    have he' : (e == 0) = false := by simpa using he
    have H := h0
    clear hT hw
    go_enter Try.func54, Try.ntmps54
    go_wp2_with fail
    refine (unhide HN).mono ?_
    rintro r W3 ⟨v3, rfl, -, -, hv3, hb3⟩
    obtain rfl := hv3 (.inl he)
    have bA3 := (unhide bA).below hb3
    have bB3 := (unhide bB).below hb3
    have b3 := bnext (unhide b2) hb3
    have cA := bA3.cell 0 _ rfl
    have cA1 := bA3.cell 1 _ rfl
    have fA := bA3.frozen 0
    have fA1 := bA3.frozen 1
    obtain ⟨X4, hX4⟩ : ∃ X4, (W3.setCell ⟨w.heap.size, 0, none⟩ (.slice a L.length c)).setCell ⟨w.heap.size, 1, none⟩ (.int .i64 e) = X4 := ⟨_, rfl⟩
    have bA4 : Bx X4 w.heap.size 54 #[.slice a L.length c, .int .i64 e] := by rw [← hX4]; simpa using (bA3.set 0 (.slice a L.length c)).set 1 (.int .i64 e)
    have bB4 : Bx X4 (w.heap.size + 1) 54 #[.slice none 0 0, .int .i64 0] := by rw [← hX4]; exact (bB3.setO _ (by show w.heap.size + 1 ≠ w.heap.size; omega) _).setO _ (by show w.heap.size + 1 ≠ w.heap.size; omega) _
    have b4 : Below w.heap.size w X4 := by rw [← hX4]; exact bset (bset b3 _ (Nat.le_refl _) _) _ (Nat.le_refl _) _
    have z0 := bA4.cell 0 _ rfl
    have z1 := bA4.cell 1 _ rfl
    have g0 := bB4.cell 0 _ rfl
    have g1 := bB4.cell 1 _ rfl
    have gf0 := bB4.frozen 0
    have gf1 := bB4.frozen 1
    replace bA3 := hide bA3
    replace bB3 := hide bB3
    replace b3 := hide b3
    replace bA4 := hide bA4
    replace bB4 := hide bB4
    replace b4 := hide b4
    replace hb3 := hide hb3
    go_wp2
    have bx6 : Bx ((X4.setCell ⟨w.heap.size + 1, 0, none⟩ (.slice a L.length c)).setCell ⟨w.heap.size + 1, 1, none⟩ (.int .i64 e)) (w.heap.size + 1) 54 #[.slice a L.length c, .int .i64 e] := by simpa using ((unhide bB4).set 0 (.slice a L.length c)).set 1 (.int .i64 e)
    have bl6 := bset (bset (unhide b4) ⟨w.heap.size + 1, 0, none⟩ (by show w.heap.size ≤ w.heap.size + 1; omega) (.slice a L.length c)) ⟨w.heap.size + 1, 1, none⟩ (by show w.heap.size ≤ w.heap.size + 1; omega) (.int .i64 e)
    refine bodyPost_ret (results_cell_row rfl _ _ (w.heap.size + 1) _ _ _ _ rfl bx6 Try.underlying54 rfl sizeW) rfl ?_
    exact ⟨_, rfl, (unhide H).below bl6, by first | exact .inl rfl | trivial | simp, bl6⟩

end Go.Proofs.Ytnellneckbilaaa
