/-
  The document's own Number; a row put behind nothing.
-/
import Derived.Test.YtmjhkgpbemjjkaaZV3
import Derived.Test.YtmjhkgpbemjjkaaZW1
set_option linter.unusedSimpArgs false
set_option linter.unusedVariables false
namespace Go.Proofs.Ytmjhkgpbemjjkaa
open Go.RowKit Go.Lib

/-- append(nil, l...) -/
theorem app_nil (TS E : TypeId) (k bytes : Nat) (z : Value) (ht : Try.prog.underlying TS = some (.slice E)) (hinf : (Try.prog.info? E).map (fun i => (i.zero, i.size, i.bytes)) = some (some z, k, bytes)) (hzs : z.cells.size = k) (k0 : 0 < k)
    (w : World) (base : Nat) (ty : TypeId) (v : Value) (n : Nat) (C : List Value) (h : RC w v n C) (hC : C.length = n * k) (h1 : ∀ u ∈ C, u.oneCell' = true) (hb : base ≤ w.heap.size) (hn : n ≤ maxLen) (hby : n * bytes ≤ 140737488355328) :
    ∃ v' w', (Builtin.append_ #[TS, TS] ty #[.slice none 0 0, v]).run Try.prog w = .ok v' w' ∧ w'.ownsRow base E k v' n C ∧ w.grownBy w' none := by
  obtain ⟨i0, hi, hz0, hz1, hz2⟩ := info_parts hinf
  have step : ∀ (ad : Addr) (cc : Nat), v = .slice (some ad) n cc → (∀ j x, C[j]? = some x → w.cell? (ad.add j) = some x) → ∃ v' w', (Builtin.append_ #[TS, TS] ty #[.slice none 0 0, v]).run Try.prog w = .ok v' w' ∧ w'.ownsRow base E k v' n C ∧ w.grownBy w' none := by
    rintro ad cc rfl hc
    obtain ⟨v', w', q1, q2, q3, _⟩ := run_append_own (P := Try.prog) w base TS ty E i0 z k bytes ht hi hz0 hz1 hz2 hzs k0 (.slice none 0 0) 0 [] (World.ownsRow_nil _ _ _ _) ad n cc C hC hc h1 (by omega) (by rw [Nat.zero_add]; exact hby) hb
    exact ⟨v', w', q1, by simpa using q2, q3⟩
  rcases h with ⟨h0, a, cap, rfl⟩ | ⟨b, off, cap, rfl, _, _, hc⟩
  · subst h0
    have e : C = [] := List.eq_nil_of_length_eq_zero (by simpa using hC)
    subst e
    cases a with
    | some ad => exact step ad cap rfl (fun j x hx => by simp at hx)
    | none =>
      refine ⟨.slice none 0 0, w, ?_, World.ownsRow_nil _ _ _ _, ⟨rfl, rfl, rfl, Nat.le_refl _, fun _ _ _ => rfl⟩⟩
      simp [Builtin.append_, run_underlying ht, sizeOf, typeInfo, hi, Builtin.lenOf, Builtin.firstCells, storeCells]
  · exact step ⟨b, off, none⟩ cap rfl (fun j x hx => by rw [Addr.add_lit]; exact hc j x hx)

theorem bC_one (L : List Nat) : ∀ u ∈ bC L, u.oneCell' = true := fun u hu => by
  unfold bC at hu
  obtain ⟨x, _, rfl⟩ := List.mem_map.1 hu
  rfl

/-- append(b, x) of a byte -/
theorem append_byte (w : World) (ty : TypeId) (N : Nat) (v : Value) (L : List Nat) (x : Nat) (h : w.ownsRow N 5 1 v L.length (bC L)) (hN : N ≤ w.heap.size) (hl : L.length ≤ 100000000000) :
    ∃ v' w', (Builtin.append_ #[41, 41] ty #[v, .slice (some ⟨w.heap.size, 0, none⟩) 1 1]).run Try.prog (w.alloc (.cells #[.int .u8 (x : Nat)] 5)) = .ok v' w' ∧ w'.ownsRow N 5 1 v' (L ++ [x]).length (bC (L ++ [x])) ∧ (w.alloc (.cells #[.int .u8 (x : Nat)] 5)).grownBy w' v.ownBlock := by
  obtain ⟨i0, hi, hz0, hz1, hz2⟩ := info_parts infoB
  obtain ⟨v', w', h1, h2, h3, _⟩ := run_append_own (P := Try.prog) (w.alloc (.cells #[.int .u8 (x : Nat)] 5)) N 41 ty 5 i0 _ 1 1 Try.underlying41 hi hz0 hz1 hz2 rfl (by decide) v L.length _ (h.alloc _) ⟨w.heap.size, 0, none⟩ 1 1 [.int .u8 (x : Nat)] rfl (cell_one_new _ _ _) (by intro u hu; simp at hu; subst hu; rfl) (by unfold maxLen; omega) (by omega) (by simp; omega)
  exact ⟨v', w', h1, by simpa [bC] using h2, h3⟩

theorem owns_base {W : World} {B B' E k n : Nat} {v : Value} {C : List Value} (hb : B' ≤ B) (h : W.ownsRow B E k v n C) : W.ownsRow B' E k v n C := by
  obtain ⟨h1, h2⟩ := h
  refine ⟨h1, h2.imp id ?_⟩
  rintro ⟨g, cap, cur, e1, e2, e3⟩
  exact ⟨g, cap, cur, e1, by omega, e3⟩

/-- a row of one's own beside two boxes -/
structure RNu (w : World) (W : World) (A B : Array Value) (v : Value) (L : List Nat) : Prop where
  bA : Bx W w.heap.size 47 A
  bB : Bx W (w.heap.size + 1) 47 B
  row : W.ownsRow (w.heap.size + 2) 5 1 v L.length (bC L)
  bel : Below w.heap.size w W
theorem RNu.grown {w W W' : World} {A B : Array Value} {v v' : Value} {L L' : List Nat} {o : Obj} (h : RNu w W A B v L) (hr : W'.ownsRow (w.heap.size + 2) 5 1 v' L'.length (bC L')) (hg : (W.alloc o).grownBy W' v.ownBlock) : RNu w W' A B v' L' := by
  have hne : ∀ k, v.ownBlock = some k → w.heap.size + 2 ≤ k := fun k hk => (h.row.lt k hk).1
  have b1 := ballc (Below.refl _ W) o
  refine ⟨(hg.block _ (h.bA.below b1).lt (fun e => by have := hne _ e.symm; omega)).trans (h.bA.below b1), (hg.block _ (h.bB.below b1).lt (fun e => by have := hne _ e.symm; omega)).trans (h.bB.below b1), hr, ?_⟩
  exact (ballc h.bel o).grown hg (ballc h.bel o).size (fun k hk => by have := hne k hk; omega)

theorem RNu.put {w W : World} {A0 A1 B0 B1 v : Value} {L : List Nat} (h : RNu w W #[A0, A1] #[B0, B1] v L) :
    (Bx (W.setCell ⟨w.heap.size, 0, none⟩ v) w.heap.size 47 #[v, A1] ∧ Bx (W.setCell ⟨w.heap.size, 0, none⟩ v) (w.heap.size + 1) 47 #[B0, B1]) ∧
    (Bx (((W.setCell ⟨w.heap.size, 0, none⟩ v).setCell ⟨w.heap.size + 1, 0, none⟩ v).setCell ⟨w.heap.size + 1, 1, none⟩ A1) (w.heap.size + 1) 47 #[v, A1] ∧
     (((W.setCell ⟨w.heap.size, 0, none⟩ v).setCell ⟨w.heap.size + 1, 0, none⟩ v).setCell ⟨w.heap.size + 1, 1, none⟩ A1).ownsRow w.heap.size 5 1 v L.length (bC L) ∧
     Below w.heap.size w (((W.setCell ⟨w.heap.size, 0, none⟩ v).setCell ⟨w.heap.size + 1, 0, none⟩ v).setCell ⟨w.heap.size + 1, 1, none⟩ A1)) := by
  have k1 : Bx (W.setCell ⟨w.heap.size, 0, none⟩ v) (w.heap.size + 1) 47 #[B0, B1] := h.bB.setO _ (by show w.heap.size + 1 ≠ w.heap.size; omega) _
  refine ⟨⟨by simpa using h.bA.set 0 v, k1⟩, by simpa using (k1.set 0 v).set 1 A1, ?_, ?_⟩
  · have p1 := Kp.set (N := fun k => k < w.heap.size + 2) W ⟨w.heap.size, 0, none⟩ v (by show w.heap.size < w.heap.size + 2; omega)
    have p2 := Kp.set (N := fun k => k < w.heap.size + 2) (W.setCell ⟨w.heap.size, 0, none⟩ v) ⟨w.heap.size + 1, 0, none⟩ v (by show w.heap.size + 1 < w.heap.size + 2; omega)
    have p3 := Kp.set (N := fun k => k < w.heap.size + 2) ((W.setCell ⟨w.heap.size, 0, none⟩ v).setCell ⟨w.heap.size + 1, 0, none⟩ v) ⟨w.heap.size + 1, 1, none⟩ A1 (by show w.heap.size + 1 < w.heap.size + 2; omega)
    exact owns_base (by omega) (owns_kp h.row ((p1.trans p2 (fun i h => .inl h)).trans p3 (fun i h => .inl h)) (fun i hi e => by have := (h.row.lt i hi).1; omega))
  · exact bset (bset (bset h.bel ⟨w.heap.size, 0, none⟩ (Nat.le_refl _) v) ⟨w.heap.size + 1, 0, none⟩ (by show w.heap.size ≤ w.heap.size + 1; omega) v) ⟨w.heap.size + 1, 1, none⟩ (by show w.heap.size ≤ w.heap.size + 1; omega) A1

theorem sizeW : (Try.prog.info? 47).map (·.size) = some 2 := by kernel_rfl

set_option maxRecDepth 100000 in
set_option maxHeartbeats 2000000 in
theorem refNumber_in (w : World) (v : Value) (L : List Nat) (e n : Int) (h : RC w v L.length (bC L)) (h0 : -9223372036854775808 ≤ n) (h1 : n ≤ 9223372036854775807) (hL : L.length ≤ 10000000000) :
    Calls Try.prog 31 #[.agg #[v, .int .i64 e], .int .i64 n] w fun r W => ∃ v', r = .returned (.agg #[v', .int .i64 (wNum (L, e) n).2]) ∧ RC W v' (wNum (L, e) n).1.length (bC (wNum (L, e) n).1) ∧ (e = 0 → 0 ≤ n → W.ownsRow w.heap.size 5 1 v' (wNum (L, e) n).1.length (bC (wNum (L, e) n).1)) ∧ (e ≠ 0 ∨ n < 0 → v' = v) ∧ Below w.heap.size w W := by
  obtain ⟨a, c, rfl⟩ := RC.form h
  have H := hide h
  clear h
  by_cases he : e = 0
  · subst he
    by_cases hn : n < 0
    · have hw : wNum (L, 0) n = (L, 1) := by unfold wNum; simp [hn]
      rw [hw]
      clear hw
      go_enter Try.func31, Try.ntmps31
      go_wp2
      have hbx := Bx.new (w.alloc (.cells #[.slice a L.length c, .int .i64 1] 47)) 47 #[.slice a L.length c, .int .i64 1]
      rw [show (w.alloc (.cells #[.slice a L.length c, .int .i64 1] 47)).heap.size = w.heap.size + 1 by simp] at hbx
      refine bodyPost_ret (results_cell_row rfl _ _ (w.heap.size + 1) _ _ _ _ rfl hbx Try.underlying47 rfl sizeW) rfl ?_
      exact ⟨_, rfl, (unhide H).below (ballc (ballc (Below.refl _ _) _) _), by first | (intro _ h; omega) | (intro h; omega) | trivial, by first | exact fun _ => rfl | trivial | simp, ballc (ballc (Below.refl _ _) _) _⟩
    · obtain ⟨N, rfl⟩ : ∃ N : Nat, n = (N : Int) := ⟨n.toNat, by omega⟩
      have hw : wNum (L, 0) (N : Int) = (L ++ num N, 0) := by unfold wNum; simp [hn]
      rw [hw]
      clear hw hn
      have hn : 0 ≤ (N : Int) := by omega
      have HL := hide hL
      clear hL h0
      have b2 := ballc (ballc (Below.refl _ w) (.cells #[.slice a L.length c, .int .i64 0] 47)) (.cells #[.slice none 0 0, .int .i64 0] 47)
      obtain ⟨W2, hW2⟩ : ∃ W2, (w.alloc (.cells #[.slice a L.length c, .int .i64 0] 47)).alloc (.cells #[.slice none 0 0, .int .i64 0] 47) = W2 := ⟨_, rfl⟩
      have bA : Bx W2 w.heap.size 47 #[.slice a L.length c, .int .i64 0] := by rw [← hW2]; exact (Bx.new w _ _).below (ballc (Below.refl _ _) _)
      have bB : Bx W2 (w.heap.size + 1) 47 #[.slice none 0 0, .int .i64 0] := by
        rw [← hW2]
        have := Bx.new (w.alloc (.cells #[.slice a L.length c, .int .i64 0] 47)) 47 #[.slice none 0 0, .int .i64 0]
        rw [show (w.alloc (.cells #[.slice a L.length c, .int .i64 0] 47)).heap.size = w.heap.size + 1 by simp] at this
        exact this
      rw [hW2] at b2
      have hs2 : w.heap.size + 2 ≤ W2.heap.size := by have := bB.lt; omega
      obtain ⟨v3, W3, hap, ho3, hg3⟩ := app_nil 41 5 1 1 _ Try.underlying41 infoB rfl (by decide) W2 (w.heap.size + 2) 41 _ L.length (bC L) ((unhide H).below b2) (by rw [bC_len]; omega) (bC_one L) hs2 (by have := unhide HL; unfold maxLen; omega) (by have := unhide HL; omega)
      have HR : Hid (RNu w W3 #[.slice a L.length c, .int .i64 0] #[.slice none 0 0, .int .i64 0] v3 L) := ⟨(hg3.block _ bA.lt (by simp)).trans bA, (hg3.block _ bB.lt (by simp)).trans bB, ho3, b2.grown hg3 b2.size (fun k hk => by cases hk)⟩
      have cA := bA.cell 0 _ rfl
      have cA1 := bA.cell 1 _ rfl
      replace bA := hide bA
      replace bB := hide bB
      replace b2 := hide b2
      replace ho3 := hide ho3
      replace hg3 := hide hg3
      replace hap := hide hap
      go_enter Try.func31, Try.ntmps31
      go_wp2_with (at_builtin; refine wpList_append_eq rfl _ _ 41 rfl _ _ _ _ rfl rfl (unhide hap) ?_)
      clear hap ho3 hg3 bA bB b2 cA cA1
      go_loopw [1, 5] (fun nv rv wr => ∃ (m : Nat) (P : List Nat), nv = .int .i64 (m : Nat) ∧ (m : Int) ≤ 9223372036854775807 ∧ Hid (P ++ num m = num N) ∧ Hid (RNu w wr #[.slice a L.length c, .int .i64 0] #[.slice none 0 0, .int .i64 0] rv (L ++ P))) (fun nv _ _ => (Lib.intOf nv).toNat)
      case atStart => exact ⟨N, [], rfl, h1, hide (by simp), hide (by simpa using unhide HR)⟩
      case round =>
        obtain ⟨m, P, rfl, hm, HP, HS⟩ := hrel
        have HPL : Hid (P.length ≤ 11) := by
          have h2 := num_len N
          rw [← unhide HP, List.length_append] at h2
          exact (by omega : P.length ≤ 11)
        have hsz := (unhide HS).bB.lt
        have hLP : (L ++ P).length ≤ 100000000000 := by have := unhide HPL; have := unhide HL; rw [List.length_append]; omega
        by_cases hlt : m < 128
        · have hlt' : ¬ (128 : Int) ≤ (m : Int) := by omega
          obtain ⟨v4, W4, hap, ho4, hg4⟩ := append_byte wr 41 (w.heap.size + 2) _ (L ++ P) m (unhide HS).row (by omega) hLP
          have S4 := (unhide HS).grown ho4 hg4
          obtain ⟨a4, c4, hv4⟩ := owns_form ho4
          subst hv4
          have HE := hide (show L ++ P ++ [m] = L ++ num N by rw [← unhide HP, num_last m hlt]; simp)
          rw [unhide HE] at S4 ho4 hap
          generalize (L ++ num N).length = LN at S4 ho4 hap
          obtain ⟨k5, k6⟩ := S4.put
          have f0 := S4.bA.frozen 0
          have c0 := S4.bA.cell 0 _ rfl
          have c1 := S4.bA.cell 1 _ rfl
          obtain ⟨X5, hX5⟩ : ∃ X5, W4.setCell ⟨w.heap.size, 0, none⟩ (.slice a4 LN c4) = X5 := ⟨_, rfl⟩
          rw [hX5] at k5 k6
          have e0 := k5.1.cell 0 _ rfl
          have e1 := k5.1.cell 1 _ rfl
          have g0 := k5.2.cell 0 _ rfl
          have g1 := k5.2.cell 1 _ rfl
          have gf0 := k5.2.frozen 0
          have gf1 := k5.2.frozen 1
          replace S4 := hide S4
          replace k5 := hide k5
          replace k6 := hide k6
          replace ho4 := hide ho4
          replace hg4 := hide hg4
          replace hap := hide hap
          go_wp2_with (at_builtin; refine wpList_append_eq rfl _ _ 41 rfl _ _ _ _ rfl rfl (unhide hap) ?_)
          obtain ⟨bx6, rc6, bl6⟩ := unhide k6
          refine bodyPost_ret (results_cell_row rfl _ _ (w.heap.size + 1) _ _ _ _ rfl bx6 Try.underlying47 rfl sizeW) rfl ?_
          rw [← List.length_append]
          first | exact ⟨_, rfl, RC.of_owns rc6, rc6, bl6⟩ | exact ⟨_, rfl, RC.of_owns rc6, rc6, fun h => by omega, bl6⟩ | exact ⟨_, rfl, RC.of_owns rc6, fun _ _ => rc6, fun h => by omega, bl6⟩
        · have hlt' : (128 : Int) ≤ (m : Int) := by omega
          obtain ⟨v4, W4, hap, ho4, hg4⟩ := append_byte wr 41 (w.heap.size + 2) _ (L ++ P) (m % 128 + 128) (unhide HS).row (by omega) hLP
          have S4 := hide ((unhide HS).grown ho4 hg4)
          replace ho4 := hide ho4
          replace hg4 := hide hg4
          push_cast at hap
          replace hap := hide hap
          go_wp2_with (at_builtin; refine wpList_append_eq rfl _ _ 41 rfl _ _ _ _ rfl rfl (unhide hap) ?_)
          go_roundw
          case measure => show ((m : Int) / 128).toNat < ((m : Nat) : Int).toNat; omega
          case rel => exact ⟨m / 128, P ++ [m % 128 + 128], by go_num, by omega, hide (by rw [← unhide HP, num_step m (by omega) (by omega)]; simp), hide (by rw [← List.append_assoc]; exact unhide S4)⟩
  · have hw : wNum (L, e) n = (L, e) := by unfold wNum; simp [he]
    rw [hw]
    have he' : (e == 0) = false := by simpa using he
    clear hw
    go_enter Try.func31, Try.ntmps31
    go_wp2
    have hbx := Bx.new (w.alloc (.cells #[.slice a L.length c, .int .i64 e] 47)) 47 #[.slice a L.length c, .int .i64 e]
    rw [show (w.alloc (.cells #[.slice a L.length c, .int .i64 e] 47)).heap.size = w.heap.size + 1 by simp] at hbx
    refine bodyPost_ret (results_cell_row rfl _ _ (w.heap.size + 1) _ _ _ _ rfl hbx Try.underlying47 rfl sizeW) rfl ?_
    exact ⟨_, rfl, (unhide H).below (ballc (ballc (Below.refl _ _) _) _), fun h _ => absurd h he, fun _ => rfl, ballc (ballc (Below.refl _ _) _) _⟩

end Go.Proofs.Ytmjhkgpbemjjkaa
