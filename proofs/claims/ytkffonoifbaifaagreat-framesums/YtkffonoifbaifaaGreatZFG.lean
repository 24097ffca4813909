/-
  appendWord; Encode of the document's example.
-/
import Derived.Test.YtkffonoifbaifaaGreatZFF
import Derived.Test.YtkffonoifbaifaaGreatZFE
set_option linter.unusedSimpArgs false
set_option linter.unusedVariables false
namespace Go.Proofs.YtkffonoifbaifaaGreat
open Go.RowKit Go.Lib

theorem bC_one (L : List Nat) : ∀ u ∈ bC L, u.oneCell' = true := fun u hu => by
  unfold bC at hu
  obtain ⟨x, _, rfl⟩ := List.mem_map.1 hu
  rfl

/-- append(b, x) of a byte -/
theorem append_byte (w : World) (ty : TypeId) (N : Nat) (v : Value) (L : List Nat) (x : Nat) (h : w.ownsRow N 5 1 v L.length (bC L)) (hN : N ≤ w.heap.size) (hl : L.length ≤ 100000000000) :
    ∃ v' w', (Builtin.append_ #[22, 22] ty #[v, .slice (some ⟨w.heap.size, 0, none⟩) 1 1]).run Tryz.prog (w.alloc (.cells #[.int .u8 (x : Nat)] 5)) = .ok v' w' ∧ w'.ownsRow N 5 1 v' (L ++ [x]).length (bC (L ++ [x])) ∧ (w.alloc (.cells #[.int .u8 (x : Nat)] 5)).grownBy w' v.ownBlock := by
  obtain ⟨i0, hi, hz0, hz1, hz2⟩ := info_parts infoB
  obtain ⟨v', w', h1, h2, h3, _⟩ := run_append_own (P := Tryz.prog) (w.alloc (.cells #[.int .u8 (x : Nat)] 5)) N 22 ty 5 i0 _ 1 1 Tryz.underlying22 hi hz0 hz1 hz2 rfl (by decide) v L.length _ (h.alloc _) ⟨w.heap.size, 0, none⟩ 1 1 [.int .u8 (x : Nat)] rfl (cell_one_new _ _ _) (by intro u hu; simp at hu; subst hu; rfl) (by unfold maxLen; omega) (by omega) (by simp; omega)
  exact ⟨v', w', h1, by simpa [bC] using h2, h3⟩

theorem owns_base {W : World} {B B' E k n : Nat} {v : Value} {C : List Value} (hb : B' ≤ B) (h : W.ownsRow B E k v n C) : W.ownsRow B' E k v n C := by
  obtain ⟨h1, h2⟩ := h
  refine ⟨h1, h2.imp id ?_⟩
  rintro ⟨g, cap, cur, e1, e2, e3⟩
  exact ⟨g, cap, cur, e1, by omega, e3⟩

theorem bC_length (L : List Nat) : (bC L).length = L.length := by unfold bC; simp
/-- append(b, m...) of bytes -/
theorem app_bytes (w : World) (ty : TypeId) (N : Nat) (v u : Value) (L M : List Nat) (h : w.ownsRow N 5 1 v L.length (bC L)) (hv : v ≠ .slice none 0 0) (hu : RC w u M.length (bC M)) (hN : N ≤ w.heap.size) (hl : L.length ≤ 1000000) (hm : M.length ≤ 1000000) :
    ∃ v' w', (Builtin.append_ #[22, 22] ty #[v, u]).run Tryz.prog w = .ok v' w' ∧ w'.ownsRow N 5 1 v' (L ++ M).length (bC (L ++ M)) ∧ w.grownBy w' v.ownBlock ∧ v' ≠ .slice none 0 0 := by
  obtain ⟨i0, hi, hz0, hz1, hz2⟩ := info_parts infoB
  have step : ∀ (ad : Addr) (cc : Nat), u = .slice (some ad) M.length cc → (∀ j x, (bC M)[j]? = some x → w.cell? (ad.add j) = some x) → ∃ v' w', (Builtin.append_ #[22, 22] ty #[v, u]).run Tryz.prog w = .ok v' w' ∧ w'.ownsRow N 5 1 v' (L ++ M).length (bC (L ++ M)) ∧ w.grownBy w' v.ownBlock ∧ v' ≠ .slice none 0 0 := by
    rintro ad cc rfl hc
    obtain ⟨v', w', q1, q2, q3, q4, _⟩ := run_append_own_at (P := Tryz.prog) w N 22 ty 5 i0 _ 1 1 Tryz.underlying22 hi hz0 hz1 hz2 rfl (by decide) v L.length (bC L) h ad M.length cc (bC M) (by rw [bC_length]; omega) hc (bC_one M) (by unfold maxLen; omega) (by omega) hN
    refine ⟨v', w', q1, ?_, q3, fun e => hv (q4.1 e).1⟩
    rw [bC_app, List.length_append]
    exact q2
  rcases hu with ⟨h0, a, cap, rfl⟩ | ⟨b, off, cap, rfl, _, _, hc⟩
  · have e : M = [] := List.eq_nil_of_length_eq_zero h0
    subst e
    cases a with
    | some ad => exact step ad cap rfl (fun j x hx => by simp [bC] at hx)
    | none =>
      rcases h.2 with ⟨e, _⟩ | ⟨g, cg, cur, rfl, hbg, hg, h1, h2, h3, h4⟩
      · exact absurd e hv
      refine ⟨.slice (some ⟨g, 0, none⟩) L.length cg, w, ?_, by simpa using h, ⟨rfl, rfl, rfl, Nat.le_refl _, fun _ _ _ => rfl⟩, hv⟩
      simp [Builtin.append_, run_underlying Tryz.underlying22, sizeOf, typeInfo, hi, Builtin.lenOf, Builtin.firstCells, storeCells, h1]
  · exact step ⟨b, off, none⟩ cap rfl (fun j x hx => by rw [Addr.add_lit]; exact hc j x hx)


theorem grow_below {w0 w w' : World} {o : Obj} {v : Value} {n : Nat} {C : List Value} (hb : Below w0.heap.size w0 w) (ho : w.ownsRow w0.heap.size 5 1 v n C) (hg : (w.alloc o).grownBy w' v.ownBlock) : Below w0.heap.size w0 w' :=
  (Kp.of_grown (N := fun k => v.ownBlock = some k) hg (fun k e => e)).below (bnext hb (ballc (Below.refl _ _) _)) (fun i hi => (World.ownsRow.lt ho i hi).1)
/-- the bytes of a word, its lowest first -/
def wb (J : Wd) : List Nat := [J.toNat % 256, (J >>> 8).toNat % 256, (J >>> 16).toNat % 256, (J >>> 24).toNat % 256]
theorem uI_u8 (J : Wd) : uI J % 256 = ((J.toNat % 256 : Nat) : Int) := by unfold uI; omega
theorem wb_at (J : Wd) (i : Nat) (hi : i < 4) : (wb J).take (i + 1) = (wb J).take i ++ [(J >>> (8 * i)).toNat % 256] := by
  obtain rfl | rfl | rfl | rfl : i = 0 ∨ i = 1 ∨ i = 2 ∨ i = 3 := by omega
  all_goals (first | rfl | (simp [wb]))
theorem shr8 (J : Wd) (i : Nat) : (J >>> (8 * i)) >>> 8 = J >>> (8 * (i + 1)) := by rw [← BitVec.shiftRight_add]; congr 1

set_option maxRecDepth 100000 in
set_option maxHeartbeats 4000000 in
theorem appendWord_in {w0 w : World} {v : Value} {L : List Nat} (J : Wd) (hb : Below w0.heap.size w0 w) (h : w.ownsRow w0.heap.size 5 1 v L.length (bC L)) (hL : L.length ≤ 100000000) :
    Calls Tryz.prog 15 #[v, .int .u32 (uI J)] w fun r W => ∃ v', r = .returned v' ∧ W.ownsRow w0.heap.size 5 1 v' (L ++ wb J).length (bC (L ++ wb J)) ∧ Below w0.heap.size w0 W := by
  have H0 := hide (show w.ownsRow w0.heap.size 5 1 v (L ++ (wb J).take 0).length (bC (L ++ (wb J).take 0)) ∧ Below w0.heap.size w0 w by
    rw [List.take_zero, List.append_nil]; exact ⟨h, hb⟩)
  clear h hb
  go_enter Tryz.func15, Tryz.ntmps15
  go_wp2
  go_loopw [5, 0, 1] (fun iv bv mv wr => ∃ i : Nat, i ≤ 4 ∧ iv = .int .i64 (i : Nat) ∧ mv = .int .u32 (uI (J >>> (8 * i))) ∧ Hid (wr.ownsRow w0.heap.size 5 1 bv (L ++ (wb J).take i).length (bC (L ++ (wb J).take i)) ∧ Below w0.heap.size w0 wr)) (fun iv _ _ _ => 4 - (RowKit.intOf iv).toNat)
  case atStart => exact ⟨0, Nat.zero_le _, rfl, by simp, H0⟩
  case round =>
    clear H0
    obtain ⟨i, hi, rfl, rfl, HI⟩ := hrel
    by_cases hlt : i < 4
    · have k1 : (i : Int) < 4 := by omega
      have e1 := uI_u8 (J >>> (8 * i))
      have e2 : uI (J >>> (8 * i)) / (256 : Int) = uI (J >>> (8 * (i + 1))) := by rw [← shr8]; have := uI_shrN (J >>> (8 * i)) 8; simpa using this
      have hnx := wb_at J i hlt
      generalize (J >>> (8 * i)).toNat % 256 = x at *
      obtain ⟨ho, hb⟩ := unhide HI
      obtain ⟨v', W', hap, ho', hg⟩ := append_byte wr 22 w0.heap.size _ _ x ho hb.size (by rw [List.length_append]; have := List.length_take_le i (wb J); omega)
      rw [List.append_assoc, ← hnx] at ho'
      have HA := hide hap
      have HN := hide (show W'.ownsRow w0.heap.size 5 1 v' (L ++ (wb J).take (i + 1)).length (bC (L ++ (wb J).take (i + 1))) ∧ Below w0.heap.size w0 W' from ⟨ho', grow_below hb ho hg⟩)
      clear ho hb hap ho' hg hnx HI
      obtain ⟨f, hf⟩ : ∃ f, uI (J >>> (8 * (i + 1))) = f := ⟨_, rfl⟩
      rw [hf] at e2
      have Hf := hide hf
      clear hf
      generalize uI (J >>> (8 * i)) = p at *
      go_wp2_with (at_builtin; refine wpList_append_eq rfl _ _ 22 rfl _ _ _ _ rfl rfl (unhide HA) ?_)
      go_roundw
      case rel => exact ⟨i + 1, by omega, by go_num, by rw [unhide Hf], HN⟩
      case measure => show 4 - ((i : Int) + 1).toNat < 4 - ((i : Nat) : Int).toNat; omega
    · obtain rfl : i = 4 := by omega
      have HI2 := hide (show wr.ownsRow w0.heap.size 5 1 _ (L ++ wb J).length (bC (L ++ wb J)) ∧ Below w0.heap.size w0 wr from unhide HI)
      clear HI
      go_wp2
      go_ret
      exact ⟨_, rfl, (unhide HI2).1, (unhide HI2).2⟩
def head17 : List Nat := [11, 0, 0, 0] ++ body17
def all17 : List Nat := head17 ++ wb (crc head17)
theorem all17_eq : all17 = [11, 0, 0, 0, 1, 1, 2, 3, 4, 5, 1, 1, 1, 7, 0, 7, 57, 207, 232] := by kernel_rfl
set_option maxRecDepth 100000 in
set_option maxHeartbeats 4000000 in
theorem Encode_in (hv : Value) (w : World) (hr : RI w hv [(1, 7)]) : Calls Tryz.prog 8 #[.agg #[Value.int .i64 1, Value.int .i64 1, Value.int .i64 2, Value.int .i64 3, Value.int .i64 4, Value.int .i64 5, Value.bool true, hv, (Value.slice none 0 0), (Value.slice none 0 0), (Value.slice none 0 0), (Value.int .i64 0), (Value.slice none 0 0), (Value.slice none 0 0), (Value.slice none 0 0), (Value.slice none 0 0), (Value.int .i64 0)]] w fun r W => ∃ v, r = .returned (.tuple #[v, .int .i64 0]) ∧ W.ownsRow w.heap.size 5 1 v all17.length (bC all17) ∧ Below w.heap.size w W := by
  have B0 := hide (ballc (Below.refl w.heap.size w) (.cells #[Value.int .i64 1, Value.int .i64 1, Value.int .i64 2, Value.int .i64 3, Value.int .i64 4, Value.int .i64 5, Value.bool true, hv, (Value.slice none 0 0), (Value.slice none 0 0), (Value.slice none 0 0), (Value.int .i64 0), (Value.slice none 0 0), (Value.slice none 0 0), (Value.slice none 0 0), (Value.slice none 0 0), (Value.int .i64 0)] 39))
  have HR := hide hr
  have S0 : w.heap.size + 1 = (w.alloc (.cells #[Value.int .i64 1, Value.int .i64 1, Value.int .i64 2, Value.int .i64 3, Value.int .i64 4, Value.int .i64 5, Value.bool true, hv, (Value.slice none 0 0), (Value.slice none 0 0), (Value.slice none 0 0), (Value.int .i64 0), (Value.slice none 0 0), (Value.slice none 0 0), (Value.slice none 0 0), (Value.slice none 0 0), (Value.int .i64 0)] 39)).heap.size := by simp
  have x1 := Bx.new w 39 #[Value.int .i64 1, Value.int .i64 1, Value.int .i64 2, Value.int .i64 3, Value.int .i64 4, Value.int .i64 5, Value.bool true, hv, (Value.slice none 0 0), (Value.slice none 0 0), (Value.slice none 0 0), (Value.int .i64 0), (Value.slice none 0 0), (Value.slice none 0 0), (Value.slice none 0 0), (Value.slice none 0 0), (Value.int .i64 0)]
  have HC := hide (fCheck_ex hv (w.alloc (.cells #[Value.int .i64 1, Value.int .i64 1, Value.int .i64 2, Value.int .i64 3, Value.int .i64 4, Value.int .i64 5, Value.bool true, hv, (Value.slice none 0 0), (Value.slice none 0 0), (Value.slice none 0 0), (Value.int .i64 0), (Value.slice none 0 0), (Value.slice none 0 0), (Value.slice none 0 0), (Value.slice none 0 0), (Value.int .i64 0)] 39)) (hr.below (ballc (Below.refl _ _) _)))
  have X1 := hide x1
  clear hr x1
  go_enter Tryz.func8, Tryz.ntmps8
  go_wp2_with fail
  refine (unhide HC).mono ?_
  rintro r W1 ⟨rfl, hb⟩
  have x2 := (unhide X1).below hb
  have c0 := x2.cell 0 _ rfl
  have c1 := x2.cell 1 _ rfl
  have c2 := x2.cell 2 _ rfl
  have c3 := x2.cell 3 _ rfl
  have c4 := x2.cell 4 _ rfl
  have c5 := x2.cell 5 _ rfl
  have c6 := x2.cell 6 _ rfl
  have c7 := x2.cell 7 _ rfl
  have c8 := x2.cell 8 _ rfl
  have c9 := x2.cell 9 _ rfl
  have c10 := x2.cell 10 _ rfl
  have c11 := x2.cell 11 _ rfl
  have c12 := x2.cell 12 _ rfl
  have c13 := x2.cell 13 _ rfl
  have c14 := x2.cell 14 _ rfl
  have c15 := x2.cell 15 _ rfl
  have c16 := x2.cell 16 _ rfl
  have B1 := hide (bnext (unhide B0) hb)
  clear hb x2 HC
  go_wp2_with fail
  refine (bodyOf_in hv _ ((unhide HR).below (unhide B1))).mono ?_
  rintro r W2 ⟨a, c, rfl, hrow, hb⟩
  have B2 := hide (bnext (unhide B1) hb)
  have R2 := hide hrow
  clear hb hrow c0 c1 c2 c3 c4 c5 c6 c7 c8 c9 c10 c11 c12 c13 c14 c15 c16
  have HW := hide (appendWord_in (w0 := W2) (w := W2) (v := .slice none 0 0) (L := []) (11#32) (Below.refl _ _) (World.ownsRow_nil _ _ _ _) (by simp))
  go_wp2_with fail
  refine (unhide HW).mono ?_
  rintro r W3 ⟨v3, rfl, ho, hb3⟩
  replace ho := owns_base (unhide B2).size ho
  have hb := bnext (unhide B2) hb3
  have e3 : ([] ++ wb 11#32).length = 4 := rfl
  obtain ⟨a3, c3, rfl⟩ := owns_form ho
  obtain ⟨v4, W4, hap, ho4, hg4, hn4⟩ := app_bytes W3 22 w.heap.size (.slice a3 ([] ++ wb 11#32).length c3) (.slice a 11 c) ([] ++ wb 11#32) body17 ho (by rw [e3]; simp) ((unhide R2).below hb3) hb.size (by decide) (by decide)
  have hb4 : Below w.heap.size w W4 := (Kp.of_grown (N := fun k => (Value.slice a3 ([] ++ wb 11#32).length c3).ownBlock = some k) hg4 (fun k e => e)).below hb (fun i hi => (World.ownsRow.lt ho i hi).1)
  rw [show ([] ++ wb 11#32) ++ body17 = head17 by kernel_rfl] at ho4
  obtain ⟨a4, c4, rfl⟩ := owns_form ho4
  have HS := hide (Sum_in _ head17 W4 (RC.of_owns ho4) (by decide))
  have HA := hide hap
  have HO := hide ho4
  have HB := hide hb4
  clear ho hb hap ho4 hg4 hn4 hb4 hb3 HW
  rw [show head17.length = 15 from rfl] at HS HA HO
  rw [e3] at HA ⊢
  clear e3
  go_wp2_with (at_builtin; refine wpList_append_eq rfl _ _ 22 rfl _ _ _ _ rfl rfl (unhide HA) ?_)
  clear HA
  go_wp2_with fail
  refine (unhide HS).mono ?_
  rintro r W5 ⟨rfl, hb5⟩
  have HB5 := hide (bnext (unhide HB) hb5)
  have HW := hide (appendWord_in (w0 := w) (w := W5) (L := head17) (crc head17) (unhide HB5) (owns_kp (unhide HO) (Kp.of_below (N := fun _ => False) hb5) (fun _ _ h => h)) (by decide))
  clear HS hb5 HO HB
  go_wp2_with fail
  refine (unhide HW).mono ?_
  rintro r W6 ⟨v6, rfl, ho6, hb6⟩
  have HE := hide (show W6.ownsRow w.heap.size 5 1 v6 all17.length (bC all17) ∧ Below w.heap.size w W6 from ⟨ho6, hb6⟩)
  clear ho6 hb6 HW
  go_wp2
  refine bodyPost_ret (results_tmp2 rfl _ _ _) rfl ?_
  exact ⟨v6, rfl, (unhide HE).1, (unhide HE).2⟩
end Go.Proofs.YtkffonoifbaifaaGreat
