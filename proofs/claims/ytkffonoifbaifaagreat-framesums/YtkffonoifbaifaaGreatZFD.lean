/-
  What frame's Check asks, of the document's example.
-/
import Derived.Test.YtkffonoifbaifaaGreatZFC
import Derived.Test.YtkffonoifbaifaaGreatZXV2
set_option linter.unusedSimpArgs false
set_option linter.unusedVariables false
namespace Go.Proofs.YtkffonoifbaifaaGreat
open Go.RowKit Go.Lib

set_option maxRecDepth 100000 in
theorem unless_in (b : Bool) (e : Int) (w : World) : Calls Tryz.prog 33 #[.bool b, .int .i64 e] w fun r W => r = .returned (.int .i64 (if b then 0 else e)) ∧ w = W := by
  cases b
  · rw [if_neg (by decide)]
    go_enter Tryz.func33, Tryz.ntmps33
    go_wp2
    go_ret
    exact ⟨rfl, rfl⟩
  · rw [if_pos rfl]
    go_enter Tryz.func33, Tryz.ntmps33
    go_wp2
    go_ret
    exact ⟨rfl, rfl⟩
set_option maxRecDepth 100000 in
theorem fKind_in (n : Int) (w : World) : Calls Tryz.prog 43 #[.int .i64 n] w fun r W => r = .returned (.bool (decide (n = 1 ∨ n = 2))) ∧ w = W := by
  by_cases h1 : n = 1
  · subst h1
    go_enter Tryz.func43, Tryz.ntmps43
    go_wp2
    go_ret
    exact ⟨rfl, rfl⟩
  · by_cases h2 : n = 2
    · subst h2
      go_enter Tryz.func43, Tryz.ntmps43
      go_wp2
      go_ret
      exact ⟨rfl, rfl⟩
    · rw [decide_eq_false (by omega)]
      have e1 : (n == 1) = false := by simpa using h1
      have e2 : (n == 2) = false := by simpa using h2
      go_enter Tryz.func43, Tryz.ntmps43
      go_wp2
      go_ret
      exact ⟨rfl, rfl⟩
set_option maxRecDepth 100000 in
theorem fSite_in (n : Int) (w : World) (h : 1 ≤ n) (h2 : n ≤ 16) : Calls Tryz.prog 45 #[.int .i64 n] w fun r W => r = .returned (.bool true) ∧ w = W := by
  go_enter Tryz.func45, Tryz.ntmps45
  go_wp2
  go_ret
  exact ⟨rfl, rfl⟩
set_option maxRecDepth 100000 in
theorem fUpTo_in (m n : Int) (w : World) (h : 0 ≤ n) (h2 : n ≤ m) : Calls Tryz.prog 47 #[.int .i64 m, .int .i64 n] w fun r W => r = .returned (.bool true) ∧ w = W := by
  go_enter Tryz.func47, Tryz.ntmps47
  go_wp2
  go_ret
  exact ⟨rfl, rfl⟩
set_option maxRecDepth 100000 in
theorem checkOps_nil (w : World) : Calls Tryz.prog 77 #[(Value.slice none 0 0)] w fun r W => r = .returned (.int .i64 0) ∧ w = W := by
  go_enter Tryz.func77, Tryz.ntmps77
  go_wp2
  go_loopw [8] (fun iv wr => iv = .int .i64 0 ∧ wr = w) (fun _ _ => 0)
  case atStart => exact ⟨rfl, rfl⟩
  case round =>
    obtain ⟨rfl, rfl⟩ := hrel
    go_wp2
    go_ret
    exact ⟨rfl, rfl⟩
theorem wpList_clear_eq {w : World} {ops : Array Oper} {rest : List Oper} {o : Oper} {a : Act} {Q : Exit → Act → World → Prop} (hgd : o.guard = none) (s : Operand) (t : TypeId)
    (ho : o.op = .call { callee := .builtin .clear, args := #[s], argTypes := #[t] }) (v v' : Value) (w' : World) (hs : a.eval s = v) (hr : (Builtin.clear_ #[t] o.type #[v]).run Tryz.prog w = .ok v' w')
    (h : wpList Tryz.prog ops Q rest (a.put o.dst v') w') : wpList Tryz.prog ops Q (o :: rest) a w := by
  refine wpList_plain hgd fun K hK => ?_
  unfold Oper.wp execOp
  simp only [ho, resolve, invoke, builtin, Sem.run_bind, Sem.run_pure, Result.andThen_ok, List.map_toArray, List.map_cons, List.map_nil, hs, hr]
  exact hK _ _ h
def zr8 : Array Value := #[.int .i64 0, .int .i64 0, .int .i64 0, .int .i64 0, .int .i64 0, .int .i64 0, .int .i64 0, .int .i64 0]
theorem clear8 (W : World) (g : Nat) (t ty : TypeId) (cur : Array Value) (h : Bx W g t cur) (hs : cur.size = 8) :
    (Builtin.clear_ #[35] ty #[.slice (some ⟨g, 0, none⟩) 8 8]).run Tryz.prog W = .ok (.tuple #[]) (W.setRow g zr8) := by
  have hone : ∀ u ∈ zr8.toList, u.oneCell' = true := by decide
  have hz : Builtin.zeroCells #[.int .i64 0] 8 = zr8 := by kernel_rfl
  have hst := run_storeCells_at Tryz.prog g 0 t zr8.toList 0 cur W h (by rw [hs]; decide) hone
  have e : (cur.toList.take 0 ++ zr8.toList ++ cur.toList.drop (0 + zr8.toList.length)).toArray = zr8 := by
    rw [List.drop_of_length_le (by rw [Array.length_toList, hs]; decide)]
    simp
  simp only [Nat.add_zero] at hst
  rw [e] at hst
  simp [Builtin.clear_, run_underlying Tryz.underlying35, Tryz.zeroValue3, Value.cells, hz, hst]
theorem eq8 (w : World) : (Op.equalIn 10000 131 (.agg zr8) (.agg zr8)).run Tryz.prog w = .ok true w := by
  have hsz : ∀ w, (sizeOf 3).run Tryz.prog w = .ok 1 w := fun w => Tryz.sizeOf3 w
  rw [show (10000 : Nat) = 9998 + 2 from rfl, Op.equalIn]
  simp only [Sem.run_bind, run_underlying Tryz.underlying131, Result.andThen_ok, hsz, Std.Legacy.Range.forIn_eq_forIn_range', Std.Legacy.Range.size, Nat.sub_zero, Nat.add_sub_cancel, Nat.div_one]
  have hl : ∀ i ∈ List.range' 0 8 1, i < 8 := fun i hi => by simpa using (List.mem_range'_1.1 hi).2
  generalize List.range' 0 8 1 = l at hl ⊢
  induction l with
  | nil => simp
  | cons i l ih =>
    have hi : i < 8 := hl i (by simp)
    have e : zr8[i]? = some (.int .i64 0) := by
      have : ∀ i, i < 8 → zr8[i]? = some (.int .i64 0) := by
        intro i hi
        obtain rfl | rfl | rfl | rfl | rfl | rfl | rfl | rfl : i = 0 ∨ i = 1 ∨ i = 2 ∨ i = 3 ∨ i = 4 ∨ i = 5 ∨ i = 6 ∨ i = 7 := by omega
        all_goals rfl
      exact this i hi
    have px : (part 3 zr8 (i * 1)).run Tryz.prog w = .ok (.int .i64 0) w := by
      simp [part, isAgg, run_underlying Tryz.underlying3, e]
    have pe : (Op.equalIn (9998 + 1) 3 (.int .i64 0) (.int .i64 0)).run Tryz.prog w = .ok ((0 : Int) == 0) w := run_equalIn_int w 9998 3 .i64 .i64 _ _ Tryz.underlying3
    have hb : ((0 : Int) == 0) = true := by decide
    simp only [List.forIn_cons, Sem.run_bind, px, pe, Result.andThen_ok, hb]
    simp only [Bool.not_true, Bool.false_eq_true, if_false, Sem.run_pure, Result.andThen_ok]
    exact ih fun j hj => hl j (by simp [hj])
set_option maxRecDepth 100000 in
set_option maxHeartbeats 4000000 in
theorem isZero_nil (w : World) : Calls Tryz.prog 74 #[.agg #[(Value.slice none 0 0), (Value.slice none 0 0), (Value.int .i64 0), (Value.slice none 0 0), (Value.slice none 0 0), (Value.slice none 0 0), (Value.slice none 0 0), (Value.int .i64 0)]] w fun r W => r = .returned (.bool true) ∧ Below w.heap.size w W := by
  obtain ⟨X, hX⟩ : ∃ X, ((w.alloc (.cells #[(Value.slice none 0 0), (Value.slice none 0 0), (Value.int .i64 0), (Value.slice none 0 0), (Value.slice none 0 0), (Value.slice none 0 0), (Value.slice none 0 0), (Value.int .i64 0)] 37)).alloc (.cells zr8 131)).alloc (.cells zr8 131) = X := ⟨_, rfl⟩
  have x1 : Bx X (w.heap.size + 1) 131 zr8 := by
    rw [← hX]
    have := (Bx.new (w.alloc (.cells #[(Value.slice none 0 0), (Value.slice none 0 0), (Value.int .i64 0), (Value.slice none 0 0), (Value.slice none 0 0), (Value.slice none 0 0), (Value.slice none 0 0), (Value.int .i64 0)] 37)) 131 zr8).below (ballc (Below.refl _ _) (.cells zr8 131))
    rwa [show (w.alloc (.cells #[(Value.slice none 0 0), (Value.slice none 0 0), (Value.int .i64 0), (Value.slice none 0 0), (Value.slice none 0 0), (Value.slice none 0 0), (Value.slice none 0 0), (Value.int .i64 0)] 37)).heap.size = w.heap.size + 1 by simp] at this
  have x2 : Bx X (w.heap.size + 1 + 1) 131 zr8 := by
    rw [← hX]
    have := Bx.new ((w.alloc (.cells #[(Value.slice none 0 0), (Value.slice none 0 0), (Value.int .i64 0), (Value.slice none 0 0), (Value.slice none 0 0), (Value.slice none 0 0), (Value.slice none 0 0), (Value.int .i64 0)] 37)).alloc (.cells zr8 131)) 131 zr8
    rwa [show ((w.alloc (.cells #[(Value.slice none 0 0), (Value.slice none 0 0), (Value.int .i64 0), (Value.slice none 0 0), (Value.slice none 0 0), (Value.slice none 0 0), (Value.slice none 0 0), (Value.int .i64 0)] 37)).alloc (.cells zr8 131)).heap.size = w.heap.size + 1 + 1 by simp] at this
  have bX : Below w.heap.size w X := by rw [← hX]; exact ballc (ballc (ballc (Below.refl _ _) _) _) _
  have hcl := clear8 X (w.heap.size + 1 + 1) _ 0 zr8 x2 rfl
  have kY : Kp (fun i => i = w.heap.size + 1 + 1) X (X.setRow (w.heap.size + 1 + 1) zr8) := ⟨rfl, rfl, rfl, by simp, fun k _ hk => setRow_other X _ k _ (fun e => hk e)⟩
  have y2 : Bx (X.setRow (w.heap.size + 1 + 1) zr8) (w.heap.size + 1 + 1) 131 zr8 := x2.setRow zr8
  have y1 : Bx (X.setRow (w.heap.size + 1 + 1) zr8) (w.heap.size + 1) 131 zr8 := x1.kp kY (by omega)
  have bY : Below w.heap.size w (X.setRow (w.heap.size + 1 + 1) zr8) := below_setRow bX _ (by omega) _
  generalize X.setRow (w.heap.size + 1 + 1) zr8 = Y at *
  have BY := hide bY
  have c0 : Y.cell? ⟨w.heap.size + 1, 0, none⟩ = some (.int .i64 0) := y1.cell 0 _ rfl
  have d0 : Y.cell? ⟨w.heap.size + 1 + 1, 0, none⟩ = some (.int .i64 0) := y2.cell 0 _ rfl
  have c1 : Y.cell? ⟨w.heap.size + 1, 1, none⟩ = some (.int .i64 0) := y1.cell 1 _ rfl
  have d1 : Y.cell? ⟨w.heap.size + 1 + 1, 1, none⟩ = some (.int .i64 0) := y2.cell 1 _ rfl
  have c2 : Y.cell? ⟨w.heap.size + 1, 2, none⟩ = some (.int .i64 0) := y1.cell 2 _ rfl
  have d2 : Y.cell? ⟨w.heap.size + 1 + 1, 2, none⟩ = some (.int .i64 0) := y2.cell 2 _ rfl
  have c3 : Y.cell? ⟨w.heap.size + 1, 3, none⟩ = some (.int .i64 0) := y1.cell 3 _ rfl
  have d3 : Y.cell? ⟨w.heap.size + 1 + 1, 3, none⟩ = some (.int .i64 0) := y2.cell 3 _ rfl
  have c4 : Y.cell? ⟨w.heap.size + 1, 4, none⟩ = some (.int .i64 0) := y1.cell 4 _ rfl
  have d4 : Y.cell? ⟨w.heap.size + 1 + 1, 4, none⟩ = some (.int .i64 0) := y2.cell 4 _ rfl
  have c5 : Y.cell? ⟨w.heap.size + 1, 5, none⟩ = some (.int .i64 0) := y1.cell 5 _ rfl
  have d5 : Y.cell? ⟨w.heap.size + 1 + 1, 5, none⟩ = some (.int .i64 0) := y2.cell 5 _ rfl
  have c6 : Y.cell? ⟨w.heap.size + 1, 6, none⟩ = some (.int .i64 0) := y1.cell 6 _ rfl
  have d6 : Y.cell? ⟨w.heap.size + 1 + 1, 6, none⟩ = some (.int .i64 0) := y2.cell 6 _ rfl
  have c7 : Y.cell? ⟨w.heap.size + 1, 7, none⟩ = some (.int .i64 0) := y1.cell 7 _ rfl
  have d7 : Y.cell? ⟨w.heap.size + 1 + 1, 7, none⟩ = some (.int .i64 0) := y2.cell 7 _ rfl
  clear x1 x2 bX kY y1 y2 bY
  rw [← hX] at hcl
  unfold zr8 at hcl
  have HC := hide hcl
  clear hcl hX X
  go_enter Tryz.func74, Tryz.ntmps74
  go_wp2
  rw [unhide HC]
  simp only [Result.andThen_ok, Oper.upon]
  rename_i hK
  refine hK _ _ ?_
  have HE := eq8 Y
  unfold zr8 at HE
  go_wp2
  go_ret
  exact ⟨rfl, unhide BY⟩
set_option maxRecDepth 100000 in
set_option maxHeartbeats 4000000 in
theorem clo1 {w : World} {b : Nat} {hv : Value} (h : Bx w b 39 #[Value.int .i64 1, Value.int .i64 1, Value.int .i64 2, Value.int .i64 3, Value.int .i64 4, Value.int .i64 5, Value.bool true, hv, (Value.slice none 0 0), (Value.slice none 0 0), (Value.slice none 0 0), (Value.int .i64 0), (Value.slice none 0 0), (Value.slice none 0 0), (Value.slice none 0 0), (Value.slice none 0 0), (Value.int .i64 0)]) : Calls Tryz.prog 42 #[.pointer (some ⟨b, 0, none⟩)] w fun r W => r = .returned (.int .i64 0) ∧ Below w.heap.size w W := by
  have HB : Below w.heap.size w w := Below.refl _ _
  have c0 : w.cell? ⟨b, 0, none⟩ = some (Value.int .i64 1) := h.cell 0 _ rfl
  clear h
  go_enter Tryz.func42, Tryz.ntmps42
  go_wp2_with (first | (go_at_call 43; refine (fKind_in _ _).mono ?_; rintro r W1 ⟨rfl, rfl⟩) | (go_at_call 33; refine (unless_in _ _ _).mono ?_; rintro r W1 ⟨rfl, rfl⟩))
  go_ret
  exact ⟨rfl, HB⟩
set_option maxRecDepth 100000 in
set_option maxHeartbeats 4000000 in
theorem clo1z {w : World} {b : Nat} {hv : Value} (h : Bx w b 39 #[Value.int .i64 0, Value.int .i64 0, Value.int .i64 0, Value.int .i64 0, Value.int .i64 0, Value.int .i64 0, Value.bool false, (Value.slice none 0 0), (Value.slice none 0 0), (Value.slice none 0 0), (Value.slice none 0 0), (Value.int .i64 0), (Value.slice none 0 0), (Value.slice none 0 0), (Value.slice none 0 0), (Value.slice none 0 0), (Value.int .i64 0)]) : Calls Tryz.prog 42 #[.pointer (some ⟨b, 0, none⟩)] w fun r W => r = .returned (.int .i64 1) ∧ Below w.heap.size w W := by
  have HB : Below w.heap.size w w := Below.refl _ _
  have c0 : w.cell? ⟨b, 0, none⟩ = some (Value.int .i64 0) := h.cell 0 _ rfl
  clear h
  go_enter Tryz.func42, Tryz.ntmps42
  go_wp2_with (first | (go_at_call 43; refine (fKind_in _ _).mono ?_; rintro r W1 ⟨rfl, rfl⟩) | (go_at_call 33; refine (unless_in _ _ _).mono ?_; rintro r W1 ⟨rfl, rfl⟩))
  go_ret
  exact ⟨rfl, HB⟩
set_option maxRecDepth 100000 in
set_option maxHeartbeats 4000000 in
theorem clo2 {w : World} {b : Nat} {hv : Value} (h : Bx w b 39 #[Value.int .i64 1, Value.int .i64 1, Value.int .i64 2, Value.int .i64 3, Value.int .i64 4, Value.int .i64 5, Value.bool true, hv, (Value.slice none 0 0), (Value.slice none 0 0), (Value.slice none 0 0), (Value.int .i64 0), (Value.slice none 0 0), (Value.slice none 0 0), (Value.slice none 0 0), (Value.slice none 0 0), (Value.int .i64 0)]) : Calls Tryz.prog 44 #[.pointer (some ⟨b, 0, none⟩)] w fun r W => r = .returned (.int .i64 0) ∧ Below w.heap.size w W := by
  have HB : Below w.heap.size w w := Below.refl _ _
  have c1 : w.cell? ⟨b, 1, none⟩ = some (Value.int .i64 1) := h.cell 1 _ rfl
  have c2 : w.cell? ⟨b, 2, none⟩ = some (Value.int .i64 2) := h.cell 2 _ rfl
  clear h
  go_enter Tryz.func44, Tryz.ntmps44
  go_wp2_with (first | (go_at_call 45; refine (fSite_in _ _ (by decide) (by decide)).mono ?_; rintro r W1 ⟨rfl, rfl⟩) | (go_at_call 33; refine (unless_in _ _ _).mono ?_; rintro r W1 ⟨rfl, rfl⟩))
  go_ret
  exact ⟨rfl, HB⟩
set_option maxRecDepth 100000 in
set_option maxHeartbeats 4000000 in
theorem clo3 {w : World} {b : Nat} {hv : Value} (h : Bx w b 39 #[Value.int .i64 1, Value.int .i64 1, Value.int .i64 2, Value.int .i64 3, Value.int .i64 4, Value.int .i64 5, Value.bool true, hv, (Value.slice none 0 0), (Value.slice none 0 0), (Value.slice none 0 0), (Value.int .i64 0), (Value.slice none 0 0), (Value.slice none 0 0), (Value.slice none 0 0), (Value.slice none 0 0), (Value.int .i64 0)]) : Calls Tryz.prog 46 #[.pointer (some ⟨b, 0, none⟩)] w fun r W => r = .returned (.int .i64 0) ∧ Below w.heap.size w W := by
  have HB : Below w.heap.size w w := Below.refl _ _
  have c3 : w.cell? ⟨b, 3, none⟩ = some (Value.int .i64 3) := h.cell 3 _ rfl
  have c4 : w.cell? ⟨b, 4, none⟩ = some (Value.int .i64 4) := h.cell 4 _ rfl
  clear h
  go_enter Tryz.func46, Tryz.ntmps46
  go_wp2_with (first | (go_at_call 47; refine (fUpTo_in _ _ _ (by decide) (by decide)).mono ?_; rintro r W1 ⟨rfl, rfl⟩) | (go_at_call 33; refine (unless_in _ _ _).mono ?_; rintro r W1 ⟨rfl, rfl⟩))
  go_ret
  exact ⟨rfl, HB⟩
set_option maxRecDepth 100000 in
set_option maxHeartbeats 4000000 in
theorem clo4 {w : World} {b : Nat} {hv : Value} (h : Bx w b 39 #[Value.int .i64 1, Value.int .i64 1, Value.int .i64 2, Value.int .i64 3, Value.int .i64 4, Value.int .i64 5, Value.bool true, hv, (Value.slice none 0 0), (Value.slice none 0 0), (Value.slice none 0 0), (Value.int .i64 0), (Value.slice none 0 0), (Value.slice none 0 0), (Value.slice none 0 0), (Value.slice none 0 0), (Value.int .i64 0)]) : Calls Tryz.prog 48 #[.pointer (some ⟨b, 0, none⟩)] w fun r W => r = .returned (.int .i64 0) ∧ Below w.heap.size w W := by
  have HB : Below w.heap.size w w := Below.refl _ _
  have c5 : w.cell? ⟨b, 5, none⟩ = some (Value.int .i64 5) := h.cell 5 _ rfl
  clear h
  go_enter Tryz.func48, Tryz.ntmps48
  go_wp2_with (first | (go_at_call 47; refine (fUpTo_in _ _ _ (by decide) (by decide)).mono ?_; rintro r W1 ⟨rfl, rfl⟩) | (go_at_call 33; refine (unless_in _ _ _).mono ?_; rintro r W1 ⟨rfl, rfl⟩))
  go_ret
  exact ⟨rfl, HB⟩
set_option maxRecDepth 100000 in
set_option maxHeartbeats 4000000 in
theorem clo5 {w : World} {b : Nat} {hv : Value} (h : Bx w b 39 #[Value.int .i64 1, Value.int .i64 1, Value.int .i64 2, Value.int .i64 3, Value.int .i64 4, Value.int .i64 5, Value.bool true, hv, (Value.slice none 0 0), (Value.slice none 0 0), (Value.slice none 0 0), (Value.int .i64 0), (Value.slice none 0 0), (Value.slice none 0 0), (Value.slice none 0 0), (Value.slice none 0 0), (Value.int .i64 0)]) (hr : RI w hv [(1, 7)]) : Calls Tryz.prog 49 #[.pointer (some ⟨b, 0, none⟩)] w fun r W => r = .returned (.int .i64 0) ∧ Below w.heap.size w W := by
  have HC := hide (Check_in hv [(1, 7)] w hr (by decide))
  have c7 : w.cell? ⟨b, 7, none⟩ = some hv := h.cell 7 _ rfl
  clear h
  go_enter Tryz.func49, Tryz.ntmps49
  go_wp2_with fail
  refine (unhide HC).mono ?_
  rintro r W1 ⟨rfl, HB⟩
  go_wp2
  go_ret
  exact ⟨rfl, HB⟩
set_option maxRecDepth 100000 in
set_option maxHeartbeats 4000000 in
theorem clo6 {w : World} {b : Nat} {hv : Value} (h : Bx w b 39 #[Value.int .i64 1, Value.int .i64 1, Value.int .i64 2, Value.int .i64 3, Value.int .i64 4, Value.int .i64 5, Value.bool true, hv, (Value.slice none 0 0), (Value.slice none 0 0), (Value.slice none 0 0), (Value.int .i64 0), (Value.slice none 0 0), (Value.slice none 0 0), (Value.slice none 0 0), (Value.slice none 0 0), (Value.int .i64 0)]) : Calls Tryz.prog 73 #[.pointer (some ⟨b, 0, none⟩)] w fun r W => r = .returned (.int .i64 0) ∧ Below w.heap.size w W := by
  have HC := hide (isZero_nil w)
  have c9 : w.cell? ⟨b, 9, none⟩ = some (Value.slice none 0 0) := h.cell 9 _ rfl
  have c10 : w.cell? ⟨b, 10, none⟩ = some (Value.slice none 0 0) := h.cell 10 _ rfl
  have c11 : w.cell? ⟨b, 11, none⟩ = some (Value.int .i64 0) := h.cell 11 _ rfl
  have c12 : w.cell? ⟨b, 12, none⟩ = some (Value.slice none 0 0) := h.cell 12 _ rfl
  have c13 : w.cell? ⟨b, 13, none⟩ = some (Value.slice none 0 0) := h.cell 13 _ rfl
  have c14 : w.cell? ⟨b, 14, none⟩ = some (Value.slice none 0 0) := h.cell 14 _ rfl
  have c15 : w.cell? ⟨b, 15, none⟩ = some (Value.slice none 0 0) := h.cell 15 _ rfl
  have c16 : w.cell? ⟨b, 16, none⟩ = some (Value.int .i64 0) := h.cell 16 _ rfl
  clear h
  go_enter Tryz.func73, Tryz.ntmps73
  go_wp2_with fail
  refine (unhide HC).mono ?_
  rintro r W1 ⟨rfl, HB⟩
  go_wp2_with (first | (go_at_call 33; refine (unless_in _ _ _).mono ?_; rintro r W1 ⟨rfl, rfl⟩))
  go_ret
  exact ⟨rfl, HB⟩
set_option maxRecDepth 100000 in
set_option maxHeartbeats 4000000 in
theorem clo7 {w : World} {b : Nat} {hv : Value} (h : Bx w b 39 #[Value.int .i64 1, Value.int .i64 1, Value.int .i64 2, Value.int .i64 3, Value.int .i64 4, Value.int .i64 5, Value.bool true, hv, (Value.slice none 0 0), (Value.slice none 0 0), (Value.slice none 0 0), (Value.int .i64 0), (Value.slice none 0 0), (Value.slice none 0 0), (Value.slice none 0 0), (Value.slice none 0 0), (Value.int .i64 0)]) : Calls Tryz.prog 75 #[.pointer (some ⟨b, 0, none⟩)] w fun r W => r = .returned (.int .i64 0) ∧ Below w.heap.size w W := by
  have HB : Below w.heap.size w w := Below.refl _ _
  have c8 : w.cell? ⟨b, 8, none⟩ = some (Value.slice none 0 0) := h.cell 8 _ rfl
  clear h
  go_enter Tryz.func75, Tryz.ntmps75
  go_wp2_with (first | (go_at_call 33; refine (unless_in _ _ _).mono ?_; rintro r W1 ⟨rfl, rfl⟩))
  go_ret
  exact ⟨rfl, HB⟩
set_option maxRecDepth 100000 in
set_option maxHeartbeats 4000000 in
theorem clo8 {w : World} {b : Nat} {hv : Value} (h : Bx w b 39 #[Value.int .i64 1, Value.int .i64 1, Value.int .i64 2, Value.int .i64 3, Value.int .i64 4, Value.int .i64 5, Value.bool true, hv, (Value.slice none 0 0), (Value.slice none 0 0), (Value.slice none 0 0), (Value.int .i64 0), (Value.slice none 0 0), (Value.slice none 0 0), (Value.slice none 0 0), (Value.slice none 0 0), (Value.int .i64 0)]) : Calls Tryz.prog 76 #[.pointer (some ⟨b, 0, none⟩)] w fun r W => r = .returned (.int .i64 0) ∧ Below w.heap.size w W := by
  have HB : Below w.heap.size w w := Below.refl _ _
  have c8 : w.cell? ⟨b, 8, none⟩ = some (Value.slice none 0 0) := h.cell 8 _ rfl
  clear h
  go_enter Tryz.func76, Tryz.ntmps76
  go_wp2_with (first | (go_at_call 77; refine (checkOps_nil _).mono ?_; rintro r W1 ⟨rfl, rfl⟩))
  go_ret
  exact ⟨rfl, HB⟩
end Go.Proofs.YtkffonoifbaifaaGreat
