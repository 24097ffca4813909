/-
  math/bits.OnesCount32: how many sites a word has.
-/
import Derived.Test.YtjcdfjnlpfineaaZRE
set_option linter.unusedSimpArgs false
set_option linter.unusedVariables false
namespace Go.Proofs.Ytjcdfjnlpfineaa
open Go.RowKit Go.Lib Go.Shelf

def pop8 (x : Nat) : Nat := (List.range 8).countP (fun i => x.testBit i)
theorem pop8_le (x : Nat) : pop8 x ≤ 8 := Nat.le_trans List.countP_le_length (by decide)
/-- a table of how many bits a byte has -/
def tabOk (c : ByteArray) : Bool := c.size == 256 && (List.range 256).all fun x => c.data[x]?.map UInt8.toNat == some (pop8 x)
theorem quiet_tab {P : Program} {C : World → Prop} {a : Act} {o : Oper} {K : Act → Prop} (t : TypeId) (c : ByteArray) (x : Operand) (h : o.op = .index t (.const (.string c)) x) (k : IntKind) (i : Nat) (hx : a.eval x = .int k i) (hu : P.underlying t = some .string) (hc : tabOk c = true) (hi : i < 256) (hk : K (a.put o.dst (.int .u8 (pop8 i)))) : o.quiet P a C K := by
  refine ⟨_, fun w _ => ?_, hk⟩
  unfold tabOk at hc
  rw [Bool.and_eq_true, beq_iff_eq, List.all_eq_true] at hc
  have h2 := hc.2 i (List.mem_range.2 hi)
  rw [beq_iff_eq] at h2
  have hs : i < c.size := by rw [hc.1]; exact hi
  have h3 : (c[i]'hs).toNat = pop8 i := by
    have e : c.data[i]? = some (c[i]'hs) := Array.getElem?_eq_getElem (xs := c.data) (i := i) hs
    rw [e] at h2
    simpa using h2
  have h4 := run_index_string (P := P) w t c k (i : Int) hu
  rw [dif_pos ⟨by omega, by omega⟩] at h4
  simp only [Int.toNat_natCast, h3] at h4
  unfold Oper.quietAt
  have e : (execOp a.eval o).run P w = .ok (.value (.int .u8 (pop8 i))) w := by
    unfold execOp
    rw [h]
    show (do pure (.value (← Instr.index t (a.eval (.const (.string c))) (a.eval x))) : Sem Next).run P w = _
    rw [hx, show a.eval (.const (.string c)) = .string c from rfl, Sem.run_bind, h4, Result.andThen_ok, Sem.run_pure]
  rw [e]
  exact ⟨rfl, rfl⟩

theorem pop_at {m : Wd} {q a : Nat} (h : ∀ i, i < 8 → q.testBit i = m.getLsbD (a + i)) : pop8 q = (List.range 8).countP (fun i => m.getLsbD (a + i)) := by
  unfold pop8
  rw [List.countP_eq_length_filter, List.countP_eq_length_filter]
  congr 1
  apply List.filter_congr
  intro i hi
  exact h i (List.mem_range.1 hi)
theorem and255 (i : Nat) (h : i < 8) : (255#32).getLsbD i = true := by
  have : ∀ i, i < 8 → (255#32).getLsbD i = true := by decide
  exact this i h
theorem cnt_pop (f : Nat → Bool) (h0 : f 0 = false) (h : ∀ i, 16 < i → f i = false) : (List.range 8).countP (fun i => f (24 + i)) + (List.range 8).countP (fun i => f (16 + i)) + (List.range 8).countP (fun i => f (8 + i)) + (List.range 8).countP (fun i => f (0 + i)) = (List.range' 1 16).countP f := by
  have e8 : List.range 8 = [0, 1, 2, 3, 4, 5, 6, 7] := by decide
  have e16 : List.range' 1 16 = [1, 2, 3, 4, 5, 6, 7, 8, 9, 10, 11, 12, 13, 14, 15, 16] := by decide
  rw [e8, e16]
  simp only [List.countP_cons, List.countP_nil, Nat.reduceAdd, h0, h 17 (by omega), h 18 (by omega), h 19 (by omega), h 20 (by omega), h 21 (by omega), h 22 (by omega), h 23 (by omega), h 24 (by omega), h 25 (by omega), h 26 (by omega), h 27 (by omega), h 28 (by omega), h 29 (by omega), h 30 (by omega), h 31 (by omega)]
  simp only [Bool.false_eq_true, if_false, Nat.zero_add, Nat.add_zero]
  omega

set_option maxRecDepth 100000 in
set_option maxHeartbeats 4000000 in
theorem ones_in (m : Wd) (hm : OkW m) (w : World) : Calls Try.prog 41 #[.int .u32 (uI m)] w fun e W => e = .returned (.int .i64 (cnt m : Nat)) ∧ Below w.heap.size w W := by
  obtain ⟨x0, h0⟩ : ∃ x0 : Nat, (m >>> 24).toNat = x0 := ⟨_, rfl⟩
  obtain ⟨x1, h1⟩ : ∃ x1 : Nat, ((m >>> 16) &&& 255#32).toNat = x1 := ⟨_, rfl⟩
  obtain ⟨x2, h2⟩ : ∃ x2 : Nat, ((m >>> 8) &&& 255#32).toNat = x2 := ⟨_, rfl⟩
  obtain ⟨x3, h3⟩ : ∃ x3 : Nat, (m &&& 255#32).toNat = x3 := ⟨_, rfl⟩
  have hml := m.isLt
  have l0 : x0 < 256 := by rw [← h0, BitVec.toNat_ushiftRight, Nat.shiftRight_eq_div_pow]; omega
  have l1 : x1 < 256 := by rw [← h1, BitVec.toNat_and]; exact Nat.lt_of_le_of_lt Nat.and_le_right (by decide)
  have l2 : x2 < 256 := by rw [← h2, BitVec.toNat_and]; exact Nat.lt_of_le_of_lt Nat.and_le_right (by decide)
  have l3 : x3 < 256 := by rw [← h3, BitVec.toNat_and]; exact Nat.lt_of_le_of_lt Nat.and_le_right (by decide)
  have p0 := pop_at (m := m) (q := x0) (a := 24) (fun i hi => by rw [← h0, BitVec.testBit_toNat, BitVec.getLsbD_ushiftRight])
  have p1 := pop_at (m := m) (q := x1) (a := 16) (fun i hi => by rw [← h1, BitVec.testBit_toNat, BitVec.getLsbD_and, and255 i hi, Bool.and_true, BitVec.getLsbD_ushiftRight])
  have p2 := pop_at (m := m) (q := x2) (a := 8) (fun i hi => by rw [← h2, BitVec.testBit_toNat, BitVec.getLsbD_and, and255 i hi, Bool.and_true, BitVec.getLsbD_ushiftRight])
  have p3 := pop_at (m := m) (q := x3) (a := 0) (fun i hi => by rw [← h3, BitVec.testBit_toNat, BitVec.getLsbD_and, and255 i hi, Bool.and_true, Nat.zero_add])
  have hc := cnt_pop (fun i => m.getLsbD i) (by cases e : m.getLsbD 0 with | false => rfl | true => have := hm 0 e; omega) (fun i hi => by cases e : m.getLsbD i with | false => rfl | true => have := hm i e; omega)
  rw [← cnt_eq, ← p0, ← p1, ← p2, ← p3] at hc
  rw [← hc]
  have u0 : uI m / 16777216 = x0 := by rw [show (16777216 : Int) = 2 ^ 24 by decide, uI_shr]; unfold uI; rw [h0]
  have u1 : bits .and .u32 (uI m / 65536) 255 = x1 := by rw [show (65536 : Int) = 2 ^ 16 by decide, uI_shr, show (255 : Int) = uI 255#32 from rfl, u_and]; unfold uI; rw [h1]
  have u2 : bits .and .u32 (uI m / 256) 255 = x2 := by rw [show (256 : Int) = 2 ^ 8 by decide, uI_shr, show (255 : Int) = uI 255#32 from rfl, u_and]; unfold uI; rw [h2]
  have u3 : bits .and .u32 (uI m) 255 = x3 := by rw [show (255 : Int) = uI 255#32 from rfl, u_and]; unfold uI; rw [h3]
  have q0 := pop8_le x0
  have q1 := pop8_le x1
  have q2 := pop8_le x2
  have q3 := pop8_le x3
  clear h0 h1 h2 h3 p0 p1 p2 p3 hc hml hm
  generalize uI m = x at *
  have mixed : Try.prog.follows .mixedOrders = true := by kernel_rfl
  have hne := BelowOf.ne w
  go_enter Try.func41, Try.ntmps41
  go_wp2_with fail
  refine wp_region_quiet_below mixed (by kernel_rfl) ?_
  repeat (any_goals (first | go_big_quiet_step ((fail)) | quiet_step ((fail))))
  refine BigFrame.wpQuiet_want rfl fun K hK => ?_
  refine quiet_tab _ _ _ rfl .u32 x0 rfl rfl (by decide +kernel) l0 ?_
  refine hK _ ?_
  clear hK K
  simp only [Act.put, List.setIfInBounds_toArray, List.set_cons_succ, List.set_cons_zero]
  repeat (any_goals (first | go_big_quiet_step ((fail)) | quiet_step ((fail))))
  refine BigFrame.wpQuiet_want rfl fun K hK => ?_
  refine quiet_tab _ _ _ rfl .u32 x1 rfl rfl (by decide +kernel) l1 ?_
  refine hK _ ?_
  clear hK K
  simp only [Act.put, List.setIfInBounds_toArray, List.set_cons_succ, List.set_cons_zero]
  repeat (any_goals (first | go_big_quiet_step ((fail)) | quiet_step ((fail))))
  refine BigFrame.wpQuiet_want rfl fun K hK => ?_
  refine quiet_tab _ _ _ rfl .u32 x2 rfl rfl (by decide +kernel) l2 ?_
  refine hK _ ?_
  clear hK K
  simp only [Act.put, List.setIfInBounds_toArray, List.set_cons_succ, List.set_cons_zero]
  repeat (any_goals (first | go_big_quiet_step ((fail)) | quiet_step ((fail))))
  refine BigFrame.wpQuiet_want rfl fun K hK => ?_
  refine quiet_tab _ _ _ rfl .u32 x3 rfl rfl (by decide +kernel) l3 ?_
  refine hK _ ?_
  clear hK K
  simp only [Act.put, List.setIfInBounds_toArray, List.set_cons_succ, List.set_cons_zero]
  repeat (any_goals (first | go_big_quiet_step ((fail)) | quiet_step ((fail))))
  refine wpQuiet_nil ?_
  intro _ hw'
  obtain ⟨p, hw''⟩ := hw'
  subst hw''
  have HE := hide p.h
  go_wp2
  go_ret
  refine ⟨?_, unhide HE⟩
  show Ending.returned (Value.int .i64 ((pop8 x0 : Int) + (pop8 x1 : Int) + (pop8 x2 : Int) + (pop8 x3 : Int))) = _
  rw [show ((pop8 x0 : Int) + (pop8 x1 : Int) + (pop8 x2 : Int) + (pop8 x3 : Int)) = ((pop8 x0 + pop8 x1 + pop8 x2 + pop8 x3 : Nat) : Int) by omega]

end Go.Proofs.Ytjcdfjnlpfineaa
