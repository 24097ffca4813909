/-
  Chapter 4's law QuoteRises returns true for every text, and leaves its argument as it was; the tables and the errors of the library that its row lists hold what the program's text lays (the card ties them).
-/
import Derived.Test.YtbjmnligdbkniaaDoorRows
import Derived.Test.YtbjmnligdbkniaaDoorCards
import Derived.Test.YtbjmnligdbkniaaDoorTie
import Derived.SevenTiedAt
import Derived.LaidMore
import Derived.Stop.Joined
import Derived.WalkKit
import Derived.ProofKit
import Derived.OpenShut
import Derived.ShutString
import Derived.ChangeOld
import Derived.Below
import Derived.Test.YtbjmnligdbkniaaDoorZLaid2
import Derived.Test.YtbjmnligdbkniaaDoorZSr4
set_option linter.unusedVariables false
set_option linter.unusedSimpArgs false
namespace Go.Proofs.YtbjmnligdbkniaaDoor
namespace LQuoteRises
open Go.ChangeShapes Go.WideShapes Go.ChangeAt Go.RowKit Go.Lib
open Go.ChangeMaps (open_string shut_string)

theorem run_equalIn_func_nil {P : Program} (w : World) (d : Nat) (t : TypeId) {x y z} (f : Fn) (bs cs : Array Value) (h : P.underlying t = some (.func x y z)) : (Op.equalIn (d + 1) t (.func f bs cs) .nilFunc).run P w = .ok false w := by
  simp [Op.equalIn, run_underlying h]
theorem run_equal_func_nil {P : Program} (w : World) (t : TypeId) {x y z} (f : Fn) (bs cs : Array Value) (h : P.underlying t = some (.func x y z)) : (Op.equal t (.func f bs cs) .nilFunc).run P w = .ok false w := run_equalIn_func_nil w 9999 t f bs cs h
theorem run_eql_func_nil {P : Program} (w : World) (t : TypeId) {x y z} (f : Fn) (bs cs : Array Value) (h : P.underlying t = some (.func x y z)) : (binOp .eql t (.func f bs cs) .nilFunc).run P w = .ok (.bool false) w := by
  simp only [binOp]
  simp [run_equal_func_nil w t f bs cs h]

set_option maxRecDepth 100000 in
set_option maxHeartbeats 4000000 in
theorem walk (a0 : ByteArray) (w0 : a0.size ≤ maxLen) (w : World) (hT : Lw w) :
    Calls Tryd.prog 5 #[.string a0] w fun e w' => e = .returned (.bool true) ∧ Below w.heap.size w w' := by
  unfold maxLen at w0
  have HK := hide (fun W (h : Below w.heap.size w W) => known_in W (hT.below h).1)
  obtain ⟨X0, hX0⟩ : ∃ X, w.alloc (.cells #[.string a0] 9) = X := ⟨_, rfl⟩
  have b0 : Below w.heap.size w X0 := by rw [← hX0]; exact (Below.refl _ _).alloc (Nat.le_refl _) _
  have B0 : Bq X0 w.heap.size 9 #[.string a0] := by rw [← hX0]; exact Bq.new _ _ _
  have c0 : X0.cell? ⟨w.heap.size, 0, none⟩ = some (.string a0) := B0.cell 0 _ rfl
  have z0 : X0.heap.size = w.heap.size + 1 := by rw [← hX0]; simp
  by_cases hb : 20000 < a0.size
  · have hb' : (20000 : Int) < (a0.size : Int) := by omega
    have Hb0 := hide b0
    clear b0 B0 z0 hT
    go_enter Tryd.func5, Tryd.ntmps5
    go_wp2_with fail
    refine (unhide HK _ (unhide Hb0)).mono ?_
    rintro r W2 ⟨rfl, hb2⟩
    go_wp2
    go_ret
    exact ⟨rfl, ⟨hb2.os.trans (unhide Hb0).os, hb2.tape.trans (unhide Hb0).tape, hb2.output.trans (unhide Hb0).output, Nat.le_trans (unhide Hb0).size hb2.size, fun i hi => (hb2.block i (Nat.lt_of_lt_of_le hi (unhide Hb0).size)).trans ((unhide Hb0).block i hi)⟩⟩
  have hb' : ¬ (20000 : Int) < (a0.size : Int) := by omega
  obtain ⟨X1, hX1⟩ : ∃ X, X0.alloc (.cells #[.int .i64 (-1)] 3) = X := ⟨_, rfl⟩
  obtain ⟨X2, hX2⟩ : ∃ X, X1.alloc (.cells #[.int .i64 1] 3) = X := ⟨_, rfl⟩
  obtain ⟨X3, hX3⟩ : ∃ X, X2.alloc (.cells #[.int .i64 4] 3) = X := ⟨_, rfl⟩
  obtain ⟨X4, hX4⟩ : ∃ X, X3.alloc (.cells #[.bool false] 4) = X := ⟨_, rfl⟩
  obtain ⟨X5, hX5⟩ : ∃ X, X4.alloc (.cells #[.bool true] 4) = X := ⟨_, rfl⟩
  have z1 : X1.heap.size = w.heap.size + 2 := by rw [← hX1]; simp [z0]
  have z2 : X2.heap.size = w.heap.size + 3 := by rw [← hX2]; simp [z1]
  have z3 : X3.heap.size = w.heap.size + 4 := by rw [← hX3]; simp [z2]
  have z4 : X4.heap.size = w.heap.size + 5 := by rw [← hX4]; simp [z3]
  have z5 : X5.heap.size = w.heap.size + 6 := by rw [← hX5]; simp [z4]
  have e1 : Below X0.heap.size X0 X1 := by rw [← hX1]; exact (Below.refl _ _).alloc (Nat.le_refl _) _
  have e2 : Below X1.heap.size X1 X2 := by rw [← hX2]; exact (Below.refl _ _).alloc (Nat.le_refl _) _
  have e3 : Below X2.heap.size X2 X3 := by rw [← hX3]; exact (Below.refl _ _).alloc (Nat.le_refl _) _
  have e4 : Below X3.heap.size X3 X4 := by rw [← hX4]; exact (Below.refl _ _).alloc (Nat.le_refl _) _
  have e5 : Below X4.heap.size X4 X5 := by rw [← hX5]; exact (Below.refl _ _).alloc (Nat.le_refl _) _
  have q0 := ((((B0.keep e1 (by omega)).keep e2 (by omega)).keep e3 (by omega)).keep e4 (by omega)).keep e5 (by omega)
  have q1 : Bq X5 (w.heap.size + 1) 3 #[.int .i64 (-1)] := by
    have : Bq X1 X0.heap.size 3 #[.int .i64 (-1)] := by rw [← hX1]; exact Bq.new _ _ _
    rw [z0] at this
    exact (((this.keep e2 (by omega)).keep e3 (by omega)).keep e4 (by omega)).keep e5 (by omega)
  have q2 : Bq X5 (w.heap.size + 2) 3 #[.int .i64 1] := by
    have : Bq X2 X1.heap.size 3 #[.int .i64 1] := by rw [← hX2]; exact Bq.new _ _ _
    rw [z1] at this
    exact ((this.keep e3 (by omega)).keep e4 (by omega)).keep e5 (by omega)
  have q3 : Bq X5 (w.heap.size + 3) 3 #[.int .i64 4] := by
    have : Bq X3 X2.heap.size 3 #[.int .i64 4] := by rw [← hX3]; exact Bq.new _ _ _
    rw [z2] at this
    exact (this.keep e4 (by omega)).keep e5 (by omega)
  have q4 : Bq X5 (w.heap.size + 4) 4 #[.bool false] := by
    have : Bq X4 X3.heap.size 4 #[.bool false] := by rw [← hX4]; exact Bq.new _ _ _
    rw [z3] at this
    exact this.keep e5 (by omega)
  have q5 : Bq X5 (w.heap.size + 5) 4 #[.bool true] := by
    have : Bq X5 X4.heap.size 4 #[.bool true] := by rw [← hX5]; exact Bq.new _ _ _
    rw [z4] at this
    exact this
  have R5 : RB X5 w.heap.size a0 st0 := ⟨q0, q1, q2, q3, q4, q5⟩
  have bt : ∀ {A B : World}, Below w.heap.size w A → Below A.heap.size A B → Below w.heap.size w B := fun {A B} h k => ⟨k.os.trans h.os, k.tape.trans h.tape, k.output.trans h.output, Nat.le_trans h.size k.size, fun i hi => (k.block i (Nat.lt_of_lt_of_le hi h.size)).trans (h.block i hi)⟩
  have b5 := bt (bt (bt (bt (bt b0 e1) e2) e3) e4) e5
  obtain ⟨X6, hX6⟩ : ∃ X, X5.alloc (.cells #[.string a0] 9) = X := ⟨_, rfl⟩
  have e6 : Below X5.heap.size X5 X6 := by rw [← hX6]; exact (Below.refl _ _).alloc (Nat.le_refl _) _
  have B6 : Bq X6 X5.heap.size 9 #[.string a0] := by rw [← hX6]; exact Bq.new _ _ _
  have R6 := R5.keep e6 (by omega)
  have HSc := hide (Scan_in a0 X5)
  rw [hX6] at HSc
  have HC := hide (scan_rises a0 (by omega) w.heap.size X5.heap.size w X6 (bt b5 e6) (Nat.le_refl _) (by omega) R6 B6 hT)
  have hfin := RsL.fin (scL_rises a0)
  have c5 : X5.cell? ⟨w.heap.size, 0, none⟩ = some (.string a0) := q0.cell 0 _ rfl
  have HZ := hide (And.intro z0 (And.intro z1 (And.intro z2 (And.intro z3 z4))))
  have Hbt := hide (fun A B (h : Below w.heap.size w A) (k : Below A.heap.size A B) => bt h k)
  have Hfin := hide hfin
  clear bt b0 B0 e1 e2 e3 e4 e5 q0 q1 q2 q3 q4 q5 R5 b5 e6 B6 R6 hT hfin hb
  have HX4 := hide hX4
  have HX5 := hide hX5
  clear hX4 hX5
  go_enter Tryd.func5, Tryd.ntmps5
  go_upto_region 8 with fail
  rw [unhide HX4]
  try rw [unhide HX5]
  try simp only [z4]
  clear hX0 hX1 hX2 hX3 hX6 HX4 HX5
  go_wp2_with fail
  refine (unhide HSc).mono ?_
  rintro e W1 ⟨rfl, rfl⟩
  clear HSc c5 c0
  go_wp2_with fail
  rw [run_eql_func_nil _ _ _ _ _ Tryd.underlying26]
  go_wp2_with fail
  simp only [Nat.add_assoc, Nat.reduceAdd]
  rw [z5] at HC
  refine (unhide HC).mono ?_
  rintro e W2 ⟨rfl, hR, hB⟩
  obtain ⟨st, hst⟩ : ∃ st, stF st0 (scL a0) = st := ⟨_, rfl⟩
  rw [hst] at hR
  have hf := unhide Hfin
  rw [hst] at hf
  have y0 := hR.y.cell 0 _ rfl
  have o0 := hR.o.cell 0 _ rfl
  have k0 := hR.k.cell 0 _ rfl
  have HB := hide hB
  have HK2 := hide (unhide HK W2 hB)
  clear hR hB HC hst Hfin HK
  obtain ⟨sa, sl, sk, so⟩ := st
  simp only at hf o0 k0
  cases so with
  | true =>
    clear hf
    go_wp2_with fail
    refine (unhide HK2).mono ?_
    rintro r W3 ⟨rfl, hb2⟩
    go_wp2
    go_ret
    exact ⟨rfl, unhide Hbt _ _ (unhide HB) hb2⟩
  | false =>
    obtain rfl : sk = 4 := by rcases hf with q | q; cases q; exact q
    clear hf
    go_wp2_with fail
    refine (unhide HK2).mono ?_
    rintro r W3 ⟨rfl, hb2⟩
    go_wp2
    go_ret
    exact ⟨rfl, unhide Hbt _ _ (unhide HB) hb2⟩

theorem own : ownKnob Tryd.prog.godebug = none := by kernel_rfl

theorem door_met (os : Os) (args : Array Value) : laidMetH Tryd.prog Rows.quoteRisesRow.laid ((World.doorLaid Tryd.prog 400 os).forCall (fun _ _ => 0) ⟨#[], args, []⟩).memory :=
  laidMetH_of_parts3 (fuel := 8) (laidMet_of_run' 8 (by kernel_rfl) (by kernel_rfl)) (by kernel_rfl) (by kernel_rfl)

set_option maxRecDepth 100000 in
theorem lifted (os : Os) (started : os.Started) (H : Type) (enc : TypeId × Value → H) :
    ReturnsInHanded {} Tryd.checked os 5 .any (fun w args => (Rows.quoteRisesSpec.pre enc Tryd.prog Tryd.f5 [] false w args ∧ laidMetH Tryd.prog Rows.quoteRisesRow.laid w) ∧ sizedMet enc Tryd.prog Tryd.f5 (OpenSpec.ofChange Rows.quoteRisesSpec) false w args)
      (Rows.quoteRisesSpec.post enc Tryd.prog Tryd.f5 false true false false) := by
  refine returnsInHanded_of_change_and (C := Tryd.checked) (X := fun w _ => laidMetH Tryd.prog Rows.quoteRisesRow.laid w) (fun _ _ _ hh h => h.of_heap hh) own started (by kernel_rfl) Tryd.func5
    (ChangeSpec.witness_shaped (enc := enc) (C := Tryd.checked) (os := os) (X := fun w _ => laidMetH Tryd.prog Rows.quoteRisesRow.laid w) false (World.doorLaid Tryd.prog 400 os) #[.string ByteArray.empty] 8 rfl (World.shaped_of_RefB (by kernel_rfl) (by kernel_rfl)) (by kernel_rfl) (by kernel_rfl) (by kernel_rfl) (door_met os _)) ?_
  intro W base args ds gs before hval0 hW _ _ hL _
  rw [MakeChecks.laidMetH_plain _ _ _ (by kernel_rfl)] at hL
  have hT := lw_of (by kernel_rfl) (by kernel_rfl) (by kernel_rfl) (by kernel_rfl) hL
  have hval : ∀ (j : Nat) t v, Tryd.f5.params[j]? = some t → args[j]? = some v → Value.okWide Tryd.prog W .any base t v := hval0
  have hW' := hW
  obtain ⟨p, q, hA0, hV, rfl, hfz, hnd⟩ := hW
  have hA : DataW.TrodAll enc Tryd.prog W 0 (fun _ => true) true Tryd.f5.params.toList args.toList ds p := hA0
  rw [Tryd.params5] at hA hval
  obtain ⟨v0, vs0, d0, ds0, p0, q0, hargs, rfl, rfl, h0, r0⟩ := trodAll_cons hA
  obtain ⟨rfl, rfl, rfl⟩ := trodAll_nil r0
  obtain rfl : args = #[v0] := by cases args; simp_all
  obtain ⟨rfl, rfl⟩ := trodVars_none hV
  obtain ⟨a0, rfl, rfl, rfl, w0⟩ := open_string Tryd.underlying9 (hval 0 9 v0 rfl rfl) h0
  clear hA0 hval0
  simp only [List.append_nil] at hW'
  refine (walk a0 w0 W hT).mono fun e W' ⟨he, bel⟩ => ?_
  subst he
  exact ⟨_, rfl, _, _, _, [], _, [], hW', trodAll_mk1 (shut_bool Tryd.underlying4 _), (trodAll_cons_mk (shut_string Tryd.underlying9 w0) trodAll_mk0), rfl, bel.frame _, fun h => by cases h⟩

theorem over : Rows.quoteRisesRow.holds Tryd.pinned (OpenSpec.ofChange Rows.quoteRisesSpec) :=
  OpenClaim.holds_of_wide 5 Tryd.f5 rfl rfl rfl rfl rfl rfl rfl ⟨rfl, rfl, rfl, rfl, rfl⟩ rfl rfl rfl rfl rfl (by kernel_rfl) Tryd.func5 (by kernel_rfl)
    (of_decide_eq_true (by kernel_rfl)) (by unfold Func.isWrapper; first | (rw [if_pos (by decide +kernel)]; kernel_rfl) | (rw [if_neg (by decide +kernel)]; exact ⟨rfl, rfl⟩))
    (fun os started H enc _ => lifted os started H enc)

end LQuoteRises

theorem quoteRises_holds : Rows.QuoteRisesCardSaid :=
  Claim7.holds_tied_plain_at .later [] [.data, .data, .data, .sentinel, .sentinel] true (true, "092fe8d34d9df1be97bc4617bdef90684daafc11baf9ac017afb4a307ec0b033") true
    LQuoteRises.over (fun _ h => by cases h) (by kernel_rfl) (fun _ h => by cases h) quoteRises_row_tie rfl ⟨rfl, rfl⟩ (by kernel_rfl) rfl
    (fun f fn hf hfn => by
      obtain rfl : f = 5 := Option.some.inj ((show Tryd.prog.funcNamed Rows.quoteRisesRow.func = some 5 by kernel_rfl).symm.trans hf) |>.symm
      obtain rfl : fn = Tryd.f5 := (Option.some.inj (Tryd.func5.symm.trans hfn)).symm
      exact ⟨by kernel_rfl, fun j t ht => by
        rw [Tryd.params5] at ht
        have hm : t ∈ [9] := by simpa using Array.mem_of_getElem? ht
        have hall : ([9].all fun u => !Tryd.prog.wantsStandIn u) = true := by kernel_rfl
        exact (show Tryd.prog.wantsStandIn t = false by simpa using List.all_eq_true.1 hall t hm)⟩)
    (by kernel_rfl)

end Go.Proofs.YtbjmnligdbkniaaDoor
