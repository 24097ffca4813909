/-
  Chapter 4's law QuoteScans returns true for every text and every number, and leaves its arguments as they were; the tables and the errors of the library that its row lists hold what the program's text lays (the card ties them).
-/
import Derived.Test.YticjilkcobpcjaaDoorRows
import Derived.Test.YticjilkcobpcjaaDoorCards
import Derived.Test.YticjilkcobpcjaaDoorTie
import Derived.SevenTiedAt
import Derived.LaidMore
import Derived.Stop.Joined
import Derived.WalkKit
import Derived.ProofKit
import Derived.OpenShut
import Derived.ShutString
import Derived.ChangeOld
import Derived.Below
import Derived.Test.YticjilkcobpcjaaDoorZLaid2
import Derived.Test.YticjilkcobpcjaaDoorZXSl
import Derived.Test.YticjilkcobpcjaaDoorZKn
import Derived.Deep.CutRange
set_option linter.unusedVariables false
set_option linter.unusedSimpArgs false
namespace Go.Proofs.YticjilkcobpcjaaDoor
namespace LQuoteScans
open Go.ChangeShapes Go.WideShapes Go.ChangeAt Go.RowKit Go.Lib
open Go.ChangeMaps (open_string shut_string)

theorem run_equalIn_func_nil {P : Program} (w : World) (d : Nat) (t : TypeId) {x y z} (f : Fn) (bs cs : Array Value) (h : P.underlying t = some (.func x y z)) : (Op.equalIn (d + 1) t (.func f bs cs) .nilFunc).run P w = .ok false w := by
  simp [Op.equalIn, run_underlying h]
theorem run_equal_func_nil {P : Program} (w : World) (t : TypeId) {x y z} (f : Fn) (bs cs : Array Value) (h : P.underlying t = some (.func x y z)) : (Op.equal t (.func f bs cs) .nilFunc).run P w = .ok false w := run_equalIn_func_nil w 9999 t f bs cs h
theorem run_eql_func_nil {P : Program} (w : World) (t : TypeId) {x y z} (f : Fn) (bs cs : Array Value) (h : P.underlying t = some (.func x y z)) : (binOp .eql t (.func f bs cs) .nilFunc).run P w = .ok (.bool false) w := by
  simp only [binOp]
  simp [run_equal_func_nil w t f bs cs h]
set_option maxRecDepth 100000 in
set_option maxHeartbeats 16000000 in
theorem walk (a0 : ByteArray) (a1 : Int) (w0 : a0.size ≤ maxLen) (w1 : (Lit.int .i64 a1).wf = true) (w : World) (hT : Lw w) :
    Calls Tryd.prog 3 #[.string a0, .int .i64 a1] w fun e w' => e = .returned (.bool true) ∧ Below w.heap.size w w' := by
  have HK := hide (fun W (h : Below w.heap.size w W) => known_in W (hT.below h).1)
  obtain ⟨X0, hX0⟩ : ∃ X0, w.alloc (.cells #[.int .i64 a1] 3) = X0 := ⟨_, rfl⟩
  have b0 : Below w.heap.size w X0 := by rw [← hX0]; exact (Below.refl _ _).alloc (Nat.le_refl _) _
  have B0 : Bq X0 w.heap.size 3 #[.int .i64 a1] := by rw [← hX0]; exact Bq.new _ _ _
  have HT := hide hT
  clear hT w1 w0
  by_cases hb : 20000 < a0.size
  · have hb' : (20000 : Int) < (a0.size : Int) := by omega
    have Hb0 := hide b0
    clear b0 B0
    go_enter Tryd.func3, Tryd.ntmps3
    go_wp2_with fail
    refine (unhide HK _ (unhide Hb0)).mono ?_
    rintro r W2 ⟨rfl, hb2⟩
    go_wp2
    go_ret
    exact ⟨rfl, bnext (unhide Hb0) hb2⟩
  have hb' : ¬ (20000 : Int) < (a0.size : Int) := by omega
  have HR := hide (refScan_in a0 (by omega) X0)
  have HB := hide (And.intro b0 B0)
  obtain ⟨L, hL⟩ : ∃ L, (scL a0).length = L := ⟨_, rfl⟩
  have hLs := scL_len a0
  rw [hL] at hLs
  clear b0 B0
  go_enter Tryd.func3, Tryd.ntmps3
  go_wp2_with fail
  refine (unhide HR).mono ?_
  rintro r X1 ⟨v, rfl, hfs⟩
  obtain ⟨a, c, rfl⟩ := hfs.form
  rw [hL] at hfs ⊢
  clear HR
  obtain ⟨b0, B0⟩ := unhide HB
  obtain ⟨X2, hX2⟩ : ∃ X2, X1.alloc (.cells #[.slice a L c] 23) = X2 := ⟨_, rfl⟩
  obtain ⟨X3, hX3⟩ : ∃ X3, X2.alloc (.cells #[.string a0] 9) = X3 := ⟨_, rfl⟩
  obtain ⟨X4, hX4⟩ : ∃ X4, X3.alloc (.cells #[.func (.func 24) #[] #[.pointer (some ⟨X2.heap.size, 0, none⟩)]] 26) = X4 := ⟨_, rfl⟩
  have e2 : Below X1.heap.size X1 X2 := by rw [← hX2]; exact (Below.refl _ _).alloc (Nat.le_refl _) _
  have e3 : Below X2.heap.size X2 X3 := by rw [← hX3]; exact (Below.refl _ _).alloc (Nat.le_refl _) _
  have e4 : Below X3.heap.size X3 X4 := by rw [← hX4]; exact (Below.refl _ _).alloc (Nat.le_refl _) _
  have z2 : X2.heap.size = X1.heap.size + 1 := by rw [← hX2]; simp
  have z3 : X3.heap.size = X2.heap.size + 1 := by rw [← hX3]; simp
  have z4 : X4.heap.size = X3.heap.size + 1 := by rw [← hX4]; simp
  have q2 : Bq X2 X1.heap.size 23 #[.slice a (scL a0).length c] := by rw [hL, ← hX2]; exact Bq.new _ _ _
  have q3 : Bq X3 X2.heap.size 9 #[.string a0] := by rw [← hX3]; exact Bq.new _ _ _
  have q4 : Bq X4 X3.heap.size 26 #[.func (.func 24) #[] #[.pointer (some ⟨X2.heap.size, 0, none⟩)]] := by rw [← hX4]; exact Bq.new _ _ _
  have B1 : Bq X1 w.heap.size 3 #[.int .i64 a1] := B0.keep hfs.bel B0.lt
  have b1 : Below w.heap.size w X1 := bnext b0 hfs.bel
  have hB1 := B1.lt
  have E4 : EV X4 X4.heap.size w.heap.size X1.heap.size X3.heap.size X2.heap.size a c a0 a1 (scL a0) := ⟨((B1.keep e2 (by omega)).keep e3 (by omega)).keep e4 (by omega), (q2.keep e3 (by omega)).keep e4 (by omega), q4, q3.keep e4 (by omega), fun j u hu => by
    obtain ⟨g, h1, h2, h3⟩ := hfs.row j u hu
    exact ⟨g, by omega, h2, cell_below (cell_below (cell_below h3 e2) e3) e4⟩, by omega, by omega, by omega, by omega⟩
  have HE : Hid (EV X4 X4.heap.size w.heap.size X1.heap.size X3.heap.size X2.heap.size a c a0 a1 (scL a0) ∧ Below w.heap.size w X4) := hide ⟨E4, bnext (bnext (bnext b1 e2) e3) e4⟩
  have HSc := hide (Scan_in a0 X2)
  rw [hX3] at HSc
  have v4 := q4.cell 0 _ rfl
  obtain ⟨bw, hbw⟩ : ∃ bw, X1.heap.size = bw := ⟨_, rfl⟩
  obtain ⟨bs, hbs⟩ : ∃ bs, X2.heap.size = bs := ⟨_, rfl⟩
  obtain ⟨bi, hbi⟩ : ∃ bi, X3.heap.size = bi := ⟨_, rfl⟩
  obtain ⟨z, hz⟩ : ∃ z, X4.heap.size = z := ⟨_, rfl⟩
  rw [hbw, hbs, hbi, hz] at HE
  rw [hbs] at HSc
  rw [hbi, hbs] at v4
  rw [hbs] at hX4
  clear e2 e3 e4 z2 z3 z4 q2 q3 q4 B1 b1 hB1 E4 hfs b0 B0 HB
  have Hz := hide hz
  clear hz
  go_wp2_with fail
  refine (unhide HSc).mono ?_
  rintro e V1 ⟨rfl, rfl⟩
  clear HSc
  go_wp2_with fail
  rw [run_eql_func_nil _ _ _ _ _ Tryd.underlying26]
  go_wp2_with fail
  clear hX0 hX2 hX3 hX4 v4 hbw hbs hbi
  go_loopw [7] (fun tv wr => ∃ (t : Nat), tv = .int .i64 (t : Int) ∧ t ≤ 2 ∧ Hid (EV wr z w.heap.size bw bi bs a c a0 a1 (scL a0) ∧ Below w.heap.size w wr ∧ z ≤ wr.heap.size)) (fun tv _ => 2 - (RowKit.intOf tv).toNat)
  case atStart => exact ⟨0, by go_num, by omega, hide ⟨(unhide HE).1, (unhide HE).2, by have := unhide Hz; omega⟩⟩
  case round =>
    obtain ⟨t, rfl, ht, HI⟩ := hrel
    clear HE
    obtain ⟨E, bW, hzW⟩ := unhide HI
    have hwW : w.heap.size ≤ wr.heap.size := bW.size
    obtain ⟨Y1, hY1⟩ : ∃ Y1, wr.alloc (.cells #[.int .i64 0] 3) = Y1 := ⟨_, rfl⟩
    have e1 : Below wr.heap.size wr Y1 := by rw [← hY1]; exact (Below.refl _ _).alloc (Nat.le_refl _) _
    have z1 : Y1.heap.size = wr.heap.size + 1 := by rw [← hY1]; simp
    have N1 : Bq Y1 wr.heap.size 3 #[.int .i64 ((0 : Nat) : Int)] := by rw [← hY1]; exact Bq.new _ _ _
    by_cases h2 : t < 2
    · have h2' : (t : Int) < 2 := by omega
      obtain ⟨Y2, hY2⟩ : ∃ Y2, Y1.alloc (.cells #[.bool true] 4) = Y2 := ⟨_, rfl⟩
      have e2 : Below Y1.heap.size Y1 Y2 := by rw [← hY2]; exact (Below.refl _ _).alloc (Nat.le_refl _) _
      have O2 : Bq Y2 Y1.heap.size 4 #[.bool true] := by rw [← hY2]; exact Bq.new _ _ _
      have N2 := N1.keep e2 (by omega)
      have E2 := (E.below e1).below e2
      have b2 := bnext (bnext bW e1) e2
      have HC := hide (scan_outer b2 (unhide HT) (by omega) Y1.heap.size wr.heap.size E2 O2 N2 hzW (by omega) hwW)
      have v2 := E2.it.cell 0 _ rfl
      have H2 := hide (And.intro E2 (And.intro O2 b2))
      have HY1 := hide hY1
      have HY2 := hide hY2
      have Hz1 := hide z1
      have HzW := hide (And.intro hzW hwW)
      have Hz2 := hide e2.size
      rw [z1] at HC
      clear hY1 hY2 e1 z1 N1 e2 O2 N2 E2 b2 E bW hzW hwW HI
      go_upto_region 12 with fail
      rw [unhide HY1]
      rw [unhide HY2]
      try simp only [unhide Hz1]
      go_wp2_with fail
      refine (unhide HC).mono ?_
      rintro e Y3 ⟨rfl, hn3, kp3⟩
      obtain ⟨E2, O2, b2⟩ := unhide H2
      have E3 := E2.kp kp3 (fun i hi => by have := (unhide HzW).1; omega)
      have O3 := O2.kp kp3 (by have := unhide Hz1; omega)
      have b3 := kp3.below b2 (fun i hi => by have := (unhide HzW).2; omega)
      have y3 := O3.cell 0 _ rfl
      rw [unhide Hz1] at y3
      have n3 := hn3.cell 0 _ rfl
      have w3 := E3.wn.cell 0 _ rfl
      rw [hL] at n3 w3
      have HF := hide (And.intro E3 (And.intro b3 (show z ≤ Y3.heap.size by have := kp3.size; have := unhide Hz2; have := unhide Hz1; have := (unhide HzW).1; omega)))
      clear E2 O2 b2 E3 O3 b3 hn3 kp3 HC H2 HY1 HY2 v2
      go_wp2
      go_roundw
      case rel => exact ⟨t + 1, by go_num, by omega, HF⟩
      case measure => simp [RowKit.intOf]; omega
    · have h2' : ¬ (t : Int) < 2 := by omega
      have E1 := E.below e1
      have b1 := bnext bW e1
      have HC := hide (scan_last b1 (unhide HT) (by omega) wr.heap.size E1 N1 hzW hwW)
      have v2 := E1.it.cell 0 _ rfl
      have H2 := hide (And.intro E1 b1)
      have HY1 := hide hY1
      have HzW := hide (And.intro hzW hwW)
      clear hY1 e1 z1 N1 E1 b1 E bW hzW hwW HI
      go_upto_region 16 with fail
      rw [unhide HY1]
      go_wp2_with fail
      refine (unhide HC).mono ?_
      rintro e Y3 ⟨rfl, k, hn3, kp3, hor⟩
      obtain ⟨E2, b2⟩ := unhide H2
      have E3 := E2.kp kp3 (fun i hi => by have := (unhide HzW).1; omega)
      have b3 := kp3.below b2 (fun i hi => by have := (unhide HzW).2; omega)
      have n3 := hn3.cell 0 _ rfl
      have w3 := E3.wn.cell 0 _ rfl
      have s3 := E3.s0.cell 0 _ rfl
      rw [hL] at w3 hor
      have HB3 := hide b3
      have HK3 := hide (unhide HK _ b3)
      clear E2 b2 E3 b3 hn3 kp3 HC H2 HY1 v2 HK
      by_cases hkL : k = L
      · have hb1 : ((k : Int) == (L : Int)) = true := by simp [hkL]
        clear hor hkL
        go_wp2_with fail
        refine (unhide HK3).mono ?_
        rintro r W3 ⟨rfl, hb2⟩
        go_wp2
        go_ret
        exact ⟨rfl, bnext (unhide HB3) hb2⟩
      · have hb1 : ((k : Int) == (L : Int)) = false := by rw [beq_eq_false_iff_ne]; omega
        have hst : (k : Int) = a1 := by rcases hor with q | q; exact absurd q hkL; exact q
        have hb2 : ((k : Int) == a1) = true := by simp [hst]
        clear hor hkL hst
        go_wp2_with fail
        refine (unhide HK3).mono ?_
        rintro r W3 ⟨rfl, hb2⟩
        go_wp2
        go_ret
        exact ⟨rfl, bnext (unhide HB3) hb2⟩

theorem own : ownKnob Tryd.prog.godebug = none := by kernel_rfl

theorem door_met (os : Os) (args : Array Value) : laidMetH Tryd.prog Rows.quoteScansRow.laid ((World.doorLaid Tryd.prog 400 os).forCall (fun _ _ => 0) ⟨#[], args, []⟩).memory :=
  laidMetH_of_parts3 (fuel := 8) (laidMet_of_run' 8 (by kernel_rfl) (by kernel_rfl)) (by kernel_rfl) (by kernel_rfl)

set_option maxRecDepth 100000 in
theorem lifted (os : Os) (started : os.Started) (H : Type) (enc : TypeId × Value → H) :
    ReturnsInHanded {} Tryd.checked os 3 .any (fun w args => (Rows.quoteScansSpec.pre enc Tryd.prog Tryd.f3 [] false w args ∧ laidMetH Tryd.prog Rows.quoteScansRow.laid w) ∧ sizedMet enc Tryd.prog Tryd.f3 (OpenSpec.ofChange Rows.quoteScansSpec) false w args)
      (Rows.quoteScansSpec.post enc Tryd.prog Tryd.f3 false true false false) := by
  refine returnsInHanded_of_change_and (C := Tryd.checked) (X := fun w _ => laidMetH Tryd.prog Rows.quoteScansRow.laid w) (fun _ _ _ hh h => h.of_heap hh) own started (by kernel_rfl) Tryd.func3
    (ChangeSpec.witness_shaped (enc := enc) (C := Tryd.checked) (os := os) (X := fun w _ => laidMetH Tryd.prog Rows.quoteScansRow.laid w) false (World.doorLaid Tryd.prog 400 os) #[.string ByteArray.empty, .int .i64 0] 8 rfl (World.shaped_of_RefB (by kernel_rfl) (by kernel_rfl)) (by kernel_rfl) (by kernel_rfl) (by kernel_rfl) (door_met os _)) ?_
  intro W base args ds gs before hval0 hW _ _ hL _
  rw [MakeChecks.laidMetH_plain _ _ _ (by kernel_rfl)] at hL
  have hT := lw_of (by kernel_rfl) (by kernel_rfl) (by kernel_rfl) (by kernel_rfl) hL
  have hval : ∀ (j : Nat) t v, Tryd.f3.params[j]? = some t → args[j]? = some v → Value.okWide Tryd.prog W .any base t v := hval0
  have hW' := hW
  obtain ⟨p, q, hA0, hV, rfl, hfz, hnd⟩ := hW
  have hA : DataW.TrodAll enc Tryd.prog W 0 (fun _ => true) true Tryd.f3.params.toList args.toList ds p := hA0
  rw [Tryd.params3] at hA hval
  obtain ⟨v0, vs0, d0, ds0, p0, q0, hargs, rfl, rfl, h0, r0⟩ := trodAll_cons hA
  obtain ⟨v1, vs1, d1, ds1, p1, q1, rfl, rfl, rfl, h1, r1⟩ := trodAll_cons r0
  obtain ⟨rfl, rfl, rfl⟩ := trodAll_nil r1
  obtain rfl : args = #[v0, v1] := by cases args; simp_all
  obtain ⟨rfl, rfl⟩ := trodVars_none hV
  obtain ⟨a0, rfl, rfl, rfl, w0⟩ := open_string Tryd.underlying9 (hval 0 9 v0 rfl rfl) h0
  obtain ⟨a1, rfl, rfl, rfl, w1⟩ := open_int Tryd.underlying3 (hval 1 3 v1 rfl rfl) h1
  clear hA0 hval0
  simp only [List.append_nil] at hW'
  refine (walk a0 a1 w0 w1 W hT).mono fun e W' ⟨he, bel⟩ => ?_
  subst he
  exact ⟨_, rfl, _, _, _, [], _, [], hW', trodAll_mk1 (shut_bool Tryd.underlying4 _), (trodAll_cons_mk (shut_string Tryd.underlying9 w0) (trodAll_cons_mk (shut_int Tryd.underlying3 w1) trodAll_mk0)), rfl, bel.frame _, fun h => by cases h⟩

theorem over : Rows.quoteScansRow.holds Tryd.pinned (OpenSpec.ofChange Rows.quoteScansSpec) :=
  OpenClaim.holds_of_wide 3 Tryd.f3 rfl rfl rfl rfl rfl rfl rfl ⟨rfl, rfl, rfl, rfl, rfl⟩ rfl rfl rfl rfl rfl (by kernel_rfl) Tryd.func3 (by kernel_rfl)
    (of_decide_eq_true (by kernel_rfl)) (by unfold Func.isWrapper; first | (rw [if_pos (by decide +kernel)]; kernel_rfl) | (rw [if_neg (by decide +kernel)]; exact ⟨rfl, rfl⟩))
    (fun os started H enc _ => lifted os started H enc)

end LQuoteScans

theorem quoteScans_holds : Rows.QuoteScansCardSaid :=
  Claim7.holds_tied_plain_at .later [] [.data, .data, .data, .sentinel, .sentinel] true (true, "092fe8d34d9df1be97bc4617bdef90684daafc11baf9ac017afb4a307ec0b033") true
    LQuoteScans.over (fun _ h => by cases h) (by kernel_rfl) (fun _ h => by cases h) quoteScans_row_tie rfl ⟨rfl, rfl⟩ (by kernel_rfl) rfl
    (fun f fn hf hfn => by
      obtain rfl : f = 3 := Option.some.inj ((show Tryd.prog.funcNamed Rows.quoteScansRow.func = some 3 by kernel_rfl).symm.trans hf) |>.symm
      obtain rfl : fn = Tryd.f3 := (Option.some.inj (Tryd.func3.symm.trans hfn)).symm
      exact ⟨by kernel_rfl, fun j t ht => by
        rw [Tryd.params3] at ht
        have hm : t ∈ [9, 3] := by simpa using Array.mem_of_getElem? ht
        have hall : ([9, 3].all fun u => !Tryd.prog.wantsStandIn u) = true := by kernel_rfl
        exact (show Tryd.prog.wantsStandIn t = false by simpa using List.all_eq_true.1 hall t hm)⟩)
    (by kernel_rfl)

end Go.Proofs.YticjilkcobpcjaaDoor
