/-
  A region that draws its order, whose operations only read, and whose callees leave what was there.
-/
import Derived.Test.YtkndjbmlkfpfoaaGreatDoorZTOToTQ
import Derived.Deep.QuietTactic
import Derived.BigQuiet
import Derived.Test.YtkndjbmlkfpfoaaGreatDoorZDP0ToDPp
import Derived.Deep.CutRange

set_option linter.unusedSimpArgs false
set_option linter.unusedVariables false
namespace Go.Proofs.YtkndjbmlkfpfoaaGreatDoor
open Go.RowKit Go.Lib

/-- a world in which all that was there is as it was -/
structure BelowOf (W0 : World) where
  w : World
  h : Below W0.heap.size W0 w

theorem wp_region_quiet_below {P : Program} {id : Nat} {Q : Exit → Act → World → Prop} {a : Act} {w : World} {l : List Oper} (hm : P.follows .mixedOrders = true) (hB : Region.lexB .any l.toArray = true)
    (h : wpQuiet P l.toArray (fun w' => ∃ p : BelowOf w, w' = p.w) (fun a' => ∀ w', (∃ p : BelowOf w, w' = p.w) → Q .normal a' w') l a) : (Code.region id l.toArray true).wp P Q a w :=
  wp_region_quiet (C := fun w' => ∃ p : BelowOf w, w' = p.w) hm hB ⟨⟨w.drew, (Below.refl _ _).drew⟩, rfl⟩ (by simpa using h)

theorem below_of {P : Program} {f : FuncId} {args : Array Value} {w : World} {p : BelowOf w} {v : Value}
    (h : Calls P f args p.w fun e w' => e = .returned v ∧ Below p.w.heap.size p.w w') : Calls P f args p.w fun e w'' => e = .returned v ∧ ∃ p : BelowOf w, w'' = p.w :=
  h.mono fun _ W' ⟨he, hb⟩ => ⟨he, ⟨W', bnext p.h hb⟩, rfl⟩

theorem BelowOf.ne (X : World) : Nonempty (BelowOf X) := ⟨⟨X, Below.refl _ _⟩⟩

end Go.Proofs.YtkndjbmlkfpfoaaGreatDoor

/-
  The document's step: what a line's words say.
-/
set_option linter.unusedSimpArgs false
set_option linter.unusedVariables false
namespace Go.Proofs.YtkndjbmlkfpfoaaGreatDoor
open Go.RowKit Go.Lib

set_option maxRecDepth 100000 in
set_option maxHeartbeats 8000000 in
theorem refStep_in {W : World} {wv : Value} {l : List It} (hr : RW W wv l) (hne : l ≠ []) (hl : l.length ≤ 1000000) (hts : ∀ x ∈ l, x.w.t.size ≤ 1000000) :
    Calls Tryz.prog 27 #[wv] W (RdA W (fstR l)) := by
  obtain ⟨x, l1, rfl⟩ : ∃ x l1, l = x :: l1 := by cases l with | nil => exact absurd rfl hne | cons x l1 => exact ⟨x, l1, rfl⟩
  obtain ⟨a0, c0, rfl⟩ := hr.form
  obtain ⟨g, off, rfl, hglt, w0, w1, w2, w3, w4⟩ := hr.at (i := 0) (x := x) rfl
  rw [Nat.zero_mul, Nat.add_zero] at w0 w1
  obtain ⟨N, hN⟩ : ∃ N, (x :: l1).length = N := ⟨_, rfl⟩
  rw [hN] at hr hl ⊢
  have hN0 : (0 : Int) < (N : Int) := by rw [← hN, List.length_cons]; omega
  obtain ⟨X, hX⟩ : ∃ X, (W.alloc (.cells zSt 40)).alloc (.cells zSt 40) = X := ⟨_, rfl⟩
  have hbX : Below W.heap.size W X := by rw [← hX]; exact ballc (ballc (Below.refl _ _) _) _
  have q0 : Bq X W.heap.size 40 zSt := by
    rw [← hX]
    exact (Bq.new W _ _).keep (ballc (Below.refl _ _) _) (Bq.new W _ _).lt
  have q1 : Bq X (W.heap.size + 1) 40 (spC (sp0 (kdF x 0 : Nat)) (.slice none 0 0) (.slice none 0 0)) := by
    rw [← hX]
    have := Bq.new (W.alloc (.cells zSt 40)) 40 zSt
    rw [World.size_alloc] at this
    exact this
  have HR := hide hr
  have HTS := hide hts
  have HN := hide hN
  have HW0 := hide w0
  have HW1 := hide w1
  have HS0 := hide (show Bq X (W.heap.size + 1) 40 (spC (sp0 (kdF x 0 : Nat)) (.slice none 0 0) (.slice none 0 0)) ∧ Bq X W.heap.size 40 zSt ∧ Below W.heap.size W X from ⟨q1, q0, hbX⟩)
  unfold zSt at hX
  clear hr hts w0 w1 w2 w3 w4 q0 q1 hbX hne hN
  go_enter Tryz.func27, Tryz.ntmps27
  go_wp2_with fail
  go_loopw [5] (fun v5 wr => ∃ (j : Nat), v5 = .int .i64 ((j : Int) + 1) ∧ j ≤ 14 ∧ Hid (Bq wr (W.heap.size + 1) 40 (spC (sp0 (kdF x j : Nat)) (.slice none 0 0) (.slice none 0 0)) ∧ Bq wr W.heap.size 40 zSt ∧ Below W.heap.size W wr)) (fun v5 _ => 15 - (RowKit.intOf v5).toNat)
  case atStart => exact ⟨0, rfl, Nat.zero_le _, HS0⟩
  case round =>
    obtain ⟨j, rfl, hj, H⟩ := hrel
    clear HS0
    by_cases hjl : j < 14
    · have k5 : decide ((j : Int) + 1 ≤ 14) = true := by simp; omega
      have hw0 := cell_below (unhide HW0) (unhide H).2.2
      have hw1 := cell_below (unhide HW1) (unhide H).2.2
      go_upto_region 5 with fail
      go_cut [28] from 15 to 28 (fun v wx => v = .bool (hitB x j) ∧ Hid (Below wr.heap.size wr wx))
      case first =>
        have mixed : Tryz.prog.follows .mixedOrders = true := by kernel_rfl
        have hne := BelowOf.ne wr
        have m0 : ∀ q : BelowOf wr, q.w.cell? ⟨g, off, none⟩ = some (.int .i64 (x.w.k : Int)) := fun q => cell_below hw0 q.h
        have m1 : ∀ q : BelowOf wr, q.w.cell? ⟨g, off + 1, none⟩ = some (.string x.w.t) := fun q => cell_below hw1 q.h
        by_cases hk : x.w.k = 1
        · have kx : ((x.w.k : Int) == 1) = true := by rw [hk]; rfl
          have HC := hide (fun (V : World) => (name_in ((j : Int) + 1) V).mono (fun e W' h => (show e = .returned (.string (ofL (tnm.getD j []))) ∧ Below V.heap.size V W' from ⟨by rw [h.1, nmT_at j hjl], h.2⟩)))
          have hh : hitB x j = (x.w.t.toList == (ofL (tnm.getD j [])).toList) := by
            rw [lists_beq]
            unfold hitB
            rw [hk]
            by_cases htx : x.w.t = ofL (tnm.getD j [])
            · rw [htx]; simp
            · rw [decide_eq_false htx, decide_eq_false (fun e => htx (toList_inj e))]; simp
          obtain ⟨nm, hnm⟩ : ∃ nm, ofL (tnm.getD j []) = nm := ⟨_, rfl⟩
          rw [hnm] at HC hh
          have HH := hide hh
          clear hh hnm hk hw0 hw1 H
          refine wp_region_quiet_below mixed (by kernel_rfl) ?_
          repeat (any_goals (first | go_big_quiet_step ((go_at_call 32; exact below_of (unhide HC _))) | quiet_step ((go_at_call 32; exact below_of (unhide HC _)))))
          all_goals (refine wpQuiet_nil ?_; intro _ hw'; obtain ⟨q, hw''⟩ := hw'; subst hw'')
          all_goals (
            have HB9 := hide q.h
            go_wp2
            go_meet
            case rel => exact ⟨by rw [unhide HH], HB9⟩)
        · have kx : ((x.w.k : Int) == 1) = false := by rw [beq_eq_false_iff_ne]; omega
          have hh : hitB x j = false := by unfold hitB; simp [hk]
          have HH := hide hh
          clear hh hk hw0 hw1 H
          refine wp_region_quiet_below mixed (by kernel_rfl) ?_
          repeat (any_goals (first | go_big_quiet_step (skip) | quiet_step (skip)))
          all_goals (refine wpQuiet_nil ?_; intro _ hw'; obtain ⟨q, hw''⟩ := hw'; subst hw'')
          all_goals (
            have HB9 := hide q.h
            go_wp2
            go_meet
            case rel => exact ⟨by rw [unhide HH], HB9⟩)
      case rest =>
      obtain ⟨rfl, hcut⟩ := hcut
      have hb5 := unhide hcut
      have z1 := (unhide H).1.keep hb5 (unhide H).1.lt
      have z0 := (unhide H).2.1.keep hb5 (unhide H).2.1.lt
      have bZ := bnext (unhide H).2.2 hb5
      have hkd : kdF x (j + 1) = if hitB x j = true then j + 1 else kdF x j := rfl
      cases hh : hitB x j with
      | true =>
        rw [hh, if_pos rfl] at hkd
        have kT := Kp.set (N := fun i => i = W.heap.size + 1) wc ⟨W.heap.size + 1, 0, none⟩ (.int .i64 ((j : Int) + 1)) rfl
        have HNX := hide (show Bq (wc.setCell ⟨W.heap.size + 1, 0, none⟩ (.int .i64 ((j : Int) + 1))) (W.heap.size + 1) 40 (spC (sp0 (kdF x (j + 1) : Nat)) (.slice none 0 0) (.slice none 0 0)) ∧ Bq (wc.setCell ⟨W.heap.size + 1, 0, none⟩ (.int .i64 ((j : Int) + 1))) W.heap.size 40 zSt ∧ Below W.heap.size W (wc.setCell ⟨W.heap.size + 1, 0, none⟩ (.int .i64 ((j : Int) + 1))) from ⟨by rw [hkd]; exact z1.sets 0 (.int .i64 ((j : Int) + 1)), z0.kp kT (by omega), kT.below bZ (fun i e => by omega)⟩)
        have y0 := z1.cell 0 _ rfl
        have y1 := z1.frozen 0
        have y2 := z1.lt
        clear z1 z0 bZ hkd kT hcut hb5 H hw0 hw1
        go_wp2
        go_roundw
        case rel => exact ⟨j + 1, by go_num, by omega, HNX⟩
        case measure => simp [RowKit.intOf]; omega
      | false =>
        rw [hh] at hkd
        have hkd2 : kdF x (j + 1) = kdF x j := hkd
        have HNX := hide (show Bq wc (W.heap.size + 1) 40 (spC (sp0 (kdF x (j + 1) : Nat)) (.slice none 0 0) (.slice none 0 0)) ∧ Bq wc W.heap.size 40 zSt ∧ Below W.heap.size W wc from ⟨by rw [hkd2]; exact z1, z0, bZ⟩)
        clear z1 z0 bZ hkd hkd2 hcut hb5 H hw0 hw1
        go_wp2
        go_roundw
        case rel => exact ⟨j + 1, by go_num, by omega, HNX⟩
        case measure => simp [RowKit.intOf]; omega
    · have hj14 : j = 14 := by omega
      obtain ⟨E, hE⟩ : ∃ E, (j : Int) + 1 = E := ⟨_, rfl⟩
      rw [hE]
      have k5 : decide (E ≤ 14) = false := by rw [decide_eq_false_iff_not]; omega
      obtain ⟨q1, q0, hbw⟩ := unhide H
      rw [hj14] at q1
      have hzw := hbw.size
      obtain ⟨Z, hZ⟩ : ∃ Z, wr = Z := ⟨_, rfl⟩
      rw [hZ] at q1 q0 hbw hzw ⊢
      clear H hj hjl hX hj14 hE
      have b1W : W.heap.size + 1 < Z.heap.size := q1.lt
      rcases kdF_cases x 14 with ⟨h0, hm⟩ | ⟨i, hi, h1, hit⟩
      · rw [h0] at q1
        have y0 := q1.cell 0 (.int .i64 0) rfl
        have kS := kp_setRow Z W.heap.size (spC (sp0 0) (.slice none 0 0) (.slice none 0 0))
        have HG := hide (show Bq Z (W.heap.size + 1) 40 (spC (sp0 0) (.slice none 0 0) (.slice none 0 0)) ∧ Bq Z W.heap.size 40 zSt from ⟨q1, q0⟩)
        have HO := hide (spC_one (sp0 0) none 0 0 none 0 0)
        have HZ := hide (show RdA W (fstR (x :: l1)) (.returned (.tuple #[.agg (spC (sp0 0) (.slice none 0 0) (.slice none 0 0)), .bool false])) (Z.setRow W.heap.size (spC (sp0 0) (.slice none 0 0) (.slice none 0 0))) from by
          rw [fstR_miss l1 hm]
          exact ⟨sp0 0, none, 0, 0, none, 0, 0, rfl, kS.below hbw (fun i e => by omega)⟩)
        clear q1 q0 hbw kS hm h0 hZ
        go_wp2_with (first | refine wpl_loadS rfl _ rfl rfl (unhide HG).1 rfl ?_ | refine wpl_storeS (cs := spC (sp0 0) (.slice none 0 0) (.slice none 0 0)) rfl _ _ rfl rfl rfl (unhide HG).2 rfl rfl (unhide HO) ?_)
        refine bodyPost_ret (results_ctS rfl _ _ W.heap.size _ (spC (sp0 0) (.slice none 0 0) (.slice none 0 0)) _ _ rfl (setRow_heap _ _ _ (spC (sp0 0) (.slice none 0 0) (.slice none 0 0)) _ _ (unhide HG).2) Tryz.underlying40 rfl sizeSt) rfl ?_
        exact unhide HZ
      obtain ⟨K, hK⟩ : ∃ K : Int, ((i + 1 : Nat) : Int) = K := ⟨_, rfl⟩
      have hKi : K = (i : Int) + 1 := by omega
      rw [h1, hK] at q1
      have hfst := fstR_hit l1 hi hit
      rw [← hKi] at hfst
      have y0 := q1.cell 0 (.int .i64 K) rfl
      have ky : (K == 0) = false := by rw [beq_eq_false_iff_ne]; omega
      have HKi := hide hKi
      clear hKi
      have hr1 : RW W (.slice (some ⟨g, off + 5, none⟩) (N - 1) (c0 - 1)) l1 := (unhide HR).drop 1 (by rw [List.length_cons]; omega)
      have hN1 : N - 1 = l1.length := by rw [← unhide HN, List.length_cons]; omega
      have hcN : N ≤ c0 := by
        rcases unhide HR with ⟨h0, _⟩ | ⟨_, _, _, e9, hn9, _⟩
        · simp at h0
        · simp at e9; rw [e9.2.2, ← unhide HN]; exact hn9
      have kcN : (N : Int) ≤ (c0 : Int) := by omega
      have k1N : (1 : Int) ≤ (N : Int) := by omega
      have HFst := hide hfst
      have HR1 := hide hr1
      have HN1 := hide hN1
      have HS1 := hide (show Bq Z (W.heap.size + 1) 40 (spC (sp0 K) (.slice none 0 0) (.slice none 0 0)) ∧ Bq Z W.heap.size 40 zSt ∧ Below W.heap.size W Z from ⟨q1, q0, hbw⟩)
      clear hfst hr1 hN1 q1 q0 hbw hit h1 HW0 HW1 HR hZ hK
      go_upto_region 10 with fail
      obtain ⟨la, hla⟩ : ∃ la, (if c0 = 1 then some (⟨g, off, none⟩ : Addr) else some ⟨g, off + 5, none⟩) = la := ⟨_, rfl⟩
      have hR0 : RW W (.slice la (N - 1) (c0 - 1)) l1 := by
        rw [← hla]
        by_cases hc1 : c0 = 1
        · rw [if_pos hc1]
          have h0 : N - 1 = 0 := by omega
          have := unhide HN1
          rw [h0] at this ⊢
          obtain rfl := List.eq_nil_of_length_eq_zero this.symm
          exact RC.nil _ _ _
        · rw [if_neg hc1]; exact unhide HR1
      rw [hla]
      obtain ⟨M, hM⟩ : ∃ M, N - 1 = M := ⟨_, rfl⟩
      obtain ⟨c1, hc1⟩ : ∃ c, c0 - 1 = c := ⟨_, rfl⟩
      have hM6 : M ≤ 1000000 := by omega
      rw [hM] at hR0 HN1 ⊢
      rw [hc1] at hR0 ⊢
      have HR0 := hide hR0
      have y0 := (unhide HS1).1.cell 0 (.int .i64 K) rfl
      clear hla hR0 HR1 hM hc1 hcN kcN k1N hglt hzw
      by_cases hi5 : i = 5
      · have h6 : K = 6 := by have := unhide HKi; omega
        have hfst : fstR (x :: l1) = if allN l1 = true then some ((sp0 K).dr (l1.map fun x => x.w.n)) else none := by rw [unhide HFst, h6, hi5]; exact rd_tick l1
        have k6' : (K == 6) = true := by rw [h6]; rfl
        clear h6 hi5 HKi
        have HFS := hide hfst
        have HST := hide (show ∃ dvj, StO W.heap.size Z (W.heap.size + 1) ((sp0 K).dr ((l1.take 0).map fun x => x.w.n)) dvj (.slice none 0 0) ∧ Bq Z W.heap.size 40 zSt ∧ Below W.heap.size W Z ∧ allN (l1.take 0) = true from ⟨.slice none 0 0, ⟨(unhide HS1).1, World.ownsRow_nil _ _ _ _, .inl ⟨rfl, rfl⟩⟩, (unhide HS1).2.1, (unhide HS1).2.2, rfl⟩)
        clear hfst HFst HS1
        go_wp2_with fail
        go_loopw [3, 6] (fun v3 v6 wr => ∃ (j : Nat), v6 = .int .i64 (j : Int) ∧ j ≤ M ∧ Hid (∃ dvj, StO W.heap.size wr (W.heap.size + 1) ((sp0 K).dr ((l1.take j).map fun x => x.w.n)) dvj (.slice none 0 0) ∧ Bq wr W.heap.size 40 zSt ∧ Below W.heap.size W wr ∧ allN (l1.take j) = true)) (fun _ v6 _ => M - (RowKit.intOf v6).toNat)
        case atStart => exact ⟨0, rfl, Nat.zero_le _, HST⟩
        case round =>
          clear HST
          obtain ⟨j, rfl, hj, H⟩ := hrel
          obtain ⟨dvj, hs, hres, hbw, hall⟩ := unhide H
          obtain ⟨a, c, ef⟩ := owns_form hs.dr
          obtain ⟨m, hm⟩ : ∃ m, ((sp0 K).dr ((l1.take j).map fun x => x.w.n)).draws.length = m := ⟨_, rfl⟩
          rw [hm] at ef
          subst ef
          have hml : m ≤ 100000000 := by rw [← hm]; show ((l1.take j).map fun x => x.w.n).length ≤ _; simp; omega
          obtain ⟨sj, hsj⟩ : ∃ s, (sp0 K).dr ((l1.take j).map fun x => x.w.n) = s := ⟨_, rfl⟩
          by_cases hjl : j < M
          · obtain ⟨y, hy⟩ : ∃ y, l1[j]? = some y := ⟨_, List.getElem?_eq_getElem (by rw [← unhide HN1]; exact hjl)⟩
            obtain ⟨gy, oy, rfl, hgy, p0, p1, p2, p3, p4⟩ := (unhide HR0).at hy
            have d0 := cell_below p0 hbw
            have d2 := cell_below p2 hbw
            have k5 : (j : Int) < (M : Int) := by omega
            have k6 : (0 : Int) ≤ (j : Int) := by omega
            by_cases h3 : y.w.k = 3
            · have kx : ((y.w.k : Int) != 3) = false := by rw [h3]; rfl
              have hb2 := ballc (Below.refl _ wr) (.cells #[.int .i64 y.w.n] 3)
              have hbx2 := Bq.new wr 3 #[.int .i64 y.w.n]
              obtain ⟨V, hV⟩ : ∃ V, (wr.alloc (.cells #[.int .i64 y.w.n] 3)).drew = V := ⟨_, rfl⟩
              have hbV : Below wr.heap.size wr V := by rw [← hV]; exact hb2.drew
              have hsV : StO W.heap.size V (W.heap.size + 1) ((sp0 K).dr ((l1.take j).map fun x => x.w.n)) (.slice a m c) (.slice none 0 0) := by
                have hs2 := hs.below hb2
                rw [← hV]
                exact ⟨hs2.bx, hs2.dr, hs2.by_⟩
              have hrV : Bq V W.heap.size 40 zSt := by rw [← hV]; exact hres.keep hb2.drew hres.lt
              have hxV : Bq V wr.heap.size 3 #[.int .i64 y.w.n] := by rw [← hV]; exact hbx2
              obtain ⟨v', w', e1, e2, e3, e4⟩ := append_num V 37 W.heap.size (.slice a m c) _ y.w.n _ hsV.dr hxV (Nat.le_trans hbw.size hbV.size) (by omega)
              obtain ⟨a', c', ef'⟩ := owns_form e2
              have hm' : (((sp0 K).dr ((l1.take j).map fun x => x.w.n)).draws ++ [y.w.n]).length = m + 1 := by rw [List.length_append, hm]; rfl
              rw [hm'] at e2 ef'
              subst ef'
              have kg := Kp.of_grown (N := fun k => (Value.slice a m c).ownBlock = some k) e3 (fun k hk => hk)
              have hnb : (Value.slice a m c).ownBlock ≠ some (W.heap.size + 1) := owns_ty hsV.dr hsV.bx (by decide)
              have hnr : (Value.slice a m c).ownBlock ≠ some W.heap.size := owns_ty hsV.dr hrV (by decide)
              have hbw' := hsV.bx.kp kg hnb
              have hrw' := hrV.kp kg hnr
              have hnb' : (Value.slice a' (m + 1) c').ownBlock ≠ some (W.heap.size + 1) := owns_ty e2 hbw' (by decide)
              have cb' := hbw'.cell 7 (.slice a m c) rfl
              have fb' := hbw'.frozen 7
              have kset := Kp.set (N := fun i => i = W.heap.size + 1) w' ⟨W.heap.size + 1, 7, none⟩ (.slice a' (m + 1) c') rfl
              have hset : StO W.heap.size (w'.setCell ⟨W.heap.size + 1, 7, none⟩ (.slice a' (m + 1) c')) (W.heap.size + 1) ((sp0 K).dr ((l1.take (j + 1)).map fun x => x.w.n)) (.slice a' (m + 1) c') (.slice none 0 0) := by
                refine ⟨hbw'.sets 7 (.slice a' (m + 1) c'), ?_, .inl ⟨rfl, rfl⟩⟩
                rw [nums_take hy]
                rw [show ((sp0 K).dr (((l1.take j).map fun x => x.w.n) ++ [y.w.n])).draws.length = m + 1 from hm']
                exact owns_kp e2 kset (fun i hi e => hnb' (by rw [hi, e]))
              have hres' := hrw'.kp kset (by omega)
              have hbel : Below W.heap.size W (w'.setCell ⟨W.heap.size + 1, 7, none⟩ (.slice a' (m + 1) c')) := kset.below (kg.below (bnext hbw hbV) (fun i hi => (World.ownsRow.lt hsV.dr i hi).1)) (fun i e => by omega)
              have HN2 := hide (show ∃ dvj, StO W.heap.size (w'.setCell ⟨W.heap.size + 1, 7, none⟩ (.slice a' (m + 1) c')) (W.heap.size + 1) ((sp0 K).dr ((l1.take (j + 1)).map fun x => x.w.n)) dvj (.slice none 0 0) ∧ Bq (w'.setCell ⟨W.heap.size + 1, 7, none⟩ (.slice a' (m + 1) c')) W.heap.size 40 zSt ∧ Below W.heap.size W (w'.setCell ⟨W.heap.size + 1, 7, none⟩ (.slice a' (m + 1) c')) ∧ allN (l1.take (j + 1)) = true from ⟨_, hset, hres', hbel, allN_take hy h3 hall⟩)
              rw [← hV] at e1
              have cb0 := hs.bx.cell 7 (.slice a m c) rfl
              have cb2 := cell_below cb0 hb2
              have d22 := cell_below d2 hb2
              have HA := hide e1
              clear hs hres hbw hall hy p0 p1 p2 p3 p4 hm hml hb2 hbx2 hbV hsV hrV hxV e1 e2 e3 e4 hm' kg hnb hnr hbw' hrw' hnb' kset hset hres' hbel hV h3 H hgy hsj
              go_upto_region 16 with fail
              go_region_law (refine step_append_eq rfl (.tmp 54) (.tmp 60) 37 rfl _ _ _ (by simp [Act.eval, Act.put]) (by simp [Act.eval, Act.put]) (unhide HA) ?_)
              all_goals (
                go_wp2
                go_roundw
                case rel => exact ⟨j + 1, by go_num, by omega, HN2⟩
                case measure => simp [RowKit.intOf]; omega)
            · have kx : ((y.w.k : Int) != 3) = true := by rw [bne_iff_ne]; omega
              rw [hsj] at hs
              have kS := kp_setRow wr W.heap.size (spC sj (.slice a m c) (.slice none 0 0))
              have HG := hide (show Bq wr (W.heap.size + 1) 40 (spC sj (.slice a m c) (.slice none 0 0)) ∧ Bq wr W.heap.size 40 zSt from ⟨hs.bx, hres⟩)
              have HO := hide (spC_one sj a m c none 0 0)
              have HZ := hide (show RdA W (fstR (x :: l1)) (.returned (.tuple #[.agg (spC sj (.slice a m c) (.slice none 0 0)), .bool false])) (wr.setRow W.heap.size (spC sj (.slice a m c) (.slice none 0 0))) from by
                rw [unhide HFS, allN_not hy h3, if_neg (by simp)]
                exact ⟨sj, a, m, c, none, 0, 0, rfl, kS.below hbw (fun i e => by omega)⟩)
              clear hs hres hbw hall hy p0 p1 p2 p3 p4 hm hml h3 H hgy hsj kS d2
              go_wp2_with (first | refine wpl_loadS rfl _ rfl rfl (unhide HG).1 rfl ?_ | refine wpl_storeS (cs := spC sj (.slice a m c) (.slice none 0 0)) rfl _ _ rfl rfl rfl (unhide HG).2 rfl rfl (unhide HO) ?_)
              refine bodyPost_ret (results_ctS rfl _ _ W.heap.size _ (spC sj (.slice a m c) (.slice none 0 0)) _ _ rfl (setRow_heap _ _ _ (spC sj (.slice a m c) (.slice none 0 0)) _ _ (unhide HG).2) Tryz.underlying40 rfl sizeSt) rfl ?_
              exact unhide HZ
          · obtain rfl : j = M := by omega
            have kd : decide ((j : Int) < (j : Int)) = false := by simp
            have e1 : l1.take j = l1 := List.take_of_length_le (by rw [← unhide HN1]; exact Nat.le_refl _)
            rw [e1] at hall
            rw [hsj] at hs
            have hsj2 : (sp0 K).dr (l1.map fun x => x.w.n) = sj := by rw [← hsj, e1]
            have kS := kp_setRow wr W.heap.size (spC sj (.slice a m c) (.slice none 0 0))
            have HG := hide (show Bq wr (W.heap.size + 1) 40 (spC sj (.slice a m c) (.slice none 0 0)) ∧ Bq wr W.heap.size 40 zSt from ⟨hs.bx, hres⟩)
            have HO := hide (spC_one sj a m c none 0 0)
            have HZ := hide (show RdA W (fstR (x :: l1)) (.returned (.tuple #[.agg (spC sj (.slice a m c) (.slice none 0 0)), .bool true])) (wr.setRow W.heap.size (spC sj (.slice a m c) (.slice none 0 0))) from by
              rw [unhide HFS, if_pos hall, hsj2]
              exact ⟨_, _, rfl, ⟨owns_kp hs.dr kS (fun q hq e => owns_ty hs.dr hres (by decide) (by rw [hq, e])), ownsF_kp hs.by_ kS (fun q hq e => ownsF_ty hs.by_ hres (by decide) (by rw [hq, e]))⟩, kS.below hbw (fun i e => by omega)⟩)
            clear hs hres hbw hall hm hml H hsj kS e1 hsj2
            go_wp2_with (first | refine wpl_loadS rfl _ rfl rfl (unhide HG).1 rfl ?_ | refine wpl_storeS (cs := spC sj (.slice a m c) (.slice none 0 0)) rfl _ _ rfl rfl rfl (unhide HG).2 rfl rfl (unhide HO) ?_)
            refine bodyPost_ret (results_ctS rfl _ _ W.heap.size _ (spC sj (.slice a m c) (.slice none 0 0)) _ _ rfl (setRow_heap _ _ _ (spC sj (.slice a m c) (.slice none 0 0)) _ _ (unhide HG).2) Tryz.underlying40 rfl sizeSt) rfl ?_
            exact unhide HZ
      · have k6' : (K == 6) = false := by rw [beq_eq_false_iff_ne]; have := unhide HKi; omega
        have hsh : shT K = (tfl.getD i []).map fun f => UInt8.ofNat (lfF f) := by rw [unhide HKi, shT_at i hi, tsh_tfl i hi hi5]
        have hf4 := tfl_ne4 i hi hi5
        have hf7 := tfl_lt i hi
        have hl3 := tfl_le i hi
        obtain ⟨fl, hfl⟩ : ∃ fl, tfl.getD i [] = fl := ⟨_, rfl⟩
        rw [hfl] at hsh hf4 hf7 hl3 HFst
        obtain ⟨sh, hsh2⟩ : ∃ sh, ofL (shT K) = sh := ⟨_, rfl⟩
        have hss : sh.size = fl.length := by rw [← hsh2, ofL_size, hsh, List.length_map]
        have hat : ∀ (j f : Nat), fl[j]? = some f → by_ sh j = lfF f := fun j f h => by rw [← hsh2, hsh]; exact lf_at h (hf7 f (List.mem_of_getElem? h))
        obtain ⟨n, hn⟩ : ∃ n, fl.length = n := ⟨_, rfl⟩
        rw [hn] at hss hl3
        have HSS := hide hss
        have HAT := hide hat
        have HF4 := hide hf4
        have HF7 := hide hf7
        have HNn := hide hn
        have hcall := hide (fun V => shape_in K V)
        rw [hsh2] at hcall
        clear hsh hf4 hf7 hfl hsh2 hss hat hn hi5 hi HKi
        go_wp2_with fail
        refine (unhide hcall _).mono ?_
        rintro e W2 ⟨rfl, rfl⟩
        clear hcall
        by_cases hlen : M = n
        · have kl : ((M : Int) != ((sh.size : Nat) : Int)) = false := by rw [unhide HSS, hlen]; simp
          have HST := hide (show ∃ (s' : Sp) (a2 : Option Addr) (n2 c2 : Nat), rdFs (fl.take 0) (sp0 K) l1 = some (s', l1.drop 0) ∧ s'.draws = [] ∧ Bq W2 (W.heap.size + 1) 40 (spC s' (.slice none 0 0) (.slice a2 n2 c2)) ∧ OwB W2 W.heap.size (.slice a2 n2 c2) s'.data ∧ Bq W2 W.heap.size 40 zSt ∧ Below W.heap.size W W2 from ⟨sp0 K, none, 0, 0, rfl, rfl, (unhide HS1).1, .inl ⟨rfl, rfl⟩, (unhide HS1).2.1, (unhide HS1).2.2⟩)
          have HLEN := hide hlen
          clear HS1 y0 hlen
          go_wp2_with fail
          go_loopw [8] (fun v8 wr => ∃ (j : Nat), v8 = .int .i64 (j : Int) ∧ j ≤ n ∧ Hid (∃ (s' : Sp) (a2 : Option Addr) (n2 c2 : Nat), rdFs (fl.take j) (sp0 K) l1 = some (s', l1.drop j) ∧ s'.draws = [] ∧ Bq wr (W.heap.size + 1) 40 (spC s' (.slice none 0 0) (.slice a2 n2 c2)) ∧ OwB wr W.heap.size (.slice a2 n2 c2) s'.data ∧ Bq wr W.heap.size 40 zSt ∧ Below W.heap.size W wr)) (fun v8 _ => n - (RowKit.intOf v8).toNat)
          case atStart => exact ⟨0, rfl, Nat.zero_le _, HST⟩
          case round =>
            clear HST
            obtain ⟨j, rfl, hj, H⟩ := hrel
            obtain ⟨s', a2, n2, c2, hrd, hdr, hbx, how, hres, hbw⟩ := unhide H
            by_cases hjl : j < n
            · obtain ⟨f, hf⟩ : ∃ f, fl[j]? = some f := ⟨_, List.getElem?_eq_getElem (by rw [unhide HNn]; exact hjl)⟩
              obtain ⟨y, hy⟩ : ∃ y, l1[j]? = some y := ⟨_, List.getElem?_eq_getElem (by rw [← unhide HN1, unhide HLEN]; exact hjl)⟩
              obtain ⟨gy, oy, rfl, hgy, p0, p1, p2, p3, p4⟩ := (unhide HR0).at hy
              have d0 := cell_below p0 hbw
              have d1 := cell_below p1 hbw
              have d2 := cell_below p2 hbw
              have d3 := cell_below p3 hbw
              have d4 := cell_below p4 hbw
              have c0' := hbx.cell 0 (.int .i64 s'.kind) rfl
              have c1' := hbx.cell 1 (.int .i64 s'.site) rfl
              have c2' := hbx.cell 2 (.int .i64 s'.peer) rfl
              have c3' := hbx.cell 3 (.int .i64 s'.unit) rfl
              have c4' := hbx.cell 4 (.int .i64 s'.at_) rfl
              have c5' := hbx.cell 5 (.int .i64 s'.n) rfl
              have c6' := hbx.cell 6 (.string s'.text) rfl
              have c7' := hbx.cell 7 (.slice none 0 0) rfl
              have c8' := hbx.cell 8 (.slice a2 n2 c2) rfl
              have hba := ballc (Below.refl _ wr) (.cells #[.int .i64 0, .int .i64 0, .int .i64 0, .int .i64 0, .int .i64 0, .int .i64 0, .string ⟨#[]⟩, .slice none 0 0, .slice none 0 0] 40)
              have d0a := cell_below d0 hba
              have d1a := cell_below d1 hba
              have d2a := cell_below d2 hba
              have d3a := cell_below d3 hba
              have d4a := cell_below d4 hba
              have c0a := cell_below c0' hba
              have c1a := cell_below c1' hba
              have c2a := cell_below c2' hba
              have c3a := cell_below c3' hba
              have c4a := cell_below c4' hba
              have c5a := cell_below c5' hba
              have c6a := cell_below c6' hba
              have c7a := cell_below c7' hba
              have c8a := cell_below c8' hba
              have hjs : j < sh.size := by rw [unhide HSS]; exact hjl
              have k5 : (j : Int) < ((sh.size : Nat) : Int) := by omega
              have k6 : (0 : Int) ≤ (j : Int) := by omega
              have k7 : (j : Int) < (M : Int) := by rw [unhide HLEN]; omega
              have gi := by_get sh j hjs
              rw [unhide HAT j f hf] at gi
              have hf7 := unhide HF7 f (List.mem_of_getElem? hf)
              have hf4 := unhide HF4 f (List.mem_of_getElem? hf)
              have HA := hide (fun (V : World) (hV : Below wr.heap.size wr V) => field_in (W := V) W.heap.size s' none 0 0 a2 n2 c2 f y hf7 hf4 (Nat.le_trans hbw.size hV.size) (ownsF_kp how (Kp.of_below (N := fun _ => False) hV) (fun _ _ e => e)) (unhide HTS y (List.mem_cons_of_mem _ (List.mem_of_getElem? hy))))
              have HFY := hide (And.intro hf hy)
              have HH := hide (And.intro hrd (And.intro hdr (And.intro hbx (And.intro how (And.intro hres hbw)))))
              unfold spC encW at HA
              clear hrd hdr hbx how hres hbw hf hy p0 p1 p2 p3 p4 H hgy hba
              go_upto_region 24 with fail
              go_cut [9, 10] from 79 to 90 (fun v9 v10 wx => ∃ (k : Nat) (sr : Sp) (ar : Option Addr) (nr cr : Nat) (b : Bool), v9 = .pointer (some ⟨k, 0, none⟩) ∧ v10 = .bool b ∧ Hid (Fin24 W.heap.size wr s' f y k sr (.slice ar nr cr) b wx))
              case first =>
                go_region_law (go_simp; go_at_call 65; first
                  | ((with_reducible refine (unhide HA _ ((Below.refl _ _).drew)).mono ?_); rintro e W3 h3; obtain ⟨sr, ar, nr, cr, b, rfl, HQ⟩ := h3.uni; have HFIN := hide (fin24A ((Below.refl _ _).drew) (unhide HQ)); clear h3 HQ)
                  | ((with_reducible refine (unhide HA _ ((ballc (Below.refl _ _) _).drew)).mono ?_); rintro e W3 h3; obtain ⟨sr, ar, nr, cr, b, rfl, HQ⟩ := h3.uni; clear h3
                     have hz9 := (show Bq (wr.alloc (.cells zSt 40)).drew wr.heap.size 40 zSt from Bq.new _ _ _).keep (unhide HQ).2.1 (by show wr.heap.size < (wr.alloc (.cells zSt 40)).heap.size; simp)
                     have HFIN := hide (fin24B ((ballc (Below.refl _ _) _).drew) (unhide HQ) hz9)
                     have z0 := hz9.cell 0 _ rfl
                     have z1 := hz9.cell 1 _ rfl
                     have z2 := hz9.cell 2 _ rfl
                     have z3 := hz9.cell 3 _ rfl
                     have z4 := hz9.cell 4 _ rfl
                     have z5 := hz9.cell 5 _ rfl
                     have z6 := hz9.cell 6 _ rfl
                     have z7 := hz9.cell 7 _ rfl
                     have z8 := hz9.cell 8 _ rfl
                     have f0 := hz9.frozen 0
                     have f1 := hz9.frozen 1
                     have f2 := hz9.frozen 2
                     have f3 := hz9.frozen 3
                     have f4 := hz9.frozen 4
                     have f5 := hz9.frozen 5
                     have f6 := hz9.frozen 6
                     have f7 := hz9.frozen 7
                     have f8 := hz9.frozen 8
                     have l9 := hz9.lt
                     clear hz9 HQ))
                all_goals (
                  go_wp2
                  go_meet
                  case rel => exact ⟨_, sr, ar, nr, cr, b, rfl, rfl, HFIN⟩)
              case rest =>
              obtain ⟨k, sr, ar, nr, cr, b, rfl, rfl, HFIN⟩ := hcut
              obtain ⟨hkw, hbk, hb5, ho5, hbb⟩ := unhide HFIN
              obtain ⟨hrd, hdr, hbx, how, hres, hbw⟩ := unhide HH
              obtain ⟨hf, hy⟩ := unhide HFY
              have hbx5 := hbx.keep hb5 hbx.lt
              have hres5 := hres.keep hb5 hres.lt
              have hbw5 := bnext hbw hb5
              have hsz := hbx.lt
              have hst := rdFs_step hf hf4 hy hrd
              clear d0a d1a d2a d3a d4a c0a c1a c2a c3a c4a c5a c6a c7a c8a d0 d1 d2 d3 d4 c0' c1' c2' c3' c4' c5' c6' c7' c8' gi HA
              rcases hbb with ⟨rfl, n0, htk⟩ | ⟨rfl, htk⟩
              · rw [htk] at hst
                have hdn := tkF_draws hf4 htk
                have kS := kp_setRow wc (W.heap.size + 1) (spC sr (.slice none 0 0) (.slice ar nr cr))
                have HG := hide (show Bq wc k 40 (spC sr (.slice none 0 0) (.slice ar nr cr)) ∧ Bq wc (W.heap.size + 1) 40 (spC s' (.slice none 0 0) (.slice a2 n2 c2)) from ⟨hbk, hbx5⟩)
                have HO := hide (spC_one sr none 0 0 ar nr cr)
                have HNX := hide (show ∃ (s' : Sp) (a2 : Option Addr) (n2 c2 : Nat), rdFs (fl.take (j + 1)) (sp0 K) l1 = some (s', l1.drop (j + 1)) ∧ s'.draws = [] ∧ Bq (wc.setRow (W.heap.size + 1) (spC sr (.slice none 0 0) (.slice ar nr cr))) (W.heap.size + 1) 40 (spC s' (.slice none 0 0) (.slice a2 n2 c2)) ∧ OwB (wc.setRow (W.heap.size + 1) (spC sr (.slice none 0 0) (.slice ar nr cr))) W.heap.size (.slice a2 n2 c2) s'.data ∧ Bq (wc.setRow (W.heap.size + 1) (spC sr (.slice none 0 0) (.slice ar nr cr))) W.heap.size 40 zSt ∧ Below W.heap.size W (wc.setRow (W.heap.size + 1) (spC sr (.slice none 0 0) (.slice ar nr cr))) from ⟨sr, ar, nr, cr, hst, by rw [hdn, hdr], setRow_heap _ _ _ _ _ _ hbx5, ownsF_kp ho5 kS (fun q hq e => ownsF_ty ho5 hbx5 (by decide) (by rw [hq, e])), hres5.kp kS (by omega), kS.below hbw5 (fun q e => by omega)⟩)
                clear hkw hbk hb5 ho5 hrd hdr hbx how hres hbw hf hy hbx5 hres5 hbw5 hst htk hdn kS HFIN HH HFY
                go_wp2_with (first | refine wpl_loadS rfl _ rfl rfl (unhide HG).1 rfl ?_ | refine wpl_storeS (cs := spC sr (.slice none 0 0) (.slice ar nr cr)) rfl _ _ rfl rfl rfl (unhide HG).2 rfl rfl (unhide HO) ?_)
                go_roundw
                case rel => exact ⟨j + 1, by go_num, by omega, HNX⟩
                case measure => simp [RowKit.intOf]; omega
              · rw [htk] at hst
                have kS := kp_setRow wc W.heap.size (spC s' (.slice none 0 0) (.slice a2 n2 c2))
                have HG := hide (show Bq wc (W.heap.size + 1) 40 (spC s' (.slice none 0 0) (.slice a2 n2 c2)) ∧ Bq wc W.heap.size 40 zSt from ⟨hbx5, hres5⟩)
                have HO := hide (spC_one s' none 0 0 a2 n2 c2)
                have HZ := hide (show RdA W (fstR (x :: l1)) (.returned (.tuple #[.agg (spC s' (.slice none 0 0) (.slice a2 n2 c2)), .bool false])) (wc.setRow W.heap.size (spC s' (.slice none 0 0) (.slice a2 n2 c2))) from by
                  rw [unhide HFst, rdFs_dead hst]
                  exact ⟨s', none, 0, 0, a2, n2, c2, rfl, kS.below hbw5 (fun q e => by omega)⟩)
                clear hkw hbk hb5 ho5 hrd hdr hbx how hres hbw hf hy hbx5 hres5 hbw5 hst htk kS HFIN HH HFY
                go_wp2_with (first | refine wpl_loadS rfl _ rfl rfl (unhide HG).1 rfl ?_ | refine wpl_storeS (cs := spC s' (.slice none 0 0) (.slice a2 n2 c2)) rfl _ _ rfl rfl rfl (unhide HG).2 rfl rfl (unhide HO) ?_)
                refine bodyPost_ret (results_ctS rfl _ _ W.heap.size _ (spC s' (.slice none 0 0) (.slice a2 n2 c2)) _ _ rfl (setRow_heap _ _ _ (spC s' (.slice none 0 0) (.slice a2 n2 c2)) _ _ (unhide HG).2) Tryz.underlying40 rfl sizeSt) rfl ?_
                exact unhide HZ
            · obtain rfl : j = n := by omega
              have kd2 : ¬ ((j : Int) < ((sh.size : Nat) : Int)) := by rw [unhide HSS]; omega
              have kd3 : decide (j < sh.size) = false := by rw [decide_eq_false_iff_not]; omega
              have kd4 : ¬ (j < sh.size) := by omega
              have kd : decide ((j : Int) < ((sh.size : Nat) : Int)) = false := by rw [decide_eq_false_iff_not]; exact kd2
              have e1 : fl.take j = fl := List.take_of_length_le (by rw [unhide HNn]; exact Nat.le_refl _)
              rw [e1] at hrd
              have hl1 : l1.length = fl.length := by rw [unhide HNn, ← unhide HLEN, unhide HN1]
              have hend := rdFs_done hl1 (by rw [unhide HNn]; exact hrd)
              have kS := kp_setRow wr W.heap.size (spC s' (.slice none 0 0) (.slice a2 n2 c2))
              have HG := hide (show Bq wr (W.heap.size + 1) 40 (spC s' (.slice none 0 0) (.slice a2 n2 c2)) ∧ Bq wr W.heap.size 40 zSt from ⟨hbx, hres⟩)
              have HO := hide (spC_one s' none 0 0 a2 n2 c2)
              have HZ := hide (show RdA W (fstR (x :: l1)) (.returned (.tuple #[.agg (spC s' (.slice none 0 0) (.slice a2 n2 c2)), .bool true])) (wr.setRow W.heap.size (spC s' (.slice none 0 0) (.slice a2 n2 c2))) from by
                rw [unhide HFst, hend]
                exact ⟨_, _, rfl, ⟨by rw [hdr]; exact World.ownsRow_nil _ _ _ _, ownsF_kp how kS (fun q hq e => ownsF_ty how hres (by decide) (by rw [hq, e]))⟩, kS.below hbw (fun i e => by omega)⟩)
              clear hrd hdr hbx how hres hbw H hl1 hend kS e1
              go_wp2_with (first | refine wpl_loadS rfl _ rfl rfl (unhide HG).1 rfl ?_ | refine wpl_storeS (cs := spC s' (.slice none 0 0) (.slice a2 n2 c2)) rfl _ _ rfl rfl rfl (unhide HG).2 rfl rfl (unhide HO) ?_)
              refine bodyPost_ret (results_ctS rfl _ _ W.heap.size _ (spC s' (.slice none 0 0) (.slice a2 n2 c2)) _ _ rfl (setRow_heap _ _ _ (spC s' (.slice none 0 0) (.slice a2 n2 c2)) _ _ (unhide HG).2) Tryz.underlying40 rfl sizeSt) rfl ?_
              exact unhide HZ
        · have kl : ((M : Int) != ((sh.size : Nat) : Int)) = true := by rw [unhide HSS, bne_iff_ne]; omega
          have hl1 : l1.length ≠ fl.length := by rw [unhide HNn, ← unhide HN1]; exact hlen
          have hend := rd_short (s := sp0 K) (unhide HF4) hl1
          have kS := kp_setRow W2 W.heap.size (spC (sp0 K) (.slice none 0 0) (.slice none 0 0))
          have HG := hide (show Bq W2 (W.heap.size + 1) 40 (spC (sp0 K) (.slice none 0 0) (.slice none 0 0)) ∧ Bq W2 W.heap.size 40 zSt from ⟨(unhide HS1).1, (unhide HS1).2.1⟩)
          have HO := hide (spC_one (sp0 K) none 0 0 none 0 0)
          have HZ := hide (show RdA W (fstR (x :: l1)) (.returned (.tuple #[.agg (spC (sp0 K) (.slice none 0 0) (.slice none 0 0)), .bool false])) (W2.setRow W.heap.size (spC (sp0 K) (.slice none 0 0) (.slice none 0 0))) from by
            rw [unhide HFst, hend]
            exact ⟨sp0 K, none, 0, 0, none, 0, 0, rfl, kS.below (unhide HS1).2.2 (fun i e => by omega)⟩)
          clear hl1 hend kS HS1 y0 hlen
          go_wp2_with (first | refine wpl_loadS rfl _ rfl rfl (unhide HG).1 rfl ?_ | refine wpl_storeS (cs := spC (sp0 K) (.slice none 0 0) (.slice none 0 0)) rfl _ _ rfl rfl rfl (unhide HG).2 rfl rfl (unhide HO) ?_)
          refine bodyPost_ret (results_ctS rfl _ _ W.heap.size _ (spC (sp0 K) (.slice none 0 0) (.slice none 0 0)) _ _ rfl (setRow_heap _ _ _ (spC (sp0 K) (.slice none 0 0) (.slice none 0 0)) _ _ (unhide HG).2) Tryz.underlying40 rfl sizeSt) rfl ?_
          exact unhide HZ
end Go.Proofs.YtkndjbmlkfpfoaaGreatDoor
