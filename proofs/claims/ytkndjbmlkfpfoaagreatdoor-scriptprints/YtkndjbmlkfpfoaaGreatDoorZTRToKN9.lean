/-
  What script.Parse answers.
-/
import Derived.Test.YtkndjbmlkfpfoaaGreatDoorZTQToTR0
import Derived.Test.YtkndjbmlkfpfoaaGreatDoorZTR1
import Derived.Test.YtkndjbmlkfpfoaaGreatDoorZSn0yToTR2
import Derived.WalkMore
import Derived.RegionIn
import Derived.BigRegionIn
import Derived.Test.YtkndjbmlkfpfoaaGreatDoorZSrToSr2
import Derived.Test.YtkndjbmlkfpfoaaGreatDoorZTS0ToTT0
import Derived.Test.YtkndjbmlkfpfoaaGreatDoorZTT
import Derived.Test.YtkndjbmlkfpfoaaGreatDoorZDNdToKN8

set_option linter.unusedSimpArgs false
set_option linter.unusedVariables false
namespace Go.Proofs.YtkndjbmlkfpfoaaGreatDoor
open Go.RowKit Go.Lib Go.Shelf
attribute [local go_sem] Oper.semAt_some
theorem Scan_in (s : ByteArray) (w : World) : Calls Tryz.prog 24 #[.string s] w fun e W => e = .returned (.func (.func 54) #[] #[.pointer (some ⟨w.heap.size, 0, none⟩)]) ∧ W = w.alloc (.cells #[.string s] 9) := by
  go_enter Tryz.func24, Tryz.ntmps24
  go_wp2
  go_ret
  exact ⟨rfl, rfl⟩
theorem lv_slice {w : World} {t e : TypeId} {a : Addr} {v : Value} (hu : Tryz.prog.underlying t = some (.slice e)) (hc : w.cell? a = some v) : (loadVar t a).run Tryz.prog w = .ok v w := by
  simp [loadVar, isAgg, run_underlying hu, Sem.run_bind, load, Result.andThen, hc, go_sem, Sem.run]
theorem lv_int {w : World} {t : TypeId} {a : Addr} {v : Value} {k : IntKind} (hu : Tryz.prog.underlying t = some (.int k)) (hc : w.cell? a = some v) : (loadVar t a).run Tryz.prog w = .ok v w := by
  simp [loadVar, isAgg, run_underlying hu, Sem.run_bind, load, Result.andThen, hc, go_sem, Sem.run]
theorem results_ccc {P : Program} {fn : Func} {p q r : Tmp} {tp tq tr : TypeId} (h : fn.results = #[.cell p tp, .cell q tq, .cell r tr]) (tmps : Array Value) (w : World) (a b c : Addr) (v1 v2 v3 : Value)
    (hp : tmps.getD p undef = .pointer (some a)) (hq : tmps.getD q undef = .pointer (some b)) (hr : tmps.getD r undef = .pointer (some c)) (h1 : (loadVar tp a).run P w = .ok v1 w) (h2 : (loadVar tq b).run P w = .ok v2 w) (h3 : (loadVar tr c).run P w = .ok v3 w) :
    (results fn tmps).run P w = .ok (.tuple #[v1, v2, v3]) w := by
  have hp' : tmps[p]?.getD undef = .pointer (some a) := by simpa using hp
  have hq' : tmps[q]?.getD undef = .pointer (some b) := by simpa using hq
  have hr' : tmps[r]?.getD undef = .pointer (some c) := by simpa using hr
  simp [results, h, hp', hq', hr', asAddr, h1, h2, h3]
theorem wpListIn_append_eq {F : Fence} {n : Nat} {w w' : World} {ops : Array Oper} {rest : List Oper} {o : Oper} {a : Act} {Q : Exit → Act → World → Prop} (hg : o.guard = none) (s x : Operand) (t : TypeId)
    (hop : o.op = .call { callee := .builtin .append, args := #[s, x], argTypes := #[t, t] }) (v u v' : Value) (hs : a.eval s = v) (hx : a.eval x = u) (hrun : (Builtin.append_ #[t, t] o.type #[v, u]).run Tryz.prog w = .ok v' w')
    (hK : wpListIn F n Tryz.prog ops Q rest (a.put o.dst v') w') : wpListIn F n Tryz.prog ops Q (o :: rest) a w := by
  refine wpListIn_plain hg fun K hK' => ?_
  unfold Oper.wpIn
  refine ⟨?_, ?_⟩
  · simp [Oper.about, hop, resolve, Target.leads, Sem.run_pure]
  · rw [Oper.semAt_plain F _ _ (by rw [hop]; intro c hc'; cases hc')]
    simp [execOp, hop, resolve, invoke, builtin, hs, hx, hrun, Result.andThen]
    exact hK' _ _ hK
/-- what Parse answers -/
def PsA (W : World) (s : ByteArray) (e : Ending) (W' : World) : Prop := Below W.heap.size W W' ∧ match prL (scL s) with
  | .inl (S, _) => ∃ v l, e = .returned (.tuple #[v, .int .i64 0, .int .i64 0]) ∧ OwT W' W.heap.size v l ∧ l.map Prod.fst = S
  | .inr (ln, en) => e = .returned (.tuple #[.slice none 0 0, .int .i64 (ln : Int), .int .i64 (en : Int)])
set_option maxRecDepth 100000 in
set_option maxHeartbeats 4000000 in
theorem Parse_in (s : ByteArray) (hs : s.size ≤ 1000000000) (w : World) (hL : Lw w) (hlen : (scL s).length ≤ 1000000) (hT : ∀ x ∈ scL s, x.w.t.size ≤ 1000000) (hN : ∀ pre x rest, pre ++ x :: rest = scL s → x.w.e = 0 → x.w.k = 4 → ∀ S, prL pre ≠ .inl (S, [])) :
    Calls Tryz.prog 10 #[.string s] w (PsA w s) := by
  refine (callsIn_wide (n := 6)).1 ?_
  refine callsIn_of_wp_marks Tryz.func10 rfl trivial ?_ rfl
  simp only [Tryz.ntmps10, List.size_toArray, List.length_cons, List.length_nil, Nat.reduceAdd, Nat.reduceSub, Array.replicate_succ, Array.replicate_zero, List.push_toArray, List.append_toArray, List.nil_append, List.cons_append]
  gi_wp2
  refine wpIn_wide.2 ?_
  go_step3
  go_wp2_with (go_at_call 23; refine (table_in _).mono ?_; rintro e w7 ⟨tv, tb, tbs, rfl, ht, hb7⟩; obtain rfl := ht.form; have ht := hide ht; have hb7 := hide hb7)
  go_step3
  go_wp2_with (go_at_call 24; refine (Scan_in _ _).mono ?_; rintro e w8 ⟨rfl, rfl⟩)
  have ht := unhide ht
  have hb7 := unhide hb7
  have PZ0 : PZ w w7.heap.size tb tbs s [] ((w7.alloc (.cells #[.slice (some ⟨tb, 0, none⟩) 14 14] 67)).alloc (.cells #[.string s] 9)) (.slice none 0 0) (.slice none 0 0) [] [] := by
    have hz := hb7.size
    simp only [World.size_alloc] at hz
    have b9 : Below w7.heap.size w7 ((w7.alloc (.cells #[.slice (some ⟨tb, 0, none⟩) 14 14] 67)).alloc (.cells #[.string s] 9)) := ballc (ballc (Below.refl _ _) _) _
    have g : ∀ i o, [(.cells #[.slice none 0 0] 23 : Obj), .cells #[.int .i64 0] 3, .cells #[.int .i64 0] 24, .cells #[.slice none 0 0] 23, .cells #[.slice none 0 0] 66][i]? = some o → ((w7.alloc (.cells #[.slice (some ⟨tb, 0, none⟩) 14 14] 67)).alloc (.cells #[.string s] 9)).heap[w.heap.size + i]? = some o := fun i o ho => by
      have := allocs_get _ w i o ho
      have hi := (List.getElem?_eq_some_iff.1 ho).1
      simp only [List.length_cons, List.length_nil] at hi
      rw [b9.block _ (by omega), hb7.block _ (by simp only [World.size_alloc]; omega)]
      exact this
    refine ⟨⟨by omega, ht.row.lt, fun i hi => (ht.fld i hi).lt⟩, bnext (bnext (allocs_below [(.cells #[.slice none 0 0] 23), .cells #[.int .i64 0] 3, .cells #[.int .i64 0] 24, .cells #[.slice none 0 0] 23, .cells #[.slice none 0 0] 66] w) hb7) b9, g 0 _ rfl, g 1 _ rfl, g 2 _ rfl, g 3 _ rfl, g 4 _ rfl, ⟨World.ownsRow_nil _ _ _ _, fun x hx => by cases hx⟩, World.ownsRow_nil _ _ _ _, (Bq.new w7 _ _).keep (ballc (Below.refl _ _) _) (Bq.new w7 _ _).lt, ?_, ht.below b9, rfl, ⟨Nat.le_refl _, Nat.le_refl _⟩, fun x hx => by cases hx⟩
    have := Bq.new (w7.alloc (.cells #[.slice (some ⟨tb, 0, none⟩) 14 14] 67)) 9 #[.string s]
    rw [World.size_alloc] at this
    exact this
  have hz9 : ((w7.alloc (.cells #[.slice (some ⟨tb, 0, none⟩) 14 14] 67)).alloc (.cells #[.string s] 9)).heap.size = w7.heap.size + 2 := by simp
  generalize ((w7.alloc (.cells #[.slice (some ⟨tb, 0, none⟩) 14 14] 67)).alloc (.cells #[.string s] 9)) = W9 at PZ0 hz9 ⊢
  clear ht hb7
  obtain ⟨rb, hrb⟩ : ∃ rb, w7.heap.size = rb := ⟨_, rfl⟩
  rw [hrb] at PZ0 hz9 ⊢
  clear hrb
  obtain ⟨N, hN0⟩ : ∃ N, w.heap.size = N := ⟨_, rfl⟩
  rw [hN0]
  refine (wpIn_wide (n := 6)).1 ?_
  rename_i KK hKK
  have hlo := PZ0.lo.1
  have hI : AbidesAll W9.heap.size (W9.heap.size + 2 + 1) (fun pre W => ∃ sv wv l L, PZ w rb tb tbs s pre W sv wv l L) := by
    rintro pre W W' row ⟨sv, wv, l, L, h⟩ hg hr
    exact ⟨sv, wv, l, L, h.kp (Kp.of_grown hg (N := fun i => row = some i) (fun k hk => hk)) (fun i hi => by have := hr i hi; omega)⟩
  refine range_KA (gf := 54) (lb := #[.pointer (some ⟨rb + 1, 0, none⟩)]) rfl (enters_of Tryz.func54 (by kernel_rfl) rfl)
    (scan_K (rb + 1) s hs W9) (Below.refl _ _) (fun _ => rfl) _
    (fun c pre W => c = .ret ∧ Below w.heap.size w W ∧ ∃ ln en, prL pre = .inr (ln, en) ∧ Bq W w.heap.size 23 #[.slice none 0 0] ∧ Bq W (w.heap.size + 1) 3 #[.int .i64 (ln : Int)] ∧ Bq W (w.heap.size + 2) 24 #[.int .i64 (en : Int)])
    hI ?hIx ?hKx ⟨_, _, _, _, PZ0⟩
    (fun x a' W => ∃ b, a' = { tmps := #[.string s, undef, .pointer (some ⟨N, 0, none⟩), .pointer (some ⟨N + 1, 0, none⟩), .pointer (some ⟨N + 2, 0, none⟩), .pointer (some ⟨N + 3, 0, none⟩), .pointer (some ⟨N + 4, 0, none⟩), .pointer (some ⟨rb, 0, none⟩), .pointer (some ⟨b, 0, none⟩), .int .i64 (x.w.e : Int), undef, undef, undef, undef, .slice (some ⟨tb, 0, none⟩) 14 14, .string s, .func (.func 54) #[] #[.pointer (some ⟨rb + 1, 0, none⟩)], .agg (encW x).toArray, .int .i64 (x.w.e : Int), undef, undef, undef, undef, undef, undef, undef, undef, undef, undef, undef, undef, undef, undef, undef, undef, undef, undef, undef, undef, undef, undef, undef, undef, undef, undef, undef, undef, undef, undef, undef, undef, undef, undef, undef], defers := [] } ∧ rb + 5 ≤ b ∧ Bq W b 73 (encW x).toArray)
    ?hAx ?assign ?body ?done ?stop
  case hIx =>
    rintro c pre W W' row ⟨h1, h2, ln, en, h3, h4, h5, h6⟩ hg hr
    have k := Kp.of_grown hg (N := fun i => row = some i) (fun k hk => hk)
    exact ⟨h1, k.below h2 (fun i e => by have := hr i e; omega), ln, en, h3, h4.kp k (fun e => by have := hr _ e; omega), h5.kp k (fun e => by have := hr _ e; omega), h6.kp k (fun e => by have := hr _ e; omega)⟩
  case hKx =>
    rintro pre W ⟨sv, wv, l, L, h⟩
    exact ⟨h.tx.cell 0 _ rfl, hL.below h.bel⟩
  case hAx =>
    rintro x a' _ W W' row ⟨b, h1, h2, h3⟩ hg hr
    exact ⟨b, h1, h2, h3.kp (Kp.of_grown hg (N := fun i => row = some i) (fun k hk => hk)) (fun e => by have := hr b e; omega)⟩
  case assign =>
    intro l pre x rest W K hpre hz ⟨sv, wv, l2, L, h⟩ hK
    obtain ⟨⟨xk, xt, xn, xa, xnx, xe⟩, xl⟩ := x
    unfold It.args Wd.v wV
    gi_wp2
    have hb := ballc (Below.refl _ W) (.cells (encW ⟨⟨xk, xt, xn, xa, xnx, xe⟩, xl⟩).toArray 73)
    exact hK _ _ (kq_kp (M := fun _ => False) (Kp.of_below hb) (fun i e => e.elim)) ⟨_, _, _, _, h.below hb⟩ ⟨W.heap.size, rfl, by omega, Bq.new W 73 (encW ⟨⟨xk, xt, xn, xa, xnx, xe⟩, xl⟩).toArray⟩
  case body =>
    rintro l pre x rest a' W hpre hzW ⟨sv, wv, l2, L, h⟩ ⟨b, rfl, hb, hbx⟩
    obtain ⟨⟨xk, xt, xn, xa, xnx, xe⟩, xl⟩ := x
    obtain ⟨av, cv, rfl⟩ := owns_form h.os.row
    obtain ⟨aw, cw, rfl⟩ := owns_form h.ow
    have x0 := hbx.cell 0 (.int .i64 (xk : Int)) rfl
    have x4 := hbx.cell 4 (.int .i64 (xl : Int)) rfl
    have hW5 : rb + 5 ≤ W.heap.size := by omega
    have hlen2 : pre.length ≤ 1000000 := by have := congrArg List.length hpre; simp only [List.length_append] at this; omega
    by_cases he : xe = 0
    · have kd : ((xe : Int) != 0) = false := by rw [he]; rfl
      by_cases hk : xk = 4
      · have ke : ((xk : Int) != 4) = false := by rw [hk]; rfl
        have hne : L ≠ [] := fun e => hN pre ⟨⟨xk, xt, xn, xa, xnx, xe⟩, xl⟩ rest hpre he hk (l2.map Prod.fst) (by rw [h.go, e])
        have hts : ∀ y ∈ L, y.w.t.size ≤ 1000000 := fun y hy => hT y (by rw [← hpre]; exact List.mem_append_left _ (h.mem y hy))
        have hL6 : L.length ≤ 1000000 := Nat.le_trans h.len.1 hlen2
        obtain ⟨n, hn⟩ : ∃ n, L.length = n := ⟨_, rfl⟩
        obtain ⟨m, hm⟩ : ∃ m, l2.length = m := ⟨_, rfl⟩
        rw [hn, hm] at h
        have q0 := h.rx.cell 0 _ rfl
        have HN := hide hn
        have HM := hide hm
        have HNE := hide hne
        have HTS := hide hts
        have HPR := hide hpre
        have HL6 := hide hL6
        have HZ9 := hide hz9
        have HHE := hide he
        have HHK := hide hk
        have H0 := hide (show PZ w rb tb tbs s pre W (.slice av m cv) (.slice aw n cw) l2 L ∧ (∀ i, i < 0 → rdRw i L = none) ∧ Below W.heap.size W W from ⟨h, fun i hi => absurd hi (Nat.not_lt_zero i), Below.refl _ _⟩)
        have HZ0 := hide h
        have HW5 := hide hW5
        have HX4 := hide x4
        clear h hbx hpre hI PZ0 hW5 hb hn hm hne hts hL6 he hk hz9
        gi_wp2
        gi_loopw [11, 12, 13, 33] (fun v11 v12 v13 v33 wr => ∃ j : Nat, v33 = .int .i64 (j : Int) ∧ j ≤ 14 ∧ Hid (PZ w rb tb tbs s pre wr (.slice av m cv) (.slice aw n cw) l2 L ∧ (∀ i, i < j → rdRw i L = none) ∧ Below W.heap.size W wr)) (fun _ _ _ v33 _ => 14 - (RowKit.intOf v33).toNat)
        case atStart => exact ⟨0, rfl, Nat.zero_le _, H0⟩
        case round =>
          clear H0
          obtain ⟨j, rfl, hj, H⟩ := hrel
          obtain ⟨hz, hnone, hbw⟩ := unhide H
          by_cases hjl : j < 14
          · obtain ⟨fa, fe, -⟩ := hz.ta.fields hjl
            obtain ⟨fn, hfn⟩ : ∃ fn, (tfl.getD j []).length = fn := ⟨_, rfl⟩
            rw [hfn] at fe
            obtain ⟨nm, hnm⟩ : ∃ nm, ofL (tnm.getD j []) = nm := ⟨_, rfl⟩
            have hrw : rwC tbs j = [.string nm, .int .i64 ((j : Int) + 1), .slice fa fn fn] := by unfold rwC; rw [fe, hnm]
            have fq : ∀ q u, (rwC tbs j)[q]? = some u → wr.cell? ⟨tb, j * 3 + q, none⟩ = some u := fun q u hu => hz.ta.row.cell (j * 3 + q) u (by
              have hq := (List.getElem?_eq_some_iff.1 hu).1
              have := flat_get (enc := rwC tbs) (k := 3) (fun _ => rfl) (List.range 14) j q j (by simp [hjl]) hq
              unfold rowsC
              rw [List.getElem?_toArray, this]; exact hu)
            rw [hrw] at fq
            have d0 := fq 0 _ rfl
            rw [Nat.add_zero] at d0
            have d1 := fq 1 _ rfl
            have d2 := fq 2 _ rfl
            have k5 : (j : Int) < 14 := by omega
            have k6 : (0 : Int) ≤ (j : Int) := by omega
            obtain ⟨X, hX⟩ : ∃ X, wr.alloc (.cells #[.string nm, .int .i64 ((j : Int) + 1), .slice fa fn fn] 76) = X := ⟨_, rfl⟩
            have bX : Below wr.heap.size wr X := by rw [← hX]; exact ballc (Below.refl _ _) _
            have BX : Bq X wr.heap.size 76 #[.string nm, .int .i64 ((j : Int) + 1), .slice fa fn fn] := by rw [← hX]; exact Bq.new _ _ _
            have e0 := BX.cell 0 _ rfl
            have e1 := BX.cell 1 _ rfl
            have e2 := BX.cell 2 _ rfl
            have hX1 := hz.below bX
            have w4 := hX1.wb.cell 0 _ rfl
            rw [hN0] at w4
            have hcall := hide (rowRead_in hX1.ta hjl (RC.of_owns hX1.ow) (unhide HNE) (unhide HL6) (unhide HTS))
            rw [hrw] at hcall
            have HST := hide (show PZ w rb tb tbs s pre X (.slice av m cv) (.slice aw n cw) l2 L ∧ (∀ i, i < j → rdRw i L = none) ∧ Below W.heap.size W X from ⟨hX1, hnone, bnext hbw bX⟩)
            clear hz hnone hbw fe hfn hnm hrw fq bX BX hX1 H
            gi_wp2_with fail
            refine ⟨trivial, (CallsIn.inRound l (callsIn_wide.2 (unhide hcall))).mono ?_⟩
            rintro e W4 hr4
            obtain ⟨hX1, hnone, hbw⟩ := unhide HST
            cases hr : rdRw j L with
            | none =>
              rw [hr] at hr4
              obtain ⟨s9, a1, n1, c1, a3, n3, c3, rfl, hb4⟩ := hr4
              have HN2 := hide (show ∀ i, i < j + 1 → rdRw i L = none from fun i hi => by
                by_cases e : i = j
                · rw [e]; exact hr
                · exact hnone i (by omega))
              have bY := ballc (Below.refl _ W4) (.cells (spC s9 (.slice a1 n1 c1) (.slice a3 n3 c3)) 40)
              have HNX := hide (show PZ w rb tb tbs s pre (W4.alloc (.cells (spC s9 (.slice a1 n1 c1) (.slice a3 n3 c3)) 40)) (.slice av m cv) (.slice aw n cw) l2 L ∧ (∀ i, i < j + 1 → rdRw i L = none) ∧ Below W.heap.size W (W4.alloc (.cells (spC s9 (.slice a1 n1 c1) (.slice a3 n3 c3)) 40)) from ⟨(hX1.below hb4).below bY, unhide HN2, bnext (bnext hbw hb4) bY⟩)
              clear hX1 hnone hbw hb4 bY hr hcall HST d0 d1 d2 e0 e1 e2 w4 q0
              unfold spC at HNX ⊢
              gi_wp2
              go_roundw
              case rel => exact ⟨j + 1, by go_num, by omega, HNX⟩
              case measure =>
                simp [RowKit.intOf]
                omega
            | some t =>
              rw [hr] at hr4
              obtain ⟨dv, bv, rfl, hst, hb4⟩ := hr4
              obtain ⟨⟨a1, n1, c1, rfl⟩, a3, n3, c3, rfl⟩ := hst.forms
              have hf := fstR_some hjl hnone hr
              obtain ⟨Y, hY⟩ : ∃ Y, W4.alloc (.cells (spC t (.slice a1 n1 c1) (.slice a3 n3 c3)) 40) = Y := ⟨_, rfl⟩
              have bY : Below W4.heap.size W4 Y := by rw [← hY]; exact ballc (Below.refl _ _) _
              have BY : Bq Y W4.heap.size 40 (spC t (.slice a1 n1 c1) (.slice a3 n3 c3)) := by rw [← hY]; exact Bq.new _ _ _
              obtain ⟨Y2, hY2⟩ : ∃ Y2, Y.alloc (.cells (spC t (.slice a1 n1 c1) (.slice a3 n3 c3)) 40) = Y2 := ⟨_, rfl⟩
              have bY2 : Below Y.heap.size Y Y2 := by rw [← hY2]; exact ballc (Below.refl _ _) _
              have BY2 : Bq Y2 Y.heap.size 40 (spC t (.slice a1 n1 c1) (.slice a3 n3 c3)) := by rw [← hY2]; exact Bq.new _ _ _
              have hX5 : rb + 5 ≤ X.heap.size := Nat.le_trans (unhide HW5) hbw.size
              have hPY := (hX1.below hb4).below bY
              obtain ⟨a5, c5, Z1, Z2, Z3, hrun, m1, m2, m3, hZ2, m4, m5, m6, hZ3, HZ⟩ := (unhide HZ0).step 23 ⟨⟨xk, xt, xn, xa, xnx, xe⟩, xl⟩ (unhide HHE) (unhide HHK) hf (bnext (bnext (bnext hbw hb4) bY) bY2) BY2 (((hst.wk hX5).below bY).below bY2) hlen2 (unhide HW5) (unhide HM)
              have s3 := hPY.sb.cell 0 _ rfl
              rw [hN0] at m1 m2 m3 hZ2 m4 m5 m6 hZ3 s3
              have g0 := BY.cell 0 (.int .i64 t.kind) rfl
              have g1 := BY.cell 1 (.int .i64 t.site) rfl
              have g2 := BY.cell 2 (.int .i64 t.peer) rfl
              have g3 := BY.cell 3 (.int .i64 t.unit) rfl
              have g4 := BY.cell 4 (.int .i64 t.at_) rfl
              have g5 := BY.cell 5 (.int .i64 t.n) rfl
              have g6 := BY.cell 6 (.string t.text) rfl
              have g7 := BY.cell 7 (.slice a1 n1 c1) rfl
              have g8 := BY.cell 8 (.slice a3 n3 c3) rfl
              have Hrun := hide hrun
              clear hX1 hnone hbw hb4 bY BY bY2 BY2 hPY hst hr hcall HST d0 d1 d2 e0 e1 e2 w4 q0 hf hrun
              unfold spC at hY hY2 ⊢
              gi_wp2_with (gi_at_builtin; refine wpListIn_append_eq rfl _ _ 23 rfl _ _ _ rfl rfl (unhide Hrun) ?_)
              have h9 := unhide HZ
              rw [show W9.heap.size + 2 + 1 = rb + 5 by have := unhide HZ9; omega, unhide HZ9]
              exact ⟨h9.2, _, _, _, _, h9.1⟩
          · have hj14 : j = 14 := by omega
            subst hj14
            have hf := fstR_none hnone
            have x4' := cell_below x4 hbw
            have c0 := hz.r0.cell 0 _ rfl
            have c1 := hz.r1.cell 0 _ rfl
            have c2 := hz.r2.cell 0 _ rfl
            have f0 := hz.r0.frozen 0
            have f1 := hz.r1.frozen 0
            have f2 := hz.r2.frozen 0
            rw [hN0] at c0 c1 c2 f0 f1 f2
            have HE := hide (hz.err hN0 _ (prL_bad hz (x := ⟨⟨xk, xt, xn, xa, xnx, xe⟩, xl⟩) (unhide HHE) (unhide HHK) hf) rfl)
            have HB := hide hbw
            clear hz hnone hbw hf H x0 x4 q0
            gi_wp2
            gi_region
            all_goals gi_wp2
            all_goals (have h9 := unhide HE; rw [show W9.heap.size + 2 + 1 = rb + 5 by have := unhide HZ9; omega, unhide HZ9]; exact ⟨(kq_kp (M := fun _ => False) (Kp.of_below (unhide HB)) (fun i e => e.elim)).trans h9.1, rfl, h9.2⟩)
      · have ke : ((xk : Int) != 4) = true := by rw [bne_iff_ne]; omega
        have x1 := hbx.cell 1 (.string xt) rfl
        have x2 := hbx.cell 2 (.int .i64 xn) rfl
        have x3 := hbx.cell 3 (.int .i64 (xa : Int)) rfl
        have cw4 := h.wb.cell 0 _ rfl
        obtain ⟨n, hn⟩ : ∃ n, L.length = n := ⟨_, rfl⟩
        obtain ⟨X, hX⟩ : ∃ X, W.alloc (.cells #[.int .i64 (xk : Int), .string xt, .int .i64 xn, .int .i64 (xa : Int), .int .i64 (xl : Int)] 73) = X := ⟨_, rfl⟩
        have bX : Below W.heap.size W X := by rw [← hX]; exact ballc (Below.refl _ _) _
        have BX : Bq X W.heap.size 73 (encW ⟨⟨xk, xt, xn, xa, xnx, xe⟩, xl⟩).toArray := by rw [← hX]; exact Bq.new _ _ _
        obtain ⟨a2, c2, Z1, Z2, hrun, m1, m2, m3, hZ2, HZ⟩ := h.word 66 ⟨⟨xk, xt, xn, xa, xnx, xe⟩, xl⟩ he hk bX BX hlen2 hW5 hn
        rw [hn] at hrun cw4 m1
        rw [hN0] at m1 m2 m3 hZ2 cw4
        have Hrun := hide hrun
        have HW5 := hide hW5
        clear h hbx hpre hI PZ0 hW5 hb hrun bX BX
        gi_wp2_with (gi_at_builtin; refine wpListIn_append_eq rfl _ _ 66 rfl _ _ _ rfl rfl (unhide Hrun) ?_)
        have h9 := unhide HZ
        rw [show W9.heap.size + 2 + 1 = rb + 5 by omega, hz9]
        exact ⟨h9.2, _, _, _, _, h9.1⟩
    · have kd : ((xe : Int) != 0) = true := by rw [bne_iff_ne]; omega
      have c0 := h.r0.cell 0 _ rfl
      have c1 := h.r1.cell 0 _ rfl
      have c2 := h.r2.cell 0 _ rfl
      have f0 := h.r0.frozen 0
      have f1 := h.r1.frozen 0
      have f2 := h.r2.frozen 0
      rw [hN0] at c0 c1 c2 f0 f1 f2
      have HE := hide (h.err hN0 _ (prL_err h (x := ⟨⟨xk, xt, xn, xa, xnx, xe⟩, xl⟩) he) rfl)
      have HZ9 := hide hz9
      clear h hbx hpre hI PZ0 hW5 hb
      gi_wp2
      gi_region
      all_goals gi_wp2
      all_goals (have h9 := unhide HE; rw [show W9.heap.size + 2 + 1 = rb + 5 by omega, hz9]; exact ⟨h9.1, rfl, h9.2⟩)
  case done =>
    rintro D W hD hzW ⟨sv, wv, l, L, h⟩ hKD
    refine hKK _ _ ?_
    obtain ⟨av, cv, rfl⟩ := owns_form h.os.row
    obtain ⟨n, hn⟩ : ∃ n, l.length = n := ⟨_, rfl⟩
    rw [hn] at h
    have h3 := h.sb.cell 0 _ rfl
    have c0 := h.r0.cell 0 _ rfl
    have c1 := h.r1.cell 0 _ rfl
    have c2 := h.r2.cell 0 _ rfl
    have f0 := h.r0.frozen 0
    have f1 := h.r1.frozen 0
    have f2 := h.r2.frozen 0
    have e1 := h.r1.same
    have e2 := h.r2.same
    rw [hN0] at h3 c0 c1 c2 f0 f1 f2 e1 e2
    have H := hide h
    clear h
    go_wp2
    have h := unhide H
    have k3 : Kp (fun i => i = N ∨ i = N + 1 ∨ i = N + 2) W (((W.setCell ⟨N, 0, none⟩ (.slice av n cv)).setCell ⟨N + 1, 0, none⟩ (.int .i64 0)).setCell ⟨N + 2, 0, none⟩ (.int .i64 0)) :=
      (((Kp.set (N := fun i => i = N) W ⟨N, 0, none⟩ _ rfl).wk (fun i e => .inl e)).trans (Kp.set (N := fun i => i = N + 1) _ ⟨N + 1, 0, none⟩ _ rfl) (fun i e => .inl (.inr (.inl e)))).trans (Kp.set (N := fun i => i = N + 2) _ ⟨N + 2, 0, none⟩ _ rfl) (fun i e => .inl (.inr (.inr e)))
    have R0 := ((h.r0.set (.slice av n cv)).setO ⟨N + 1, 0, none⟩ (by simp; omega) (.int .i64 0)).setO ⟨N + 2, 0, none⟩ (by simp; omega) (.int .i64 0)
    have R1 := (((h.r1.setO ⟨N, 0, none⟩ (by simp; omega) (.slice av n cv)).set (.int .i64 0))).setO ⟨N + 2, 0, none⟩ (by simp; omega) (.int .i64 0)
    have R2 := ((h.r2.setO ⟨N, 0, none⟩ (by simp; omega) (.slice av n cv)).setO ⟨N + 1, 0, none⟩ (by simp; omega) (.int .i64 0)).set (.int .i64 0)
    rw [hN0] at R0 R1 R2
    obtain ⟨V, hV⟩ : ∃ V, (((W.setCell ⟨N, 0, none⟩ (.slice av n cv)).setCell ⟨N + 1, 0, none⟩ (.int .i64 0)).setCell ⟨N + 2, 0, none⟩ (.int .i64 0)) = V := ⟨_, rfl⟩
    rw [hV] at k3 R0 R1 R2
    have hDV : V.heap[D]? = some (.deferred (some [])) := by rw [k3.block D (Array.getElem?_eq_some_iff.1 hKD).1 (fun e => by omega)]; exact hKD
    have kD := Kp.of_grown (N := fun i => i = D) (grownBy_putObj' V D (.deferred none)) (fun k e => by cases e; rfl)
    have hN9 : ∀ b, b < rb → ¬ b = D := fun b hb e => by omega
    have hos : OwT (V.putObj D (.deferred none)) (rb + 5) (.slice av n cv) l := (h.os.kpN k3 (fun i e => by omega)).kpN kD (fun i e => by omega)
    have hbel := kD.below (k3.below h.bel (fun i e => by omega)) (fun i e => by omega)
    have hV2 : (((W.setCell ⟨N, 0, none⟩ (.slice av n cv)).setCell ⟨N + 1, 0, none⟩ (.int .i64 0)).setCell ⟨N + 1 + 1, 0, none⟩ (.int .i64 0)) = V := hV
    rw [hV2]
    refine ⟨by simp, .inl ⟨_, _, rfl, run_takeDeferred (ds := []) (by rw [← hz9, ← hD]; exact hDV), ?_⟩⟩
    rw [← hz9, ← hD]
    refine ⟨_, results_ccc rfl _ _ ⟨N, 0, none⟩ ⟨N + 1, 0, none⟩ ⟨N + 2, 0, none⟩ _ _ _ rfl rfl rfl (lv_slice Tryz.underlying23 ((R0.kp kD (hN9 _ (by omega))).cell 0 _ rfl)) (lv_int Tryz.underlying3 ((R1.kp kD (hN9 _ (by omega))).cell 0 _ rfl)) (lv_int Tryz.underlying24 ((R2.kp kD (hN9 _ (by omega))).cell 0 _ rfl)), ?_⟩
    refine ⟨hbel, ?_⟩
    rw [h.go]
    exact ⟨_, l, rfl, ⟨owns_wk hos.row (by omega), fun x hx => (hos.rows x hx).wk (by omega)⟩, rfl⟩
  case stop =>
    rintro D c pre rest W hD hpre ⟨rfl, hb, ln, en, hp, h0, h1, h2⟩ hKD
    rw [hN0] at h0 h1 h2
    gi_wp2
    have hD0 : D < W.heap.size := (Array.getElem?_eq_some_iff.1 hKD).1
    have kD := Kp.of_grown (N := fun i => i = D) (grownBy_putObj' W D (.deferred none)) (fun k e => by cases e; rfl)
    refine ⟨by simp, .inl ⟨_, _, rfl, run_takeDeferred hKD, ?_⟩⟩
    have hN9 : ∀ b, b < rb → ¬ b = D := fun b hb e => by omega
    refine ⟨_, results_ccc rfl _ _ ⟨N, 0, none⟩ ⟨N + 1, 0, none⟩ ⟨N + 2, 0, none⟩ _ _ _ rfl rfl rfl (lv_slice Tryz.underlying23 ((h0.kp kD (hN9 _ (by omega))).cell 0 _ rfl)) (lv_int Tryz.underlying3 ((h1.kp kD (hN9 _ (by omega))).cell 0 _ rfl)) (lv_int Tryz.underlying24 ((h2.kp kD (hN9 _ (by omega))).cell 0 _ rfl)), ?_⟩
    refine ⟨kD.below hb (fun i e => by omega), ?_⟩
    have : prL (scL s) = .inr (ln, en) := by rw [← hpre]; unfold prL at hp ⊢; rw [List.foldl_append, hp, prI_no]
    rw [this]
    rfl
end Go.Proofs.YtkndjbmlkfpfoaaGreatDoor

/-
  What the scanner's items are, as Parse asks it. Pure.
-/
set_option linter.unusedSimpArgs false
set_option linter.unusedVariables false
namespace Go.Proofs.YtkndjbmlkfpfoaaGreatDoor
open Go.RowKit Go.Lib

theorem scF_len (s : ByteArray) : ∀ (f i line : Nat) (m : Bool), (scF s f i line m).length ≤ f
  | 0, _, _, _ => by simp [scF]
  | f + 1, i, line, m => by
    have h1 := scF_len s f (bhL s i) (line + 1) false
    have h2 := scF_len s f (i + 1) line m
    have h3 := scF_len s f (rmE s i) line m
    have h4 := scF_len s f (wdAt s i).nx line true
    unfold scF
    split
    · split <;> simp
    · split
      · rw [List.length_append]
        split <;> simp <;> omega
      · split
        · omega
        · split
          · omega
          · rw [List.length_cons]
            split
            · omega
            · simp
theorem scL_len (s : ByteArray) : (scL s).length ≤ s.size + 1 := scF_len s _ 0 1 false
theorem wdAt_txt (s : ByteArray) (i : Nat) (h : i < s.size) : (wdAt s i).t.size ≤ 4 * s.size := by
  unfold wdAt
  split
  · have hb := (rdA_bounds s _ (i + 1) [] (Nat.le_refl _) (by omega)).2.2.1
    rw [← rdA_zero] at hb
    unfold qdW
    split
    · show (ofL (rdE s (i + 1)).1).size ≤ _
      rw [ofL_size]
      simp only [List.length_nil] at hb
      omega
    · exact Nat.zero_le _
  · unfold bwW
    split
    · exact Nat.zero_le _
    · split
      · show (s.extract i (bwA s i).1).size ≤ _
        rw [ByteArray.size_extract]
        omega
      · split
        · exact Nat.zero_le _
        · exact Nat.zero_le _
theorem scF_txt (s : ByteArray) : ∀ (f i line : Nat) (m : Bool), ∀ x ∈ scF s f i line m, x.w.t.size ≤ 4 * s.size
  | 0, _, _, _ => by intro x hx; simp [scF] at hx
  | f + 1, i, line, m => by
    have h1 := scF_txt s f (bhL s i) (line + 1) false
    have h2 := scF_txt s f (i + 1) line m
    have h3 := scF_txt s f (rmE s i) line m
    have h4 := scF_txt s f (wdAt s i).nx line true
    have he : ∀ x ∈ (if m then [endI i line] else []), x.w.t.size ≤ 4 * s.size := fun x hx => by
      cases m with
      | true =>
        simp at hx
        subst hx
        exact Nat.zero_le _
      | false => simp at hx
    intro x hx
    unfold scF at hx
    split at hx
    · exact he x hx
    · rename_i c0
      split at hx
      · rcases List.mem_append.1 hx with hx | hx
        · exact he x hx
        · exact h1 x hx
      · split at hx
        · exact h2 x hx
        · split at hx
          · exact h3 x hx
          · rcases List.mem_cons.1 hx with hx | hx
            · rw [hx]
              exact wdAt_txt s i (by omega)
            · split at hx
              · exact h4 x hx
              · simp at hx
theorem scL_txt (s : ByteArray) : ∀ x ∈ scL s, x.w.t.size ≤ 4 * s.size := scF_txt s _ 0 1 false
/-- where no word waits, a line has ended -/
theorem pr_kd (n : Nat) : ∀ (pre : List It) (S : List Sp) (L : List It), pre.length = n → prL pre = .inl (S, L) → L = [] → (stF st0 pre).kd = 4 := by
  intro pre
  rcases List.eq_nil_or_concat pre with rfl | ⟨p, x, rfl⟩
  · intro S L _ _ _
    rfl
  · intro S L _ hg hL
    rw [List.concat_eq_append] at hg ⊢
    rw [prL_snoc] at hg
    rw [stF_snoc]
    cases hp : prL p with
    | inr q => rw [hp] at hg; cases hg
    | inl q =>
      obtain ⟨S1, L1⟩ := q
      rw [hp] at hg
      unfold prI at hg
      simp only at hg
      by_cases he : x.w.e = 0
      · rw [if_neg (by simpa using he)] at hg
        by_cases hk : x.w.k = 4
        · unfold Rs.next
          rw [if_neg (by simpa using he)]
          exact hk
        · rw [if_pos hk] at hg
          simp only [Sum.inl.injEq, Prod.mk.injEq] at hg
          have h2 := hg.2
          rw [hL] at h2
          simp at h2
      · rw [if_pos he] at hg
        cases hg
theorem sc_words (s : ByteArray) : ∀ pre x rest, pre ++ x :: rest = scL s → x.w.e = 0 → x.w.k = 4 → ∀ S, prL pre ≠ .inl (S, []) := by
  intro pre x rest hp he hk S hg
  have h := scL_rises s
  rw [← hp] at h
  exact (h.at.k4 he (pr_kd _ pre S [] rfl hg rfl)).1 hk
/-- what Parse answers, whole -/
theorem Parse_all (s : ByteArray) (hs : s.size ≤ 200000) (w : World) (hL : Lw w) : Calls Tryz.prog 10 #[.string s] w (PsA w s) :=
  Parse_in s (by omega) w hL (by have := scL_len s; omega) (fun x hx => by have := scL_txt s x hx; omega) (sc_words s)
end Go.Proofs.YtkndjbmlkfpfoaaGreatDoor

/-
  What the document fixes, as texts. Pure.
-/
set_option linter.unusedSimpArgs false
set_option linter.unusedVariables false
namespace Go.Proofs.YtkndjbmlkfpfoaaGreatDoor
open Go Go.RowKit Go.Lib

def kt1 : ByteArray := ⟨#[105, 110, 115, 101, 114, 116, 32, 49, 32, 48, 32, 34, 104, 92, 117, 123, 101, 57, 125, 34, 10, 35, 32, 120, 10, 116, 105, 99, 107, 32, 50, 32, 45, 49, 10]⟩
def kt2 : ByteArray := ⟨#[10, 108, 101, 97, 118, 101, 10]⟩
def ks1 : Sp := ⟨1, 1, 0, 0, 0, 0, ⟨#[104, 195, 169]⟩, [], []⟩
def ks2 : Sp := ⟨6, 0, 0, 0, 0, 0, ⟨#[]⟩, [2, -1], []⟩
def ks3 : Sp := ⟨8, 0, 0, 0, 0, 7, ⟨#[]⟩, [], []⟩
def kc1 : Cpy := ⟨7, 1, 2, 4, true, [1]⟩
set_option maxRecDepth 100000
theorem kp_1 : prL (scL kt1) = .inl ([ks1, ks2], []) := by kernel_rfl
theorem kp_2 : prL (scL kt2) = .inr (2, 19) := by kernel_rfl
theorem kp_3 : stT ks1 ++ stT ks2 = [105, 110, 115, 101, 114, 116, 32, 49, 32, 48, 32, 34, 104, 195, 169, 34, 10, 116, 105, 99, 107, 32, 50, 32, 45, 49, 10] := by kernel_rfl
theorem kp_4 : stT ks3 ++ cpT kc1 = [100, 114, 111, 112, 32, 55, 10, 32, 32, 99, 111, 112, 121, 32, 55, 32, 102, 114, 111, 109, 32, 49, 32, 116, 111, 32, 50, 32, 115, 101, 110, 116, 32, 52, 32, 98, 97, 100, 32, 34, 92, 120, 48, 49, 34, 10] := by kernel_rfl
end Go.Proofs.YtkndjbmlkfpfoaaGreatDoor

/-
  The law's known.
-/
set_option linter.unusedSimpArgs false
set_option linter.unusedVariables false
namespace Go.Proofs.YtkndjbmlkfpfoaaGreatDoor
open Go Go.RowKit Go.Lib

theorem OwT.rs {W : World} {N : Nat} {v : Value} {l : List (Sp × Value × Value)} (h : OwT W N v l) : RStp W v l := ⟨RC.of_owns h.row, fun e he => RC.of_owns (h.rows e he).1, fun e he => (h.rows e he).2.row⟩
theorem in64_d (x : Int) (h : decide (-9223372036854775808 ≤ x ∧ x ≤ 9223372036854775807) = true) : in64 x := by
  have h1 : -9223372036854775808 ≤ x ∧ x ≤ 9223372036854775807 := of_decide_eq_true h
  exact h1
theorem ks1_k : isK ks1 := ⟨by decide, by decide⟩
theorem ks2_k : isK ks2 := ⟨by decide, by decide⟩
theorem ks3_k : isK ks3 := ⟨by decide, by decide⟩
theorem ks1_w : SpW ks1 := ⟨(in64_d _ (by decide)), (in64_d _ (by decide)), (in64_d _ (by decide)), (in64_d _ (by decide)), (in64_d _ (by decide)), (in64_d _ (by decide)), by decide, by decide, (fun x hx => by cases hx), by decide⟩
theorem ks2_w : SpW ks2 := ⟨(in64_d _ (by decide)), (in64_d _ (by decide)), (in64_d _ (by decide)), (in64_d _ (by decide)), (in64_d _ (by decide)), (in64_d _ (by decide)), by decide, by decide, (fun x hx => by simp [ks2] at hx; rcases hx with rfl | rfl <;> exact in64_d _ (by decide)), by decide⟩
theorem ks3_w : SpW ks3 := ⟨(in64_d _ (by decide)), (in64_d _ (by decide)), (in64_d _ (by decide)), (in64_d _ (by decide)), (in64_d _ (by decide)), (in64_d _ (by decide)), by decide, by decide, (fun x hx => by cases hx), by decide⟩
theorem kc1_w : CpW kc1 := ⟨(in64_d _ (by decide)), (in64_d _ (by decide)), (in64_d _ (by decide)), (in64_d _ (by decide)), by decide⟩
theorem two_sp {l : List (Sp × Value × Value)} {a b : Sp} (h : l.map Prod.fst = [a, b]) : ∃ x y, l = [(a, x), (b, y)] := by
  match l, h with
  | [(p, x), (q, y)], h =>
    simp at h
    obtain ⟨rfl, rfl⟩ := h
    exact ⟨x, y, rfl⟩
  | [], h => simp at h
  | [_], h => simp at h
  | _ :: _ :: _ :: _, h => simp at h

set_option maxRecDepth 100000 in
set_option maxHeartbeats 8000000 in
theorem known_in {w : World} (hL : Lw w) : KnO w := by
  intro W hb
  have HL := hide (hL.below hb)
  have h0 := hide (Parse_all kt1 (by decide) W (unhide HL))
  unfold kt1 at h0
  clear hL hb
  go_enter Tryz.func9, Tryz.ntmps9
  go_wp2_with fail
  refine (unhide h0).mono ?_
  rintro e W1 ⟨hb1, hp⟩
  change (match prL (scL kt1) with
  | .inl (S, _) => ∃ v l, e = .returned (.tuple #[v, .int .i64 0, .int .i64 0]) ∧ OwT W1 W.heap.size v l ∧ l.map Prod.fst = S
  | .inr (ln, en) => e = .returned (.tuple #[.slice none 0 0, .int .i64 (ln : Int), .int .i64 (en : Int)])) at hp
  rw [kp_1] at hp
  obtain ⟨v, l, rfl, ho, hl⟩ := hp
  obtain ⟨⟨d1, y1⟩, ⟨d2, y2⟩, rfl⟩ := two_sp hl
  have hrs := ho.rs
  obtain ⟨g, c, rfl, hc2, cur, hg⟩ := owns_some ho.row (by simp)
  obtain ⟨da, dc, hd2⟩ := owns_form (ho.rows (ks2, d2, y2) (by simp)).1
  simp only [ks2, List.length_cons, List.length_nil, Nat.zero_add, Nat.reduceAdd] at hd2
  subst hd2
  have HRS := hide hrs
  have HB1 := hide hb1
  have hpt : pT [(ks1, d1, y1), (ks2, .slice da 2 dc, y2)] = [105, 110, 115, 101, 114, 116, 32, 49, 32, 48, 32, 34, 104, 195, 169, 34, 10, 116, 105, 99, 107, 32, 50, 32, 45, 49, 10] := by
    rw [← kp_3]
    simp [pT]
  have h1 := hide (Print_in hrs (fun x hx => by simp at hx; rcases hx with rfl | rfl; exact ks1_w; exact ks2_w) (by simp) ((unhide HL).below hb1) (by rw [hpt]; simp))
  simp only [List.length_cons, List.length_nil, Nat.zero_add, Nat.reduceAdd] at h1 HRS ⊢
  clear hb1 h0 ho hl hg cur hrs
  go_wp2_with fail
  refine (unhide h1).mono ?_
  rintro e W2 ⟨hp, hb2⟩
  rcases hp with ⟨_, rfl⟩ | ⟨⟨x, hx, hk⟩, _⟩
  case inr => exact absurd (show isK x.1 by simp at hx; rcases hx with rfl | rfl; exact ks1_k; exact ks2_k) hk
  rw [hpt, show ofL [105, 110, 115, 101, 114, 116, 32, 49, 32, 48, 32, 34, 104, 195, 169, 34, 10, 116, 105, 99, 107, 32, 50, 32, 45, 49, 10] = (⟨#[105, 110, 115, 101, 114, 116, 32, 49, 32, 48, 32, 34, 104, 195, 169, 34, 10, 116, 105, 99, 107, 32, 50, 32, 45, 49, 10]⟩ : ByteArray) from rfl]
  have HB2 := hide (bnext (unhide HB1) hb2)
  have HRS2 := hide ((unhide HRS).below hb2)
  have h2 := hide (Parse_all kt2 (by decide) W2 ((unhide HL).below (unhide HB2)))
  unfold kt2 at h2
  clear h1 hb2 HRS HB1
  go_wp2_with fail
  refine (unhide h2).mono ?_
  rintro e W3 ⟨hb3, hp⟩
  change (match prL (scL kt2) with
  | .inl (S, _) => ∃ v l, e = .returned (.tuple #[v, .int .i64 0, .int .i64 0]) ∧ OwT W3 W2.heap.size v l ∧ l.map Prod.fst = S
  | .inr (ln, en) => e = .returned (.tuple #[.slice none 0 0, .int .i64 (ln : Int), .int .i64 (en : Int)])) at hp
  rw [kp_2] at hp
  obtain rfl := hp
  have HB3 := hide (bnext (unhide HB2) hb3)
  have HRS3 := hide ((unhide HRS2).below hb3)
  clear h2 hb3 HRS2 HB2
  obtain ⟨X3, hX3⟩ : ∃ X, W3.alloc (.cells #[.int .u8 1] 5) = X := ⟨_, rfl⟩
  obtain ⟨X4, hX4⟩ : ∃ X, X3.alloc (.cells #[.int .i64 7, .int .i64 1, .int .i64 2, .slice (some ⟨W3.heap.size, 0, none⟩) 1 1, .int .i64 4, .bool true] 64) = X := ⟨_, rfl⟩
  have hz3 : X3.heap.size = W3.heap.size + 1 := by rw [← hX3]; simp
  have b3 : Below W3.heap.size W3 X3 := by rw [← hX3]; exact ballc (Below.refl _ _) _
  have b34 : Below X3.heap.size X3 X4 := by rw [← hX4]; exact ballc (Below.refl _ _) _
  have q3 : Bq X4 W3.heap.size 5 #[.int .u8 1] := by
    have h := Bq.new W3 5 #[.int .u8 1]
    rw [hX3] at h
    exact h.keep b34 h.lt
  have q4 : Bq X4 (W3.heap.size + 1) 64 #[.int .i64 7, .int .i64 1, .int .i64 2, .slice (some ⟨W3.heap.size, 0, none⟩) 1 1, .int .i64 4, .bool true] := by rw [← hX4, ← hz3]; exact Bq.new _ _ _
  have hrc : RCpy X4 (.slice (some ⟨W3.heap.size + 1, 0, none⟩) 1 1) [(kc1, .slice (some ⟨W3.heap.size, 0, none⟩) 1 1)] :=
    ⟨.inr ⟨W3.heap.size + 1, 0, 1, rfl, Nat.le_refl _, q4.lt, fun j u hu => by rw [Nat.zero_add]; exact q4.cell j u (by simpa [flat, enP, cpC, kc1] using hu)⟩,
     fun e he => by
      simp at he
      subst he
      exact .inr ⟨W3.heap.size, 0, 1, rfl, Nat.le_refl _, q3.lt, fun j u hu => by rw [Nat.zero_add]; exact q3.cell j u (by simpa [Lib.byteCells, kc1] using hu)⟩⟩
  have HB4 := hide (bnext (unhide HB3) (bnext b3 b34))
  have HRS4 := hide ((unhide HRS3).below (bnext b3 b34))
  have hcs : stT ks3 ++ csT [(kc1, Value.slice (some ⟨W3.heap.size, 0, none⟩) 1 1)] = [100, 114, 111, 112, 32, 55, 10, 32, 32, 99, 111, 112, 121, 32, 55, 32, 102, 114, 111, 109, 32, 49, 32, 116, 111, 32, 50, 32, 115, 101, 110, 116, 32, 52, 32, 98, 97, 100, 32, 34, 92, 120, 48, 49, 34, 10] := by
    rw [← kp_4]
    simp [csT]
  have h3 := hide (Tell_cp (w := X4) ks3 none 0 0 none 0 0 (some ⟨W3.heap.size + 1, 0, none⟩) 1 [(kc1, .slice (some ⟨W3.heap.size, 0, none⟩) 1 1)] (RC.nil _ _ _) (RC.nil _ _ _) ks3_w ks3_k (by decide) hrc (fun e he => by simp at he; subst he; exact kc1_w) (by simp) ((unhide HL).below (unhide HB4)) (by rw [hcs]; simp))
  rw [hcs, show ofL [100, 114, 111, 112, 32, 55, 10, 32, 32, 99, 111, 112, 121, 32, 55, 32, 102, 114, 111, 109, 32, 49, 32, 116, 111, 32, 50, 32, 115, 101, 110, 116, 32, 52, 32, 98, 97, 100, 32, 34, 92, 120, 48, 49, 34, 10] = (⟨#[100, 114, 111, 112, 32, 55, 10, 32, 32, 99, 111, 112, 121, 32, 55, 32, 102, 114, 111, 109, 32, 49, 32, 116, 111, 32, 50, 32, 115, 101, 110, 116, 32, 52, 32, 98, 97, 100, 32, 34, 92, 120, 48, 49, 34, 10]⟩ : ByteArray) from rfl] at h3
  clear b3 b34 q3 q4 hrc HB3 HRS3
  go_wp2_with fail
  try rw [hX3]
  try rw [hX4]
  refine (unhide h3).mono ?_
  rintro e W4 ⟨rfl, hb4⟩
  have HB5 := hide (bnext (unhide HB4) hb4)
  have hR5 := (unhide HRS4).below hb4
  obtain ⟨g1, o1, e1, _, cs1⟩ := hR5.at (i := 0) (e := (ks1, d1, y1)) rfl
  obtain ⟨g2, o2, e2, _, cs2⟩ := hR5.at (i := 1) (e := (ks2, .slice da 2 dc, y2)) rfl
  cases e1
  cases e2
  have t6 := cs1 6 (.string ⟨#[104, 195, 169]⟩) rfl
  have t7 := cs2 7 (.slice da 2 dc) rfl
  simp only [Nat.zero_mul, Nat.zero_add, Nat.one_mul, Nat.reduceAdd] at t6 t7
  have hd2 := hR5.dr (ks2, .slice da 2 dc, y2) (by simp)
  have bX5 := ballc (Below.refl _ W4) (.cells #[.int .i64 2, .int .i64 (-1)] 3)
  have hn5 : RNm (W4.alloc (.cells #[.int .i64 2, .int .i64 (-1)] 3)) (.slice (some ⟨W4.heap.size, 0, none⟩) 2 2) [2, -1] := by
    refine .inr ⟨W4.heap.size, 0, 2, rfl, Nat.le_refl _, by simp, fun j u hu => ?_⟩
    rw [Nat.zero_add]
    exact (Bq.new W4 3 #[.int .i64 2, .int .i64 (-1)]).cell j u (by simpa [flat, enN] using hu)
  have h4 := hide (ints_in (.slice da 2 dc) (.slice (some ⟨W4.heap.size, 0, none⟩) 2 2) [2, -1] [2, -1] _ (RC.below hd2 bX5) hn5 (by simp) (by simp))
  have HB6 := hide (bnext (unhide HB5) bX5)
  have hc0 : 2 ≤ c := by simpa using hc2
  clear hR5 cs1 cs2 hd2 bX5 hn5 h3 hb4 HRS4 HB4 HB5 hX3 hX4 hz3 hcs
  go_wp2_with fail
  refine (unhide h4).mono ?_
  rintro e W6 ⟨rfl, hb6⟩
  have HF := hide (bnext (unhide HB6) hb6)
  clear h4 hb6 HB6
  go_wp2
  go_ret
  exact ⟨rfl, unhide HF⟩
end Go.Proofs.YtkndjbmlkfpfoaaGreatDoor
