/-
  Steps in lists of their own, marks behind them.
-/
import Derived.Test.YtkndjbmlkfpfoaaGreatDoorZLN0ToLN1
import Derived.Test.YtkndjbmlkfpfoaaGreatDoorZTQToTR0
import Derived.Test.YtkndjbmlkfpfoaaGreatDoorZKN0ToKN2

set_option linter.unusedSimpArgs false
set_option linter.unusedVariables false
namespace Go.Proofs.YtkndjbmlkfpfoaaGreatDoor
open Go.RowKit Go.Lib

/-- a step's rows, with marks behind them -/
structure LM (W : World) (N : Nat) (s : Sp) (dv bv : Value) : Prop where
  dr : ∃ g c, dv = .slice (some ⟨g, 0, none⟩) s.draws.length c ∧ W.ownsRow N 3 1 (.slice (some ⟨g, 0, none⟩) (s.draws.length + 1) c) (s.draws.length + 1) (flat enN s.draws ++ [Value.int .i64 901])
  by_ : ∃ g c, bv = .slice (some ⟨g, 0, none⟩) s.data.length c ∧ W.ownsRow N 5 1 (.slice (some ⟨g, 0, none⟩) (s.data.length + 1) c) (s.data.length + 1) (Lib.byteCells s.data ++ [Value.int .u8 171])
theorem LM.kp {M : Nat → Prop} {W W' : World} {N : Nat} {s : Sp} {dv bv : Value} (h : LM W N s dv bv) (k : Kp M W W') (h1 : ∀ i, dv.ownBlock = some i → ¬ M i) (h2 : ∀ i, bv.ownBlock = some i → ¬ M i) : LM W' N s dv bv := by
  obtain ⟨⟨g, c, rfl, ho⟩, ⟨g2, c2, rfl, ho2⟩⟩ := h
  exact ⟨⟨g, c, rfl, owns_kp ho k h1⟩, ⟨g2, c2, rfl, owns_kp ho2 k h2⟩⟩
theorem LM.below {W W' : World} {N : Nat} {s : Sp} {dv bv : Value} (h : LM W N s dv bv) (hb : Below W.heap.size W W') : LM W' N s dv bv := h.kp (M := fun _ => False) (Kp.of_below hb) (fun _ _ e => e) (fun _ _ e => e)
theorem LM.wk {W : World} {N N' : Nat} {s : Sp} {dv bv : Value} (h : LM W N s dv bv) (hn : N' ≤ N) : LM W N' s dv bv := by
  obtain ⟨⟨g, c, e, ho⟩, ⟨g2, c2, e2, ho2⟩⟩ := h
  exact ⟨⟨g, c, e, owns_wk ho hn⟩, ⟨g2, c2, e2, owns_wk ho2 hn⟩⟩
theorem pre_rc {W : World} {N : Nat} {E : TypeId} {g n c : Nat} {C : List Value} {y : Value} (h : W.ownsRow N E 1 (.slice (some ⟨g, 0, none⟩) (n + 1) c) (n + 1) (C ++ [y])) : RC W (.slice (some ⟨g, 0, none⟩) n c) n C := by
  rcases RC.of_owns h with ⟨h0, _⟩ | ⟨b, off, cap, e, h1, h2, h3⟩
  · omega
  · simp at e
    obtain ⟨⟨rfl, rfl⟩, rfl⟩ := e
    exact .inr ⟨g, 0, c, rfl, by omega, h2, fun j x hx => h3 j x ((List.getElem?_append_left (List.getElem?_eq_some_iff.1 hx).1).trans hx)⟩
theorem LM.rn {W : World} {N : Nat} {s : Sp} {dv bv : Value} (h : LM W N s dv bv) : RNm W dv s.draws := by
  obtain ⟨g, c, rfl, ho⟩ := h.dr
  exact pre_rc ho
theorem LM.rb {W : World} {N : Nat} {s : Sp} {dv bv : Value} (h : LM W N s dv bv) : RBy W bv s.data := by
  obtain ⟨g, c, rfl, ho⟩ := h.by_
  exact pre_rc ho
theorem LM.one {W : World} {N : Nat} {s : Sp} {dv bv : Value} (h : LM W N s dv bv) : ∀ u ∈ encS (s, dv, bv), u.oneCell' = true := by
  obtain ⟨⟨g, c, rfl, ho⟩, ⟨g2, c2, rfl, ho2⟩⟩ := h
  intro u hu
  simp [encS, spC] at hu
  rcases hu with rfl | rfl | rfl | rfl | rfl | rfl | rfl | rfl | rfl <;> rfl
/-- Steps of one's own, marks behind each one's rows -/
structure OwL (W : World) (N : Nat) (v : Value) (m : List (Sp × Value × Value)) : Prop where
  row : W.ownsRow N 40 9 v m.length (flat encS m)
  lm : ∀ x ∈ m, LM W N x.1 x.2.1 x.2.2
theorem OwL.below {W W' : World} {N : Nat} {v : Value} {m : List (Sp × Value × Value)} (h : OwL W N v m) (hb : Below W.heap.size W W') : OwL W' N v m :=
  ⟨owns_kp (N := fun _ => False) h.row (Kp.of_below hb) (fun _ _ e => e), fun x hx => (h.lm x hx).below hb⟩
/-- append(l, s) of a Step -/
theorem append_lm (w : World) (ty : TypeId) (N : Nat) (v : Value) (m : List (Sp × Value × Value)) (e : Sp × Value × Value) (nb : Nat) (h : OwL w N v m) (hbx : Bq w nb 40 (encS e).toArray) (h1 : ∀ u ∈ encS e, u.oneCell' = true) (hN : N ≤ w.heap.size) (hl : m.length ≤ 1000000) :
    ∃ v' w', (Builtin.append_ #[23, 23] ty #[v, .slice (some ⟨nb, 0, none⟩) 1 1]).run Tryz.prog w = .ok v' w' ∧ w'.ownsRow N 40 9 v' (m.length + 1) (flat encS m ++ encS e) ∧ (∀ s dv bv, LM w N s dv bv → LM w' N s dv bv) ∧ Below N w w' := by
  obtain ⟨i0, hi, hz0, hz1, hz2⟩ := info_parts5 infoSt
  obtain ⟨v', w', q1, q2, q3, _, _⟩ := run_append_own_at (P := Tryz.prog) w N 23 ty 40 i0 _ 9 112 Tryz.underlying23 hi hz0 hz1 hz2 rfl (by decide) v m.length _ h.row ⟨nb, 0, none⟩ 1 1 (encS e) rfl (fun j u hu => by
    rw [Addr.add_lit, Nat.zero_add]
    exact hbx.cell j u (by rw [← hu]; simp)) h1 (by unfold maxLen; omega) (by omega) hN
  have k : Kp (fun i => v.ownBlock = some i) w w' := Kp.of_grown q3 (fun k hk => hk)
  have hty : ∀ q t vs, Bq w q t vs → t ≠ 40 → v.ownBlock ≠ some q := fun q t vs hq ht => owns_ty h.row hq ht
  refine ⟨v', w', q1, q2, fun s dv bv hx => ?_, (Below.refl _ w).grown q3 hN (fun k hk => (h.row.lt k hk).1)⟩
  refine hx.kp k ?_ ?_
  · intro i hi' e
    obtain ⟨g, c, rfl, ho⟩ := hx.dr
    obtain ⟨g', c', e', _, cur, hq⟩ := owns_some ho (by omega)
    simp [Value.ownBlock] at hi'
    simp at e'
    obtain ⟨rfl, _⟩ := e'
    subst hi'
    exact hty _ _ _ hq (by decide) e
  · intro i hi' e
    obtain ⟨g, c, rfl, ho⟩ := hx.by_
    obtain ⟨g', c', e', _, cur, hq⟩ := owns_some ho (by omega)
    simp [Value.ownBlock] at hi'
    simp at e'
    obtain ⟨rfl, _⟩ := e'
    subst hi'
    exact hty _ _ _ hq (by decide) e
/-- what lent answers: the same steps in lists of their own, a mark behind the row and behind each one's rows -/
structure LentS (W : World) (N : Nat) (v : Value) (l m : List (Sp × Value × Value)) : Prop where
  eq : m.map Prod.fst = l.map Prod.fst
  row : ∃ g c z, v = .slice (some ⟨g, 0, none⟩) m.length c ∧ z.1.kind = 902 ∧ W.ownsRow N 40 9 (.slice (some ⟨g, 0, none⟩) (m.length + 1) c) (m.length + 1) (flat encS m ++ encS z)
  lm : ∀ x ∈ m, LM W N x.1 x.2.1 x.2.2
theorem LentS.rs {W : World} {N : Nat} {v : Value} {l m : List (Sp × Value × Value)} (h : LentS W N v l m) : RStp W v m := by
  obtain ⟨g, c, z, rfl, _, ho⟩ := h.row
  refine ⟨?_, fun x hx => (h.lm x hx).rn, fun x hx => (h.lm x hx).rb⟩
  rcases RC.of_owns ho with ⟨h0, _⟩ | ⟨b, off, cap, e, h1, h2, h3⟩
  · omega
  · simp at e
    obtain ⟨⟨rfl, rfl⟩, rfl⟩ := e
    exact .inr ⟨g, 0, c, rfl, by omega, h2, fun j x hx => h3 j x ((List.getElem?_append_left (List.getElem?_eq_some_iff.1 hx).1).trans hx)⟩
theorem LentS.below {W W' : World} {N : Nat} {v : Value} {l m : List (Sp × Value × Value)} (h : LentS W N v l m) (hb : Below W.heap.size W W') : LentS W' N v l m := by
  obtain ⟨g, c, z, e, hz, ho⟩ := h.row
  exact ⟨h.eq, ⟨g, c, z, e, hz, owns_kp (N := fun _ => False) ho (Kp.of_below hb) (fun _ _ e => e)⟩, fun x hx => (h.lm x hx).below hb⟩

end Go.Proofs.YtkndjbmlkfpfoaaGreatDoor

/-
  The law's lent.
-/
set_option linter.unusedSimpArgs false
set_option linter.unusedVariables false
namespace Go.Proofs.YtkndjbmlkfpfoaaGreatDoor
open Go.RowKit Go.Lib

theorem LitS.data {l : List (Sp × Value × Value)} (h : LitS l) {i : Nat} {e : Sp × Value × Value} (he : l[i]? = some e) : e.1.data.length ≤ 30000 := by
  have h1 := smL_take he
  have h2 : smL l = smL (l.take (i + 1)) + smL (l.drop (i + 1)) := by
    unfold smL
    rw [← List.sum_append, ← List.map_append, List.take_append_drop]
  have := h.sm
  omega
/-- what lent answers -/
def LnA (w : World) (l : List (Sp × Value × Value)) (e : Ending) (W : World) : Prop := ∃ x m, e = .returned x ∧ LentS W w.heap.size x l m ∧ Below w.heap.size w W
theorem infoU : (Tryz.prog.info? 5).map (fun i => (i.zero, i.size, i.bytes)) = some (some (.int .u8 0), 1, 1) := by kernel_rfl

set_option maxRecDepth 100000 in
set_option maxHeartbeats 8000000 in
theorem lent_in {w : World} (v : Value) (l : List (Sp × Value × Value)) (hr : RStp w v l) (hn : LitS l) :
    Calls Tryz.prog 14 #[v] w (LnA w l) := by
  obtain ⟨a, c, rfl⟩ := RC.form hr.row
  have HR := hide hr
  have HC := hide hn
  obtain ⟨L, hL⟩ : ∃ L, l.length = L := ⟨_, rfl⟩
  have hL200 := hn.len
  rw [hL] at HR hL200 ⊢
  have HL := hide hL
  clear hr hL hn
  go_enter Tryz.func14, Tryz.ntmps14
  go_wp2
  go_loopw [3, 4, 5] (fun v3 v4 v5 wr => ∃ (i : Nat) (am : Option Addr) (cm : Nat), v3 = .slice am i cm ∧ v4 = .int .i64 (i : Nat) ∧ i ≤ L ∧ Hid (∃ m, OwL wr w.heap.size (.slice am i cm) m ∧ m.length = i ∧ m.map Prod.fst = (l.take i).map Prod.fst ∧ Below w.heap.size w wr)) (fun _ v4 _ _ => L - (RowKit.intOf v4).toNat)
  case atStart => exact ⟨0, none, 0, rfl, rfl, by omega, hide ⟨[], ⟨World.ownsRow_nil _ _ _ _, fun x hx => by cases hx⟩, rfl, rfl, Below.refl _ _⟩⟩
  case round =>
    obtain ⟨i, am, cm, rfl, rfl, hi, HM⟩ := hrel
    obtain ⟨m, hm, hml, hmf, hbw⟩ := unhide HM
    have HB := hide hbw
    have HOM := hide hm
    have HML := hide hml
    have HMF := hide hmf
    clear hm hml hmf hbw HM
    by_cases hlt : i < L
    · have hlt' : (i : Int) < (L : Int) := by omega
      obtain ⟨⟨s, dv, bv⟩, hx⟩ : ∃ o, l[i]? = some o := ⟨_, List.getElem?_eq_getElem (by rw [unhide HL]; exact hlt)⟩
      have r1 := (unhide HR).below (unhide HB)
      obtain ⟨b0, off, rfl, hb0, hc⟩ := r1.at hx
      have rd := r1.dr _ (List.mem_of_getElem? hx)
      have rb := r1.by_ _ (List.mem_of_getElem? hx)
      simp only at rd rb
      obtain ⟨da, dc, rfl⟩ := RC.form rd
      obtain ⟨ba, bc, rfl⟩ := RC.form rb
      have p0 := hc 0 _ rfl
      have p1 := hc 1 _ rfl
      have p2 := hc 2 _ rfl
      have p3 := hc 3 _ rfl
      have p4 := hc 4 _ rfl
      have p5 := hc 5 _ rfl
      have p6 := hc 6 _ rfl
      have p7 := hc 7 _ rfl
      have p8 := hc 8 _ rfl
      simp only [Nat.add_zero] at p0 p1 p2 p3 p4 p5 p6 p7 p8
      clear hc
      have HTK := hide (show (l.take (i + 1)).map Prod.fst = (l.take i).map Prod.fst ++ [s] by rw [List.take_add_one, hx]; simp)
      obtain ⟨n1, hn1⟩ : ∃ n, s.draws.length = n := ⟨_, rfl⟩
      obtain ⟨n2, hn2⟩ : ∃ n, s.data.length = n := ⟨_, rfl⟩
      obtain ⟨dl, hdl⟩ : ∃ n, s.draws = n := ⟨_, rfl⟩
      obtain ⟨bl, hbl⟩ : ∃ n, s.data = n := ⟨_, rfl⟩
      have hs1 := (unhide HC).dr _ (List.mem_of_getElem? hx)
      have hs2 := (unhide HC).data hx
      simp only at hs1 hs2
      rw [hn1] at rd p7 hs1
      rw [hn2] at rb p8 hs2
      rw [hdl] at rd hn1
      rw [hbl] at rb hn2
      unfold RNm at rd
      rw [hn1] at rd
      unfold RBy at rb
      rw [hn2] at rb
      have HRB0 := hide rb
      have HN2 := hide hn2
      have HN1 := hide hn1
      have HDL := hide hdl
      have HBLs := hide hbl
      go_upto_region 6 with fail
      obtain ⟨X7, hX7⟩ : ∃ X, wr.alloc (.cells #[.int .i64 s.kind, .int .i64 s.site, .int .i64 s.peer, .int .i64 s.unit, .int .i64 s.at_, .int .i64 s.n, .string s.text, .slice da n1 dc, .slice ba n2 bc] 40) = X := ⟨_, rfl⟩
      have HX7 := hide hX7
      have HBX7 := hide (show Bq X7 wr.heap.size 40 #[.int .i64 s.kind, .int .i64 s.site, .int .i64 s.peer, .int .i64 s.unit, .int .i64 s.at_, .int .i64 s.n, .string s.text, .slice da n1 dc, .slice ba n2 bc] by rw [← hX7]; exact Bq.new _ _ _)
      have HBL7 := hide (unhide HBX7).lt
      have HWX := hide (show Below wr.heap.size wr X7 by rw [← hX7]; exact ballc (Below.refl _ _) _)
      have HRD := hide (RC.below rd (unhide HWX))
      have HRB := hide (RC.below rb (unhide HWX))
      have HLn7 := hide (show (flat enN dl).length = n1 by rw [flat_len (k := 1) (fun _ => rfl), hn1, Nat.mul_one])
      have HOn7 := hide (show ∀ u ∈ flat enN dl, u.oneCell' = true from fun u hu => by obtain ⟨x, _, hx⟩ := flat_mem hu; simp [enN] at hx; subst hx; rfl)
      have HSm7 := hide (show n1 ≤ 1000000 by omega)
      clear hX7 rd rb p0 p1 p2 p3 p4 p5 p6 p7 p8 hx r1
      rw [unhide HX7]
      go_cut [25] from 16 to 26 (fun v wx => Hid (∃ U g c, Below X7.heap.size X7 U ∧ X7.heap.size ≤ U.heap.size ∧ wx = U.setCell ⟨wr.heap.size, 7, none⟩ (.slice (some ⟨g, 0, none⟩) n1 c) ∧ U.ownsRow X7.heap.size 3 1 (.slice (some ⟨g, 0, none⟩) (n1 + 1) c) (n1 + 1) (flat enN dl ++ [Value.int .i64 901])))
      case first =>
        refine wp_region_any (by kernel_rfl) ?_
        change wpAny _ _ _ _ _ _ _ (World.drew _)
        refine region_ss 49 (fun j => if j = 11 then 100 else 16 + j) ((0, (Value.slice (some { block := b0, off := off }) L c)) :: (1, undef) :: (2, (Value.slice none 0 0)) :: (3, (Value.slice am i cm)) :: (4, (Value.int IntKind.i64 (i : Nat))) :: (5, (Value.pointer (some { block := wr.heap.size, off := 0 }))) :: (6, (Value.int IntKind.i64 (i : Nat))) :: (7, (Value.slice (some { block := b0, off := off }) L c)) :: (8, (Value.int IntKind.i64 (L : Nat))) :: (9, (Value.bool true)) :: (10, u10) :: (11, u11) :: (12, (Value.slice (some { block := b0, off := off }) L c)) :: (13, (Value.int IntKind.i64 (i : Nat))) :: (14, (Value.pointer (some { block := b0, off := off + i * 9 }))) :: (15, (Value.agg #[.int .i64 s.kind, .int .i64 s.site, .int .i64 s.peer, .int .i64 s.unit, .int .i64 s.at_, .int .i64 s.n, .string s.text, .slice da n1 dc, .slice ba n2 bc])) :: (27, u27) :: (28, u28) :: (29, u29) :: (30, u30) :: (31, u31) :: (32, u32) :: (33, u33) :: (34, u34) :: (35, u35) :: (36, u36) :: (37, u37) :: (38, u38) :: (39, u39) :: (40, u40) :: (41, u41) :: (42, undef) :: (43, undef) :: (44, undef) :: (45, undef) :: (46, undef) :: (47, undef) :: (48, undef) :: []) (Lj6 X7.heap.size (wr.heap.size) 7 3 n1 (flat enN dl ++ [Value.int .i64 901]) X7) (valsOf [Em0, isV (Value.pointer (some { block := wr.heap.size, off := 7 })), isV (.slice da n1 dc), (Ow3 X7.heap.size 3 n1 (flat enN dl)), (Mk4 X7.heap.size 3 (Value.int .i64 901)), (Row5 X7.heap.size 3 n1 (flat enN dl ++ [Value.int .i64 901])), isV (Value.pointer (some { block := wr.heap.size, off := 7 })), isV (.slice da n1 dc), isV (Value.int .i64 (n1 : Nat)), (Row9 X7.heap.size 3 n1 (flat enN dl ++ [Value.int .i64 901])), isV (Value.pointer (some { block := wr.heap.size, off := 7 })), trueV]) (Gs6 X7.heap.size 3 n1 (flat enN dl) (Value.int .i64 901)) [] ?fit ?stable ?none ?steps ?fin _ _ ?sz rfl ?base ⟨fun e => Bool.noConfusion e, .inl ⟨rfl, (Below.refl _ _).drew, Nat.le_refl _⟩⟩
        case fit => kernel_rfl
        case sz => rfl
        case base => intro p hp; repeat (first | (rcases List.mem_cons.1 hp with rfl | hp; · rfl) | cases hp)
        case none =>
          intro j o' ho hdn w1 v
          have hj : j < 12 := (Array.getElem?_eq_some_iff.1 ho).1
          obtain rfl | rfl | rfl | rfl | rfl | rfl | rfl | rfl | rfl | rfl | rfl | rfl : j = 0 ∨ j = 1 ∨ j = 2 ∨ j = 3 ∨ j = 4 ∨ j = 5 ∨ j = 6 ∨ j = 7 ∨ j = 8 ∨ j = 9 ∨ j = 10 ∨ j = 11 := by omega
          all_goals first | exact trivial | (exfalso; have e := Option.some.inj ho; rw [← e] at hdn; cases hdn)
        case stable =>
          intro j i f w1 w2 v hfj hfi hJ hv hG
          rcases Nat.lt_or_ge j 12 with hj | hj
          · obtain rfl | rfl | rfl | rfl | rfl | rfl | rfl | rfl | rfl | rfl | rfl | rfl : j = 0 ∨ j = 1 ∨ j = 2 ∨ j = 3 ∨ j = 4 ∨ j = 5 ∨ j = 6 ∨ j = 7 ∨ j = 8 ∨ j = 9 ∨ j = 10 ∨ j = 11 := by omega
            · exact hv
            · exact hv
            · exact hv
            · exact hG.ow _ hv
            · exact hG.mkd _ hv
            · exact hG.r5 (fun e => by rw [e, hfj] at hfi; cases hfi) hv
            · exact hv
            · exact hv
            · exact hv
            · exact hG.r9 (fun e => by rw [e, hJ.o hfj] at hfi; cases hfi) hv
            · exact hv
            · exact trivial
          · unfold valsOf
            rw [List.getD_eq_getElem?_getD, List.getElem?_eq_none (by simpa using hj)]
            exact trivial
        case steps =>
          refine .cons (fun f ρ W hf hfe hρ hJ hb hd => by
            refine StepU.ok (by decide) ?_
            have h11 : f 11 = false := hf 11 (.inr (by decide +kernel))
            exact step_val (v := .slice (some ⟨W.heap.size, 0, none⟩) 0 0) (w' := W.alloc (.cells #[] 3)) (by simp [go_sem, execOp]) ⟨Gs6.below (ballc (Below.refl _ _) _), hJ.grow 0 (by decide) (by decide) h11 ((ballc (Below.refl _ _) _).mono (hJ.base h11).2), _, rfl⟩) ?_
          refine .cons (fun f ρ W hf hfe hρ hJ hb hd => by
            refine StepU.ok (by decide) ?_
            have d0 : ρ (.tmp 5) = (Value.pointer (some { block := wr.heap.size, off := 0 })) := hb (5, _) (List.mem_of_getElem? (i := 5) rfl)
            exact step_val (v := (Value.pointer (some { block := wr.heap.size, off := 7 }))) (w' := W) (by simp [go_sem, execOp, d0]) ⟨Gs6.refl W, hJ.nop 1 (by decide) (fun e => absurd e (by decide)), rfl⟩) ?_
          refine .cons (fun f ρ W hf hfe hρ hJ hb hd => by
            refine StepU.ok (by decide) ?_
            have h11 : f 11 = false := hf 11 (.inr (by decide +kernel))
            have d0 : ρ (.tmp 17) = (Value.pointer (some { block := wr.heap.size, off := 7 })) := hd 0 _ rfl rfl
            have cc := (unhide HBX7).keep (hJ.base h11).1 (unhide HBL7)
            have c0 := cc.cell 7 (.slice da n1 dc) rfl
            exact step_val (v := .slice da n1 dc) (w' := W) (by simp [go_sem, execOp, d0, c0]) ⟨Gs6.refl W, hJ.nop 2 (by decide) (fun e => absurd e (by decide)), rfl⟩) ?_
          refine .cons (fun f ρ W hf hfe hρ hJ hb hd => by
            refine StepU.ok (by decide) ?_
            have h11 : f 11 = false := hf 11 (.inr (by decide +kernel))
            obtain ⟨b9, d0⟩ : Em0 W (ρ (.tmp 16)) := hd 0 _ rfl rfl
            have d1 : ρ (.tmp 18) = .slice da n1 dc := hd 1 _ rfl rfl
            obtain ⟨v', w', hr, ho, hb2⟩ := first_in 37 3 _ _ Tryz.underlying37 infoI rfl W X7.heap.size 37 _ b9 n1 (flat enN dl) (RC.below (unhide HRD) (hJ.base h11).1) (unhide HLn7) (unhide HOn7) (hJ.base h11).2 (unhide HSm7) (by decide)
            exact step_val (v := v') (w' := w') (run_appendO (.tmp 16) (.tmp 18) 37 rfl d0 d1 hr) ⟨Gs6.below hb2, hJ.grow 3 (by decide) (by decide) h11 (hb2.mono (hJ.base h11).2), ho⟩) ?_
          refine .cons (fun f ρ W hf hfe hρ hJ hb hd => by
            refine StepU.ok (by decide) ?_
            have h11 : f 11 = false := hf 11 (.inr (by decide +kernel))
            exact step_val (v := .slice (some ⟨W.heap.size, 0, none⟩) 1 1) (w' := W.alloc (.cells #[Value.int .i64 901] 3)) (by simp [go_sem, execOp, hρ.const]) ⟨Gs6.below (ballc (Below.refl _ _) _), hJ.grow 4 (by decide) (by decide) h11 ((ballc (Below.refl _ _) _).mono (hJ.base h11).2), _, rfl, (hJ.base h11).2, heap_alloc_new W _⟩) ?_
          refine .cons (fun f ρ W hf hfe hρ hJ hb hd => by
            refine StepU.ok (by decide) ?_
            have h11 : f 11 = false := hf 11 (.inr (by decide +kernel))
            have d0 : Ow3 X7.heap.size 3 n1 (flat enN dl) W (ρ (.tmp 19)) := hd 0 _ rfl rfl
            have d1 : Mk4 X7.heap.size 3 (Value.int .i64 901) W (ρ (.tmp 20)) := hd 1 _ rfl rfl
            obtain ⟨v', w', hr, ho, hb2, hk1, hk2⟩ := second_in 37 3 _ _ Tryz.underlying37 infoI rfl W X7.heap.size 37 _ _ _ n1 (flat enN dl) d0 d1 (unhide HLn7) rfl (hJ.base h11).2 (unhide HSm7) (by decide)
            exact step_val (v := v') (w' := w') (run_appendO (.tmp 19) (.tmp 20) 37 rfl rfl rfl hr) ⟨⟨hk1, hk2, fun e => absurd rfl e⟩, hJ.grow 5 (by decide) (by decide) h11 hb2, ho⟩) ?_
          refine .cons (fun f ρ W hf hfe hρ hJ hb hd => by
            refine StepU.ok (by decide) ?_
            have d0 : ρ (.tmp 5) = (Value.pointer (some { block := wr.heap.size, off := 0 })) := hb (5, _) (List.mem_of_getElem? (i := 5) rfl)
            exact step_val (v := (Value.pointer (some { block := wr.heap.size, off := 7 }))) (w' := W) (by simp [go_sem, execOp, d0]) ⟨Gs6.refl W, hJ.nop 6 (by decide) (fun e => absurd e (by decide)), rfl⟩) ?_
          refine .cons (fun f ρ W hf hfe hρ hJ hb hd => by
            refine StepU.ok (by decide) ?_
            have h11 : f 11 = false := hf 11 (.inr (by decide +kernel))
            have d0 : ρ (.tmp 22) = (Value.pointer (some { block := wr.heap.size, off := 7 })) := hd 0 _ rfl rfl
            have cc := (unhide HBX7).keep (hJ.base h11).1 (unhide HBL7)
            have c0 := cc.cell 7 (.slice da n1 dc) rfl
            exact step_val (v := .slice da n1 dc) (w' := W) (by simp [go_sem, execOp, d0, c0]) ⟨Gs6.refl W, hJ.nop 7 (by decide) (fun e => absurd e (by decide)), rfl⟩) ?_
          refine .cons (fun f ρ W hf hfe hρ hJ hb hd => by
            refine StepU.ok (by decide) ?_
            have d0 : ρ (.tmp 23) = .slice da n1 dc := hd 0 _ rfl rfl
            exact step_val (v := .int .i64 (n1 : Nat)) (w' := W) (by simp [go_sem, execOp, d0]) ⟨Gs6.refl W, hJ.nop 8 (by decide) (fun e => absurd e (by decide)), rfl⟩) ?_
          refine .cons (fun f ρ W hf hfe hρ hJ hb hd => by
            refine StepU.ok (by decide) ?_
            have ho : Row5 X7.heap.size 3 n1 (flat enN dl ++ [Value.int .i64 901]) W (ρ (.tmp 21)) := hd 0 _ rfl rfl
            have d1 : ρ (.tmp 24) = .int .i64 (n1 : Nat) := hd 1 _ rfl rfl
            have h5 : f 5 = true := hfe 0 _ rfl rfl
            obtain ⟨g, c9, d0, hc9⟩ := own_cap' ho
            have hsl := slice_to 37 3 Tryz.underlying37 infoI W (some ⟨g, 0, none⟩) (n1 + 1) c9 n1 (by omega)
            unfold Row5 at ho
            rw [d0] at ho
            exact step_val (v := .slice (some ⟨g, 0, none⟩) n1 c9) (w' := W) (by simp [go_sem, execOp, d0, d1]; intro h; exfalso; omega) ⟨Gs6.refl W, hJ.nop 9 (by decide) (fun _ => h5), g, c9, rfl, ho⟩) ?_
          refine .cons (fun f ρ W hf hfe hρ hJ hb hd => by
            refine StepU.ok (by decide) ?_
            have d0 : ρ (.tmp 5) = (Value.pointer (some { block := wr.heap.size, off := 0 })) := hb (5, _) (List.mem_of_getElem? (i := 5) rfl)
            exact step_val (v := (Value.pointer (some { block := wr.heap.size, off := 7 }))) (w' := W) (by simp [go_sem, execOp, d0]) ⟨Gs6.refl W, hJ.nop 10 (by decide) (fun e => absurd e (by decide)), rfl⟩) ?_
          refine .cons (fun f ρ W hf hfe hρ hJ hb hd => by
            have h11 : f 11 = false := hf 11 (.inl rfl)
            have d0 : ρ (.tmp 26) = (Value.pointer (some { block := wr.heap.size, off := 7 })) := hd 0 _ rfl rfl
            obtain ⟨g, c9, d1, ho⟩ : Row9 X7.heap.size 3 n1 (flat enN dl ++ [Value.int .i64 901]) W (ρ (.tmp 25)) := hd 1 { on := 9, ground := Ground.data } rfl rfl
            have cc := (unhide HBX7).keep (hJ.base h11).1 (unhide HBL7)
            have x0 := cc.cell 7 (.slice da n1 dc) rfl
            have x1 := cc.frozen 7
            have x2 := cc.lt
            exact StepU.st _ (.tmp 26) (.tmp 25) rfl rfl (w' := W.setCell ⟨wr.heap.size, 7, none⟩ (.slice (some ⟨g, 0, none⟩) n1 c9)) (by rw [d0, d1]; simp [go_sem, x0, x1, x2]) ⟨Gs6.of_r (fun k hk _ => Below.heap_setCell W _ _ k (fun e => by have h1 := unhide HBL7; simp at e; omega)), hJ.store h11 ho, trivial⟩) ?_
          exact .nil _
        case fin =>
          intro a W5 hsz2 hds hb hJ hv
          obtain ⟨f, hf, hJ⟩ := hJ
          have hF := hide (hJ.fin (hf 11 (by decide)))
          obtain ⟨u', rfl⟩ : ∃ u : Nat → Value, a = ⟨#[u 0, u 1, u 2, u 3, u 4, u 5, u 6, u 7, u 8, u 9, u 10, u 11, u 12, u 13, u 14, u 15, u 16, u 17, u 18, u 19, u 20, u 21, u 22, u 23, u 24, u 25, u 26, u 27, u 28, u 29, u 30, u 31, u 32, u 33, u 34, u 35, u 36, u 37, u 38, u 39, u 40, u 41, u 42, u 43, u 44, u 45, u 46, u 47, u 48], []⟩ := ⟨fun k => a.eval (.tmp k), frame_fn 49 hsz2 hds⟩
          have e0 : u' 0 = (Value.slice (some { block := b0, off := off }) L c) := hb (0, _) (List.mem_of_getElem? (i := 0) rfl)
          have e1 : u' 1 = undef := hb (1, _) (List.mem_of_getElem? (i := 1) rfl)
          have e2 : u' 2 = (Value.slice none 0 0) := hb (2, _) (List.mem_of_getElem? (i := 2) rfl)
          have e3 : u' 3 = (Value.slice am i cm) := hb (3, _) (List.mem_of_getElem? (i := 3) rfl)
          have e4 : u' 4 = (Value.int IntKind.i64 (i : Nat)) := hb (4, _) (List.mem_of_getElem? (i := 4) rfl)
          have e5 : u' 5 = (Value.pointer (some { block := wr.heap.size, off := 0 })) := hb (5, _) (List.mem_of_getElem? (i := 5) rfl)
          have e6 : u' 6 = (Value.int IntKind.i64 (i : Nat)) := hb (6, _) (List.mem_of_getElem? (i := 6) rfl)
          have e7 : u' 7 = (Value.slice (some { block := b0, off := off }) L c) := hb (7, _) (List.mem_of_getElem? (i := 7) rfl)
          have e8 : u' 8 = (Value.int IntKind.i64 (L : Nat)) := hb (8, _) (List.mem_of_getElem? (i := 8) rfl)
          have e9 : u' 9 = (Value.bool true) := hb (9, _) (List.mem_of_getElem? (i := 9) rfl)
          have e10 : u' 10 = u10 := hb (10, _) (List.mem_of_getElem? (i := 10) rfl)
          have e11 : u' 11 = u11 := hb (11, _) (List.mem_of_getElem? (i := 11) rfl)
          have e12 : u' 12 = (Value.slice (some { block := b0, off := off }) L c) := hb (12, _) (List.mem_of_getElem? (i := 12) rfl)
          have e13 : u' 13 = (Value.int IntKind.i64 (i : Nat)) := hb (13, _) (List.mem_of_getElem? (i := 13) rfl)
          have e14 : u' 14 = (Value.pointer (some { block := b0, off := off + i * 9 })) := hb (14, _) (List.mem_of_getElem? (i := 14) rfl)
          have e15 : u' 15 = (Value.agg #[.int .i64 s.kind, .int .i64 s.site, .int .i64 s.peer, .int .i64 s.unit, .int .i64 s.at_, .int .i64 s.n, .string s.text, .slice da n1 dc, .slice ba n2 bc]) := hb (15, _) (List.mem_of_getElem? (i := 15) rfl)
          have e27 : u' 27 = u27 := hb (27, _) (List.mem_of_getElem? (i := 16) rfl)
          have e28 : u' 28 = u28 := hb (28, _) (List.mem_of_getElem? (i := 17) rfl)
          have e29 : u' 29 = u29 := hb (29, _) (List.mem_of_getElem? (i := 18) rfl)
          have e30 : u' 30 = u30 := hb (30, _) (List.mem_of_getElem? (i := 19) rfl)
          have e31 : u' 31 = u31 := hb (31, _) (List.mem_of_getElem? (i := 20) rfl)
          have e32 : u' 32 = u32 := hb (32, _) (List.mem_of_getElem? (i := 21) rfl)
          have e33 : u' 33 = u33 := hb (33, _) (List.mem_of_getElem? (i := 22) rfl)
          have e34 : u' 34 = u34 := hb (34, _) (List.mem_of_getElem? (i := 23) rfl)
          have e35 : u' 35 = u35 := hb (35, _) (List.mem_of_getElem? (i := 24) rfl)
          have e36 : u' 36 = u36 := hb (36, _) (List.mem_of_getElem? (i := 25) rfl)
          have e37 : u' 37 = u37 := hb (37, _) (List.mem_of_getElem? (i := 26) rfl)
          have e38 : u' 38 = u38 := hb (38, _) (List.mem_of_getElem? (i := 27) rfl)
          have e39 : u' 39 = u39 := hb (39, _) (List.mem_of_getElem? (i := 28) rfl)
          have e40 : u' 40 = u40 := hb (40, _) (List.mem_of_getElem? (i := 29) rfl)
          have e41 : u' 41 = u41 := hb (41, _) (List.mem_of_getElem? (i := 30) rfl)
          have e42 : u' 42 = undef := hb (42, _) (List.mem_of_getElem? (i := 31) rfl)
          have e43 : u' 43 = undef := hb (43, _) (List.mem_of_getElem? (i := 32) rfl)
          have e44 : u' 44 = undef := hb (44, _) (List.mem_of_getElem? (i := 33) rfl)
          have e45 : u' 45 = undef := hb (45, _) (List.mem_of_getElem? (i := 34) rfl)
          have e46 : u' 46 = undef := hb (46, _) (List.mem_of_getElem? (i := 35) rfl)
          have e47 : u' 47 = undef := hb (47, _) (List.mem_of_getElem? (i := 36) rfl)
          have e48 : u' 48 = undef := hb (48, _) (List.mem_of_getElem? (i := 37) rfl)
          rw [e0, e1, e2, e3, e4, e5, e6, e7, e8, e9, e10, e11, e12, e13, e14, e15, e27, e28, e29, e30, e31, e32, e33, e34, e35, e36, e37, e38, e39, e40, e41, e42, e43, e44, e45, e46, e47, e48]
          clear hJ hb hv hf hds hsz2 e0 e1 e2 e3 e4 e5 e6 e7 e8 e9 e10 e11 e12 e13 e14 e15 e27 e28 e29 e30 e31 e32 e33 e34 e35 e36 e37 e38 e39 e40 e41 e42 e43 e44 e45 e46 e47 e48
          go_wp2
          go_meet
          exact hF
      case rest =>
        obtain ⟨U7, g7, c7, hb7, hs7, hw7, ho7⟩ := unhide hcut
        clear hcut
        obtain ⟨X8, hX8⟩ : ∃ X, wc = X := ⟨_, rfl⟩
        rw [hX8] at hw7 ⊢
        have hBU := (unhide HBX7).keep hb7 (unhide HBL7)
        have HBX8 := hide (show Bq X8 wr.heap.size 40 #[.int .i64 s.kind, .int .i64 s.site, .int .i64 s.peer, .int .i64 s.unit, .int .i64 s.at_, .int .i64 s.n, .string s.text, .slice (some ⟨g7, 0, none⟩) n1 c7, .slice ba n2 bc] by rw [hw7]; simpa using hBU.sets 7 (.slice (some ⟨g7, 0, none⟩) n1 c7))
        have HBL8 := hide (unhide HBX8).lt
        have HO7 := hide (show X8.ownsRow X7.heap.size 3 1 (.slice (some ⟨g7, 0, none⟩) (n1 + 1) c7) (n1 + 1) (flat enN dl ++ [Value.int .i64 901]) by rw [hw7]; exact own_gq ho7 (fun k hk _ => Below.heap_setCell U7 _ _ k (fun e => by have h1 := unhide HBL7; simp at e; omega)))
        have HW8 := hide (show Below wr.heap.size wr X8 by rw [hw7]; exact (((unhide HWX).trans (hb7.mono (unhide HWX).size))).setCell (Nat.le_refl _) _)
        have HL78 := hide (unhide HBL7)
        have HRB8 := hide (RC.below (unhide HRB0) (unhide HW8))
        have HLn8 := hide (show (Lib.byteCells bl).length = n2 by rw [← unhide HN2]; simp [Lib.byteCells])
        have HOn8 := hide (show ∀ u ∈ Lib.byteCells bl, u.oneCell' = true from fun u hu => by simp [Lib.byteCells] at hu; obtain ⟨x, _, rfl⟩ := hu; rfl)
        have HSm8 := hide (show n2 ≤ 1000000 by omega)
        clear hb7 hs7 hw7 ho7 hBU HBX7 HBL7 HRD HRB HLn7 HOn7 HSm7 HX7 HWX hX8
        go_upto_region 7 with fail
        go_cut [36] from 27 to 37 (fun v wx => Hid (∃ U g c, Below X8.heap.size X8 U ∧ X8.heap.size ≤ U.heap.size ∧ wx = U.setCell ⟨wr.heap.size, 8, none⟩ (.slice (some ⟨g, 0, none⟩) n2 c) ∧ U.ownsRow X8.heap.size 5 1 (.slice (some ⟨g, 0, none⟩) (n2 + 1) c) (n2 + 1) (Lib.byteCells bl ++ [Value.int .u8 171])))
        case first =>
          refine wp_region_any (by kernel_rfl) ?_
          change wpAny _ _ _ _ _ _ _ (World.drew _)
          refine region_ss 49 (fun j => if j = 11 then 100 else 27 + j) ((0, (Value.slice (some { block := b0, off := off }) L c)) :: (1, undef) :: (2, (Value.slice none 0 0)) :: (3, (Value.slice am i cm)) :: (4, (Value.int IntKind.i64 (i : Nat))) :: (5, (Value.pointer (some { block := wr.heap.size, off := 0 }))) :: (6, (Value.int IntKind.i64 (i : Nat))) :: (7, (Value.slice (some { block := b0, off := off }) L c)) :: (8, (Value.int IntKind.i64 (L : Nat))) :: (9, (Value.bool true)) :: (10, u10) :: (11, u11) :: (12, (Value.slice (some { block := b0, off := off }) L c)) :: (13, (Value.int IntKind.i64 (i : Nat))) :: (14, (Value.pointer (some { block := b0, off := off + i * 9 }))) :: (15, (Value.agg #[.int .i64 s.kind, .int .i64 s.site, .int .i64 s.peer, .int .i64 s.unit, .int .i64 s.at_, .int .i64 s.n, .string s.text, .slice da n1 dc, .slice ba n2 bc])) :: (16, u16) :: (17, u17) :: (18, u18) :: (19, u19) :: (20, u20) :: (21, u21) :: (22, u22) :: (23, u23) :: (24, u24) :: (25, u25) :: (26, u26) :: (38, u38) :: (39, u39) :: (40, u40) :: (41, u41) :: (42, undef) :: (43, undef) :: (44, undef) :: (45, undef) :: (46, undef) :: (47, undef) :: (48, undef) :: []) (Lj6 X8.heap.size (wr.heap.size) 8 5 n2 (Lib.byteCells bl ++ [Value.int .u8 171]) X8) (valsOf [Em0, isV (Value.pointer (some { block := wr.heap.size, off := 8 })), isV (.slice ba n2 bc), (Ow3 X8.heap.size 5 n2 (Lib.byteCells bl)), (Mk4 X8.heap.size 5 (Value.int .u8 171)), (Row5 X8.heap.size 5 n2 (Lib.byteCells bl ++ [Value.int .u8 171])), isV (Value.pointer (some { block := wr.heap.size, off := 8 })), isV (.slice ba n2 bc), isV (Value.int .i64 (n2 : Nat)), (Row9 X8.heap.size 5 n2 (Lib.byteCells bl ++ [Value.int .u8 171])), isV (Value.pointer (some { block := wr.heap.size, off := 8 })), trueV]) (Gs6 X8.heap.size 5 n2 (Lib.byteCells bl) (Value.int .u8 171)) [] ?fit ?stable ?none ?steps ?fin _ _ ?sz rfl ?base ⟨fun e => Bool.noConfusion e, .inl ⟨rfl, (Below.refl _ _).drew, Nat.le_refl _⟩⟩
          case fit => kernel_rfl
          case sz => rfl
          case base => intro p hp; repeat (first | (rcases List.mem_cons.1 hp with rfl | hp; · rfl) | cases hp)
          case none =>
            intro j o' ho hdn w1 v
            have hj : j < 12 := (Array.getElem?_eq_some_iff.1 ho).1
            obtain rfl | rfl | rfl | rfl | rfl | rfl | rfl | rfl | rfl | rfl | rfl | rfl : j = 0 ∨ j = 1 ∨ j = 2 ∨ j = 3 ∨ j = 4 ∨ j = 5 ∨ j = 6 ∨ j = 7 ∨ j = 8 ∨ j = 9 ∨ j = 10 ∨ j = 11 := by omega
            all_goals first | exact trivial | (exfalso; have e := Option.some.inj ho; rw [← e] at hdn; cases hdn)
          case stable =>
            intro j i f w1 w2 v hfj hfi hJ hv hG
            rcases Nat.lt_or_ge j 12 with hj | hj
            · obtain rfl | rfl | rfl | rfl | rfl | rfl | rfl | rfl | rfl | rfl | rfl | rfl : j = 0 ∨ j = 1 ∨ j = 2 ∨ j = 3 ∨ j = 4 ∨ j = 5 ∨ j = 6 ∨ j = 7 ∨ j = 8 ∨ j = 9 ∨ j = 10 ∨ j = 11 := by omega
              · exact hv
              · exact hv
              · exact hv
              · exact hG.ow _ hv
              · exact hG.mkd _ hv
              · exact hG.r5 (fun e => by rw [e, hfj] at hfi; cases hfi) hv
              · exact hv
              · exact hv
              · exact hv
              · exact hG.r9 (fun e => by rw [e, hJ.o hfj] at hfi; cases hfi) hv
              · exact hv
              · exact trivial
            · unfold valsOf
              rw [List.getD_eq_getElem?_getD, List.getElem?_eq_none (by simpa using hj)]
              exact trivial
          case steps =>
            refine .cons (fun f ρ W hf hfe hρ hJ hb hd => by
              refine StepU.ok (by decide) ?_
              have h11 : f 11 = false := hf 11 (.inr (by decide +kernel))
              exact step_val (v := .slice (some ⟨W.heap.size, 0, none⟩) 0 0) (w' := W.alloc (.cells #[] 5)) (by simp [go_sem, execOp]) ⟨Gs6.below (ballc (Below.refl _ _) _), hJ.grow 0 (by decide) (by decide) h11 ((ballc (Below.refl _ _) _).mono (hJ.base h11).2), _, rfl⟩) ?_
            refine .cons (fun f ρ W hf hfe hρ hJ hb hd => by
              refine StepU.ok (by decide) ?_
              have d0 : ρ (.tmp 5) = (Value.pointer (some { block := wr.heap.size, off := 0 })) := hb (5, _) (List.mem_of_getElem? (i := 5) rfl)
              exact step_val (v := (Value.pointer (some { block := wr.heap.size, off := 8 }))) (w' := W) (by simp [go_sem, execOp, d0]) ⟨Gs6.refl W, hJ.nop 1 (by decide) (fun e => absurd e (by decide)), rfl⟩) ?_
            refine .cons (fun f ρ W hf hfe hρ hJ hb hd => by
              refine StepU.ok (by decide) ?_
              have h11 : f 11 = false := hf 11 (.inr (by decide +kernel))
              have d0 : ρ (.tmp 28) = (Value.pointer (some { block := wr.heap.size, off := 8 })) := hd 0 _ rfl rfl
              have cc := (unhide HBX8).keep (hJ.base h11).1 (unhide HBL8)
              have c0 := cc.cell 8 (.slice ba n2 bc) rfl
              exact step_val (v := .slice ba n2 bc) (w' := W) (by simp [go_sem, execOp, d0, c0]) ⟨Gs6.refl W, hJ.nop 2 (by decide) (fun e => absurd e (by decide)), rfl⟩) ?_
            refine .cons (fun f ρ W hf hfe hρ hJ hb hd => by
              refine StepU.ok (by decide) ?_
              have h11 : f 11 = false := hf 11 (.inr (by decide +kernel))
              obtain ⟨b9, d0⟩ : Em0 W (ρ (.tmp 27)) := hd 0 _ rfl rfl
              have d1 : ρ (.tmp 29) = .slice ba n2 bc := hd 1 _ rfl rfl
              obtain ⟨v', w', hr, ho, hb2⟩ := first_in 38 5 _ _ Tryz.underlying38 infoU rfl W X8.heap.size 38 _ b9 n2 (Lib.byteCells bl) (RC.below (unhide HRB8) (hJ.base h11).1) (unhide HLn8) (unhide HOn8) (hJ.base h11).2 (unhide HSm8) (by decide)
              exact step_val (v := v') (w' := w') (run_appendO (.tmp 27) (.tmp 29) 38 rfl d0 d1 hr) ⟨Gs6.below hb2, hJ.grow 3 (by decide) (by decide) h11 (hb2.mono (hJ.base h11).2), ho⟩) ?_
            refine .cons (fun f ρ W hf hfe hρ hJ hb hd => by
              refine StepU.ok (by decide) ?_
              have h11 : f 11 = false := hf 11 (.inr (by decide +kernel))
              exact step_val (v := .slice (some ⟨W.heap.size, 0, none⟩) 1 1) (w' := W.alloc (.cells #[Value.int .u8 171] 5)) (by simp [go_sem, execOp, hρ.const]) ⟨Gs6.below (ballc (Below.refl _ _) _), hJ.grow 4 (by decide) (by decide) h11 ((ballc (Below.refl _ _) _).mono (hJ.base h11).2), _, rfl, (hJ.base h11).2, heap_alloc_new W _⟩) ?_
            refine .cons (fun f ρ W hf hfe hρ hJ hb hd => by
              refine StepU.ok (by decide) ?_
              have h11 : f 11 = false := hf 11 (.inr (by decide +kernel))
              have d0 : Ow3 X8.heap.size 5 n2 (Lib.byteCells bl) W (ρ (.tmp 30)) := hd 0 _ rfl rfl
              have d1 : Mk4 X8.heap.size 5 (Value.int .u8 171) W (ρ (.tmp 31)) := hd 1 _ rfl rfl
              obtain ⟨v', w', hr, ho, hb2, hk1, hk2⟩ := second_in 38 5 _ _ Tryz.underlying38 infoU rfl W X8.heap.size 38 _ _ _ n2 (Lib.byteCells bl) d0 d1 (unhide HLn8) rfl (hJ.base h11).2 (unhide HSm8) (by decide)
              exact step_val (v := v') (w' := w') (run_appendO (.tmp 30) (.tmp 31) 38 rfl rfl rfl hr) ⟨⟨hk1, hk2, fun e => absurd rfl e⟩, hJ.grow 5 (by decide) (by decide) h11 hb2, ho⟩) ?_
            refine .cons (fun f ρ W hf hfe hρ hJ hb hd => by
              refine StepU.ok (by decide) ?_
              have d0 : ρ (.tmp 5) = (Value.pointer (some { block := wr.heap.size, off := 0 })) := hb (5, _) (List.mem_of_getElem? (i := 5) rfl)
              exact step_val (v := (Value.pointer (some { block := wr.heap.size, off := 8 }))) (w' := W) (by simp [go_sem, execOp, d0]) ⟨Gs6.refl W, hJ.nop 6 (by decide) (fun e => absurd e (by decide)), rfl⟩) ?_
            refine .cons (fun f ρ W hf hfe hρ hJ hb hd => by
              refine StepU.ok (by decide) ?_
              have h11 : f 11 = false := hf 11 (.inr (by decide +kernel))
              have d0 : ρ (.tmp 33) = (Value.pointer (some { block := wr.heap.size, off := 8 })) := hd 0 _ rfl rfl
              have cc := (unhide HBX8).keep (hJ.base h11).1 (unhide HBL8)
              have c0 := cc.cell 8 (.slice ba n2 bc) rfl
              exact step_val (v := .slice ba n2 bc) (w' := W) (by simp [go_sem, execOp, d0, c0]) ⟨Gs6.refl W, hJ.nop 7 (by decide) (fun e => absurd e (by decide)), rfl⟩) ?_
            refine .cons (fun f ρ W hf hfe hρ hJ hb hd => by
              refine StepU.ok (by decide) ?_
              have d0 : ρ (.tmp 34) = .slice ba n2 bc := hd 0 _ rfl rfl
              exact step_val (v := .int .i64 (n2 : Nat)) (w' := W) (by simp [go_sem, execOp, d0]) ⟨Gs6.refl W, hJ.nop 8 (by decide) (fun e => absurd e (by decide)), rfl⟩) ?_
            refine .cons (fun f ρ W hf hfe hρ hJ hb hd => by
              refine StepU.ok (by decide) ?_
              have ho : Row5 X8.heap.size 5 n2 (Lib.byteCells bl ++ [Value.int .u8 171]) W (ρ (.tmp 32)) := hd 0 _ rfl rfl
              have d1 : ρ (.tmp 35) = .int .i64 (n2 : Nat) := hd 1 _ rfl rfl
              have h5 : f 5 = true := hfe 0 _ rfl rfl
              obtain ⟨g, c9, d0, hc9⟩ := own_cap' ho
              have hsl := slice_to 38 5 Tryz.underlying38 infoU W (some ⟨g, 0, none⟩) (n2 + 1) c9 n2 (by omega)
              unfold Row5 at ho
              rw [d0] at ho
              exact step_val (v := .slice (some ⟨g, 0, none⟩) n2 c9) (w' := W) (by simp [go_sem, execOp, d0, d1]; intro h; exfalso; omega) ⟨Gs6.refl W, hJ.nop 9 (by decide) (fun _ => h5), g, c9, rfl, ho⟩) ?_
            refine .cons (fun f ρ W hf hfe hρ hJ hb hd => by
              refine StepU.ok (by decide) ?_
              have d0 : ρ (.tmp 5) = (Value.pointer (some { block := wr.heap.size, off := 0 })) := hb (5, _) (List.mem_of_getElem? (i := 5) rfl)
              exact step_val (v := (Value.pointer (some { block := wr.heap.size, off := 8 }))) (w' := W) (by simp [go_sem, execOp, d0]) ⟨Gs6.refl W, hJ.nop 10 (by decide) (fun e => absurd e (by decide)), rfl⟩) ?_
            refine .cons (fun f ρ W hf hfe hρ hJ hb hd => by
              have h11 : f 11 = false := hf 11 (.inl rfl)
              have d0 : ρ (.tmp 37) = (Value.pointer (some { block := wr.heap.size, off := 8 })) := hd 0 _ rfl rfl
              obtain ⟨g, c9, d1, ho⟩ : Row9 X8.heap.size 5 n2 (Lib.byteCells bl ++ [Value.int .u8 171]) W (ρ (.tmp 36)) := hd 1 { on := 9, ground := Ground.data } rfl rfl
              have cc := (unhide HBX8).keep (hJ.base h11).1 (unhide HBL8)
              have x0 := cc.cell 8 (.slice ba n2 bc) rfl
              have x1 := cc.frozen 8
              have x2 := cc.lt
              exact StepU.st _ (.tmp 37) (.tmp 36) rfl rfl (w' := W.setCell ⟨wr.heap.size, 8, none⟩ (.slice (some ⟨g, 0, none⟩) n2 c9)) (by rw [d0, d1]; simp [go_sem, x0, x1, x2]) ⟨Gs6.of_r (fun k hk _ => Below.heap_setCell W _ _ k (fun e => by have h1 := unhide HBL8; simp at e; omega)), hJ.store h11 ho, trivial⟩) ?_
            exact .nil _
          case fin =>
            intro a W5 hsz2 hds hb hJ hv
            obtain ⟨f, hf, hJ⟩ := hJ
            have hF := hide (hJ.fin (hf 11 (by decide)))
            obtain ⟨u', rfl⟩ : ∃ u : Nat → Value, a = ⟨#[u 0, u 1, u 2, u 3, u 4, u 5, u 6, u 7, u 8, u 9, u 10, u 11, u 12, u 13, u 14, u 15, u 16, u 17, u 18, u 19, u 20, u 21, u 22, u 23, u 24, u 25, u 26, u 27, u 28, u 29, u 30, u 31, u 32, u 33, u 34, u 35, u 36, u 37, u 38, u 39, u 40, u 41, u 42, u 43, u 44, u 45, u 46, u 47, u 48], []⟩ := ⟨fun k => a.eval (.tmp k), frame_fn 49 hsz2 hds⟩
            have e0 : u' 0 = (Value.slice (some { block := b0, off := off }) L c) := hb (0, _) (List.mem_of_getElem? (i := 0) rfl)
            have e1 : u' 1 = undef := hb (1, _) (List.mem_of_getElem? (i := 1) rfl)
            have e2 : u' 2 = (Value.slice none 0 0) := hb (2, _) (List.mem_of_getElem? (i := 2) rfl)
            have e3 : u' 3 = (Value.slice am i cm) := hb (3, _) (List.mem_of_getElem? (i := 3) rfl)
            have e4 : u' 4 = (Value.int IntKind.i64 (i : Nat)) := hb (4, _) (List.mem_of_getElem? (i := 4) rfl)
            have e5 : u' 5 = (Value.pointer (some { block := wr.heap.size, off := 0 })) := hb (5, _) (List.mem_of_getElem? (i := 5) rfl)
            have e6 : u' 6 = (Value.int IntKind.i64 (i : Nat)) := hb (6, _) (List.mem_of_getElem? (i := 6) rfl)
            have e7 : u' 7 = (Value.slice (some { block := b0, off := off }) L c) := hb (7, _) (List.mem_of_getElem? (i := 7) rfl)
            have e8 : u' 8 = (Value.int IntKind.i64 (L : Nat)) := hb (8, _) (List.mem_of_getElem? (i := 8) rfl)
            have e9 : u' 9 = (Value.bool true) := hb (9, _) (List.mem_of_getElem? (i := 9) rfl)
            have e10 : u' 10 = u10 := hb (10, _) (List.mem_of_getElem? (i := 10) rfl)
            have e11 : u' 11 = u11 := hb (11, _) (List.mem_of_getElem? (i := 11) rfl)
            have e12 : u' 12 = (Value.slice (some { block := b0, off := off }) L c) := hb (12, _) (List.mem_of_getElem? (i := 12) rfl)
            have e13 : u' 13 = (Value.int IntKind.i64 (i : Nat)) := hb (13, _) (List.mem_of_getElem? (i := 13) rfl)
            have e14 : u' 14 = (Value.pointer (some { block := b0, off := off + i * 9 })) := hb (14, _) (List.mem_of_getElem? (i := 14) rfl)
            have e15 : u' 15 = (Value.agg #[.int .i64 s.kind, .int .i64 s.site, .int .i64 s.peer, .int .i64 s.unit, .int .i64 s.at_, .int .i64 s.n, .string s.text, .slice da n1 dc, .slice ba n2 bc]) := hb (15, _) (List.mem_of_getElem? (i := 15) rfl)
            have e16 : u' 16 = u16 := hb (16, _) (List.mem_of_getElem? (i := 16) rfl)
            have e17 : u' 17 = u17 := hb (17, _) (List.mem_of_getElem? (i := 17) rfl)
            have e18 : u' 18 = u18 := hb (18, _) (List.mem_of_getElem? (i := 18) rfl)
            have e19 : u' 19 = u19 := hb (19, _) (List.mem_of_getElem? (i := 19) rfl)
            have e20 : u' 20 = u20 := hb (20, _) (List.mem_of_getElem? (i := 20) rfl)
            have e21 : u' 21 = u21 := hb (21, _) (List.mem_of_getElem? (i := 21) rfl)
            have e22 : u' 22 = u22 := hb (22, _) (List.mem_of_getElem? (i := 22) rfl)
            have e23 : u' 23 = u23 := hb (23, _) (List.mem_of_getElem? (i := 23) rfl)
            have e24 : u' 24 = u24 := hb (24, _) (List.mem_of_getElem? (i := 24) rfl)
            have e25 : u' 25 = u25 := hb (25, _) (List.mem_of_getElem? (i := 25) rfl)
            have e26 : u' 26 = u26 := hb (26, _) (List.mem_of_getElem? (i := 26) rfl)
            have e38 : u' 38 = u38 := hb (38, _) (List.mem_of_getElem? (i := 27) rfl)
            have e39 : u' 39 = u39 := hb (39, _) (List.mem_of_getElem? (i := 28) rfl)
            have e40 : u' 40 = u40 := hb (40, _) (List.mem_of_getElem? (i := 29) rfl)
            have e41 : u' 41 = u41 := hb (41, _) (List.mem_of_getElem? (i := 30) rfl)
            have e42 : u' 42 = undef := hb (42, _) (List.mem_of_getElem? (i := 31) rfl)
            have e43 : u' 43 = undef := hb (43, _) (List.mem_of_getElem? (i := 32) rfl)
            have e44 : u' 44 = undef := hb (44, _) (List.mem_of_getElem? (i := 33) rfl)
            have e45 : u' 45 = undef := hb (45, _) (List.mem_of_getElem? (i := 34) rfl)
            have e46 : u' 46 = undef := hb (46, _) (List.mem_of_getElem? (i := 35) rfl)
            have e47 : u' 47 = undef := hb (47, _) (List.mem_of_getElem? (i := 36) rfl)
            have e48 : u' 48 = undef := hb (48, _) (List.mem_of_getElem? (i := 37) rfl)
            rw [e0, e1, e2, e3, e4, e5, e6, e7, e8, e9, e10, e11, e12, e13, e14, e15, e16, e17, e18, e19, e20, e21, e22, e23, e24, e25, e26, e38, e39, e40, e41, e42, e43, e44, e45, e46, e47, e48]
            clear hJ hb hv hf hds hsz2 e0 e1 e2 e3 e4 e5 e6 e7 e8 e9 e10 e11 e12 e13 e14 e15 e16 e17 e18 e19 e20 e21 e22 e23 e24 e25 e26 e38 e39 e40 e41 e42 e43 e44 e45 e46 e47 e48
            go_wp2
            go_meet
            exact hF
        case rest =>
          obtain ⟨U8, g8, c8, hb8, hs8, hw8, ho8⟩ := unhide hcut
          clear hcut
          obtain ⟨X9, hX9⟩ : ∃ X, wc = X := ⟨_, rfl⟩
          rw [hX9] at hw8 ⊢
          have hBU := (unhide HBX8).keep hb8 (unhide HBL8)
          have HBX9 : Bq X9 wr.heap.size 40 #[.int .i64 s.kind, .int .i64 s.site, .int .i64 s.peer, .int .i64 s.unit, .int .i64 s.at_, .int .i64 s.n, .string s.text, .slice (some ⟨g7, 0, none⟩) n1 c7, .slice (some ⟨g8, 0, none⟩) n2 c8] := by rw [hw8]; simpa using hBU.sets 8 (.slice (some ⟨g8, 0, none⟩) n2 c8)
          have o7 : X9.ownsRow X7.heap.size 3 1 (.slice (some ⟨g7, 0, none⟩) (n1 + 1) c7) (n1 + 1) (flat enN dl ++ [Value.int .i64 901]) := by
            rw [hw8]
            exact own_gq (owns_kp (N := fun _ => False) (unhide HO7) (Kp.of_below hb8) (fun _ _ e => e)) (fun k hk _ => Below.heap_setCell U8 _ _ k (fun e => by have h1 := unhide HL78; simp at e; omega))
          have o8 : X9.ownsRow X8.heap.size 5 1 (.slice (some ⟨g8, 0, none⟩) (n2 + 1) c8) (n2 + 1) (Lib.byteCells bl ++ [Value.int .u8 171]) := by
            rw [hw8]
            exact own_gq ho8 (fun k hk _ => Below.heap_setCell U8 _ _ k (fun e => by have h1 := unhide HBL8; simp at e; omega))
          have b9 : Below wr.heap.size wr X9 := by rw [hw8]; exact ((unhide HW8).trans (hb8.mono (unhide HW8).size)).setCell (Nat.le_refl _) _
          have hwz := (unhide HB).size
          have hlm : LM X9 w.heap.size s (.slice (some ⟨g7, 0, none⟩) n1 c7) (.slice (some ⟨g8, 0, none⟩) n2 c8) := by
            have h7 := unhide HL78
            have h8 := unhide HBL8
            refine ⟨⟨g7, c7, ?_, ?_⟩, ⟨g8, c8, ?_, ?_⟩⟩
            · rw [unhide HDL, unhide HN1]
            · rw [unhide HDL, unhide HN1]; exact owns_wk o7 (by omega)
            · rw [unhide HBLs, unhide HN2]
            · rw [unhide HBLs, unhide HN2]; exact owns_wk o8 (by omega)
          obtain ⟨Z, hZ⟩ : ∃ Z, X9.alloc (.cells #[.int .i64 s.kind, .int .i64 s.site, .int .i64 s.peer, .int .i64 s.unit, .int .i64 s.at_, .int .i64 s.n, .string s.text, .slice (some ⟨g7, 0, none⟩) n1 c7, .slice (some ⟨g8, 0, none⟩) n2 c8] 40) = Z := ⟨_, rfl⟩
          have bZ : Below X9.heap.size X9 Z := by rw [← hZ]; exact ballc (Below.refl _ _) _
          have xZ : Bq Z X9.heap.size 40 (encS (s, .slice (some ⟨g7, 0, none⟩) n1 c7, .slice (some ⟨g8, 0, none⟩) n2 c8)).toArray := by rw [← hZ]; exact Bq.new _ _ _
          have hmZ := ((unhide HOM).below b9).below bZ
          have hlZ := hlm.below bZ
          obtain ⟨v', W', p1, p2, p3, p4⟩ := append_lm Z 23 w.heap.size (.slice am i cm) m (s, .slice (some ⟨g7, 0, none⟩) n1 c7, .slice (some ⟨g8, 0, none⟩) n2 c8) X9.heap.size hmZ xZ hlm.one (by have := bZ.size; have := b9.size; omega) (by have := unhide HML; omega)
          obtain ⟨a', c', e'⟩ := owns_form p2
          rw [unhide HML] at e'
          subst e'
          have HRUN := hide p1
          have HNX := hide (show ∃ m', OwL W' w.heap.size (.slice a' (i + 1) c') m' ∧ m'.length = i + 1 ∧ m'.map Prod.fst = (l.take (i + 1)).map Prod.fst ∧ Below w.heap.size w W' from
            ⟨m ++ [(s, .slice (some ⟨g7, 0, none⟩) n1 c7, .slice (some ⟨g8, 0, none⟩) n2 c8)], ⟨by rw [flat_append, List.length_append]; simpa [flat] using p2, fun x hx => by
              rcases List.mem_append.1 hx with hx | hx
              · exact p3 _ _ _ (hmZ.lm x hx)
              · simp at hx; subst hx; exact p3 _ _ _ hlZ⟩, by simp [unhide HML], by rw [unhide HTK, ← unhide HMF]; simp, ((bnext (unhide HB) b9).trans (bZ.mono (by have := b9.size; omega))).trans p4⟩)
          have x0 := HBX9.cell 0 (.int .i64 s.kind) rfl
          have x1 := HBX9.cell 1 (.int .i64 s.site) rfl
          have x2 := HBX9.cell 2 (.int .i64 s.peer) rfl
          have x3 := HBX9.cell 3 (.int .i64 s.unit) rfl
          have x4 := HBX9.cell 4 (.int .i64 s.at_) rfl
          have x5 := HBX9.cell 5 (.int .i64 s.n) rfl
          have x6 := HBX9.cell 6 (.string s.text) rfl
          have x7 := HBX9.cell 7 (.slice (some ⟨g7, 0, none⟩) n1 c7) rfl
          have x8 := HBX9.cell 8 (.slice (some ⟨g8, 0, none⟩) n2 c8) rfl
          have HZ := hide hZ
          clear hZ bZ xZ hmZ hlZ p1 p2 p3 p4 hlm o7 o8 b9 HBX9 hBU hb8 hs8 hw8 ho8 hX9 HBX8 HBL8 HO7 HW8 HRB8 HLn8 HOn8 HSm8
          go_wp2_with (at_builtin; rw [unhide HZ]; refine wpList_append_eq rfl _ _ 23 23 rfl _ _ _ _ rfl rfl (unhide HRUN) ?_)
          go_roundw
          case rel => exact ⟨i + 1, a', c', rfl, by go_num, by omega, HNX⟩
          case measure => simp [RowKit.intOf]; omega
    · have hlt' : ¬ (i : Int) < (L : Int) := by omega
      have hiL : i = L := by omega
      subst hiL
      obtain ⟨Z, hZ⟩ : ∃ Z, wr.alloc (.cells #[.int .i64 902, .int .i64 0, .int .i64 0, .int .i64 0, .int .i64 0, .int .i64 0, .string ⟨#[]⟩, .slice none 0 0, .slice none 0 0] 40) = Z := ⟨_, rfl⟩
      have bZ : Below wr.heap.size wr Z := by rw [← hZ]; exact ballc (Below.refl _ _) _
      have xZ : Bq Z wr.heap.size 40 (encS ((⟨902, 0, 0, 0, 0, 0, ⟨#[]⟩, [], []⟩ : Sp), .slice none 0 0, .slice none 0 0)).toArray := by rw [← hZ]; exact Bq.new _ _ _
      have hmZ := (unhide HOM).below bZ
      obtain ⟨v', W', p1, p2, p3, p4⟩ := append_lm Z 23 w.heap.size (.slice am i cm) m _ wr.heap.size hmZ xZ (fun u hu => by simp [encS, spC] at hu; rcases hu with rfl | rfl | rfl | rfl | rfl | rfl | rfl | rfl <;> rfl) (by have := bZ.size; have := (unhide HB).size; omega) (by have := unhide HML; omega)
      rw [unhide HML] at p2
      obtain ⟨g, c9, e9, hc9⟩ := own_cap' p2
      subst e9
      have HRUN := hide p1
      have HF := hide (show LentS W' w.heap.size (.slice (some ⟨g, 0, none⟩) i c9) l m ∧ Below w.heap.size w W' from
        ⟨⟨by rw [unhide HMF, List.take_of_length_le (by rw [unhide HL]; exact Nat.le_refl _)], ⟨g, c9, _, by rw [unhide HML], rfl, by rw [unhide HML]; exact p2⟩, fun x hx => p3 _ _ _ (hmZ.lm x hx)⟩, (bnext (unhide HB) bZ).trans p4⟩)
      have HZ := hide hZ
      have hc9' : (i : Int) ≤ (c9 : Int) := by omega
      clear hZ bZ xZ hmZ p1 p2 p3 p4
      go_wp2_with (at_builtin; rw [unhide HZ]; refine wpList_append_eq rfl _ _ 23 23 rfl _ _ _ _ rfl rfl (unhide HRUN) ?_)
      go_ret
      exact ⟨_, _, rfl, (unhide HF).1, (unhide HF).2⟩

end Go.Proofs.YtkndjbmlkfpfoaaGreatDoor

/-
  The law's back.
-/
set_option linter.unusedSimpArgs false
set_option linter.unusedVariables false
namespace Go.Proofs.YtkndjbmlkfpfoaaGreatDoor
open Go.RowKit Go.Lib

theorem mark_at {W : World} {N : Nat} {E : TypeId} {g n c : Nat} {C : List Value} {y : Value} (h : W.ownsRow N E 1 (.slice (some ⟨g, 0, none⟩) (n + 1) c) (n + 1) (C ++ [y])) : n + 1 ≤ c ∧ W.cell? ⟨g, n, none⟩ = some y := by
  obtain ⟨g', c', e, hc⟩ := own_cap' h
  simp at e
  obtain ⟨rfl, rfl⟩ := e
  refine ⟨hc, ?_⟩
  have hl := h.1
  simp at hl
  have := World.ownsRow.cells (g := g) h rfl n y (by rw [List.getElem?_append_right (by omega)]; simp [hl])
  rw [Addr.add_lit, Nat.zero_add] at this
  exact this
set_option maxRecDepth 100000 in
set_option maxHeartbeats 8000000 in
theorem back_in {w : World} {N : Nat} (v u : Value) (l m : List (Sp × Value × Value)) (hx : LentS w N v l m) (hr : RStp w u l) (hn : LitS l) :
    Calls Tryz.prog 17 #[v, u] w fun e W => e = .returned (.bool true) ∧ Below w.heap.size w W := by
  have hml : m.length = l.length := by have := congrArg List.length hx.eq; simpa using this
  have hrs := hx.rs
  have hdm : ∀ x ∈ m, x.1.draws.length ≤ 1000000 := fun x hm => by
    have h1 : x.1 ∈ m.map Prod.fst := List.mem_map_of_mem hm
    rw [hx.eq] at h1
    obtain ⟨y, hy, e⟩ := List.mem_map.1 h1
    rw [← e]
    have := hn.dr y hy
    omega
  obtain ⟨gx, cx, z, rfl, hz, hrow⟩ := hx.row
  obtain ⟨au, cu, rfl⟩ := RC.form hr.row
  have hdb : ∀ x ∈ m, x.1.data.length ≤ 30000 := fun x hm => by
    have h1 : x.1 ∈ m.map Prod.fst := List.mem_map_of_mem hm
    rw [hx.eq] at h1
    obtain ⟨y, hy, e⟩ := List.mem_map.1 h1
    obtain ⟨i, hi⟩ := List.mem_iff_getElem?.1 hy
    rw [← e]
    exact hn.data hi
  have HX := hide hx
  have HS := hide (fun (W : World) (hb : Below w.heap.size w W) => same_in _ _ m l (hrs.below hb) (hr.below hb) hx.eq (by have := hn.len; omega) hdm)
  have HRS := hide hrs
  have HDM := hide hdm
  have HDB := hide hdb
  have hcx : m.length + 1 ≤ cx := by
    obtain ⟨g', c', e, hc⟩ := own_cap' hrow
    simp at e
    omega
  have HMK := hide (show w.cell? ⟨gx, m.length * 9, none⟩ = some (.int .i64 902) by
    have := World.ownsRow.cells (g := gx) hrow rfl (m.length * 9) (.int .i64 902) (by
      rw [List.getElem?_append_right (by rw [flat_len (k := 9) encS_len]; exact Nat.le_refl _), flat_len (k := 9) encS_len, Nat.sub_self]
      simp [encS, spC, hz])
    rw [Addr.add_lit, Nat.zero_add] at this
    exact this)
  have hn200 := hn.len
  obtain ⟨L, hL⟩ : ∃ L, m.length = L := ⟨_, rfl⟩
  have hlL : l.length = L := by omega
  rw [hL] at hcx HMK HX HRS HS ⊢
  rw [hlL] at hn200 HS ⊢
  have HL := hide hL
  clear hx hr hn hrs hdm hdb hrow hml hL hlL hz
  go_enter Tryz.func17, Tryz.ntmps17
  go_wp2
  go_loopw [5, 6, 7] (fun v5 v6 v7 wr => ∃ i : Nat, v5 = .int .i64 (i : Nat) ∧ i ≤ L ∧ Hid (Below w.heap.size w wr)) (fun v5 _ _ _ => L - (RowKit.intOf v5).toNat)
  case atStart => exact ⟨0, rfl, by omega, hide (Below.refl _ _)⟩
  case round =>
    obtain ⟨i, rfl, hi, HB⟩ := hrel
    by_cases hlt : i < L
    · have hlt' : (i : Int) < (L : Int) := by omega
      obtain ⟨⟨s, dv, bv⟩, he⟩ : ∃ o, m[i]? = some o := ⟨_, List.getElem?_eq_getElem (by rw [unhide HL]; exact hlt)⟩
      have r1 := (unhide HRS).below (unhide HB)
      obtain ⟨b0, off, e0, hb0, hc⟩ := r1.at he
      simp only [Option.some.injEq, Addr.mk.injEq, and_true] at e0
      obtain ⟨rfl, rfl⟩ := e0
      have hlm := ((unhide HX).below (unhide HB)).lm _ (List.mem_of_getElem? he)
      have hdl := unhide HDM _ (List.mem_of_getElem? he)
      have hbl := unhide HDB _ (List.mem_of_getElem? he)
      simp only at hlm hdl hbl
      obtain ⟨⟨g1, c1, rfl, o1⟩, ⟨g2, c2, rfl, o2⟩⟩ := hlm
      obtain ⟨k1, m1⟩ := mark_at o1
      obtain ⟨k2, m2⟩ := mark_at o2
      have p7 := hc 7 _ rfl
      have p8 := hc 8 _ rfl
      simp only [Nat.zero_add] at p7 p8
      obtain ⟨n1, hn1⟩ : ∃ n, s.draws.length = n := ⟨_, rfl⟩
      obtain ⟨n2, hn2⟩ : ∃ n, s.data.length = n := ⟨_, rfl⟩
      rw [hn1] at hdl k1 m1 p7
      rw [hn2] at hbl k2 m2 p8
      have k1' : ((n1 : Int) + 1) ≤ (c1 : Int) := by omega
      have k2' : ((n2 : Int) + 1) ≤ (c2 : Int) := by omega
      clear hc o1 o2 he r1 hn1 hn2
      go_wp2
      go_roundw
      case measure => simp [RowKit.intOf]; omega
      case rel => exact ⟨i + 1, by go_num, by omega, HB⟩
    · have hlt' : ¬ (i : Int) < (L : Int) := by omega
      have hs := hide (unhide HS wr (unhide HB))
      have HMW := hide (unhide HMK)
      go_wp2_with fail
      refine (unhide hs).mono ?_
      rintro e W3 ⟨rfl, hb3⟩
      have HB3 := hide (bnext (unhide HB) hb3)
      have hmk := cell_below (unhide HMK) (unhide HB3)
      have hcx' : ((L : Int) + 1) ≤ (cx : Int) := by omega
      clear hb3 hs
      go_wp2
      go_ret
      exact ⟨rfl, unhide HB3⟩

end Go.Proofs.YtkndjbmlkfpfoaaGreatDoor
