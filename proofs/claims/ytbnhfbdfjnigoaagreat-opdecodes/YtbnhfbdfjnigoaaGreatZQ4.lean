/-
  What the document fixes.
-/
import Derived.Test.YtbnhfbdfjnigoaaGreatZXQ2
set_option linter.unusedSimpArgs false
set_option linter.unusedVariables false
namespace Go.Proofs.YtbnhfbdfjnigoaaGreat
open Go.RowKit Go.Lib

/-- the example, somewhere -/
def ExV (W : World) (v : Value) : Prop := ∃ ad cd, v = opA exO (.slice ad 1 cd) (.slice none 0 0) ∧ RI W (.slice ad 1 cd) exO.deps
theorem ExV.below {W W' : World} {v : Value} (h : ExV W v) (hb : Below W.heap.size W W') : ExV W' v := by
  obtain ⟨a, c, e, h⟩ := h
  exact ⟨a, c, e, h.below hb⟩
theorem RR.nil (W : World) : RR W (.slice none 0 0) [] := .inl ⟨rfl, _, _, rfl⟩
theorem RI.nil (W : World) : RI W (.slice none 0 0) [] := .inl ⟨rfl, _, _, rfl⟩
theorem exCheck_in {W : World} {v : Value} (h : ExV W v) : Calls Tryz.prog 19 #[v] W fun e W' => e = .returned (.int .i64 0) ∧ Below W.heap.size W W' := by
  obtain ⟨a, c, rfl, h⟩ := h
  have := OCheck_in exO _ _ W h (RR.nil W) ex_in
  rwa [ex_chk] at this
theorem exLast_in {W : World} {v : Value} (h : ExV W v) : Calls Tryz.prog 20 #[v] W fun e W' => e = .returned (.int .i64 6) ∧ Below W.heap.size W W' := by
  obtain ⟨a, c, rfl, h⟩ := h
  have := OLast_in exO _ _ W h (RR.nil W) ex_in
  rwa [ex_last] at this
theorem zCheck_in (W : World) : Calls Tryz.prog 19 #[.agg #[.int .i64 0, .int .i64 0, .slice none 0 0, .int .i64 0, .int .i64 0, .int .i64 0, .int .i64 0, .int .i64 0, .string ⟨#[]⟩, .slice none 0 0, .int .i64 0]] W fun e W' => e = .returned (.int .i64 10) ∧ Below W.heap.size W W' := by
  have := OCheck_in zO _ _ W (RI.nil W) (RR.nil W) zO_in
  rwa [zO_chk] at this
theorem exSame_in {W : World} {v : Value} (a : Option Addr) (c : Nat) (b : Option Addr) (k : Nat) (h : ExV W v) (hd : RI W (.slice a 1 c) exO.deps) : Calls Tryz.prog 7 #[.agg #[.int .i64 1, .int .i64 2, .slice a 1 c, .int .i64 1, .int .i64 5, .int .i64 1, .int .i64 4, .int .i64 3, .string ⟨#[104, 195, 169]⟩, .slice b 0 k, .int .i64 0], v] W fun e W' => e = .returned (.bool true) ∧ Below W.heap.size W W' := by
  obtain ⟨a', c', rfl, h⟩ := h
  have := same_in exO exO (.slice a 1 c) (.slice b 0 k) _ _ W hd (.inl ⟨rfl, _, _, rfl⟩) h (RR.nil W) (by decide) (by decide)
  rwa [(sameB_iff exO exO).2 rfl] at this
theorem exBytes_in {W : World} {v u : Value} (h : RB W v exL) (k : RB W u exL) : Calls Tryz.prog 8 #[v, u] W fun e W' => e = .returned (.bool true) ∧ Below W.heap.size W W' := by
  have := bytes_in exL exL v u W h k (by decide) (by decide)
  rw [decide_eq_true rfl] at this
  refine this.mono ?_
  rintro e W' ⟨rfl, n, rfl⟩
  exact ⟨rfl, bdrew (Below.refl _ _) n⟩

set_option maxRecDepth 100000 in
set_option maxHeartbeats 4000000 in
theorem known_in (w : World) : Calls Tryz.prog 4 #[] w fun e W => e = .returned (.bool true) ∧ Below w.heap.size w W := by
  have H0 := hide (example_in w)
  go_enter Tryz.func4, Tryz.ntmps4
  go_wp2_with fail
  refine (unhide H0).mono ?_
  rintro r W1 ⟨ad, cd, rfl, hd, hb⟩
  have H1 := hide (OEncode_in exO _ _ W1 hd (RR.nil W1) ex_in (by decide))
  rw [ex_chk, ex_enc] at H1
  replace hb := hide hb
  clear H0 hd
  unfold opA exO at *
  simp only at H1 ⊢
  go_wp2_with fail
  refine (unhide H1).mono ?_
  rintro r W2 ⟨v2, rfl, ho, hb2⟩
  obtain ⟨a2, c2, rfl⟩ := owns_form ho
  have HB : Hid (RB W2 (.slice a2 13 c2) exL) := RC.of_owns ho
  have H2 := hide (ODecode_in W2 (.slice a2 13 c2) exL (unhide HB) (by decide) (by decide))
  rw [ex_dec] at H2
  simp only at H2
  replace hb := hide (bnext (unhide hb) hb2)
  clear H1 ho hb2
  rw [show exL.length = 13 from rfl]
  go_wp2_with fail
  refine (unhide H2).mono ?_
  rintro r W3 ⟨vo, vg, rfl, ho, hg, hne, hb3⟩
  obtain ⟨ao, co, rfl⟩ := OwD.form ho
  obtain ⟨ag, cg, rfl⟩ := OwR.form hg
  replace hb := hide (bnext (unhide hb) hb3)
  replace HB := hide (RC.below (unhide HB) hb3)
  have HO : Hid (RI W3 (.slice ao 1 co) exO.deps) := OwD.row ho
  clear H2 ho hg hne hb3
  unfold opA
  show _
  obtain ⟨X, hX⟩ : ∃ X, W3.alloc (.cells #[.int .i64 1, .int .i64 2, .slice ao 1 co, .int .i64 1, .int .i64 5, .int .i64 1, .int .i64 4, .int .i64 3, .string ⟨#[104, 195, 169]⟩, .slice ag 0 cg, .int .i64 0] 32) = X := ⟨_, rfl⟩
  have HX : Hid (Bx X W3.heap.size 32 #[.int .i64 1, .int .i64 2, .slice ao 1 co, .int .i64 1, .int .i64 5, .int .i64 1, .int .i64 4, .int .i64 3, .string ⟨#[104, 195, 169]⟩, .slice ag 0 cg, .int .i64 0]) := by rw [← hX]; exact Bx.new W3 _ _
  have bX : Below W3.heap.size W3 X := by rw [← hX]; exact ballc (Below.refl _ _) _
  replace hb := hide (bnext (unhide hb) bX)
  replace HB := hide (RC.below (unhide HB) bX)
  replace HO := hide ((unhide HO).below bX)
  have f10 := (unhide HX).frozen 10
  have c10 := (unhide HX).cell 10 _ rfl
  have s10 : X.setCell ⟨W3.heap.size, 10, none⟩ (.int .i64 0) = X := (unhide HX).same 10 _ rfl
  clear bX
  unfold exO
  simp only [List.length_cons, List.length_nil, Nat.zero_add]
  go_wp2
  refine wp_region_any (by kernel_rfl) ?_
  change wpAny _ _ _ _ _ _ _ (World.drew _)
  refine region_invG 46 (fun j => if j = 31 then 0 else 15 + j) ((1, (Value.slice a2 13 c2)) :: (2, (Value.int IntKind.i64 0)) :: (3, (Value.pointer (some { block := W3.heap.size, off := 0 }))) :: (4, (Value.int IntKind.i64 0)) :: (5, (Value.tuple #[Value.slice a2 13 c2, Value.int IntKind.i64 0])) :: (6, (Value.agg #[Value.int IntKind.i64 1, Value.int IntKind.i64 2, Value.slice ad 1 cd, Value.int IntKind.i64 1, Value.int IntKind.i64 5, Value.int IntKind.i64 1, Value.int IntKind.i64 4, Value.int IntKind.i64 3, Value.string { data := #[104, 195, 169] }, Value.slice none 0 0, Value.int IntKind.i64 0])) :: (7, (Value.tuple #[Value.slice a2 13 c2, Value.int IntKind.i64 0])) :: (8, (Value.slice a2 13 c2)) :: (9, (Value.int IntKind.i64 0)) :: (10, (Value.tuple #[Value.agg #[Value.int IntKind.i64 1, Value.int IntKind.i64 2, Value.slice ao 1 co, Value.int IntKind.i64 1, Value.int IntKind.i64 5, Value.int IntKind.i64 1, Value.int IntKind.i64 4, Value.int IntKind.i64 3, Value.string { data := #[104, 195, 169] }, Value.slice ag 0 cg, Value.int IntKind.i64 0], Value.int IntKind.i64 0])) :: (11, (Value.slice a2 13 c2)) :: (12, (Value.tuple #[Value.agg #[Value.int IntKind.i64 1, Value.int IntKind.i64 2, Value.slice ao 1 co, Value.int IntKind.i64 1, Value.int IntKind.i64 5, Value.int IntKind.i64 1, Value.int IntKind.i64 4, Value.int IntKind.i64 3, Value.string { data := #[104, 195, 169] }, Value.slice ag 0 cg, Value.int IntKind.i64 0], Value.int IntKind.i64 0])) :: (13, (Value.agg #[Value.int IntKind.i64 1, Value.int IntKind.i64 2, Value.slice ao 1 co, Value.int IntKind.i64 1, Value.int IntKind.i64 5, Value.int IntKind.i64 1, Value.int IntKind.i64 4, Value.int IntKind.i64 3, Value.string { data := #[104, 195, 169] }, Value.slice ag 0 cg, Value.int IntKind.i64 0])) :: (14, (Value.int IntKind.i64 0)) :: [])
    (fun W => Below X.heap.size X W)
    (valsOf [ExV, isV (.int .i64 0), isV (.bool true), isV (.bool true), ExV, isV (.int .i64 6), isV (.bool true), isV (.bool true), isV (.bool true), isV (Value.int IntKind.i64 0), isV (.bool true), isV (.bool true), isV (.bool true), isV (Value.slice a2 13 c2), (fun W v => RB W v exL), isV (.bool true), isV (.bool true), isV (.bool true), isV (Value.int IntKind.i64 0), isV (.bool true), isV (.bool true), isV (.bool true), isV (.agg #[.int .i64 1, .int .i64 2, .slice ao 1 co, .int .i64 1, .int .i64 5, .int .i64 1, .int .i64 4, .int .i64 3, .string ⟨#[104, 195, 169]⟩, .slice ag 0 cg, .int .i64 0]), ExV, isV (.bool true), isV (.bool true), isV (.bool true), isV (.agg #[.int .i64 0, .int .i64 0, .slice none 0 0, .int .i64 0, .int .i64 0, .int .i64 0, .int .i64 0, .int .i64 0, .string ⟨#[]⟩, .slice none 0 0, .int .i64 0]), isV (.int .i64 10), isV (.bool true), isV (.bool true), isV (.bool true)])
    (fun w w' => Below w.heap.size w w') ?fit (fun w1 w2 h hG => h.trans (hG.mono h.size)) (valsOf_stable ?stable) (fun _ => true) [(3, true), (8, true), (12, true), (17, true), (21, true), (26, true)] ?gs ?gv ?steps ?fin _ _ ?sz rfl ?base ?start
  case fit => kernel_rfl
  case sz => rfl
  case gs => kernel_rfl
  case gv => intro p hp w v hv; simp only [List.mem_cons, List.not_mem_nil, or_false] at hp; rcases hp with rfl | rfl | rfl | rfl | rfl | rfl <;> exact hv
  case base => intro p hp; repeat (first | (rcases List.mem_cons.1 hp with rfl | hp; · rfl) | cases hp)
  case stable => exact Stables.all (by repeat (first | exact .nil | refine .same ?_ | refine .other (fun w w' v _ hv hG => ExV.below hv hG) ?_ | refine .other (fun w w' v _ hv hG => RC.below hv hG) ?_))
  case start => exact (Below.refl _ _).drew
  case steps =>
    refine .cons (fun ρ wz hρ hJ hb hd => by
      refine Eq.mpr (if_neg (by decide)) ?_
      refine step_func 18 _ _ #[] hρ rfl (enters_of Tryz.func18 (by kernel_rfl) rfl) (by simp) ?_
      refine (example_in wz).mono ?_
      rintro r W' ⟨ad', cd', rfl, hd', hb2⟩
      exact ⟨_, rfl, hb2, ⟨ad', cd', rfl, hd'⟩⟩) ?_
    refine .cons (fun ρ wz hρ hJ hb hd => by
      refine Eq.mpr (if_neg (by decide)) ?_
      have dd0 : ExV wz (ρ (.tmp 15)) := hd 0 _ rfl rfl
      refine step_func 19 _ _ #[ρ (.tmp 15)] hρ rfl (enters_of Tryz.func19 (by kernel_rfl) rfl) (by simp) ?_
      refine (exCheck_in dd0).mono ?_
      rintro r W' ⟨rfl, hb2⟩
      exact ⟨_, rfl, hb2, rfl⟩) ?_
    refine .cons (fun ρ wz hρ hJ hb hd => by
      refine Eq.mpr (if_neg (by decide)) ?_
      have dd0 : ρ (.tmp 16) = (.int .i64 0) := hd 0 _ rfl rfl
      exact step_val (v := (.bool true)) (w' := wz) (by simp [go_sem, execOp, dd0, hρ.const]) ⟨Below.refl _ _, rfl⟩) ?_
    refine .cons (fun ρ wz hρ hJ hb hd => by
      refine Eq.mpr (if_neg (by decide)) ?_
      have dd0 : ρ (.tmp 17) = (.bool true) := hd 0 _ rfl rfl
      exact step_move (.tmp 17) rfl ⟨Below.refl _ _, dd0⟩) ?_
    refine .cons (fun ρ wz hρ hJ hb hd => by
      refine Eq.mpr (if_neg (by decide)) ?_
      refine step_func 18 _ _ #[] hρ rfl (enters_of Tryz.func18 (by kernel_rfl) rfl) (by simp) ?_
      refine (example_in wz).mono ?_
      rintro r W' ⟨ad', cd', rfl, hd', hb2⟩
      exact ⟨_, rfl, hb2, ⟨ad', cd', rfl, hd'⟩⟩) ?_
    refine .cons (fun ρ wz hρ hJ hb hd => by
      refine Eq.mpr (if_neg (by decide)) ?_
      have dd0 : ExV wz (ρ (.tmp 19)) := hd 0 _ rfl rfl
      refine step_func 20 _ _ #[ρ (.tmp 19)] hρ rfl (enters_of Tryz.func20 (by kernel_rfl) rfl) (by simp) ?_
      refine (exLast_in dd0).mono ?_
      rintro r W' ⟨rfl, hb2⟩
      exact ⟨_, rfl, hb2, rfl⟩) ?_
    refine .cons (fun ρ wz hρ hJ hb hd => by
      refine Eq.mpr (if_neg (by decide)) ?_
      have dd0 : ρ (.tmp 20) = (.int .i64 6) := hd 0 _ rfl rfl
      exact step_val (v := (.bool true)) (w' := wz) (by simp [go_sem, execOp, dd0, hρ.const]) ⟨Below.refl _ _, rfl⟩) ?_
    refine .cons (fun ρ wz hρ hJ hb hd => by
      refine Eq.mpr (if_neg (by decide)) ?_
      have dd0 : ρ (.tmp 18) = (.bool true) := hd 0 _ rfl rfl
      have dd1 : ρ (.tmp 21) = (.bool true) := hd 1 _ rfl rfl
      exact step_val (v := (.bool true)) (w' := wz) (by simp [go_sem, execOp, dd0, dd1, hρ.const]) ⟨Below.refl _ _, rfl⟩) ?_
    refine .cons (fun ρ wz hρ hJ hb hd => by
      refine Eq.mpr (if_neg (by decide)) ?_
      have dd0 : ρ (.tmp 22) = (.bool true) := hd 0 _ rfl rfl
      exact step_move (.tmp 22) rfl ⟨Below.refl _ _, dd0⟩) ?_
    refine .cons (fun ρ wz hρ hJ hb hd => by
      refine Eq.mpr (if_neg (by decide)) ?_
      have dd0 : ρ (.tmp 2) = (Value.int IntKind.i64 0) := hb (2, _) (List.mem_of_getElem? (i := 1) rfl)
      exact step_move (.tmp 2) rfl ⟨Below.refl _ _, dd0⟩) ?_
    refine .cons (fun ρ wz hρ hJ hb hd => by
      refine Eq.mpr (if_neg (by decide)) ?_
      have dd0 : ρ (.tmp 24) = (Value.int IntKind.i64 0) := hd 0 _ rfl rfl
      exact step_val (v := (.bool true)) (w' := wz) (by simp [go_sem, execOp, dd0, hρ.const]) ⟨Below.refl _ _, rfl⟩) ?_
    refine .cons (fun ρ wz hρ hJ hb hd => by
      refine Eq.mpr (if_neg (by decide)) ?_
      have dd0 : ρ (.tmp 23) = (.bool true) := hd 0 _ rfl rfl
      have dd1 : ρ (.tmp 25) = (.bool true) := hd 1 _ rfl rfl
      exact step_val (v := (.bool true)) (w' := wz) (by simp [go_sem, execOp, dd0, dd1, hρ.const]) ⟨Below.refl _ _, rfl⟩) ?_
    refine .cons (fun ρ wz hρ hJ hb hd => by
      refine Eq.mpr (if_neg (by decide)) ?_
      have dd0 : ρ (.tmp 26) = (.bool true) := hd 0 _ rfl rfl
      exact step_move (.tmp 26) rfl ⟨Below.refl _ _, dd0⟩) ?_
    refine .cons (fun ρ wz hρ hJ hb hd => by
      refine Eq.mpr (if_neg (by decide)) ?_
      have dd0 : ρ (.tmp 1) = (Value.slice a2 13 c2) := hb (1, _) (List.mem_of_getElem? (i := 0) rfl)
      exact step_move (.tmp 1) rfl ⟨Below.refl _ _, dd0⟩) ?_
    refine .cons (fun ρ wz hρ hJ hb hd => by
      refine Eq.mpr (if_neg (by decide)) ?_
      exact step_val (v := .slice (some ⟨wz.heap.size, 0, none⟩) 13 13) (w' := wz.alloc (.cells #[.int .u8 1, .int .u8 1, .int .u8 2, .int .u8 1, .int .u8 1, .int .u8 1, .int .u8 5, .int .u8 4, .int .u8 3, .int .u8 3, .int .u8 104, .int .u8 195, .int .u8 169] 5)) (by simp [go_sem, execOp, hρ.const]) ⟨ballc (Below.refl _ _) _, RC.lit wz 5 #[.int .u8 1, .int .u8 1, .int .u8 2, .int .u8 1, .int .u8 1, .int .u8 1, .int .u8 5, .int .u8 4, .int .u8 3, .int .u8 3, .int .u8 104, .int .u8 195, .int .u8 169] 13⟩) ?_
    refine .cons (fun ρ wz hρ hJ hb hd => by
      refine Eq.mpr (if_neg (by decide)) ?_
      have dd0 : ρ (.tmp 28) = (Value.slice a2 13 c2) := hd 0 _ rfl rfl
      have dd1 : (fun W v => RB W v exL) wz (ρ (.tmp 29)) := hd 1 _ rfl rfl
      refine step_func 8 _ _ #[.slice a2 13 c2, ρ (.tmp 29)] hρ rfl (enters_of Tryz.func8 (by kernel_rfl) rfl) (by simp [dd0]) ?_
      refine (exBytes_in (RC.below (unhide HB) hJ) dd1).mono ?_
      rintro r W' ⟨rfl, hb2⟩
      exact ⟨_, rfl, hb2, rfl⟩) ?_
    refine .cons (fun ρ wz hρ hJ hb hd => by
      refine Eq.mpr (if_neg (by decide)) ?_
      have dd0 : ρ (.tmp 27) = (.bool true) := hd 0 _ rfl rfl
      have dd1 : ρ (.tmp 30) = (.bool true) := hd 1 _ rfl rfl
      exact step_val (v := (.bool true)) (w' := wz) (by simp [go_sem, execOp, dd0, dd1, hρ.const]) ⟨Below.refl _ _, rfl⟩) ?_
    refine .cons (fun ρ wz hρ hJ hb hd => by
      refine Eq.mpr (if_neg (by decide)) ?_
      have dd0 : ρ (.tmp 31) = (.bool true) := hd 0 _ rfl rfl
      exact step_move (.tmp 31) rfl ⟨Below.refl _ _, dd0⟩) ?_
    refine .cons (fun ρ wz hρ hJ hb hd => by
      refine Eq.mpr (if_neg (by decide)) ?_
      have dd0 : ρ (.tmp 4) = (Value.int IntKind.i64 0) := hb (4, _) (List.mem_of_getElem? (i := 3) rfl)
      exact step_move (.tmp 4) rfl ⟨Below.refl _ _, dd0⟩) ?_
    refine .cons (fun ρ wz hρ hJ hb hd => by
      refine Eq.mpr (if_neg (by decide)) ?_
      have dd0 : ρ (.tmp 33) = (Value.int IntKind.i64 0) := hd 0 _ rfl rfl
      exact step_val (v := (.bool true)) (w' := wz) (by simp [go_sem, execOp, dd0, hρ.const]) ⟨Below.refl _ _, rfl⟩) ?_
    refine .cons (fun ρ wz hρ hJ hb hd => by
      refine Eq.mpr (if_neg (by decide)) ?_
      have dd0 : ρ (.tmp 32) = (.bool true) := hd 0 _ rfl rfl
      have dd1 : ρ (.tmp 34) = (.bool true) := hd 1 _ rfl rfl
      exact step_val (v := (.bool true)) (w' := wz) (by simp [go_sem, execOp, dd0, dd1, hρ.const]) ⟨Below.refl _ _, rfl⟩) ?_
    refine .cons (fun ρ wz hρ hJ hb hd => by
      refine Eq.mpr (if_neg (by decide)) ?_
      have dd0 : ρ (.tmp 35) = (.bool true) := hd 0 _ rfl rfl
      exact step_move (.tmp 35) rfl ⟨Below.refl _ _, dd0⟩) ?_
    refine .cons (fun ρ wz hρ hJ hb hd => by
      refine Eq.mpr (if_neg (by decide)) ?_
      have dd0 : ρ (.tmp 3) = (Value.pointer (some { block := W3.heap.size, off := 0 })) := hb (3, _) (List.mem_of_getElem? (i := 2) rfl)
      have q := (unhide HX).below hJ
      obtain ⟨x0, x1, x2, x3, x4, x5, x6, x7, x8, x9, x10⟩ := cells_op q
      exact step_val (v := (.agg #[.int .i64 1, .int .i64 2, .slice ao 1 co, .int .i64 1, .int .i64 5, .int .i64 1, .int .i64 4, .int .i64 3, .string ⟨#[104, 195, 169]⟩, .slice ag 0 cg, .int .i64 0])) (w' := wz) (by simp [go_sem, execOp, dd0, x0, x1, x2, x3, x4, x5, x6, x7, x8, x9, x10]) ⟨Below.refl _ _, rfl⟩) ?_
    refine .cons (fun ρ wz hρ hJ hb hd => by
      refine Eq.mpr (if_neg (by decide)) ?_
      refine step_func 18 _ _ #[] hρ rfl (enters_of Tryz.func18 (by kernel_rfl) rfl) (by simp) ?_
      refine (example_in wz).mono ?_
      rintro r W' ⟨ad', cd', rfl, hd', hb2⟩
      exact ⟨_, rfl, hb2, ⟨ad', cd', rfl, hd'⟩⟩) ?_
    refine .cons (fun ρ wz hρ hJ hb hd => by
      refine Eq.mpr (if_neg (by decide)) ?_
      have dd0 : ρ (.tmp 37) = (.agg #[.int .i64 1, .int .i64 2, .slice ao 1 co, .int .i64 1, .int .i64 5, .int .i64 1, .int .i64 4, .int .i64 3, .string ⟨#[104, 195, 169]⟩, .slice ag 0 cg, .int .i64 0]) := hd 0 _ rfl rfl
      have dd1 : ExV wz (ρ (.tmp 38)) := hd 1 _ rfl rfl
      refine step_func 7 _ _ #[.agg #[.int .i64 1, .int .i64 2, .slice ao 1 co, .int .i64 1, .int .i64 5, .int .i64 1, .int .i64 4, .int .i64 3, .string ⟨#[104, 195, 169]⟩, .slice ag 0 cg, .int .i64 0], ρ (.tmp 38)] hρ rfl (enters_of Tryz.func7 (by kernel_rfl) rfl) (by simp [dd0]) ?_
      refine (exSame_in ao co ag cg dd1 ((unhide HO).below hJ)).mono ?_
      rintro r W' ⟨rfl, hb2⟩
      exact ⟨_, rfl, hb2, rfl⟩) ?_
    refine .cons (fun ρ wz hρ hJ hb hd => by
      refine Eq.mpr (if_neg (by decide)) ?_
      have dd0 : ρ (.tmp 36) = (.bool true) := hd 0 _ rfl rfl
      have dd1 : ρ (.tmp 39) = (.bool true) := hd 1 _ rfl rfl
      exact step_val (v := (.bool true)) (w' := wz) (by simp [go_sem, execOp, dd0, dd1, hρ.const]) ⟨Below.refl _ _, rfl⟩) ?_
    refine .cons (fun ρ wz hρ hJ hb hd => by
      refine Eq.mpr (if_neg (by decide)) ?_
      have dd0 : ρ (.tmp 40) = (.bool true) := hd 0 _ rfl rfl
      exact step_move (.tmp 40) rfl ⟨Below.refl _ _, dd0⟩) ?_
    refine .cons (fun ρ wz hρ hJ hb hd => by
      refine Eq.mpr (if_neg (by decide)) ?_
      exact step_val (v := (.agg #[.int .i64 0, .int .i64 0, .slice none 0 0, .int .i64 0, .int .i64 0, .int .i64 0, .int .i64 0, .int .i64 0, .string ⟨#[]⟩, .slice none 0 0, .int .i64 0])) (w' := wz) (by simp [go_sem, execOp, hρ.const]) ⟨Below.refl _ _, rfl⟩) ?_
    refine .cons (fun ρ wz hρ hJ hb hd => by
      refine Eq.mpr (if_neg (by decide)) ?_
      have dd0 : ρ (.tmp 42) = (.agg #[.int .i64 0, .int .i64 0, .slice none 0 0, .int .i64 0, .int .i64 0, .int .i64 0, .int .i64 0, .int .i64 0, .string ⟨#[]⟩, .slice none 0 0, .int .i64 0]) := hd 0 _ rfl rfl
      refine step_func 19 _ _ #[.agg #[.int .i64 0, .int .i64 0, .slice none 0 0, .int .i64 0, .int .i64 0, .int .i64 0, .int .i64 0, .int .i64 0, .string ⟨#[]⟩, .slice none 0 0, .int .i64 0]] hρ rfl (enters_of Tryz.func19 (by kernel_rfl) rfl) (by simp [dd0]) ?_
      refine (zCheck_in wz).mono ?_
      rintro r W' ⟨rfl, hb2⟩
      exact ⟨_, rfl, hb2, rfl⟩) ?_
    refine .cons (fun ρ wz hρ hJ hb hd => by
      refine Eq.mpr (if_neg (by decide)) ?_
      have dd0 : ρ (.tmp 43) = (.int .i64 10) := hd 0 _ rfl rfl
      exact step_val (v := (.bool true)) (w' := wz) (by simp [go_sem, execOp, dd0, hρ.const]) ⟨Below.refl _ _, rfl⟩) ?_
    refine .cons (fun ρ wz hρ hJ hb hd => by
      refine Eq.mpr (if_neg (by decide)) ?_
      have dd0 : ρ (.tmp 41) = (.bool true) := hd 0 _ rfl rfl
      have dd1 : ρ (.tmp 44) = (.bool true) := hd 1 _ rfl rfl
      exact step_val (v := (.bool true)) (w' := wz) (by simp [go_sem, execOp, dd0, dd1, hρ.const]) ⟨Below.refl _ _, rfl⟩) ?_
    refine .cons (fun ρ wz hρ hJ hb hd => by
      refine Eq.mpr (if_neg (by decide)) ?_
      have dd0 : ρ (.tmp 45) = (.bool true) := hd 0 _ rfl rfl
      exact step_assign (.tmp 45) rfl ⟨Below.refl _ _, dd0⟩) (.nil _)
  case fin =>
    intro aQ WQ hsz2 hds hb hJ hv
    obtain ⟨e15, he15⟩ : ∃ x, aQ.eval (.tmp 15) = x := ⟨_, rfl⟩
    obtain ⟨e19, he19⟩ : ∃ x, aQ.eval (.tmp 19) = x := ⟨_, rfl⟩
    obtain ⟨e29, he29⟩ : ∃ x, aQ.eval (.tmp 29) = x := ⟨_, rfl⟩
    obtain ⟨e38, he38⟩ : ∃ x, aQ.eval (.tmp 38) = x := ⟨_, rfl⟩
    obtain rfl := frame_of (((1, (Value.slice a2 13 c2)) :: (2, (Value.int IntKind.i64 0)) :: (3, (Value.pointer (some { block := W3.heap.size, off := 0 }))) :: (4, (Value.int IntKind.i64 0)) :: (5, (Value.tuple #[Value.slice a2 13 c2, Value.int IntKind.i64 0])) :: (6, (Value.agg #[Value.int IntKind.i64 1, Value.int IntKind.i64 2, Value.slice ad 1 cd, Value.int IntKind.i64 1, Value.int IntKind.i64 5, Value.int IntKind.i64 1, Value.int IntKind.i64 4, Value.int IntKind.i64 3, Value.string { data := #[104, 195, 169] }, Value.slice none 0 0, Value.int IntKind.i64 0])) :: (7, (Value.tuple #[Value.slice a2 13 c2, Value.int IntKind.i64 0])) :: (8, (Value.slice a2 13 c2)) :: (9, (Value.int IntKind.i64 0)) :: (10, (Value.tuple #[Value.agg #[Value.int IntKind.i64 1, Value.int IntKind.i64 2, Value.slice ao 1 co, Value.int IntKind.i64 1, Value.int IntKind.i64 5, Value.int IntKind.i64 1, Value.int IntKind.i64 4, Value.int IntKind.i64 3, Value.string { data := #[104, 195, 169] }, Value.slice ag 0 cg, Value.int IntKind.i64 0], Value.int IntKind.i64 0])) :: (11, (Value.slice a2 13 c2)) :: (12, (Value.tuple #[Value.agg #[Value.int IntKind.i64 1, Value.int IntKind.i64 2, Value.slice ao 1 co, Value.int IntKind.i64 1, Value.int IntKind.i64 5, Value.int IntKind.i64 1, Value.int IntKind.i64 4, Value.int IntKind.i64 3, Value.string { data := #[104, 195, 169] }, Value.slice ag 0 cg, Value.int IntKind.i64 0], Value.int IntKind.i64 0])) :: (13, (Value.agg #[Value.int IntKind.i64 1, Value.int IntKind.i64 2, Value.slice ao 1 co, Value.int IntKind.i64 1, Value.int IntKind.i64 5, Value.int IntKind.i64 1, Value.int IntKind.i64 4, Value.int IntKind.i64 3, Value.string { data := #[104, 195, 169] }, Value.slice ag 0 cg, Value.int IntKind.i64 0])) :: (14, (Value.int IntKind.i64 0)) :: []) ++ ((15, e15) :: (16, (.int .i64 0)) :: (17, (.bool true)) :: (18, (.bool true)) :: (19, e19) :: (20, (.int .i64 6)) :: (21, (.bool true)) :: (22, (.bool true)) :: (23, (.bool true)) :: (24, (Value.int IntKind.i64 0)) :: (25, (.bool true)) :: (26, (.bool true)) :: (27, (.bool true)) :: (28, (Value.slice a2 13 c2)) :: (29, e29) :: (30, (.bool true)) :: (31, (.bool true)) :: (32, (.bool true)) :: (33, (Value.int IntKind.i64 0)) :: (34, (.bool true)) :: (35, (.bool true)) :: (36, (.bool true)) :: (37, (.agg #[.int .i64 1, .int .i64 2, .slice ao 1 co, .int .i64 1, .int .i64 5, .int .i64 1, .int .i64 4, .int .i64 3, .string ⟨#[104, 195, 169]⟩, .slice ag 0 cg, .int .i64 0])) :: (38, e38) :: (39, (.bool true)) :: (40, (.bool true)) :: (41, (.bool true)) :: (42, (.agg #[.int .i64 0, .int .i64 0, .slice none 0 0, .int .i64 0, .int .i64 0, .int .i64 0, .int .i64 0, .int .i64 0, .string ⟨#[]⟩, .slice none 0 0, .int .i64 0])) :: (43, (.int .i64 10)) :: (44, (.bool true)) :: (45, (.bool true)) :: (0, (.bool true)) :: [])) ((.bool true) :: (Value.slice a2 13 c2) :: (Value.int IntKind.i64 0) :: (Value.pointer (some { block := W3.heap.size, off := 0 })) :: (Value.int IntKind.i64 0) :: (Value.tuple #[Value.slice a2 13 c2, Value.int IntKind.i64 0]) :: (Value.agg #[Value.int IntKind.i64 1, Value.int IntKind.i64 2, Value.slice ad 1 cd, Value.int IntKind.i64 1, Value.int IntKind.i64 5, Value.int IntKind.i64 1, Value.int IntKind.i64 4, Value.int IntKind.i64 3, Value.string { data := #[104, 195, 169] }, Value.slice none 0 0, Value.int IntKind.i64 0]) :: (Value.tuple #[Value.slice a2 13 c2, Value.int IntKind.i64 0]) :: (Value.slice a2 13 c2) :: (Value.int IntKind.i64 0) :: (Value.tuple #[Value.agg #[Value.int IntKind.i64 1, Value.int IntKind.i64 2, Value.slice ao 1 co, Value.int IntKind.i64 1, Value.int IntKind.i64 5, Value.int IntKind.i64 1, Value.int IntKind.i64 4, Value.int IntKind.i64 3, Value.string { data := #[104, 195, 169] }, Value.slice ag 0 cg, Value.int IntKind.i64 0], Value.int IntKind.i64 0]) :: (Value.slice a2 13 c2) :: (Value.tuple #[Value.agg #[Value.int IntKind.i64 1, Value.int IntKind.i64 2, Value.slice ao 1 co, Value.int IntKind.i64 1, Value.int IntKind.i64 5, Value.int IntKind.i64 1, Value.int IntKind.i64 4, Value.int IntKind.i64 3, Value.string { data := #[104, 195, 169] }, Value.slice ag 0 cg, Value.int IntKind.i64 0], Value.int IntKind.i64 0]) :: (Value.agg #[Value.int IntKind.i64 1, Value.int IntKind.i64 2, Value.slice ao 1 co, Value.int IntKind.i64 1, Value.int IntKind.i64 5, Value.int IntKind.i64 1, Value.int IntKind.i64 4, Value.int IntKind.i64 3, Value.string { data := #[104, 195, 169] }, Value.slice ag 0 cg, Value.int IntKind.i64 0]) :: (Value.int IntKind.i64 0) :: e15 :: (.int .i64 0) :: (.bool true) :: (.bool true) :: e19 :: (.int .i64 6) :: (.bool true) :: (.bool true) :: (.bool true) :: (Value.int IntKind.i64 0) :: (.bool true) :: (.bool true) :: (.bool true) :: (Value.slice a2 13 c2) :: e29 :: (.bool true) :: (.bool true) :: (.bool true) :: (Value.int IntKind.i64 0) :: (.bool true) :: (.bool true) :: (.bool true) :: (.agg #[.int .i64 1, .int .i64 2, .slice ao 1 co, .int .i64 1, .int .i64 5, .int .i64 1, .int .i64 4, .int .i64 3, .string ⟨#[104, 195, 169]⟩, .slice ag 0 cg, .int .i64 0]) :: e38 :: (.bool true) :: (.bool true) :: (.bool true) :: (.agg #[.int .i64 0, .int .i64 0, .slice none 0 0, .int .i64 0, .int .i64 0, .int .i64 0, .int .i64 0, .int .i64 0, .string ⟨#[]⟩, .slice none 0 0, .int .i64 0]) :: (.int .i64 10) :: (.bool true) :: (.bool true) :: []) hsz2 hds (fun p hp => by
      rcases List.mem_append.1 hp with h | h
      · exact hb p h
      · simp only [List.mem_cons, List.not_mem_nil, or_false] at h
        rcases h with rfl | rfl | rfl | rfl | rfl | rfl | rfl | rfl | rfl | rfl | rfl | rfl | rfl | rfl | rfl | rfl | rfl | rfl | rfl | rfl | rfl | rfl | rfl | rfl | rfl | rfl | rfl | rfl | rfl | rfl | rfl | rfl
        · exact he15
        · exact hv 1 (by decide)
        · exact hv 2 (by decide)
        · exact hv 3 (by decide)
        · exact he19
        · exact hv 5 (by decide)
        · exact hv 6 (by decide)
        · exact hv 7 (by decide)
        · exact hv 8 (by decide)
        · exact hv 9 (by decide)
        · exact hv 10 (by decide)
        · exact hv 11 (by decide)
        · exact hv 12 (by decide)
        · exact hv 13 (by decide)
        · exact he29
        · exact hv 15 (by decide)
        · exact hv 16 (by decide)
        · exact hv 17 (by decide)
        · exact hv 18 (by decide)
        · exact hv 19 (by decide)
        · exact hv 20 (by decide)
        · exact hv 21 (by decide)
        · exact hv 22 (by decide)
        · exact he38
        · exact hv 24 (by decide)
        · exact hv 25 (by decide)
        · exact hv 26 (by decide)
        · exact hv 27 (by decide)
        · exact hv 28 (by decide)
        · exact hv 29 (by decide)
        · exact hv 30 (by decide)
        · exact hv 31 (by decide)) rfl
    clear hb hds hsz2 he15 he19 he29 he38
    go_wp2
    go_ret
    exact ⟨rfl, bnext (unhide hb) hJ⟩

end Go.Proofs.YtbnhfbdfjnigoaaGreat
