/-
  The law's rest: all that an iterator goes through.
-/
import Derived.Test.YtehmbbnmjiojgaaZLK2
set_option linter.unusedSimpArgs false
set_option linter.unusedVariables false
namespace Go.Proofs.Ytehmbbnmjiojgaa
open Go.RowKit Go.Lib

theorem run_equalIn_func_nil {P : Program} (w : World) (d : Nat) (t : TypeId) {x y z} (f : Fn) (bs cs : Array Value) (h : P.underlying t = some (.func x y z)) : (Op.equalIn (d + 1) t (.func f bs cs) .nilFunc).run P w = .ok false w := by
  simp [Op.equalIn, run_underlying h]
theorem run_equal_func_nil {P : Program} (w : World) (t : TypeId) {x y z} (f : Fn) (bs cs : Array Value) (h : P.underlying t = some (.func x y z)) : (Op.equal t (.func f bs cs) .nilFunc).run P w = .ok false w := run_equalIn_func_nil w 9999 t f bs cs h
theorem run_eql_func_nil {P : Program} (w : World) (t : TypeId) {x y z} (f : Fn) (bs cs : Array Value) (h : P.underlying t = some (.func x y z)) : (binOp .eql t (.func f bs cs) .nilFunc).run P w = .ok (.bool false) w := by
  simp only [binOp]
  simp [run_equal_func_nil w t f bs cs h]
theorem run_neq_func_nil {P : Program} (w : World) (t : TypeId) {x y z} (f : Fn) (bs cs : Array Value) (h : P.underlying t = some (.func x y z)) : (binOp .neq t (.func f bs cs) .nilFunc).run P w = .ok (.bool true) w := by
  simp only [binOp]
  simp [run_equal_func_nil w t f bs cs h]

/-- what was collected: its variable, its list, the lists of each -/
structure RS (w W : World) (ob mb : Nat) (most : Int) (vout : Value) (out : List (Opn × Value × Value)) : Prop where
  box : Bx W ob 28 #[vout]
  mst : Bx W mb 3 #[.int .i64 most]
  row : W.ownsRow w.heap.size 38 11 vout out.length (flat encO out)
  re : ∀ e ∈ out, OE (fun i => w.heap.size ≤ i) W e
  bel : Below w.heap.size w W
  ob0 : w.heap.size ≤ ob
theorem RS.below {w W W' : World} {ob mb : Nat} {most : Int} {vout : Value} {out : List (Opn × Value × Value)} (h : RS w W ob mb most vout out) (hb : Below W.heap.size W W') : RS w W' ob mb most vout out :=
  ⟨h.box.below hb, h.mst.below hb, owns_kp (N := fun _ => False) h.row (Kp.of_below hb) (fun _ _ e => e), fun e he => (h.re e he).below hb, bnext h.bel hb, h.ob0⟩

set_option maxRecDepth 100000 in
set_option maxHeartbeats 4000000 in
theorem rest1_in {w W : World} {ob mb : Nat} {most : Int} {vout : Value} {out : List (Opn × Value × Value)} (h : RS w W ob mb most vout out) (hn : out.length ≤ 1000000) (o : Opn) (a1 a2 : Option Addr) (c1 c2 : Nat) (hoe : OE (fun i => w.heap.size ≤ i) W (o, .slice a1 o.deps.length c1, .slice a2 o.gone.length c2)) (hlt : ((out.length : Int) + 1 < most)) :
    Calls Try.prog 19 #[opA o (.slice a1 o.deps.length c1) (.slice a2 o.gone.length c2), .pointer (some ⟨ob, 0, none⟩), .pointer (some ⟨mb, 0, none⟩)] W fun e W' => e = .returned (.bool true) ∧ (∃ v', RS w W' ob mb most v' (out ++ [(o, .slice a1 o.deps.length c1, .slice a2 o.gone.length c2)])) ∧ Kp (fun i => w.heap.size ≤ i) W W' := by
  unfold opA
  obtain ⟨av, cv, rfl⟩ := owns_form h.row
  obtain ⟨X, hX⟩ : ∃ X, W.alloc (.cells #[.int .i64 o.ds, .int .i64 o.dq, .slice a1 o.deps.length c1, .int .i64 o.kind, .int .i64 o.it, .int .i64 o.is, .int .i64 o.rt, .int .i64 o.rs, .string o.text, .slice a2 o.gone.length c2, .int .i64 o.site] 38) = X := ⟨_, rfl⟩
  have bX : Below W.heap.size W X := by rw [← hX]; exact ballc (Below.refl _ _) _
  have xX := Bx.new W 38 #[.int .i64 o.ds, .int .i64 o.dq, .slice a1 o.deps.length c1, .int .i64 o.kind, .int .i64 o.it, .int .i64 o.is, .int .i64 o.rt, .int .i64 o.rs, .string o.text, .slice a2 o.gone.length c2, .int .i64 o.site]
  rw [hX] at xX
  have hX2 := h.below bX
  have oX := hoe.below bX
  obtain ⟨p0, p1, p2, p3, p4, p5, p6, p7, p8, p9, p10⟩ := cells_op xX
  have xl := xX.lt
  have d0 := hX2.box.cell 0 _ rfl
  have dl := hX2.box.lt
  obtain ⟨Y, hY⟩ : ∃ Y, X.alloc (.cells #[.int .i64 o.ds, .int .i64 o.dq, .slice a1 o.deps.length c1, .int .i64 o.kind, .int .i64 o.it, .int .i64 o.is, .int .i64 o.rt, .int .i64 o.rs, .string o.text, .slice a2 o.gone.length c2, .int .i64 o.site] 38) = Y := ⟨_, rfl⟩
  have bY : Below X.heap.size X Y := by rw [← hY]; exact ballc (Below.refl _ _) _
  have xY : Bx Y X.heap.size 38 #[.int .i64 o.ds, .int .i64 o.dq, .slice a1 o.deps.length c1, .int .i64 o.kind, .int .i64 o.it, .int .i64 o.is, .int .i64 o.rt, .int .i64 o.rs, .string o.text, .slice a2 o.gone.length c2, .int .i64 o.site] := by rw [← hY]; exact Bx.new X _ _
  have hY2 := hX2.below bY
  have oY := oX.below bY
  obtain ⟨v', Z, hr, hown, hgr, hat⟩ := append_op Y 28 w.heap.size _ out (o, .slice a1 o.deps.length c1, .slice a2 o.gone.length c2) X.heap.size hY2.row xY oY.one (by have := hY2.bel.size; omega) hn
  have kk := Kp.of_grown (N := fun k => (Value.slice av out.length cv).ownBlock = some k) hgr (fun k hk => hk)
  have zb := hY2.box.kp kk (own_ne_box hY2.row hY2.box (by decide))
  have zm := hY2.mst.kp kk (own_ne_box hY2.row hY2.mst (by decide))
  obtain ⟨a', c', rfl⟩ := owns_form hown
  have z0 := zb.cell 0 _ rfl
  have zf := zb.frozen 0
  have zl := zb.lt
  have zm0 := zm.cell 0 _ rfl
  have zml := zm.lt
  have ks := Kp.set (N := fun i => i = ob) Z ⟨ob, 0, none⟩ (.slice a' (out ++ [(o, Value.slice a1 o.deps.length c1, Value.slice a2 o.gone.length c2)]).length c') rfl
  have hne : ob ≠ mb := fun e => by
    subst e
    exact ne_types (show Z.heap[ob]? = some (.cells _ _ _) from zb) (show Z.heap[ob]? = some (.cells _ _ _) from zm) (by decide)
  have hlo : ∀ i, (Value.slice av out.length cv).ownBlock = some i → w.heap.size ≤ i := fun i hi => (hY2.row.lt i hi).1
  have tO : ∀ {e}, OE (fun i => w.heap.size ≤ i) Y e → OE (fun i => w.heap.size ≤ i) (Z.setCell ⟨ob, 0, none⟩ (.slice a' (out ++ [(o, Value.slice a1 o.deps.length c1, Value.slice a2 o.gone.length c2)]).length c')) e := fun {e} q => by
    have kt : Kp (fun k => (Value.slice av out.length cv).ownBlock = some k ∨ k = ob) Y (Z.setCell ⟨ob, 0, none⟩ (.slice a' (out ++ [(o, Value.slice a1 o.deps.length c1, Value.slice a2 o.gone.length c2)]).length c')) := (kk.wk (fun i e => .inl e)).trans ks (fun i e => .inl (.inr e))
    exact ⟨owns_kp q.d kt (fun i hi e2 => e2.elim (fun e2 => own_ne_own q.d hY2.row (by decide) i hi e2) (fun e2 => own_ne_box q.d hY2.box (by decide) (by rw [hi, e2]))), owns_kp q.g kt (fun i hi e2 => e2.elim (fun e2 => own_ne_own q.g hY2.row (by decide) i hi e2) (fun e2 => own_ne_box q.g hY2.box (by decide) (by rw [hi, e2]))), q.pd, q.pg, q.s1, q.s2, q.s3⟩
  have kW : Kp (fun i => w.heap.size ≤ i) W (Z.setCell ⟨ob, 0, none⟩ (.slice a' (out ++ [(o, Value.slice a1 o.deps.length c1, Value.slice a2 o.gone.length c2)]).length c')) := ((Kp.of_below (bnext bX bY)).trans kk (fun i e => .inl (hlo i e))).trans ks (fun i e => .inl (by rw [e]; exact h.ob0))
  have HF : Hid ((∃ v', RS w (Z.setCell ⟨ob, 0, none⟩ (.slice a' (out ++ [(o, Value.slice a1 o.deps.length c1, Value.slice a2 o.gone.length c2)]).length c')) ob mb most v' (out ++ [(o, .slice a1 o.deps.length c1, .slice a2 o.gone.length c2)])) ∧ Kp (fun i => w.heap.size ≤ i) W (Z.setCell ⟨ob, 0, none⟩ (.slice a' (out ++ [(o, Value.slice a1 o.deps.length c1, Value.slice a2 o.gone.length c2)]).length c'))) := by
    refine hide ⟨⟨_, by have := zb.set 0 (.slice a' (out ++ [(o, Value.slice a1 o.deps.length c1, Value.slice a2 o.gone.length c2)]).length c'); simpa using this, zm.kp ks (fun e => hne e.symm), owns_kp hown ks (fun i hi e => own_ne_box hown zb (by decide) (by rw [hi, e])), fun e he => ?_, kW.below h.bel (fun i e => e), h.ob0⟩, kW⟩
    rcases List.mem_append.1 he with he | he
    · exact tO (hY2.re e he)
    · simp only [List.mem_singleton] at he
      subst he
      exact tO oY
  have hln : (out ++ [(o, Value.slice a1 o.deps.length c1, Value.slice a2 o.gone.length c2)]).length = out.length + 1 := by simp
  rw [hln] at hr HF
  replace hr := hide hr
  clear h hoe bX xX hX2 oX bY xY hY2 oY hown hgr hat kk zb zm ks hlo tO kW hln
  have hne' : ¬ mb = ob := fun e => hne e.symm
  go_enter Try.func19, Try.ntmps19
  go_wp2_with (at_builtin; refine wpList_append_eq rfl _ _ 28 rfl _ _ _ _ rfl rfl (unhide hr) ?_; clear hr)
  go_ret
  exact ⟨rfl, (unhide HF).1, (unhide HF).2⟩

set_option maxRecDepth 100000 in
set_option maxHeartbeats 4000000 in
theorem rest_in {P : Nat → Prop} {w : World} {nb : Nat} {os : List Opn} (h : IT P w nb os) (hP : ∀ i, P i → i < w.heap.size) (most : Int) (hm : (os.length : Int) < most) :
    Calls Try.prog 7 #[itV nb, .int .i64 most] w fun e W => ∃ v', e = .returned v' ∧ RL (fun i => w.heap.size ≤ i) W v' os ∧ Below w.heap.size w W := by
  obtain ⟨v, ops, hit, rfl⟩ := h
  rw [List.length_map] at hm
  have hlen := hit.len
  obtain ⟨X, hX⟩ : ∃ X, (w.alloc (.cells #[.int .i64 most] 3)).alloc (.cells #[.slice none 0 0] 28) = X := ⟨_, rfl⟩
  have x1 : Bx X w.heap.size 3 #[.int .i64 most] := by rw [← hX]; exact (Bx.new w _ _).below (ballc (Below.refl _ _) _)
  have x2 : Bx X (w.heap.size + 1) 28 #[.slice none 0 0] := by rw [← hX]; exact bx_lastR _ _ _ _
  have bX : Below w.heap.size w X := by rw [← hX]; exact ballc (ballc (Below.refl _ _) _) _
  have hmf := makeF
  have hnil : ∀ W, (binOp .eql 42 (.func (.func 22) #[] #[.pointer (some ⟨nb, 0, none⟩)]) .nilFunc).run Try.prog W = .ok (.bool false) W := fun W => run_eql_func_nil W _ _ _ _ Try.underlying42
  have HC := hide (byd_clo 19 #[.pointer (some ⟨w.heap.size + 1, 0, none⟩), .pointer (some ⟨w.heap.size, 0, none⟩)] P nb v ops
    (fun pre W => (∃ vout out, RS w W (w.heap.size + 1) w.heap.size most vout out ∧ out.map Prod.fst = pre) ∧ ITR P W nb v ops) (fun _ _ => False) X
    (enters_of Try.func19 (by kernel_rfl) rfl)
    (fun pre W1 W2 ⟨⟨vout, out, q1, q2⟩, q3⟩ hb => ⟨⟨vout, out, q1.below hb, q2⟩, q3.below hb⟩) (fun pre W1 h => h.2)
    (fun pre o rest Wc W1 a1 c1 a2 c2 hp ⟨⟨vout, out, q1, q2⟩, q3⟩ hb hd hg s1 s2 s3 => by
      have hol : out.length + 1 ≤ ops.length := by
        have e1 := congrArg List.length hp
        have e2 := congrArg List.length q2
        simp at e1 e2
        omega
      have hz := q1.bel.size
      refine (rest1_in (q1.below hb) (by omega) o a1 a2 c1 c2 ⟨hd.b0, hg.b0, fun k hk => Nat.le_trans hz (hd.lt k hk).1, fun k hk => Nat.le_trans hz (hg.lt k hk).1, s1, s2, s3⟩ (by omega)).mono ?_
      rintro e W' ⟨rfl, ⟨v', q4⟩, k⟩
      refine ⟨true, rfl, ⟨⟨v', _, q4, by rw [List.map_append, q2]; rfl⟩, (q3.below hb).kp k (fun i hi h => by have := hP i h; omega)⟩⟩)
    ⟨⟨.slice none 0 0, [], ⟨x2, x1, World.ownsRow_nil _ _ _ _, fun e he => (by cases he), bX, by omega⟩, rfl⟩, hit.below bX⟩)
  clear x1 x2 bX hit
  unfold itV
  go_enter Try.func7, Try.ntmps7
  go_wp2_with fail
  refine (unhide HC).mono ?_
  rintro e W1 ⟨rfl, (⟨⟨vout, out, q1, q2⟩, q3⟩ | ⟨_, _, _, h⟩)⟩
  · obtain ⟨ao, co, rfl⟩ := owns_form q1.row
    have c0 := q1.box.cell 0 _ rfl
    have hl0 := q1.box.lt
    have H1 := hide q1
    clear HC q1 q3
    go_wp2
    go_ret
    exact ⟨_, rfl, ⟨out, own_base (unhide H1).row (Nat.zero_le _), (unhide H1).re, fun k hk => ((unhide H1).row.lt k hk).1, q2⟩, (unhide H1).bel⟩
  · exact h.elim

end Go.Proofs.Ytehmbbnmjiojgaa
