/-
  The law's rest: all that an iterator goes through.
-/
import Derived.Test.YtijjoikeceechaaGreatZXLK1

set_option linter.unusedSimpArgs false
set_option linter.unusedVariables false
namespace Go.Proofs.YtijjoikeceechaaGreat
open Go.RowKit Go.Lib

theorem run_equalIn_func_nil {P : Program} (w : World) (d : Nat) (t : TypeId) {x y z} (f : Fn) (bs cs : Array Value) (h : P.underlying t = some (.func x y z)) : (Op.equalIn (d + 1) t (.func f bs cs) .nilFunc).run P w = .ok false w := by
  simp [Op.equalIn, run_underlying h]
theorem run_equal_func_nil {P : Program} (w : World) (t : TypeId) {x y z} (f : Fn) (bs cs : Array Value) (h : P.underlying t = some (.func x y z)) : (Op.equal t (.func f bs cs) .nilFunc).run P w = .ok false w := run_equalIn_func_nil w 9999 t f bs cs h
theorem run_eql_func_nil {P : Program} (w : World) (t : TypeId) {x y z} (f : Fn) (bs cs : Array Value) (h : P.underlying t = some (.func x y z)) : (binOp .eql t (.func f bs cs) .nilFunc).run P w = .ok (.bool false) w := by
  simp only [binOp]
  simp [run_equal_func_nil w t f bs cs h]
theorem run_neq_func_nil {P : Program} (w : World) (t : TypeId) {x y z} (f : Fn) (bs cs : Array Value) (h : P.underlying t = some (.func x y z)) : (binOp .neq t (.func f bs cs) .nilFunc).run P w = .ok (.bool true) w := by
  simp only [binOp]
  simp [run_equal_func_nil w t f bs cs h]

/-- what was collected: its variable, its list, the lists of each -/
structure RS (w W : World) (ob mb : Nat) (most : Int) (vout : Value) (out : List (Opn × Value × Value)) : Prop where
  box : Bx W ob 33 #[vout]
  mst : Bx W mb 3 #[.int .i64 most]
  row : W.ownsRow w.heap.size 45 11 vout out.length (flat encO out)
  re : ∀ e ∈ out, OE (fun i => w.heap.size ≤ i) W e
  bel : Below w.heap.size w W
  ob0 : w.heap.size ≤ ob
theorem RS.below {w W W' : World} {ob mb : Nat} {most : Int} {vout : Value} {out : List (Opn × Value × Value)} (h : RS w W ob mb most vout out) (hb : Below W.heap.size W W') : RS w W' ob mb most vout out :=
  ⟨h.box.below hb, h.mst.below hb, owns_kp (N := fun _ => False) h.row (Kp.of_below hb) (fun _ _ e => e), fun e he => (h.re e he).below hb, bnext h.bel hb, h.ob0⟩

set_option maxRecDepth 100000 in
set_option maxHeartbeats 4000000 in
theorem rest1_in {w W : World} {ob mb : Nat} {most : Int} {vout : Value} {out : List (Opn × Value × Value)} (h : RS w W ob mb most vout out) (hn : out.length ≤ 1000000) (o : Opn) (a1 a2 : Option Addr) (c1 c2 : Nat) (hoe : OE (fun i => w.heap.size ≤ i) W (o, .slice a1 o.deps.length c1, .slice a2 o.gone.length c2)) (hlt : ((out.length : Int) + 1 < most)) :
    Calls Tryz.prog 42 #[opA o (.slice a1 o.deps.length c1) (.slice a2 o.gone.length c2), .pointer (some ⟨ob, 0, none⟩), .pointer (some ⟨mb, 0, none⟩)] W fun e W' => e = .returned (.bool true) ∧ (∃ v', RS w W' ob mb most v' (out ++ [(o, .slice a1 o.deps.length c1, .slice a2 o.gone.length c2)])) ∧ Kp (fun i => w.heap.size ≤ i) W W' := by
  unfold opA
  obtain ⟨av, cv, rfl⟩ := owns_form h.row
  obtain ⟨X, hX⟩ : ∃ X, W.alloc (.cells #[.int .i64 o.ds, .int .i64 o.dq, .slice a1 o.deps.length c1, .int .i64 o.kind, .int .i64 o.it, .int .i64 o.is, .int .i64 o.rt, .int .i64 o.rs, .string o.text, .slice a2 o.gone.length c2, .int .i64 o.site] 45) = X := ⟨_, rfl⟩
  have bX : Below W.heap.size W X := by rw [← hX]; exact ballc (Below.refl _ _) _
  have xX := Bx.new W 45 #[.int .i64 o.ds, .int .i64 o.dq, .slice a1 o.deps.length c1, .int .i64 o.kind, .int .i64 o.it, .int .i64 o.is, .int .i64 o.rt, .int .i64 o.rs, .string o.text, .slice a2 o.gone.length c2, .int .i64 o.site]
  rw [hX] at xX
  have hX2 := h.below bX
  have oX := hoe.below bX
  obtain ⟨p0, p1, p2, p3, p4, p5, p6, p7, p8, p9, p10⟩ := cells_op xX
  have xl := xX.lt
  have d0 := hX2.box.cell 0 _ rfl
  have dl := hX2.box.lt
  obtain ⟨Y, hY⟩ : ∃ Y, X.alloc (.cells #[.int .i64 o.ds, .int .i64 o.dq, .slice a1 o.deps.length c1, .int .i64 o.kind, .int .i64 o.it, .int .i64 o.is, .int .i64 o.rt, .int .i64 o.rs, .string o.text, .slice a2 o.gone.length c2, .int .i64 o.site] 45) = Y := ⟨_, rfl⟩
  have bY : Below X.heap.size X Y := by rw [← hY]; exact ballc (Below.refl _ _) _
  have xY : Bx Y X.heap.size 45 #[.int .i64 o.ds, .int .i64 o.dq, .slice a1 o.deps.length c1, .int .i64 o.kind, .int .i64 o.it, .int .i64 o.is, .int .i64 o.rt, .int .i64 o.rs, .string o.text, .slice a2 o.gone.length c2, .int .i64 o.site] := by rw [← hY]; exact Bx.new X _ _
  have hY2 := hX2.below bY
  have oY := oX.below bY
  obtain ⟨v', Z, hr, hown, hgr, hat⟩ := append_op Y 33 w.heap.size _ out (o, .slice a1 o.deps.length c1, .slice a2 o.gone.length c2) X.heap.size hY2.row xY oY.one (by have := hY2.bel.size; omega) hn
  have kk := Kp.of_grown (N := fun k => (Value.slice av out.length cv).ownBlock = some k) hgr (fun k hk => hk)
  have zb := hY2.box.kp kk (own_ne_box hY2.row hY2.box (by decide))
  have zm := hY2.mst.kp kk (own_ne_box hY2.row hY2.mst (by decide))
  obtain ⟨a', c', rfl⟩ := owns_form hown
  have z0 := zb.cell 0 _ rfl
  have zf := zb.frozen 0
  have zl := zb.lt
  have zm0 := zm.cell 0 _ rfl
  have zml := zm.lt
  have ks := Kp.set (N := fun i => i = ob) Z ⟨ob, 0, none⟩ (.slice a' (out ++ [(o, Value.slice a1 o.deps.length c1, Value.slice a2 o.gone.length c2)]).length c') rfl
  have hne : ob ≠ mb := fun e => by
    subst e
    exact ne_types (show Z.heap[ob]? = some (.cells _ _ _) from zb) (show Z.heap[ob]? = some (.cells _ _ _) from zm) (by decide)
  have hlo : ∀ i, (Value.slice av out.length cv).ownBlock = some i → w.heap.size ≤ i := fun i hi => (hY2.row.lt i hi).1
  have tO : ∀ {e}, OE (fun i => w.heap.size ≤ i) Y e → OE (fun i => w.heap.size ≤ i) (Z.setCell ⟨ob, 0, none⟩ (.slice a' (out ++ [(o, Value.slice a1 o.deps.length c1, Value.slice a2 o.gone.length c2)]).length c')) e := fun {e} q => by
    have kt : Kp (fun k => (Value.slice av out.length cv).ownBlock = some k ∨ k = ob) Y (Z.setCell ⟨ob, 0, none⟩ (.slice a' (out ++ [(o, Value.slice a1 o.deps.length c1, Value.slice a2 o.gone.length c2)]).length c')) := (kk.wk (fun i e => .inl e)).trans ks (fun i e => .inl (.inr e))
    exact ⟨owns_kp q.d kt (fun i hi e2 => e2.elim (fun e2 => own_ne_own q.d hY2.row (by decide) i hi e2) (fun e2 => own_ne_box q.d hY2.box (by decide) (by rw [hi, e2]))), owns_kp q.g kt (fun i hi e2 => e2.elim (fun e2 => own_ne_own q.g hY2.row (by decide) i hi e2) (fun e2 => own_ne_box q.g hY2.box (by decide) (by rw [hi, e2]))), q.pd, q.pg, q.s1, q.s2, q.s3⟩
  have kW : Kp (fun i => w.heap.size ≤ i) W (Z.setCell ⟨ob, 0, none⟩ (.slice a' (out ++ [(o, Value.slice a1 o.deps.length c1, Value.slice a2 o.gone.length c2)]).length c')) := ((Kp.of_below (bnext bX bY)).trans kk (fun i e => .inl (hlo i e))).trans ks (fun i e => .inl (by rw [e]; exact h.ob0))
  have HF : Hid ((∃ v', RS w (Z.setCell ⟨ob, 0, none⟩ (.slice a' (out ++ [(o, Value.slice a1 o.deps.length c1, Value.slice a2 o.gone.length c2)]).length c')) ob mb most v' (out ++ [(o, .slice a1 o.deps.length c1, .slice a2 o.gone.length c2)])) ∧ Kp (fun i => w.heap.size ≤ i) W (Z.setCell ⟨ob, 0, none⟩ (.slice a' (out ++ [(o, Value.slice a1 o.deps.length c1, Value.slice a2 o.gone.length c2)]).length c'))) := by
    refine hide ⟨⟨_, by have := zb.set 0 (.slice a' (out ++ [(o, Value.slice a1 o.deps.length c1, Value.slice a2 o.gone.length c2)]).length c'); simpa using this, zm.kp ks (fun e => hne e.symm), owns_kp hown ks (fun i hi e => own_ne_box hown zb (by decide) (by rw [hi, e])), fun e he => ?_, kW.below h.bel (fun i e => e), h.ob0⟩, kW⟩
    rcases List.mem_append.1 he with he | he
    · exact tO (hY2.re e he)
    · simp only [List.mem_singleton] at he
      subst he
      exact tO oY
  have hln : (out ++ [(o, Value.slice a1 o.deps.length c1, Value.slice a2 o.gone.length c2)]).length = out.length + 1 := by simp
  rw [hln] at hr HF
  replace hr := hide hr
  clear h hoe bX xX hX2 oX bY xY hY2 oY hown hgr hat kk zb zm ks hlo tO kW hln
  have hne' : ¬ mb = ob := fun e => hne e.symm
  go_enter Tryz.func42, Tryz.ntmps42
  go_wp2_with (at_builtin; refine wpList_append_eq rfl _ _ 33 rfl _ _ _ _ rfl rfl (unhide hr) ?_; clear hr)
  go_ret
  exact ⟨rfl, (unhide HF).1, (unhide HF).2⟩

set_option maxRecDepth 100000 in
set_option maxHeartbeats 4000000 in
theorem rest_in {P : Nat → Prop} {w : World} {nb : Nat} {os : List Opn} (h : IT P w nb os) (hP : ∀ i, P i → i < w.heap.size) (most : Int) (hm : (os.length : Int) < most) :
    Calls Tryz.prog 20 #[itV nb, .int .i64 most] w fun e W => ∃ v', e = .returned v' ∧ RL (fun i => w.heap.size ≤ i) W v' os ∧ Below w.heap.size w W := by
  obtain ⟨v, ops, hit, rfl⟩ := h
  rw [List.length_map] at hm
  have hlen := hit.len
  obtain ⟨X, hX⟩ : ∃ X, (w.alloc (.cells #[.int .i64 most] 3)).alloc (.cells #[.slice none 0 0] 33) = X := ⟨_, rfl⟩
  have x1 : Bx X w.heap.size 3 #[.int .i64 most] := by rw [← hX]; exact (Bx.new w _ _).below (ballc (Below.refl _ _) _)
  have x2 : Bx X (w.heap.size + 1) 33 #[.slice none 0 0] := by rw [← hX]; exact bx_lastR _ _ _ _
  have bX : Below w.heap.size w X := by rw [← hX]; exact ballc (ballc (Below.refl _ _) _) _
  have hmf := makeF
  have hnil : ∀ W, (binOp .eql 54 (.func (.func 40) #[] #[.pointer (some ⟨nb, 0, none⟩)]) .nilFunc).run Tryz.prog W = .ok (.bool false) W := fun W => run_eql_func_nil W _ _ _ _ Tryz.underlying54
  have HC := hide (byd_clo 42 #[.pointer (some ⟨w.heap.size + 1, 0, none⟩), .pointer (some ⟨w.heap.size, 0, none⟩)] P nb v ops
    (fun pre W => (∃ vout out, RS w W (w.heap.size + 1) w.heap.size most vout out ∧ out.map Prod.fst = pre) ∧ ITR P W nb v ops) (fun _ _ => False) X
    (enters_of Tryz.func42 (by kernel_rfl) rfl)
    (fun pre W1 W2 ⟨⟨vout, out, q1, q2⟩, q3⟩ hb => ⟨⟨vout, out, q1.below hb, q2⟩, q3.below hb⟩) (fun pre W1 h => h.2)
    (fun pre o rest Wc W1 a1 c1 a2 c2 hp ⟨⟨vout, out, q1, q2⟩, q3⟩ hb hd hg s1 s2 s3 => by
      have hol : out.length + 1 ≤ ops.length := by
        have e1 := congrArg List.length hp
        have e2 := congrArg List.length q2
        simp at e1 e2
        omega
      have hz := q1.bel.size
      refine (rest1_in (q1.below hb) (by omega) o a1 a2 c1 c2 ⟨hd.b0, hg.b0, fun k hk => Nat.le_trans hz (hd.lt k hk).1, fun k hk => Nat.le_trans hz (hg.lt k hk).1, s1, s2, s3⟩ (by omega)).mono ?_
      rintro e W' ⟨rfl, ⟨v', q4⟩, k⟩
      refine ⟨true, rfl, ⟨⟨v', _, q4, by rw [List.map_append, q2]; rfl⟩, (q3.below hb).kp k (fun i hi h => by have := hP i h; omega)⟩⟩)
    ⟨⟨.slice none 0 0, [], ⟨x2, x1, World.ownsRow_nil _ _ _ _, fun e he => (by cases he), bX, by omega⟩, rfl⟩, hit.below bX⟩)
  clear x1 x2 bX hit
  unfold itV
  go_enter Tryz.func20, Tryz.ntmps20
  go_wp2_with fail
  refine (unhide HC).mono ?_
  rintro e W1 ⟨rfl, (⟨⟨vout, out, q1, q2⟩, q3⟩ | ⟨_, _, _, h⟩)⟩
  · obtain ⟨ao, co, rfl⟩ := owns_form q1.row
    have c0 := q1.box.cell 0 _ rfl
    have hl0 := q1.box.lt
    have H1 := hide q1
    clear HC q1 q3
    go_wp2
    go_ret
    exact ⟨_, rfl, ⟨out, own_base (unhide H1).row (Nat.zero_le _), (unhide H1).re, fun k hk => ((unhide H1).row.lt k hk).1, q2⟩, (unhide H1).bel⟩
  · exact h.elim

end Go.Proofs.YtijjoikeceechaaGreat

/-
  The law's scripts: how steps lie, and how much there is.
-/
set_option linter.unusedSimpArgs false
set_option linter.unusedVariables false
namespace Go.Proofs.YtijjoikeceechaaGreat
open Go.RowKit Go.Lib

/-- a step: its kind, its operation, its vector -/
structure Stp where
  kind : Int
  op : Opn
  vec : List (Int × Int)
  vd : Value
  vg : Value
  vv : Value
def encS (s : Stp) : List Value := [.int .i64 s.kind, .int .i64 s.op.ds, .int .i64 s.op.dq, s.vd, .int .i64 s.op.kind, .int .i64 s.op.it, .int .i64 s.op.is, .int .i64 s.op.rt, .int .i64 s.op.rs, .string s.op.text, s.vg, .int .i64 s.op.site, s.vv]
theorem encS_len (s : Stp) : (encS s).length = 13 := rfl
/-- its lists are slices of their lengths -/
structure StF (s : Stp) : Prop where
  d : ∃ a c, s.vd = .slice a s.op.deps.length c
  g : ∃ a c, s.vg = .slice a s.op.gone.length c
  v : ∃ a c, s.vv = .slice a s.vec.length c
theorem rs_at {W : World} {a : Option Addr} {n c : Nat} {l : List Stp} (h : RC W (.slice a n c) l.length (flat encS l)) {i : Nat} {e : Stp} (hi : l[i]? = some e) : ∃ b off, a = some ⟨b, off, none⟩ ∧ b < W.heap.size ∧ ∀ q v, (encS e)[q]? = some v → W.cell? ⟨b, off + i * 13 + q, none⟩ = some v := by
  have hl := (List.getElem?_eq_some_iff.1 hi).1
  rcases h with ⟨h0, _⟩ | ⟨b, off, cap, e', h1, h2, hc⟩
  · omega
  · simp at e'
    obtain ⟨rfl, _⟩ := e'
    refine ⟨b, off, rfl, h2, fun q v hv => ?_⟩
    have hq : q < 13 := by have := (List.getElem?_eq_some_iff.1 hv).1; rwa [encS_len] at this
    have := hc (i * 13 + q) v ((flat_get encS_len l i q e hi hq).trans hv)
    rwa [← Nat.add_assoc] at this
def stT (s : Stp) : Nat := s.op.text.size + s.op.deps.length + s.op.gone.length + s.vec.length
def stB (s : Stp) : Bool := decide (60000 < s.op.text.size) || (decide (60000 < s.op.deps.length) || (decide (60000 < s.op.gone.length) || decide (60000 < s.vec.length)))
def muL : List Stp → Nat → Bool
  | [], n => decide (60000 < n)
  | s :: r, n => stB s || muL r (n + stT s)
def muchB (ss : List Stp) (b : Nat) : Bool := decide (200 < ss.length) || (decide (60000 < b) || muL ss 0)
theorem muL_small : ∀ (l : List Stp) (n : Nat), muL l n = false → ∀ s ∈ l, s.op.text.size ≤ 60000 ∧ s.op.deps.length ≤ 60000 ∧ s.op.gone.length ≤ 60000 ∧ s.vec.length ≤ 60000
  | [], n, _, s, h => by cases h
  | x :: l, n, hm, s, h => by
    rw [muL, Bool.or_eq_false_iff] at hm
    rcases List.mem_cons.1 h with rfl | h
    · have := hm.1
      unfold stB at this
      simp at this
      omega
    · exact muL_small l _ hm.2 s h

set_option maxRecDepth 100000 in
set_option maxHeartbeats 8000000 in
theorem much_in (a : Option Addr) (n c : Nat) (ss : List Stp) (a2 : Option Addr) (n2 c2 : Nat) (w : World) (h : RC w (.slice a n c) ss.length (flat encS ss)) (hn : ss.length = n) (hf : ∀ s ∈ ss, StF s) (hmx : n ≤ 9223372036854775807) (hmx2 : n2 ≤ 9223372036854775807) :
    Calls Tryz.prog 6 #[.slice a n c, .slice a2 n2 c2] w fun e W => e = .returned (.bool (muchB ss n2)) ∧ Below w.heap.size w W := by
  unfold muchB
  rw [hn]
  by_cases h200 : 200 < n
  · have h200' : (200 : Int) < (n : Int) := by omega
    rw [decide_eq_true h200]
    clear h hf
    go_enter Tryz.func6, Tryz.ntmps6
    go_wp2
    go_ret
    exact ⟨rfl, Below.refl _ _⟩
  have h200' : ¬ (200 : Int) < (n : Int) := by omega
  rw [decide_eq_false h200]
  by_cases h60 : 60000 < n2
  · have h60' : (60000 : Int) < (n2 : Int) := by omega
    rw [decide_eq_true h60]
    clear h hf
    go_enter Tryz.func6, Tryz.ntmps6
    go_wp2
    go_ret
    exact ⟨rfl, Below.refl _ _⟩
  have h60' : ¬ (60000 : Int) < (n2 : Int) := by omega
  rw [decide_eq_false h60, Bool.false_or, Bool.false_or]
  obtain ⟨M, hM⟩ : ∃ M, muL ss 0 = M := ⟨_, rfl⟩
  rw [hM]
  have H := hide h
  have HM := hide hM
  have HF := hide hf
  have Hn := hide hn
  clear h hM hf hn h60
  go_enter Tryz.func6, Tryz.ntmps6
  go_wp2
  go_loopw [5, 6] (fun nv iv wr => ∃ (i k : Nat), iv = .int .i64 (i : Nat) ∧ nv = .int .i64 (k : Nat) ∧ i ≤ n ∧ k ≤ i * 240000 ∧ Hid (muL (ss.drop i) k = M) ∧ Hid (Below w.heap.size w wr)) (fun _ iv _ => n - (Lib.intOf iv).toNat)
  case atStart => exact ⟨0, 0, rfl, rfl, by omega, by omega, HM, hide (Below.refl _ _)⟩
  case round =>
    obtain ⟨i, k, rfl, rfl, hi, hk, HI, HB⟩ := hrel
    by_cases hlt : i < n
    · have hlt' : (i : Int) < (n : Int) := by omega
      have hls : i < ss.length := by rw [unhide Hn]; exact hlt
      obtain ⟨s, hx⟩ : ∃ s, ss[i]? = some s := ⟨_, List.getElem?_eq_getElem hls⟩
      have hdr : ss.drop i = s :: ss.drop (i + 1) := by
        rw [List.drop_eq_getElem_cons hls]
        congr 1
        exact Option.some.inj ((List.getElem?_eq_getElem hls).symm.trans hx)
      obtain ⟨b0, off, rfl, hb0, hcell⟩ := rs_at ((unhide H).below (unhide HB)) hx
      obtain ⟨⟨ad, cd, hd⟩, ⟨ag, cg, hg⟩, ⟨av, cv, hv⟩⟩ := unhide HF s (List.mem_of_getElem? hx)
      have hMs := unhide HI
      rw [hdr, muL] at hMs
      obtain ⟨kind, o, vl, vd, vg, vv⟩ := s
      simp only at hd hg hv
      subst hd hg hv
      have q1 := hcell 1 _ rfl
      have q2 := hcell 2 _ rfl
      have q3 := hcell 3 _ rfl
      have q4 := hcell 4 _ rfl
      have q5 := hcell 5 _ rfl
      have q6 := hcell 6 _ rfl
      have q7 := hcell 7 _ rfl
      have q8 := hcell 8 _ rfl
      have q9 := hcell 9 _ rfl
      have q10 := hcell 10 _ rfl
      have q11 := hcell 11 _ rfl
      have q12 := hcell 12 _ rfl
      simp only at q1 q2 q3 q4 q5 q6 q7 q8 q9 q10 q11 q12
      obtain ⟨Y, hY⟩ : ∃ Y, wr.alloc (.cells #[.int .i64 o.ds, .int .i64 o.dq, .slice ad o.deps.length cd, .int .i64 o.kind, .int .i64 o.it, .int .i64 o.is, .int .i64 o.rt, .int .i64 o.rs, .string o.text, .slice ag o.gone.length cg, .int .i64 o.site] 45) = Y := ⟨_, rfl⟩
      have bY : Below wr.heap.size wr Y := by rw [← hY]; exact ballc (Below.refl _ _) _
      have xY := Bx.new wr 45 #[.int .i64 o.ds, .int .i64 o.dq, .slice ad o.deps.length cd, .int .i64 o.kind, .int .i64 o.it, .int .i64 o.is, .int .i64 o.rt, .int .i64 o.rs, .string o.text, .slice ag o.gone.length cg, .int .i64 o.site]
      rw [hY] at xY
      have BY := hide (bnext (unhide HB) bY)
      have z2 := xY.cell 2 _ rfl
      have z8 := xY.cell 8 _ rfl
      have z9 := xY.cell 9 _ rfl
      have yl := xY.lt
      have y12 := cell_below q12 bY
      have yb := Nat.lt_of_lt_of_le hb0 bY.size
      have HMs := hide hMs
      unfold stB stT at HMs
      simp only at HMs
      clear hcell hx hdr hMs bY xY HI HB
      have fin : ∀ {A B : Bool}, A = true → (A || B) = M → M = true := fun {A B} h1 h2 => by rw [← h2, h1, Bool.true_or]
      by_cases g1 : 60000 < o.text.size
      · have g1' : (60000 : Int) < (o.text.size : Int) := by omega
        have HMt := hide (fin (by rw [decide_eq_true g1]; rfl) (unhide HMs))
        clear HMs fin
        go_wp2
        go_ret
        exact ⟨by rw [unhide HMt]; rfl, unhide BY⟩
      have g1' : ¬ (60000 : Int) < (o.text.size : Int) := by omega
      by_cases g2 : 60000 < o.deps.length
      · have g2' : (60000 : Int) < (o.deps.length : Int) := by omega
        have HMt := hide (fin (by rw [decide_eq_true g2]; simp) (unhide HMs))
        clear HMs fin
        go_wp2
        go_ret
        exact ⟨by rw [unhide HMt]; rfl, unhide BY⟩
      have g2' : ¬ (60000 : Int) < (o.deps.length : Int) := by omega
      by_cases g3 : 60000 < o.gone.length
      · have g3' : (60000 : Int) < (o.gone.length : Int) := by omega
        have HMt := hide (fin (by rw [decide_eq_true g3]; simp) (unhide HMs))
        clear HMs fin
        go_wp2
        go_ret
        exact ⟨by rw [unhide HMt]; rfl, unhide BY⟩
      have g3' : ¬ (60000 : Int) < (o.gone.length : Int) := by omega
      by_cases g4 : 60000 < vl.length
      · have g4' : (60000 : Int) < (vl.length : Int) := by omega
        have HMt := hide (fin (by rw [decide_eq_true g4]; simp) (unhide HMs))
        clear HMs fin
        go_wp2
        go_ret
        exact ⟨by rw [unhide HMt]; rfl, unhide BY⟩
      have g4' : ¬ (60000 : Int) < (vl.length : Int) := by omega
      have HM2 : Hid (muL (ss.drop (i + 1)) (k + (o.text.size + o.deps.length + o.gone.length + vl.length)) = M) := by
        have := unhide HMs
        rw [decide_eq_false g1, decide_eq_false g2, decide_eq_false g3, decide_eq_false g4] at this
        exact hide (by simpa using this)
      have hk2 : (k : Int) ≤ 48000000 := by omega
      have hk3 : k + (o.text.size + o.deps.length + o.gone.length + vl.length) ≤ (i + 1) * 240000 := by omega
      clear HMs fin
      go_wp2
      go_quiet (fail)
      go_wp2
      go_roundw
      case measure => show n - ((i : Int) + 1).toNat < n - ((i : Nat) : Int).toNat; omega
      case rel => exact ⟨i + 1, k + (o.text.size + o.deps.length + o.gone.length + vl.length), by go_num, by go_num, by omega, hk3, HM2, hide (bdrew (unhide BY) _)⟩
    · have hlt' : ¬ (i : Int) < (n : Int) := by omega
      have HMf : Hid (decide (60000 < k) = M) := by
        have := unhide HI
        rw [List.drop_eq_nil_of_le (by rw [unhide Hn]; omega), muL] at this
        exact hide this
      by_cases hk6 : 60000 < k
      · have hk6' : (60000 : Int) < (k : Int) := by omega
        go_wp2
        go_ret
        exact ⟨by rw [← unhide HMf, decide_eq_true hk6]; rfl, unhide HB⟩
      · have hk6' : ¬ (60000 : Int) < (k : Int) := by omega
        have hd6 : decide ((60000 : Int) < (k : Int)) = false := decide_eq_false hk6'
        go_wp2
        go_ret
        refine ⟨?_, unhide HB⟩
        rw [← unhide HMf, decide_eq_false hk6]
        first | rfl | (show Ending.returned (.bool (decide ((60000 : Int) < (k : Int)))) = _; rw [hd6])

end Go.Proofs.YtijjoikeceechaaGreat
