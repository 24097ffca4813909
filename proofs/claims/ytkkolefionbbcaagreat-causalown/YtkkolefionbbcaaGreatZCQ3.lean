/-
  A queue: Take.
-/
import Derived.Test.YtkkolefionbbcaaGreatZXCQ0
import Derived.Lib.OwnKind
set_option linter.unusedSimpArgs false
set_option linter.unusedVariables false
namespace Go.Proofs.YtkkolefionbbcaaGreat
open Go.RowKit Go.Lib

theorem results_ct {P : Program} {fn : Func} {j p : Tmp} {ty : TypeId} (h : fn.results = #[.cell p ty, .tmp j]) (tmps : Array Value) (w : World) (g : Nat) (t : TypeId) (cs : Array Value) (fr : Nat × Nat) (d : TypeDesc)
    (hp : tmps.getD p undef = .pointer (some ⟨g, 0, none⟩)) (hg : w.heap[g]? = some (.cells cs t fr))
    (hu : P.underlying ty = some d) (hd : (match d with | .struct _ | .array _ _ => true | _ => false) = true) (hi : (P.info? ty).map (·.size) = some cs.size) :
    (results fn tmps).run P w = .ok (.tuple #[.agg cs, tmps.getD j undef]) w := by
  have hp' : tmps[p]?.getD undef = .pointer (some ⟨g, 0, none⟩) := by simpa using hp
  simp [results, h, hp', asAddr, run_loadVar_row w g t ty cs fr d hg hu hd hi]
def zeroA : Value := .agg #[.int .i64 0, .int .i64 0, .slice none 0 0, .int .i64 0, .int .i64 0, .int .i64 0, .int .i64 0, .int .i64 0, .string ⟨#[]⟩, .slice none 0 0, .int .i64 0]
variable {P N : Nat → Prop} {w W W' : World} {b : Nat} {hold : Int} {vh vw vr : Value} {hv : List (Int × Int)} {ws rd : List (Opn × Value × Value)}
set_option maxRecDepth 100000 in
set_option maxHeartbeats 2000000 in
theorem Take_nil (w : World) : Calls Tryz.prog 16 #[.pointer none] w fun e W => e = .returned (.tuple #[zeroA, .bool false]) ∧ Below w.heap.size w W := by
  unfold zeroA
  go_enter Tryz.func16, Tryz.ntmps16
  go_wp2
  refine bodyPost_ret (results_ct rfl _ _ w.heap.size _ _ _ _ rfl (Bx.new w 42 #[.int .i64 0, .int .i64 0, .slice none 0 0, .int .i64 0, .int .i64 0, .int .i64 0, .int .i64 0, .int .i64 0, .string ⟨#[]⟩, .slice none 0 0, .int .i64 0]) Tryz.underlying42 rfl sizeOp) rfl ?_
  exact ⟨rfl, ballc (Below.refl _ _) _⟩
set_option maxRecDepth 100000 in
set_option maxHeartbeats 2000000 in
theorem Take_none (h : QM P w b hold vh vw vr hv ws []) : Calls Tryz.prog 16 #[.pointer (some ⟨b, 0, none⟩)] w fun e W => e = .returned (.tuple #[zeroA, .bool false]) ∧ Below w.heap.size w W := by
  obtain ⟨a, c, rfl⟩ := h.rr.form
  have c3 := cell_below h.c3 (ballc (Below.refl _ w) (.cells #[.int .i64 0, .int .i64 0, .slice none 0 0, .int .i64 0, .int .i64 0, .int .i64 0, .int .i64 0, .int .i64 0, .string ⟨#[]⟩, .slice none 0 0, .int .i64 0] 42))
  simp only [List.length_nil] at c3
  clear h
  unfold zeroA
  go_enter Tryz.func16, Tryz.ntmps16
  go_wp2
  refine bodyPost_ret (results_ct rfl _ _ w.heap.size _ _ _ _ rfl (Bx.new w 42 #[.int .i64 0, .int .i64 0, .slice none 0 0, .int .i64 0, .int .i64 0, .int .i64 0, .int .i64 0, .int .i64 0, .string ⟨#[]⟩, .slice none 0 0, .int .i64 0]) Tryz.underlying42 rfl sizeOp) rfl ?_
  exact ⟨rfl, ballc (Below.refl _ _) _⟩
theorem Bx.apart {W : World} {a b : Nat} {s t : TypeId} {x y : Array Value} (h : Bx W a s x) (k : Bx W b t y) (e : s ≠ t) : a ≠ b := by
  rintro rfl
  have h1 : W.heap[a]? = some (.cells x s (0, 0)) := h
  have h2 : W.heap[a]? = some (.cells y t (0, 0)) := k
  rw [h1] at h2
  simp at h2
  exact e h2.2
theorem ne_types {W : World} {i : Nat} {c c' : Array Value} {t t' : TypeId} {z z' : Nat × Nat} (h : W.heap[i]? = some (.cells c t z)) (h' : W.heap[i]? = some (.cells c' t' z')) (hn : t ≠ t') : False := by
  rw [h] at h'
  simp at h'
  exact hn h'.2.1
theorem own_ne_box {W : World} {B E k n b : Nat} {t : TypeId} {v : Value} {C : List Value} {vs : Array Value} (h : W.ownsRow B E k v n C) (hb : Bx W b t vs) (hn : E ≠ t) : v.ownBlock ≠ some b := fun e => by
  obtain ⟨c, fz, hc⟩ := ownsRow_kind h b e
  exact ne_types hc hb hn
theorem Kp.wk {N M : Nat → Prop} {W W' : World} (h : Kp N W W') (hm : ∀ i, N i → M i) : Kp M W W' := ⟨h.os, h.tape, h.output, h.size, fun k hk hn => h.block k hk (fun e => hn (hm k e))⟩
theorem RdA.cap {W : World} {a : Option Addr} {n c : Nat} {C : List Value} (h : RdA W (.slice a n c) n C) : n ≤ c ∧ c ≤ maxLen := by
  obtain ⟨h0, ⟨e, h1⟩ | ⟨g, k0, cap, cur, e, hg, hc, hm, hs, ht⟩⟩ := h
  · simp at e
    omega
  · simp at e
    omega
theorem zero_one : ∀ u ∈ ([.int .i64 0, .int .i64 0, .slice none 0 0, .int .i64 0, .int .i64 0, .int .i64 0, .int .i64 0, .int .i64 0, .string ⟨#[]⟩, .slice none 0 0, .int .i64 0] : List Value), u.oneCell' = true := by
  intro u hu
  simp at hu
  rcases hu with rfl | rfl | rfl | rfl | rfl | rfl | rfl | rfl | rfl | rfl | rfl <;> rfl
/-- clear(q[:1]) -/
theorem clear_rd (w : World) (ty : TypeId) {g o n c : Nat} {C : List Value} (h : RdA w (.slice (some ⟨g, o, none⟩) (n + 1) c) (n + 1) C) : ∃ w', (Builtin.clear_ #[47] ty #[.slice (some ⟨g, o, none⟩) 1 c]).run Tryz.prog w = .ok (.tuple #[]) w' ∧ RdA w' (.slice (some ⟨g, o, none⟩) (n + 1) c) (n + 1) ([.int .i64 0, .int .i64 0, .slice none 0 0, .int .i64 0, .int .i64 0, .int .i64 0, .int .i64 0, .int .i64 0, .string ⟨#[]⟩, .slice none 0 0, .int .i64 0] ++ C.drop 11) ∧ Kp (fun i => i = g) w w' := by
  obtain ⟨w', h1, h2, h3⟩ := h.over (D := [.int .i64 0, .int .i64 0, .slice none 0 0, .int .i64 0, .int .i64 0, .int .i64 0, .int .i64 0, .int .i64 0, .string ⟨#[]⟩, .slice none 0 0, .int .i64 0]) rfl zero_one
  refine ⟨w', ?_, h2, h3⟩
  have e : (Builtin.zeroCells #[.int .i64 0, .int .i64 0, .slice none 0 0, .int .i64 0, .int .i64 0, .int .i64 0, .int .i64 0, .int .i64 0, .string ⟨#[]⟩, .slice none 0 0, .int .i64 0] 1).toList = [.int .i64 0, .int .i64 0, .slice none 0 0, .int .i64 0, .int .i64 0, .int .i64 0, .int .i64 0, .int .i64 0, .string ⟨#[]⟩, .slice none 0 0, .int .i64 0] := by kernel_rfl
  simp [Builtin.clear_, run_underlying Tryz.underlying47, Tryz.zeroValue42, Value.cells, e, h1]
/-- what Take answers and leaves -/
def TakA (P : Nat → Prop) (w : World) (b : Nat) (hold : Int) (vh vw : Value) (hv : List (Int × Int)) (ws rd : List (Opn × Value × Value)) (x : Opn × Value × Value) (e : Ending) (W : World) : Prop := e = .returned (.tuple #[opA x.1 x.2.1 x.2.2, .bool true]) ∧ (∃ vr', QM P W b hold vh vw vr' hv ws rd) ∧ OE P W x ∧ Kp P w W
set_option maxRecDepth 100000 in
set_option maxHeartbeats 4000000 in
theorem Take_some {x : Opn × Value × Value} (h : QM P w b hold vh vw vr hv ws (x :: rd)) (hl : rd.length ≤ 1000000) : Calls Tryz.prog 16 #[.pointer (some ⟨b, 0, none⟩)] w (TakA P w b hold vh vw hv ws rd x) := by
  obtain ⟨a, c, rfl⟩ := h.rr.form
  obtain ⟨o, vd, vg⟩ := x
  have hx := h.re _ (List.mem_cons_self)
  obtain ⟨ad, cd, hvd⟩ := OwD.form hx.d
  obtain ⟨ag, cg, hvg⟩ := OwR.form hx.g
  simp only at hvd hvg
  subst hvd hvg
  obtain ⟨g, k0, rfl, fz, hc⟩ := h.rr.cell (by simp)
  obtain ⟨nd, hnd⟩ : ∃ nd, o.deps.length = nd := ⟨_, rfl⟩
  obtain ⟨ng, hng⟩ : ∃ ng, o.gone.length = ng := ⟨_, rfl⟩
  have hfl : flat encO ((o, Value.slice ad o.deps.length cd, Value.slice ag o.gone.length cg) :: rd) = encO (o, .slice ad nd cd, .slice ag ng cg) ++ flat encO rd := by rw [flat_cons, hnd, hng]
  obtain ⟨curg, hbg⟩ := h.rr.kind g rfl
  have hbg' : b ≠ g := Bx.apart h.box hbg (by decide)
  have hgl := h.rr.lt g rfl
  have hbl := h.box.lt
  obtain ⟨X0, hX0⟩ : ∃ X0, w.alloc (.cells #[.int .i64 0, .int .i64 0, .slice none 0 0, .int .i64 0, .int .i64 0, .int .i64 0, .int .i64 0, .int .i64 0, .string ⟨#[]⟩, .slice none 0 0, .int .i64 0] 42) = X0 := ⟨_, rfl⟩
  have b0 : Below w.heap.size w X0 := by rw [← hX0]; exact ballc (Below.refl _ _) _
  have z0 : X0.heap.size = w.heap.size + 1 := by rw [← hX0]; simp
  have B0 : Bx X0 w.heap.size 42 #[.int .i64 0, .int .i64 0, .slice none 0 0, .int .i64 0, .int .i64 0, .int .i64 0, .int .i64 0, .int .i64 0, .string ⟨#[]⟩, .slice none 0 0, .int .i64 0] := by rw [← hX0]; exact Bx.new _ _ _
  obtain ⟨X1, hX1⟩ : ∃ X1, X0.alloc (.cells #[.int .i64 o.ds, .int .i64 o.dq, .slice ad nd cd, .int .i64 o.kind, .int .i64 o.it, .int .i64 o.is, .int .i64 o.rt, .int .i64 o.rs, .string o.text, .slice ag ng cg, .int .i64 o.site] 42) = X1 := ⟨_, rfl⟩
  have b1 : Below X0.heap.size X0 X1 := by rw [← hX1]; exact ballc (Below.refl _ _) _
  have z1 : X1.heap.size = w.heap.size + 2 := by rw [← hX1]; simp [z0]
  have B1 : Bx X1 (w.heap.size + 1) 42 #[.int .i64 o.ds, .int .i64 o.dq, .slice ad nd cd, .int .i64 o.kind, .int .i64 o.it, .int .i64 o.is, .int .i64 o.rt, .int .i64 o.rs, .string o.text, .slice ag ng cg, .int .i64 o.site] := by rw [← hX1, ← z0]; exact Bx.new _ _ _
  have bw1 : Below w.heap.size w X1 := bnext b0 b1
  have h1 := h.below bw1
  have rr1 := h1.rr
  rw [hfl] at rr1 hc
  rw [show ((o, Value.slice ad o.deps.length cd, Value.slice ag o.gone.length cg) :: rd).length = rd.length + 1 from rfl] at rr1
  obtain ⟨X2, hcl, rr2, k2⟩ := clear_rd X1 0 rr1
  have rr3 := rr2.tail
  rw [List.drop_append_of_le_length (by simp)] at rr3
  simp only [List.drop_succ_cons, List.drop_zero, List.drop_nil, List.nil_append] at rr3
  rw [List.drop_append_of_le_length (by rw [encO_len]; omega), List.drop_of_length_le (by rw [encO_len]; omega), List.nil_append] at rr3
  have q0 : X0.cell? ⟨g, k0 * 11, none⟩ = some (.int .i64 o.ds) := cell_below (hc 0 _ rfl) b0
  have q1 : X0.cell? ⟨g, k0 * 11 + 1, none⟩ = some (.int .i64 o.dq) := cell_below (hc 1 _ rfl) b0
  have q2 : X0.cell? ⟨g, k0 * 11 + 2, none⟩ = some (.slice ad nd cd) := cell_below (hc 2 _ rfl) b0
  have q3 : X0.cell? ⟨g, k0 * 11 + 3, none⟩ = some (.int .i64 o.kind) := cell_below (hc 3 _ rfl) b0
  have q4 : X0.cell? ⟨g, k0 * 11 + 4, none⟩ = some (.int .i64 o.it) := cell_below (hc 4 _ rfl) b0
  have q5 : X0.cell? ⟨g, k0 * 11 + 5, none⟩ = some (.int .i64 o.is) := cell_below (hc 5 _ rfl) b0
  have q6 : X0.cell? ⟨g, k0 * 11 + 6, none⟩ = some (.int .i64 o.rt) := cell_below (hc 6 _ rfl) b0
  have q7 : X0.cell? ⟨g, k0 * 11 + 7, none⟩ = some (.int .i64 o.rs) := cell_below (hc 7 _ rfl) b0
  have q8 : X0.cell? ⟨g, k0 * 11 + 8, none⟩ = some (.string o.text) := cell_below (hc 8 _ rfl) b0
  have q9 : X0.cell? ⟨g, k0 * 11 + 9, none⟩ = some (.slice ag ng cg) := cell_below (hc 9 _ rfl) b0
  have q10 : X0.cell? ⟨g, k0 * 11 + 10, none⟩ = some (.int .i64 o.site) := cell_below (hc 10 _ rfl) b0
  have c3 := h.c3
  have c30 : X0.cell? ⟨b, 3, none⟩ = some (.slice (some ⟨g, k0 * 11, none⟩) (rd.length + 1) c) := cell_below c3 b0
  have c31 : X1.cell? ⟨b, 3, none⟩ = some (.slice (some ⟨g, k0 * 11, none⟩) (rd.length + 1) c) := cell_below c30 b1
  have Bx2 : Bx X2 b 49 #[.int .i64 hold, vh, vw, .slice (some ⟨g, k0 * 11, none⟩) (rd.length + 1) c] := h1.box.kp k2 hbg'
  have c32 : X2.cell? ⟨b, 3, none⟩ = some (.slice (some ⟨g, k0 * 11, none⟩) (rd.length + 1) c) := Bx2.cell 3 _ rfl
  by_cases hc1 : c = 1
  · subst hc1
    rw [if_pos rfl] at rr3
    replace rr3 : RdA X2 (.slice (some ⟨g, k0 * 11, none⟩) rd.length 0) rd.length (flat encO rd) := rr3
    have fb : X2.frozen? ⟨b, 3, none⟩ = false := Bx2.frozen 3
    obtain ⟨X3, hX3⟩ : ∃ X3, X2.setCell ⟨b, 3, none⟩ (.slice (some ⟨g, k0 * 11, none⟩) rd.length 0) = X3 := ⟨_, rfl⟩
    have k3 : Kp (fun i => i = b) X2 X3 := by rw [← hX3]; exact Kp.set _ _ _ rfl
    have B3 : Bx X3 b 49 #[.int .i64 hold, vh, vw, .slice (some ⟨g, k0 * 11, none⟩) rd.length 0] := by rw [← hX3]; exact Bx2.set 3 _
    have hA : Bx X3 w.heap.size 42 #[.int .i64 0, .int .i64 0, .slice none 0 0, .int .i64 0, .int .i64 0, .int .i64 0, .int .i64 0, .int .i64 0, .string ⟨#[]⟩, .slice none 0 0, .int .i64 0] := ((B0.below b1).kp k2 (by omega)).kp k3 (by omega)
    have hB : Bx X3 (w.heap.size + 1) 42 #[.int .i64 o.ds, .int .i64 o.dq, .slice ad nd cd, .int .i64 o.kind, .int .i64 o.it, .int .i64 o.is, .int .i64 o.rt, .int .i64 o.rs, .string o.text, .slice ag ng cg, .int .i64 o.site] := (B1.kp k2 (by omega)).kp k3 (by omega)
    have p0 : X3.cell? ⟨w.heap.size + 1, 0, none⟩ = some (.int .i64 o.ds) := hB.cell 0 _ rfl
    have a0 : X3.cell? ⟨w.heap.size, 0, none⟩ = some (.int .i64 0) := hA.cell 0 _ rfl
    have p1 : X3.cell? ⟨w.heap.size + 1, 1, none⟩ = some (.int .i64 o.dq) := hB.cell 1 _ rfl
    have a1 : X3.cell? ⟨w.heap.size, 1, none⟩ = some (.int .i64 0) := hA.cell 1 _ rfl
    have p2 : X3.cell? ⟨w.heap.size + 1, 2, none⟩ = some (.slice ad nd cd) := hB.cell 2 _ rfl
    have a2 : X3.cell? ⟨w.heap.size, 2, none⟩ = some (.slice none 0 0) := hA.cell 2 _ rfl
    have p3 : X3.cell? ⟨w.heap.size + 1, 3, none⟩ = some (.int .i64 o.kind) := hB.cell 3 _ rfl
    have a3 : X3.cell? ⟨w.heap.size, 3, none⟩ = some (.int .i64 0) := hA.cell 3 _ rfl
    have p4 : X3.cell? ⟨w.heap.size + 1, 4, none⟩ = some (.int .i64 o.it) := hB.cell 4 _ rfl
    have a4 : X3.cell? ⟨w.heap.size, 4, none⟩ = some (.int .i64 0) := hA.cell 4 _ rfl
    have p5 : X3.cell? ⟨w.heap.size + 1, 5, none⟩ = some (.int .i64 o.is) := hB.cell 5 _ rfl
    have a5 : X3.cell? ⟨w.heap.size, 5, none⟩ = some (.int .i64 0) := hA.cell 5 _ rfl
    have p6 : X3.cell? ⟨w.heap.size + 1, 6, none⟩ = some (.int .i64 o.rt) := hB.cell 6 _ rfl
    have a6 : X3.cell? ⟨w.heap.size, 6, none⟩ = some (.int .i64 0) := hA.cell 6 _ rfl
    have p7 : X3.cell? ⟨w.heap.size + 1, 7, none⟩ = some (.int .i64 o.rs) := hB.cell 7 _ rfl
    have a7 : X3.cell? ⟨w.heap.size, 7, none⟩ = some (.int .i64 0) := hA.cell 7 _ rfl
    have p8 : X3.cell? ⟨w.heap.size + 1, 8, none⟩ = some (.string o.text) := hB.cell 8 _ rfl
    have a8 : X3.cell? ⟨w.heap.size, 8, none⟩ = some (.string ⟨#[]⟩) := hA.cell 8 _ rfl
    have p9 : X3.cell? ⟨w.heap.size + 1, 9, none⟩ = some (.slice ag ng cg) := hB.cell 9 _ rfl
    have a9 : X3.cell? ⟨w.heap.size, 9, none⟩ = some (.slice none 0 0) := hA.cell 9 _ rfl
    have p10 : X3.cell? ⟨w.heap.size + 1, 10, none⟩ = some (.int .i64 o.site) := hB.cell 10 _ rfl
    have a10 : X3.cell? ⟨w.heap.size, 10, none⟩ = some (.int .i64 0) := hA.cell 10 _ rfl
    have f0 := hA.frozen 0
    have f1 := hA.frozen 1
    have f2 := hA.frozen 2
    have f3 := hA.frozen 3
    have f4 := hA.frozen 4
    have f5 := hA.frozen 5
    have f6 := hA.frozen 6
    have f7 := hA.frozen 7
    have f8 := hA.frozen 8
    have f9 := hA.frozen 9
    have f10 := hA.frozen 10
    have kt : Kp (fun i => i = g ∨ i = b) w X3 := ((Kp.of_below bw1).trans (M := fun i => i = g) k2 (fun i e => .inl (.inl e))).trans k3 (fun i e => .inl (.inr e))
    have RR := rr3.kp k3 (fun i hi e => hbg' (by simp [Value.ownBlock] at hi; omega))
    have HH := hide (And.intro h (And.intro hx (And.intro hA (And.intro B3 (And.intro kt RR)))))
    have HN := hide (And.intro hnd (And.intro hng (And.intro hbg (And.intro hbg' (And.intro hgl hbl)))))
    clear h hx h1 rr1 rr2 rr3 hc hfl hnd hng hbg hbg' hgl hbl b0 b1 z1 B0 B1 bw1 k2 k3 kt RR hA hB B3 Bx2 c3
    unfold TakA
    go_enter Tryz.func16, Tryz.ntmps16
    go_wp2
    obtain ⟨h, hx, hA, B3, kt, RR⟩ := unhide HH
    obtain ⟨hnd, hng, hbg, hbg', hgl, hbl⟩ := unhide HN
    refine bodyPost_ret (results_ct rfl _ _ w.heap.size _ _ _ _ rfl hA.set11 Tryz.underlying42 rfl sizeOp) rfl ?_
    have kw := kt.trans (Kp.set11 X3 w.heap.size (.int .i64 o.ds) (.int .i64 o.dq) (.slice ad nd cd) (.int .i64 o.kind) (.int .i64 o.it) (.int .i64 o.is) (.int .i64 o.rt) (.int .i64 o.rs) (.string o.text) (.slice ag ng cg) (.int .i64 o.site)) (fun i e => .inr (by omega))
    have hty : ∀ i, (i = g ∨ i = b) → ∃ t cur, Bx w i t cur ∧ t ≠ 28 ∧ t ≠ 72 := by
      rintro i (rfl | rfl)
      · exact ⟨_, _, hbg, by decide, by decide⟩
      · exact ⟨_, _, h.box, by decide, by decide⟩
    refine ⟨by rw [hnd, hng]; rfl, ⟨_, B3.kp (Kp.set11 ..) (by omega), ?_, ?_, RR.kp (Kp.set11 ..) ?_, ?_, ?_, h.pb, h.ph, h.pw, ?_, ?_, h.hl, h.dj.sub ((List.Sublist.refl _).append (List.sublist_cons_self _ _))⟩, hx.kt kw hty, kw.wk ?_⟩
    · refine owns_kp h.rh kw (fun i hi e => ?_)
      rcases e with rfl | rfl
      · exact own_ne_box h.rh hbg (by decide) hi
      · exact own_ne_box h.rh h.box (by decide) hi
    · refine owns_kp h.rw kw (fun i hi e => ?_)
      rcases e with rfl | rfl
      · exact h.ap _ hi rfl
      · exact own_ne_box h.rw h.box (by decide) hi
    · intro i hi e
      simp [Value.ownBlock] at hi
      omega
    · exact fun e he => (h.we e he).kt kw hty
    · exact fun e he => (h.re e (List.mem_cons_of_mem _ he)).kt kw hty
    · intro k hk
      simp [Value.ownBlock] at hk
      subst hk
      exact h.pr _ rfl
    · intro k hk hk'
      simp [Value.ownBlock] at hk'
      subst hk'
      exact h.ap _ hk rfl
    · rintro i (rfl | rfl)
      · exact h.pr _ rfl
      · exact h.pb
  · rw [if_neg hc1] at rr3
    have hcn : rd.length + 1 ≤ c := rr1.cap.1
    have hc2 : 1 ≤ c := by omega
    have hc3 : ¬ (c : Int) < 1 := by omega
    have fb : X2.frozen? ⟨b, 3, none⟩ = false := Bx2.frozen 3
    obtain ⟨X3, hX3⟩ : ∃ X3, X2.setCell ⟨b, 3, none⟩ (.slice (some ⟨g, k0 * 11 + 11, none⟩) rd.length (c - 1)) = X3 := ⟨_, rfl⟩
    have k3 : Kp (fun i => i = b) X2 X3 := by rw [← hX3]; exact Kp.set _ _ _ rfl
    have B3 : Bx X3 b 49 #[.int .i64 hold, vh, vw, .slice (some ⟨g, k0 * 11 + 11, none⟩) rd.length (c - 1)] := by rw [← hX3]; exact Bx2.set 3 _
    have hA : Bx X3 w.heap.size 42 #[.int .i64 0, .int .i64 0, .slice none 0 0, .int .i64 0, .int .i64 0, .int .i64 0, .int .i64 0, .int .i64 0, .string ⟨#[]⟩, .slice none 0 0, .int .i64 0] := ((B0.below b1).kp k2 (by omega)).kp k3 (by omega)
    have hB : Bx X3 (w.heap.size + 1) 42 #[.int .i64 o.ds, .int .i64 o.dq, .slice ad nd cd, .int .i64 o.kind, .int .i64 o.it, .int .i64 o.is, .int .i64 o.rt, .int .i64 o.rs, .string o.text, .slice ag ng cg, .int .i64 o.site] := (B1.kp k2 (by omega)).kp k3 (by omega)
    have p0 : X3.cell? ⟨w.heap.size + 1, 0, none⟩ = some (.int .i64 o.ds) := hB.cell 0 _ rfl
    have a0 : X3.cell? ⟨w.heap.size, 0, none⟩ = some (.int .i64 0) := hA.cell 0 _ rfl
    have p1 : X3.cell? ⟨w.heap.size + 1, 1, none⟩ = some (.int .i64 o.dq) := hB.cell 1 _ rfl
    have a1 : X3.cell? ⟨w.heap.size, 1, none⟩ = some (.int .i64 0) := hA.cell 1 _ rfl
    have p2 : X3.cell? ⟨w.heap.size + 1, 2, none⟩ = some (.slice ad nd cd) := hB.cell 2 _ rfl
    have a2 : X3.cell? ⟨w.heap.size, 2, none⟩ = some (.slice none 0 0) := hA.cell 2 _ rfl
    have p3 : X3.cell? ⟨w.heap.size + 1, 3, none⟩ = some (.int .i64 o.kind) := hB.cell 3 _ rfl
    have a3 : X3.cell? ⟨w.heap.size, 3, none⟩ = some (.int .i64 0) := hA.cell 3 _ rfl
    have p4 : X3.cell? ⟨w.heap.size + 1, 4, none⟩ = some (.int .i64 o.it) := hB.cell 4 _ rfl
    have a4 : X3.cell? ⟨w.heap.size, 4, none⟩ = some (.int .i64 0) := hA.cell 4 _ rfl
    have p5 : X3.cell? ⟨w.heap.size + 1, 5, none⟩ = some (.int .i64 o.is) := hB.cell 5 _ rfl
    have a5 : X3.cell? ⟨w.heap.size, 5, none⟩ = some (.int .i64 0) := hA.cell 5 _ rfl
    have p6 : X3.cell? ⟨w.heap.size + 1, 6, none⟩ = some (.int .i64 o.rt) := hB.cell 6 _ rfl
    have a6 : X3.cell? ⟨w.heap.size, 6, none⟩ = some (.int .i64 0) := hA.cell 6 _ rfl
    have p7 : X3.cell? ⟨w.heap.size + 1, 7, none⟩ = some (.int .i64 o.rs) := hB.cell 7 _ rfl
    have a7 : X3.cell? ⟨w.heap.size, 7, none⟩ = some (.int .i64 0) := hA.cell 7 _ rfl
    have p8 : X3.cell? ⟨w.heap.size + 1, 8, none⟩ = some (.string o.text) := hB.cell 8 _ rfl
    have a8 : X3.cell? ⟨w.heap.size, 8, none⟩ = some (.string ⟨#[]⟩) := hA.cell 8 _ rfl
    have p9 : X3.cell? ⟨w.heap.size + 1, 9, none⟩ = some (.slice ag ng cg) := hB.cell 9 _ rfl
    have a9 : X3.cell? ⟨w.heap.size, 9, none⟩ = some (.slice none 0 0) := hA.cell 9 _ rfl
    have p10 : X3.cell? ⟨w.heap.size + 1, 10, none⟩ = some (.int .i64 o.site) := hB.cell 10 _ rfl
    have a10 : X3.cell? ⟨w.heap.size, 10, none⟩ = some (.int .i64 0) := hA.cell 10 _ rfl
    have f0 := hA.frozen 0
    have f1 := hA.frozen 1
    have f2 := hA.frozen 2
    have f3 := hA.frozen 3
    have f4 := hA.frozen 4
    have f5 := hA.frozen 5
    have f6 := hA.frozen 6
    have f7 := hA.frozen 7
    have f8 := hA.frozen 8
    have f9 := hA.frozen 9
    have f10 := hA.frozen 10
    have kt : Kp (fun i => i = g ∨ i = b) w X3 := ((Kp.of_below bw1).trans (M := fun i => i = g) k2 (fun i e => .inl (.inl e))).trans k3 (fun i e => .inl (.inr e))
    have RR := rr3.kp k3 (fun i hi e => hbg' (by simp [Value.ownBlock] at hi; omega))
    have HH := hide (And.intro h (And.intro hx (And.intro hA (And.intro B3 (And.intro kt RR)))))
    have HN := hide (And.intro hnd (And.intro hng (And.intro hbg (And.intro hbg' (And.intro hgl hbl)))))
    clear h hx h1 rr1 rr2 rr3 hc hfl hnd hng hbg hbg' hgl hbl b0 b1 z1 B0 B1 bw1 k2 k3 kt RR hA hB B3 Bx2 c3
    unfold TakA
    go_enter Tryz.func16, Tryz.ntmps16
    go_wp2
    obtain ⟨h, hx, hA, B3, kt, RR⟩ := unhide HH
    obtain ⟨hnd, hng, hbg, hbg', hgl, hbl⟩ := unhide HN
    refine bodyPost_ret (results_ct rfl _ _ w.heap.size _ _ _ _ rfl hA.set11 Tryz.underlying42 rfl sizeOp) rfl ?_
    have kw := kt.trans (Kp.set11 X3 w.heap.size (.int .i64 o.ds) (.int .i64 o.dq) (.slice ad nd cd) (.int .i64 o.kind) (.int .i64 o.it) (.int .i64 o.is) (.int .i64 o.rt) (.int .i64 o.rs) (.string o.text) (.slice ag ng cg) (.int .i64 o.site)) (fun i e => .inr (by omega))
    have hty : ∀ i, (i = g ∨ i = b) → ∃ t cur, Bx w i t cur ∧ t ≠ 28 ∧ t ≠ 72 := by
      rintro i (rfl | rfl)
      · exact ⟨_, _, hbg, by decide, by decide⟩
      · exact ⟨_, _, h.box, by decide, by decide⟩
    refine ⟨by rw [hnd, hng]; rfl, ⟨_, B3.kp (Kp.set11 ..) (by omega), ?_, ?_, RR.kp (Kp.set11 ..) ?_, ?_, ?_, h.pb, h.ph, h.pw, ?_, ?_, h.hl, h.dj.sub ((List.Sublist.refl _).append (List.sublist_cons_self _ _))⟩, hx.kt kw hty, kw.wk ?_⟩
    · refine owns_kp h.rh kw (fun i hi e => ?_)
      rcases e with rfl | rfl
      · exact own_ne_box h.rh hbg (by decide) hi
      · exact own_ne_box h.rh h.box (by decide) hi
    · refine owns_kp h.rw kw (fun i hi e => ?_)
      rcases e with rfl | rfl
      · exact h.ap _ hi rfl
      · exact own_ne_box h.rw h.box (by decide) hi
    · intro i hi e
      simp [Value.ownBlock] at hi
      omega
    · exact fun e he => (h.we e he).kt kw hty
    · exact fun e he => (h.re e (List.mem_cons_of_mem _ he)).kt kw hty
    · intro k hk
      simp [Value.ownBlock] at hk
      subst hk
      exact h.pr _ rfl
    · intro k hk hk'
      simp [Value.ownBlock] at hk'
      subst hk'
      exact h.ap _ hk rfl
    · rintro i (rfl | rfl)
      · exact h.pr _ rfl
      · exact h.pb

end Go.Proofs.YtkkolefionbbcaaGreat
