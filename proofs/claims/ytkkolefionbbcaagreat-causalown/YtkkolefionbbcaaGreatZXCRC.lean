/-
  The document's own: Free, Vector, New, Take, next, cut.
-/
import Derived.Test.YtkkolefionbbcaaGreatZXCR

set_option linter.unusedSimpArgs false
set_option linter.unusedVariables false
namespace Go.Proofs.YtkkolefionbbcaaGreat
open Go.RowKit Go.Lib

theorem own_at11 {W : World} {B n : Nat} {a : Option Addr} {c : Nat} {ops : List (Opn × Value × Value)} (h : W.ownsRow B 42 11 (.slice a n c) n (flat encO ops)) (hn : ops.length = n) {i : Nat} {e : Opn × Value × Value} (hi : ops[i]? = some e) : ∃ g, a = some ⟨g, 0, none⟩ ∧ g < W.heap.size ∧ ∀ q v, (encO e)[q]? = some v → W.cell? ⟨g, i * 11 + q, none⟩ = some v := by
  have hl := (List.getElem?_eq_some_iff.1 hi).1
  have hlt := h.lt
  have h0 := h
  obtain ⟨_, (⟨_, h1⟩ | ⟨g, cap, cur, e', _, hg, _⟩)⟩ := h
  · omega
  · simp at e'
    obtain ⟨rfl, rfl⟩ := e'
    refine ⟨g, rfl, (hlt g rfl).2, fun q v hv => ?_⟩
    have hq : q < 11 := by have := (List.getElem?_eq_some_iff.1 hv).1; rwa [encO_len] at this
    rw [h0.cellAt (i * 11 + q) (by omega)]
    exact (flat_get encO_len ops i q e hi hq).trans hv


variable {w0 : World} {P N : Nat → Prop} {w W W' : World} {b : Nat} {hold : Int} {vh vw vr : Value} {hv : List (Int × Int)} {ws rd : List (Opn × Value × Value)}
theorem QD.c0 (h : QD w0 P W b hold vh vw vr hv ws rd) : W.cell? ⟨b, 0, none⟩ = some (.int .i64 hold) := h.box.cell 0 _ rfl
theorem QD.c1 (h : QD w0 P W b hold vh vw vr hv ws rd) : W.cell? ⟨b, 1, none⟩ = some vh := h.box.cell 1 _ rfl
theorem QD.c2 (h : QD w0 P W b hold vh vw vr hv ws rd) : W.cell? ⟨b, 2, none⟩ = some vw := h.box.cell 2 _ rfl
theorem QD.c3 (h : QD w0 P W b hold vh vw vr hv ws rd) : W.cell? ⟨b, 3, none⟩ = some vr := h.box.cell 3 _ rfl
set_option maxRecDepth 100000 in
theorem refFree_in (h : QD w0 P w b hold vh vw vr hv ws rd) (hh : 0 ≤ hold ∧ hold ≤ 256) (hl : ws.length ≤ 1000000) : Calls Tryz.prog 60 #[.pointer (some ⟨b, 0, none⟩)] w fun e W => e = .returned (.int .i64 (hold - (ws.length : Nat))) ∧ Below w.heap.size w W := by
  have c0 := h.c0
  have c2 := h.c2
  obtain ⟨a, c, rfl⟩ := owns_form h.rw
  clear h
  generalize ws.length = n at *
  have hw1 : -9223372036854775808 ≤ hold - (n : Int) := by omega
  have hw2 : hold - (n : Int) ≤ 9223372036854775807 := by omega
  go_enter Tryz.func60, Tryz.ntmps60
  go_wp2
  go_quiet (fail)
  go_wp2
  go_ret
  exact ⟨rfl, bdrew (Below.refl _ _) _⟩
theorem RI.none (w : World) : RI w (.slice none 0 0) [] := .inl ⟨rfl, _, _, rfl⟩
set_option maxRecDepth 100000 in
theorem refVector_in (h : QD w0 P w b hold vh vw vr hv ws rd) : Calls Tryz.prog 61 #[.pointer (some ⟨b, 0, none⟩)] w fun e W => ∃ v', e = .returned v' ∧ OwD W w.heap.size v' (vec (mrg (sy hv) (sy []))) ∧ Below w.heap.size w W := by
  have c1 := h.c1
  have hhl := h.hl
  have HF := hide (refMerge_in vh (.slice none 0 0) hv [] w (OwD.row h.rh) (RI.none w) (by omega) (by simp))
  obtain ⟨a, c, rfl⟩ := OwD.form h.rh
  clear h
  go_enter Tryz.func61, Tryz.ntmps61
  go_wp2_with fail
  refine (unhide HF).mono ?_
  rintro e W2 ⟨v2, rfl, ho2, hb2⟩
  replace ho2 := hide ho2
  replace hb2 := hide hb2
  clear HF
  go_wp2
  go_ret
  exact ⟨_, rfl, unhide ho2, unhide hb2⟩
/-- what its New answers -/
def NewD (w : World) (hold : Int) (l : List (Int × Int)) (e : Ending) (W : World) : Prop := Below w.heap.size w W ∧ ((∃ b vh, 0 ≤ hold ∧ hold ≤ 256 ∧ chk l = 0 ∧ e = .returned (.tuple #[.pointer (some ⟨b, 0, none⟩), .int .i64 0]) ∧ ∀ w0, QD w0 (fun i => w.heap.size ≤ i) W b hold vh (.slice none 0 0) (.slice none 0 0) (vec (mrg (sy l) (sy []))) [] []) ∨ ∃ c, ((¬ (0 ≤ hold ∧ hold ≤ 256) ∧ c = 1) ∨ (0 ≤ hold ∧ hold ≤ 256 ∧ chk l = c ∧ c ≠ 0)) ∧ e = .returned (.tuple #[.pointer none, .int .i64 c]))
set_option maxRecDepth 100000 in
set_option maxHeartbeats 2000000 in
theorem refNew_in (hold : Int) (v : Value) (l : List (Int × Int)) (w : World) (h : RI w v l) (hl : l.length ≤ 1000000) : Calls Tryz.prog 12 #[.int .i64 hold, v] w (NewD w hold l) := by
  have HC := hide (refCheck_in v l w h (by omega))
  have HF := hide (fun (W : World) (hb : Below w.heap.size w W) => refMerge_in v (.slice none 0 0) l [] W (h.below hb) (RI.none W) (by omega) (by simp))
  obtain ⟨a, c, rfl⟩ := h.form
  clear h
  by_cases h1 : 0 ≤ hold
  rotate_left
  · have h1' : hold < 0 := by omega
    go_enter Tryz.func12, Tryz.ntmps12
    go_wp2
    refine bodyPost_ret (results_tmp2 rfl _ _ _) rfl ?_
    exact ⟨Below.refl _ _, .inr ⟨1, .inl ⟨by omega, rfl⟩, rfl⟩⟩
  by_cases h2 : hold ≤ 256
  rotate_left
  · have h1' : ¬ hold < 0 := by omega
    have h2' : 256 < hold := by omega
    go_enter Tryz.func12, Tryz.ntmps12
    go_wp2
    refine bodyPost_ret (results_tmp2 rfl _ _ _) rfl ?_
    exact ⟨Below.refl _ _, .inr ⟨1, .inl ⟨by omega, rfl⟩, rfl⟩⟩
  have h1' : ¬ hold < 0 := by omega
  have h2' : ¬ 256 < hold := by omega
  have HH : Hid (0 ≤ hold ∧ hold ≤ 256) := ⟨h1, h2⟩
  obtain ⟨ck, hck⟩ : ∃ ck, chk l = ck := ⟨_, rfl⟩
  rw [hck] at HC
  have Hck := hide hck
  clear h1 h2 hck
  by_cases h0 : ck = 0
  rotate_left
  · have h0' : (ck != 0) = true := by simpa using h0
    have H0 := hide h0
    clear h0
    go_enter Tryz.func12, Tryz.ntmps12
    go_wp2_with fail
    refine (unhide HC).mono ?_
    rintro e W1 ⟨rfl, hb⟩
    replace hb := hide hb
    go_wp2
    refine bodyPost_ret (results_tmp2 rfl _ _ _) rfl ?_
    exact ⟨unhide hb, .inr ⟨ck, .inr ⟨(unhide HH).1, (unhide HH).2, unhide Hck, unhide H0⟩, rfl⟩⟩
  · subst h0
    go_enter Tryz.func12, Tryz.ntmps12
    go_wp2_with fail
    refine (unhide HC).mono ?_
    rintro e W1 ⟨rfl, hb⟩
    have HF1 := hide (unhide HF W1 hb)
    replace hb := hide hb
    clear HC HF
    go_wp2_with fail
    refine (unhide HF1).mono ?_
    rintro e W2 ⟨v2, rfl, ho2, hb2⟩
    obtain ⟨a2, c2, rfl⟩ := OwD.form ho2
    have O2 := hide ho2
    have B2 := hide (bnext (unhide hb) hb2)
    clear HF1 ho2 hb2
    go_wp2
    refine bodyPost_ret (results_tmp2 rfl _ _ _) rfl ?_
    have hz := (unhide B2).size
    have hz1 := (unhide hb).size
    refine ⟨ballc (unhide B2) _, .inl ⟨W2.heap.size, _, (unhide HH).1, (unhide HH).2, unhide Hck, rfl, fun w0 => ⟨Bx.new _ _ _, ?_, World.ownsRow_nil _ _ _ _, RdA.nil _, fun e he => (by cases he), fun e he => (by cases he), hz, fun k hk => ?_, fun k hk => (by cases hk), fun k hk => (by cases hk), fun k hk => (by cases hk), by have := vec_len (mrg (sy l) (sy [])); omega⟩⟩⟩
    · exact owns_kp (N := fun _ => False) (OwD.base (unhide O2) (Nat.zero_le _)) (Kp.of_below (ballc (Below.refl _ _) _)) (fun _ _ e => e)
    · have := (World.ownsRow.lt (unhide O2) k hk).1
      omega
set_option maxRecDepth 100000 in
set_option maxHeartbeats 2000000 in
theorem refTake_none (h : QD w0 P w b hold vh vw vr hv ws []) : Calls Tryz.prog 39 #[.pointer (some ⟨b, 0, none⟩)] w fun e W => e = .returned (.tuple #[zeroA, .bool false]) ∧ Below w.heap.size w W := by
  obtain ⟨a, c, rfl⟩ := h.rr.form
  have c3 := cell_below h.c3 (ballc (Below.refl _ w) (.cells #[.int .i64 0, .int .i64 0, .slice none 0 0, .int .i64 0, .int .i64 0, .int .i64 0, .int .i64 0, .int .i64 0, .string ⟨#[]⟩, .slice none 0 0, .int .i64 0] 42))
  simp only [List.length_nil] at c3
  clear h
  unfold zeroA
  go_enter Tryz.func39, Tryz.ntmps39
  go_wp2
  refine bodyPost_ret (results_ct rfl _ _ w.heap.size _ _ _ _ rfl (Bx.new w 42 #[.int .i64 0, .int .i64 0, .slice none 0 0, .int .i64 0, .int .i64 0, .int .i64 0, .int .i64 0, .int .i64 0, .string ⟨#[]⟩, .slice none 0 0, .int .i64 0]) Tryz.underlying42 rfl sizeOp) rfl ?_
  exact ⟨rfl, ballc (Below.refl _ _) _⟩
/-- what Take answers and leaves -/
def TakR (w0 : World) (P : Nat → Prop) (w : World) (b : Nat) (hold : Int) (vh vw : Value) (hv : List (Int × Int)) (ws rd : List (Opn × Value × Value)) (x : Opn × Value × Value) (e : Ending) (W : World) : Prop := e = .returned (.tuple #[opA x.1 x.2.1 x.2.2, .bool true]) ∧ (∃ vr', QD w0 P W b hold vh vw vr' hv ws rd) ∧ ED w0 P W x ∧ Kp P w W
set_option maxRecDepth 100000 in
set_option maxHeartbeats 4000000 in
theorem refTake_some {x : Opn × Value × Value} (h : QD w0 P w b hold vh vw vr hv ws (x :: rd)) (hl : rd.length ≤ 1000000) : Calls Tryz.prog 39 #[.pointer (some ⟨b, 0, none⟩)] w (TakR w0 P w b hold vh vw hv ws rd x) := by
  obtain ⟨a, c, rfl⟩ := h.rr.form
  obtain ⟨o, vd, vg⟩ := x
  have hx := h.re _ (List.mem_cons_self)
  obtain ⟨ad, cd, hvd⟩ := RI.form hx.d
  obtain ⟨ag, cg, hvg⟩ := RC.form hx.g
  simp only at hvd hvg
  subst hvd hvg
  obtain ⟨g, k0, rfl, fz, hc⟩ := h.rr.cell (by simp)
  obtain ⟨nd, hnd⟩ : ∃ nd, o.deps.length = nd := ⟨_, rfl⟩
  obtain ⟨ng, hng⟩ : ∃ ng, o.gone.length = ng := ⟨_, rfl⟩
  have hfl : flat encO ((o, Value.slice ad o.deps.length cd, Value.slice ag o.gone.length cg) :: rd) = encO (o, .slice ad nd cd, .slice ag ng cg) ++ flat encO rd := by rw [flat_cons, hnd, hng]
  obtain ⟨curg, hbg⟩ := h.rr.kind g rfl
  have hbg' : b ≠ g := Bx.apart h.box hbg (by decide)
  have hgl := h.rr.lt g rfl
  have hbl := h.box.lt
  obtain ⟨X0, hX0⟩ : ∃ X0, w.alloc (.cells #[.int .i64 0, .int .i64 0, .slice none 0 0, .int .i64 0, .int .i64 0, .int .i64 0, .int .i64 0, .int .i64 0, .string ⟨#[]⟩, .slice none 0 0, .int .i64 0] 42) = X0 := ⟨_, rfl⟩
  have b0 : Below w.heap.size w X0 := by rw [← hX0]; exact ballc (Below.refl _ _) _
  have z0 : X0.heap.size = w.heap.size + 1 := by rw [← hX0]; simp
  have B0 : Bx X0 w.heap.size 42 #[.int .i64 0, .int .i64 0, .slice none 0 0, .int .i64 0, .int .i64 0, .int .i64 0, .int .i64 0, .int .i64 0, .string ⟨#[]⟩, .slice none 0 0, .int .i64 0] := by rw [← hX0]; exact Bx.new _ _ _
  obtain ⟨X1, hX1⟩ : ∃ X1, X0.alloc (.cells #[.int .i64 o.ds, .int .i64 o.dq, .slice ad nd cd, .int .i64 o.kind, .int .i64 o.it, .int .i64 o.is, .int .i64 o.rt, .int .i64 o.rs, .string o.text, .slice ag ng cg, .int .i64 o.site] 42) = X1 := ⟨_, rfl⟩
  have b1 : Below X0.heap.size X0 X1 := by rw [← hX1]; exact ballc (Below.refl _ _) _
  have z1 : X1.heap.size = w.heap.size + 2 := by rw [← hX1]; simp [z0]
  have B1 : Bx X1 (w.heap.size + 1) 42 #[.int .i64 o.ds, .int .i64 o.dq, .slice ad nd cd, .int .i64 o.kind, .int .i64 o.it, .int .i64 o.is, .int .i64 o.rt, .int .i64 o.rs, .string o.text, .slice ag ng cg, .int .i64 o.site] := by rw [← hX1, ← z0]; exact Bx.new _ _ _
  have bw1 : Below w.heap.size w X1 := bnext b0 b1
  have h1 := h.below bw1
  have rr1 := h1.rr
  rw [hfl] at rr1 hc
  rw [show ((o, Value.slice ad o.deps.length cd, Value.slice ag o.gone.length cg) :: rd).length = rd.length + 1 from rfl] at rr1
  have k2 : Kp (fun i => i = g) X1 X1 := Kp.refl _ _
  have rr3 := rr1.tail
  rw [List.drop_append_of_le_length (by rw [encO_len]; omega), List.drop_of_length_le (by rw [encO_len]; omega), List.nil_append] at rr3
  have q0 : X0.cell? ⟨g, k0 * 11, none⟩ = some (.int .i64 o.ds) := cell_below (hc 0 _ rfl) b0
  have q1 : X0.cell? ⟨g, k0 * 11 + 1, none⟩ = some (.int .i64 o.dq) := cell_below (hc 1 _ rfl) b0
  have q2 : X0.cell? ⟨g, k0 * 11 + 2, none⟩ = some (.slice ad nd cd) := cell_below (hc 2 _ rfl) b0
  have q3 : X0.cell? ⟨g, k0 * 11 + 3, none⟩ = some (.int .i64 o.kind) := cell_below (hc 3 _ rfl) b0
  have q4 : X0.cell? ⟨g, k0 * 11 + 4, none⟩ = some (.int .i64 o.it) := cell_below (hc 4 _ rfl) b0
  have q5 : X0.cell? ⟨g, k0 * 11 + 5, none⟩ = some (.int .i64 o.is) := cell_below (hc 5 _ rfl) b0
  have q6 : X0.cell? ⟨g, k0 * 11 + 6, none⟩ = some (.int .i64 o.rt) := cell_below (hc 6 _ rfl) b0
  have q7 : X0.cell? ⟨g, k0 * 11 + 7, none⟩ = some (.int .i64 o.rs) := cell_below (hc 7 _ rfl) b0
  have q8 : X0.cell? ⟨g, k0 * 11 + 8, none⟩ = some (.string o.text) := cell_below (hc 8 _ rfl) b0
  have q9 : X0.cell? ⟨g, k0 * 11 + 9, none⟩ = some (.slice ag ng cg) := cell_below (hc 9 _ rfl) b0
  have q10 : X0.cell? ⟨g, k0 * 11 + 10, none⟩ = some (.int .i64 o.site) := cell_below (hc 10 _ rfl) b0
  have c3 := h.c3
  have c30 : X0.cell? ⟨b, 3, none⟩ = some (.slice (some ⟨g, k0 * 11, none⟩) (rd.length + 1) c) := cell_below c3 b0
  have c31 : X1.cell? ⟨b, 3, none⟩ = some (.slice (some ⟨g, k0 * 11, none⟩) (rd.length + 1) c) := cell_below c30 b1
  have Bx2 : Bx X1 b 51 #[.int .i64 hold, vh, vw, .slice (some ⟨g, k0 * 11, none⟩) (rd.length + 1) c] := h1.box.kp k2 hbg'
  have c32 : X1.cell? ⟨b, 3, none⟩ = some (.slice (some ⟨g, k0 * 11, none⟩) (rd.length + 1) c) := Bx2.cell 3 _ rfl
  by_cases hc1 : c = 1
  · subst hc1
    rw [if_pos rfl] at rr3
    replace rr3 : RdA X1 (.slice (some ⟨g, k0 * 11, none⟩) rd.length 0) rd.length (flat encO rd) := rr3
    have fb : X1.frozen? ⟨b, 3, none⟩ = false := Bx2.frozen 3
    obtain ⟨X3, hX3⟩ : ∃ X3, X1.setCell ⟨b, 3, none⟩ (.slice (some ⟨g, k0 * 11, none⟩) rd.length 0) = X3 := ⟨_, rfl⟩
    have k3 : Kp (fun i => i = b) X1 X3 := by rw [← hX3]; exact Kp.set _ _ _ rfl
    have B3 : Bx X3 b 51 #[.int .i64 hold, vh, vw, .slice (some ⟨g, k0 * 11, none⟩) rd.length 0] := by rw [← hX3]; exact Bx2.set 3 _
    have hA : Bx X3 w.heap.size 42 #[.int .i64 0, .int .i64 0, .slice none 0 0, .int .i64 0, .int .i64 0, .int .i64 0, .int .i64 0, .int .i64 0, .string ⟨#[]⟩, .slice none 0 0, .int .i64 0] := ((B0.below b1).kp k2 (by omega)).kp k3 (by omega)
    have hB : Bx X3 (w.heap.size + 1) 42 #[.int .i64 o.ds, .int .i64 o.dq, .slice ad nd cd, .int .i64 o.kind, .int .i64 o.it, .int .i64 o.is, .int .i64 o.rt, .int .i64 o.rs, .string o.text, .slice ag ng cg, .int .i64 o.site] := (B1.kp k2 (by omega)).kp k3 (by omega)
    have p0 : X3.cell? ⟨w.heap.size + 1, 0, none⟩ = some (.int .i64 o.ds) := hB.cell 0 _ rfl
    have a0 : X3.cell? ⟨w.heap.size, 0, none⟩ = some (.int .i64 0) := hA.cell 0 _ rfl
    have p1 : X3.cell? ⟨w.heap.size + 1, 1, none⟩ = some (.int .i64 o.dq) := hB.cell 1 _ rfl
    have a1 : X3.cell? ⟨w.heap.size, 1, none⟩ = some (.int .i64 0) := hA.cell 1 _ rfl
    have p2 : X3.cell? ⟨w.heap.size + 1, 2, none⟩ = some (.slice ad nd cd) := hB.cell 2 _ rfl
    have a2 : X3.cell? ⟨w.heap.size, 2, none⟩ = some (.slice none 0 0) := hA.cell 2 _ rfl
    have p3 : X3.cell? ⟨w.heap.size + 1, 3, none⟩ = some (.int .i64 o.kind) := hB.cell 3 _ rfl
    have a3 : X3.cell? ⟨w.heap.size, 3, none⟩ = some (.int .i64 0) := hA.cell 3 _ rfl
    have p4 : X3.cell? ⟨w.heap.size + 1, 4, none⟩ = some (.int .i64 o.it) := hB.cell 4 _ rfl
    have a4 : X3.cell? ⟨w.heap.size, 4, none⟩ = some (.int .i64 0) := hA.cell 4 _ rfl
    have p5 : X3.cell? ⟨w.heap.size + 1, 5, none⟩ = some (.int .i64 o.is) := hB.cell 5 _ rfl
    have a5 : X3.cell? ⟨w.heap.size, 5, none⟩ = some (.int .i64 0) := hA.cell 5 _ rfl
    have p6 : X3.cell? ⟨w.heap.size + 1, 6, none⟩ = some (.int .i64 o.rt) := hB.cell 6 _ rfl
    have a6 : X3.cell? ⟨w.heap.size, 6, none⟩ = some (.int .i64 0) := hA.cell 6 _ rfl
    have p7 : X3.cell? ⟨w.heap.size + 1, 7, none⟩ = some (.int .i64 o.rs) := hB.cell 7 _ rfl
    have a7 : X3.cell? ⟨w.heap.size, 7, none⟩ = some (.int .i64 0) := hA.cell 7 _ rfl
    have p8 : X3.cell? ⟨w.heap.size + 1, 8, none⟩ = some (.string o.text) := hB.cell 8 _ rfl
    have a8 : X3.cell? ⟨w.heap.size, 8, none⟩ = some (.string ⟨#[]⟩) := hA.cell 8 _ rfl
    have p9 : X3.cell? ⟨w.heap.size + 1, 9, none⟩ = some (.slice ag ng cg) := hB.cell 9 _ rfl
    have a9 : X3.cell? ⟨w.heap.size, 9, none⟩ = some (.slice none 0 0) := hA.cell 9 _ rfl
    have p10 : X3.cell? ⟨w.heap.size + 1, 10, none⟩ = some (.int .i64 o.site) := hB.cell 10 _ rfl
    have a10 : X3.cell? ⟨w.heap.size, 10, none⟩ = some (.int .i64 0) := hA.cell 10 _ rfl
    have f0 := hA.frozen 0
    have f1 := hA.frozen 1
    have f2 := hA.frozen 2
    have f3 := hA.frozen 3
    have f4 := hA.frozen 4
    have f5 := hA.frozen 5
    have f6 := hA.frozen 6
    have f7 := hA.frozen 7
    have f8 := hA.frozen 8
    have f9 := hA.frozen 9
    have f10 := hA.frozen 10
    have kt : Kp (fun i => i = g ∨ i = b) w X3 := ((Kp.of_below bw1).trans (M := fun i => i = g) k2 (fun i e => .inl (.inl e))).trans k3 (fun i e => .inl (.inr e))
    have RR := rr3.kp k3 (fun i hi e => hbg' (by simp [Value.ownBlock] at hi; omega))
    have HH := hide (And.intro h (And.intro hx (And.intro hA (And.intro B3 (And.intro kt RR)))))
    have HN := hide (And.intro hnd (And.intro hng (And.intro hbg (And.intro hbg' (And.intro hgl hbl)))))
    clear h hx h1 rr1 rr3 hc hfl hnd hng hbg hbg' hgl hbl b0 b1 z1 B0 B1 bw1 k2 k3 kt RR hA hB B3 Bx2 c3
    unfold TakR
    go_enter Tryz.func39, Tryz.ntmps39
    go_wp2
    obtain ⟨h, hx, hA, B3, kt, RR⟩ := unhide HH
    obtain ⟨hnd, hng, hbg, hbg', hgl, hbl⟩ := unhide HN
    refine bodyPost_ret (results_ct rfl _ _ w.heap.size _ _ _ _ rfl hA.set11 Tryz.underlying42 rfl sizeOp) rfl ?_
    have kw := kt.trans (Kp.set11 X3 w.heap.size (.int .i64 o.ds) (.int .i64 o.dq) (.slice ad nd cd) (.int .i64 o.kind) (.int .i64 o.it) (.int .i64 o.is) (.int .i64 o.rt) (.int .i64 o.rs) (.string o.text) (.slice ag ng cg) (.int .i64 o.site)) (fun i e => .inr (by omega))
    have hty : ∀ i, (i = g ∨ i = b) → ∃ t cur, Bx w i t cur ∧ t ≠ 28 ∧ t ≠ 72 := by
      rintro i (rfl | rfl)
      · exact ⟨_, _, hbg, by decide, by decide⟩
      · exact ⟨_, _, h.box, by decide, by decide⟩
    refine ⟨by rw [hnd, hng]; rfl, ⟨_, B3.kp (Kp.set11 ..) (by omega), ?_, ?_, RR.kp (Kp.set11 ..) ?_, ?_, ?_, h.pb, h.ph, h.pw, ?_, ?_, h.hl⟩, hx.kt kw hty, kw.wk ?_⟩
    · refine owns_kp h.rh kw (fun i hi e => ?_)
      rcases e with rfl | rfl
      · exact own_ne_box h.rh hbg (by decide) hi
      · exact own_ne_box h.rh h.box (by decide) hi
    · refine owns_kp h.rw kw (fun i hi e => ?_)
      rcases e with rfl | rfl
      · exact h.ap _ hi rfl
      · exact own_ne_box h.rw h.box (by decide) hi
    · intro i hi e
      simp [Value.ownBlock] at hi
      omega
    · exact fun e he => (h.we e he).kt kw hty
    · exact fun e he => (h.re e (List.mem_cons_of_mem _ he)).kt kw hty
    · intro k hk
      simp [Value.ownBlock] at hk
      subst hk
      exact h.pr _ rfl
    · intro k hk hk'
      simp [Value.ownBlock] at hk'
      subst hk'
      exact h.ap _ hk rfl
    · rintro i (rfl | rfl)
      · exact h.pr _ rfl
      · exact h.pb
  · rw [if_neg hc1] at rr3
    have hcn : rd.length + 1 ≤ c := rr1.cap.1
    have hc2 : 1 ≤ c := by omega
    have hc3 : ¬ (c : Int) < 1 := by omega
    have fb : X1.frozen? ⟨b, 3, none⟩ = false := Bx2.frozen 3
    obtain ⟨X3, hX3⟩ : ∃ X3, X1.setCell ⟨b, 3, none⟩ (.slice (some ⟨g, k0 * 11 + 11, none⟩) rd.length (c - 1)) = X3 := ⟨_, rfl⟩
    have k3 : Kp (fun i => i = b) X1 X3 := by rw [← hX3]; exact Kp.set _ _ _ rfl
    have B3 : Bx X3 b 51 #[.int .i64 hold, vh, vw, .slice (some ⟨g, k0 * 11 + 11, none⟩) rd.length (c - 1)] := by rw [← hX3]; exact Bx2.set 3 _
    have hA : Bx X3 w.heap.size 42 #[.int .i64 0, .int .i64 0, .slice none 0 0, .int .i64 0, .int .i64 0, .int .i64 0, .int .i64 0, .int .i64 0, .string ⟨#[]⟩, .slice none 0 0, .int .i64 0] := ((B0.below b1).kp k2 (by omega)).kp k3 (by omega)
    have hB : Bx X3 (w.heap.size + 1) 42 #[.int .i64 o.ds, .int .i64 o.dq, .slice ad nd cd, .int .i64 o.kind, .int .i64 o.it, .int .i64 o.is, .int .i64 o.rt, .int .i64 o.rs, .string o.text, .slice ag ng cg, .int .i64 o.site] := (B1.kp k2 (by omega)).kp k3 (by omega)
    have p0 : X3.cell? ⟨w.heap.size + 1, 0, none⟩ = some (.int .i64 o.ds) := hB.cell 0 _ rfl
    have a0 : X3.cell? ⟨w.heap.size, 0, none⟩ = some (.int .i64 0) := hA.cell 0 _ rfl
    have p1 : X3.cell? ⟨w.heap.size + 1, 1, none⟩ = some (.int .i64 o.dq) := hB.cell 1 _ rfl
    have a1 : X3.cell? ⟨w.heap.size, 1, none⟩ = some (.int .i64 0) := hA.cell 1 _ rfl
    have p2 : X3.cell? ⟨w.heap.size + 1, 2, none⟩ = some (.slice ad nd cd) := hB.cell 2 _ rfl
    have a2 : X3.cell? ⟨w.heap.size, 2, none⟩ = some (.slice none 0 0) := hA.cell 2 _ rfl
    have p3 : X3.cell? ⟨w.heap.size + 1, 3, none⟩ = some (.int .i64 o.kind) := hB.cell 3 _ rfl
    have a3 : X3.cell? ⟨w.heap.size, 3, none⟩ = some (.int .i64 0) := hA.cell 3 _ rfl
    have p4 : X3.cell? ⟨w.heap.size + 1, 4, none⟩ = some (.int .i64 o.it) := hB.cell 4 _ rfl
    have a4 : X3.cell? ⟨w.heap.size, 4, none⟩ = some (.int .i64 0) := hA.cell 4 _ rfl
    have p5 : X3.cell? ⟨w.heap.size + 1, 5, none⟩ = some (.int .i64 o.is) := hB.cell 5 _ rfl
    have a5 : X3.cell? ⟨w.heap.size, 5, none⟩ = some (.int .i64 0) := hA.cell 5 _ rfl
    have p6 : X3.cell? ⟨w.heap.size + 1, 6, none⟩ = some (.int .i64 o.rt) := hB.cell 6 _ rfl
    have a6 : X3.cell? ⟨w.heap.size, 6, none⟩ = some (.int .i64 0) := hA.cell 6 _ rfl
    have p7 : X3.cell? ⟨w.heap.size + 1, 7, none⟩ = some (.int .i64 o.rs) := hB.cell 7 _ rfl
    have a7 : X3.cell? ⟨w.heap.size, 7, none⟩ = some (.int .i64 0) := hA.cell 7 _ rfl
    have p8 : X3.cell? ⟨w.heap.size + 1, 8, none⟩ = some (.string o.text) := hB.cell 8 _ rfl
    have a8 : X3.cell? ⟨w.heap.size, 8, none⟩ = some (.string ⟨#[]⟩) := hA.cell 8 _ rfl
    have p9 : X3.cell? ⟨w.heap.size + 1, 9, none⟩ = some (.slice ag ng cg) := hB.cell 9 _ rfl
    have a9 : X3.cell? ⟨w.heap.size, 9, none⟩ = some (.slice none 0 0) := hA.cell 9 _ rfl
    have p10 : X3.cell? ⟨w.heap.size + 1, 10, none⟩ = some (.int .i64 o.site) := hB.cell 10 _ rfl
    have a10 : X3.cell? ⟨w.heap.size, 10, none⟩ = some (.int .i64 0) := hA.cell 10 _ rfl
    have f0 := hA.frozen 0
    have f1 := hA.frozen 1
    have f2 := hA.frozen 2
    have f3 := hA.frozen 3
    have f4 := hA.frozen 4
    have f5 := hA.frozen 5
    have f6 := hA.frozen 6
    have f7 := hA.frozen 7
    have f8 := hA.frozen 8
    have f9 := hA.frozen 9
    have f10 := hA.frozen 10
    have kt : Kp (fun i => i = g ∨ i = b) w X3 := ((Kp.of_below bw1).trans (M := fun i => i = g) k2 (fun i e => .inl (.inl e))).trans k3 (fun i e => .inl (.inr e))
    have RR := rr3.kp k3 (fun i hi e => hbg' (by simp [Value.ownBlock] at hi; omega))
    have HH := hide (And.intro h (And.intro hx (And.intro hA (And.intro B3 (And.intro kt RR)))))
    have HN := hide (And.intro hnd (And.intro hng (And.intro hbg (And.intro hbg' (And.intro hgl hbl)))))
    clear h hx h1 rr1 rr3 hc hfl hnd hng hbg hbg' hgl hbl b0 b1 z1 B0 B1 bw1 k2 k3 kt RR hA hB B3 Bx2 c3
    unfold TakR
    go_enter Tryz.func39, Tryz.ntmps39
    go_wp2
    obtain ⟨h, hx, hA, B3, kt, RR⟩ := unhide HH
    obtain ⟨hnd, hng, hbg, hbg', hgl, hbl⟩ := unhide HN
    refine bodyPost_ret (results_ct rfl _ _ w.heap.size _ _ _ _ rfl hA.set11 Tryz.underlying42 rfl sizeOp) rfl ?_
    have kw := kt.trans (Kp.set11 X3 w.heap.size (.int .i64 o.ds) (.int .i64 o.dq) (.slice ad nd cd) (.int .i64 o.kind) (.int .i64 o.it) (.int .i64 o.is) (.int .i64 o.rt) (.int .i64 o.rs) (.string o.text) (.slice ag ng cg) (.int .i64 o.site)) (fun i e => .inr (by omega))
    have hty : ∀ i, (i = g ∨ i = b) → ∃ t cur, Bx w i t cur ∧ t ≠ 28 ∧ t ≠ 72 := by
      rintro i (rfl | rfl)
      · exact ⟨_, _, hbg, by decide, by decide⟩
      · exact ⟨_, _, h.box, by decide, by decide⟩
    refine ⟨by rw [hnd, hng]; rfl, ⟨_, B3.kp (Kp.set11 ..) (by omega), ?_, ?_, RR.kp (Kp.set11 ..) ?_, ?_, ?_, h.pb, h.ph, h.pw, ?_, ?_, h.hl⟩, hx.kt kw hty, kw.wk ?_⟩
    · refine owns_kp h.rh kw (fun i hi e => ?_)
      rcases e with rfl | rfl
      · exact own_ne_box h.rh hbg (by decide) hi
      · exact own_ne_box h.rh h.box (by decide) hi
    · refine owns_kp h.rw kw (fun i hi e => ?_)
      rcases e with rfl | rfl
      · exact h.ap _ hi rfl
      · exact own_ne_box h.rw h.box (by decide) hi
    · intro i hi e
      simp [Value.ownBlock] at hi
      omega
    · exact fun e he => (h.we e he).kt kw hty
    · exact fun e he => (h.re e (List.mem_cons_of_mem _ he)).kt kw hty
    · intro k hk
      simp [Value.ownBlock] at hk
      subst hk
      exact h.pr _ rfl
    · intro k hk hk'
      simp [Value.ownBlock] at hk'
      subst hk'
      exact h.ap _ hk rfl
    · rintro i (rfl | rfl)
      · exact h.pr _ rfl
      · exact h.pb


/-- the first that can be delivered, or -1 -/
def nxtV (hv : List (Int × Int)) (ws : List Opn) : Int := match nxtI hv ws with
  | none => -1
  | some i => (i : Nat)
theorem rnxt_first {hv : List (Int × Int)} {l : List Opn} {i : Nat} {o : Opn} (hi : l[i]? = some o) (hc : canO hv o = true) (h : ∀ (j : Nat) x, j < i → l[j]? = some x → canO hv x = false) : nxtV hv l = (i : Nat) := by
  unfold nxtV nxtI
  have hl := (List.getElem?_eq_some_iff.1 hi).1
  have : l.findIdx? (canO hv) = some i := by
    rw [List.findIdx?_eq_some_iff_getElem]
    refine ⟨hl, ?_, fun j hj => ?_⟩
    · rw [List.getElem?_eq_getElem hl] at hi; simp at hi; rw [hi]; exact hc
    · simpa using h j _ hj (List.getElem?_eq_getElem (by omega))
  rw [this]
theorem rnxt_none {hv : List (Int × Int)} {l : List Opn} (h : ∀ (j : Nat) x, l[j]? = some x → canO hv x = false) : nxtV hv l = -1 := by
  unfold nxtV nxtI
  have : l.findIdx? (canO hv) = none := by
    rw [List.findIdx?_eq_none_iff]
    intro x hx
    obtain ⟨j, hj⟩ := List.getElem?_of_mem hx
    exact h j x hj
  rw [this]
set_option maxRecDepth 100000 in
set_option maxHeartbeats 4000000 in
theorem refNext_in (h : QD w0 P w b hold vh vw vr hv ws rd) (hw : Below w0.heap.size w0 w) (hl : ws.length ≤ 1000000) : Calls Tryz.prog 56 #[.pointer (some ⟨b, 0, none⟩)] w fun e W => e = .returned (.int .i64 (nxtV hv (ws.map Prod.fst))) ∧ Below w.heap.size w W := by
  obtain ⟨a, c, rfl⟩ := owns_form h.rw
  have H := hide h
  have HW := hide hw
  obtain ⟨n, hn⟩ : ∃ n, ws.length = n := ⟨_, rfl⟩
  have HN := hide hn
  obtain ⟨R, hR⟩ : ∃ R, nxtV hv (ws.map Prod.fst) = R := ⟨_, rfl⟩
  have HR := hide hR
  rw [hR]
  rw [hn] at hl
  clear h hw hn hR
  go_enter Tryz.func56, Tryz.ntmps56
  go_wp2
  go_loopw [3] (fun iv wr => ∃ i : Nat, iv = .int .i64 (i : Nat) ∧ i ≤ n ∧ Hid (Below w.heap.size w wr ∧ ∀ j x, j < i → (ws.map Prod.fst)[j]? = some x → canO hv x = false)) (fun iv _ => n - (RowKit.intOf iv).toNat)
  case atStart => exact ⟨0, rfl, Nat.zero_le _, hide ⟨Below.refl _ _, fun j x hj => by omega⟩⟩
  case round =>
    obtain ⟨i, rfl, hi, HI⟩ := hrel
    have h1 := (unhide H).below (unhide HI).1
    have c2 := h1.c2
    rw [unhide HN] at c2
    by_cases hlt : i < n
    · have hlt' : (i : Int) < (n : Int) := by omega
      obtain ⟨e, he⟩ : ∃ e, ws[i]? = some e := ⟨_, List.getElem?_eq_getElem (by rw [unhide HN]; exact hlt)⟩
      have hrow := h1.rw
      obtain ⟨g, rfl, hgl, hcell⟩ := own_at11 hrow rfl he
      have hed := (unhide H).we e (List.mem_of_getElem? he)
      obtain ⟨o, vd, vg⟩ := e
      obtain ⟨ad, cd, e1⟩ := RI.form hed.d
      obtain ⟨ag, cg, e2⟩ := RC.form hed.g
      simp only at e1 e2
      subst e1 e2
      have q0 := hcell 0 _ rfl
      have q1 := hcell 1 _ rfl
      have q2 := hcell 2 _ rfl
      have q3 := hcell 3 _ rfl
      have q4 := hcell 4 _ rfl
      have q5 := hcell 5 _ rfl
      have q6 := hcell 6 _ rfl
      have q7 := hcell 7 _ rfl
      have q8 := hcell 8 _ rfl
      have q9 := hcell 9 _ rfl
      have q10 := hcell 10 _ rfl
      rw [Nat.add_zero] at q0
      have HC := hide (refCan_in vh hv h1.c1 (OwD.row h1.rh) h1.hl o (.slice ad o.deps.length cd) (.slice ag o.gone.length cg) (hed.d.below (bnext (unhide HW) (unhide HI).1)) hed.s1 ⟨_, _, _, rfl⟩)
      have hm : Hid ((ws.map Prod.fst)[i]? = some o) := by rw [List.getElem?_map, he]; rfl
      unfold opA at HC
      obtain ⟨nd, hnd⟩ : ∃ nd, o.deps.length = nd := ⟨_, rfl⟩
      obtain ⟨ng, hng⟩ : ∃ ng, o.gone.length = ng := ⟨_, rfl⟩
      rw [hnd] at HC q2
      rw [hng] at HC q9
      clear hcell hrow he hed h1 hnd hng
      cases hcn : canO hv o with
      | true =>
        have HF := hide (rnxt_first (unhide hm) hcn (unhide HI).2)
        rw [hcn] at HC
        clear hcn
        go_wp2_with fail
        refine (unhide HC).mono ?_
        rintro e W1 ⟨rfl, b1⟩
        have B1 := hide (bnext (unhide HI).1 b1)
        clear b1
        go_wp2
        go_ret
        exact ⟨by rw [← unhide HR, unhide HF]; rfl, unhide B1⟩
      | false =>
        have HI2 : Hid (∀ j x, j < i + 1 → (ws.map Prod.fst)[j]? = some x → canO hv x = false) := fun j x hj hx => by
          by_cases ej : j = i
          · subst ej; rw [unhide hm] at hx; cases hx; exact hcn
          · exact (unhide HI).2 j x (by omega) hx
        rw [hcn] at HC
        clear hcn
        go_wp2_with fail
        refine (unhide HC).mono ?_
        rintro e W1 ⟨rfl, b1⟩
        have B1 := hide (bnext (unhide HI).1 b1)
        clear b1
        go_wp2
        go_roundw
        case measure => show n - ((i : Int) + 1).toNat < n - ((i : Nat) : Int).toNat; omega
        case rel => exact ⟨i + 1, by go_num, by omega, hide ⟨unhide B1, unhide HI2⟩⟩
    · obtain rfl : i = n := by omega
      have hlt' : ¬ (i : Int) < (i : Int) := by omega
      have HF := hide (rnxt_none (hv := hv) (l := ws.map Prod.fst) (fun j x hx => (unhide HI).2 j x (by have := (List.getElem?_eq_some_iff.1 hx).1; rw [List.length_map, unhide HN] at this; exact this) hx))
      clear h1
      go_wp2
      go_ret
      exact ⟨by rw [← unhide HR, unhide HF]; rfl, (unhide HI).1⟩

end Go.Proofs.YtkkolefionbbcaaGreat

/-
  The document's own: operations without the one at a place.
-/
set_option linter.unusedSimpArgs false
set_option linter.unusedVariables false
namespace Go.Proofs.YtkkolefionbbcaaGreat
open Go.RowKit Go.Lib

/-- append(v, u...) of operations -/
theorem app_ops (w : World) (ty : TypeId) (N : Nat) (v : Value) (n : Nat) (C : List Value) (h : w.ownsRow N 42 11 v n C) (ad : Addr) (m cap : Nat) (D : List Value) (hD : D.length = m * 11) (hc : ∀ j x, D[j]? = some x → w.cell? (ad.add j) = some x) (h1 : ∀ u ∈ D, u.oneCell' = true) (hN : N ≤ w.heap.size) (hl : n + m ≤ 1000000) :
    ∃ v' w', (Builtin.append_ #[47, 47] ty #[v, .slice (some ad) m cap]).run Tryz.prog w = .ok v' w' ∧ w'.ownsRow N 42 11 v' (n + m) (C ++ D) ∧ w.grownBy w' v.ownBlock := by
  obtain ⟨i0, hi, hz0, hz1, hz2⟩ := info_parts infoO
  obtain ⟨v', w', q1, q2, q3, q4, q5⟩ := run_append_own_at (P := Tryz.prog) w N 47 ty 42 i0 _ 11 128 Tryz.underlying47 hi hz0 hz1 hz2 rfl (by decide) v n C h ad m cap D hD hc h1 (by unfold maxLen; omega) (by omega) hN
  exact ⟨v', w', q1, q2, q3⟩
theorem flat_cut (ws : List (Opn × Value × Value)) (i : Nat) : flat encO (cutI ws i) = flat encO (ws.take i) ++ flat encO (ws.drop (i + 1)) := by unfold cutI; rw [flat_append]
theorem flat_drop {α : Type} {enc : α → List Value} {k : Nat} (hk : ∀ x, (enc x).length = k) : ∀ (l : List α) (n : Nat), flat enc (l.drop n) = (flat enc l).drop (n * k)
  | [], n => by simp [flat]
  | x :: l, 0 => by simp
  | x :: l, n + 1 => by
    rw [List.drop_succ_cons, flat_drop hk l n, flat_cons, show (n + 1) * k = (enc x).length + n * k by rw [hk, Nat.add_mul]; omega, List.drop_append]
    simp
set_option maxRecDepth 100000 in
set_option maxHeartbeats 4000000 in
theorem refCut_in {w : World} {a : Option Addr} {n c i : Nat} {ws : List (Opn × Value × Value)} (h : w.ownsRow 0 42 11 (.slice a n c) n (flat encO ws)) (hn : ws.length = n) (hi : i < n) (hone : ∀ e ∈ ws, ∀ u ∈ encO e, u.oneCell' = true) (hl : n ≤ 1000000) :
    Calls Tryz.prog 57 #[.slice a n c, .int .i64 (i : Nat)] w fun e W => ∃ v', e = .returned v' ∧ W.ownsRow w.heap.size 42 11 v' (cutI ws i).length (flat encO (cutI ws i)) ∧ Below w.heap.size w W := by
  obtain ⟨g, rfl, hgl, hcell⟩ : ∃ g, a = some ⟨g, 0, none⟩ ∧ g < w.heap.size ∧ ∀ j x, (flat encO ws)[j]? = some x → w.cell? ⟨g, j, none⟩ = some x := by
    obtain ⟨e, he⟩ : ∃ e, ws[0]? = some e := ⟨_, List.getElem?_eq_getElem (by omega)⟩
    obtain ⟨g, e1, h2, _⟩ := own_at11 h hn he
    subst e1
    refine ⟨g, rfl, h2, fun j x hx => ?_⟩
    have hj := (List.getElem?_eq_some_iff.1 hx).1
    rw [flat_len encO_len, hn] at hj
    rw [h.cellAt j hj]
    exact hx
  have hnc : n ≤ c := by
    obtain ⟨_, (⟨e, _⟩ | ⟨g', cap, cur, e, _, _, h3, _⟩)⟩ := h
    · cases e
    · simp at e
      omega
  have ht : (ws.take i).length = i := by rw [List.length_take]; omega
  have hd : (ws.drop (i + 1)).length = n - (i + 1) := by rw [List.length_drop]; omega
  have o1 : ∀ u ∈ flat encO (ws.take i), u.oneCell' = true := fun u hu => by
    obtain ⟨e, he, hu⟩ := flat_mem hu
    exact hone e (List.mem_of_mem_take he) u hu
  have o2 : ∀ u ∈ flat encO (ws.drop (i + 1)), u.oneCell' = true := fun u hu => by
    obtain ⟨e, he, hu⟩ := flat_mem hu
    exact hone e (List.mem_of_mem_drop he) u hu
  have r1 : RC w (.slice (some ⟨g, 0, none⟩) i c) i (flat encO (ws.take i)) := .inr ⟨g, 0, c, rfl, by omega, hgl, fun j x hx => by
    rw [Nat.zero_add]
    apply hcell j x
    rw [flat_take encO_len, List.getElem?_take] at hx
    split at hx
    · exact hx
    · cases hx⟩
  obtain ⟨v1, W1, p1, w1, g1⟩ := app_nil 47 42 11 128 _ Tryz.underlying47 infoO rfl (by decide) w w.heap.size 47 _ i (flat encO (ws.take i)) r1 (by rw [flat_len encO_len, ht]) o1 (Nat.le_refl _) (by unfold maxLen; omega) (by omega)
  have b1 : Below w.heap.size w W1 := (Below.refl _ w).grown g1 (Nat.le_refl _) (fun k hk => by cases hk)
  obtain ⟨a1, c1, rfl⟩ := owns_form w1
  have hsl1 := fun W => sl_toO W (some ⟨g, 0, none⟩) n c i (by omega)
  have hsl2 := fun W => sl_fromO W (some ⟨g, 0, none⟩) n c (i + 1) (by omega) hnc
  obtain ⟨ad, had⟩ : ∃ ad : Addr, (if c = i + 1 then some (⟨g, 0, none⟩ : Addr) else (some (⟨g, 0, none⟩ : Addr)).map (·.add ((i + 1) * 11))) = some ad := by
    split
    · exact ⟨_, rfl⟩
    · exact ⟨_, rfl⟩
  have hcd : ∀ j x, (flat encO (ws.drop (i + 1)))[j]? = some x → W1.cell? (ad.add j) = some x := fun j x hx => by
    by_cases hc1 : c = i + 1
    · have hj := (List.getElem?_eq_some_iff.1 hx).1
      rw [flat_len encO_len, hd] at hj
      omega
    · rw [if_neg hc1] at had
      simp at had
      subst had
      rw [flat_drop encO_len, List.getElem?_drop] at hx
      have := cell_below (hcell _ _ hx) b1
      rw [show ((⟨g, 0, none⟩ : Addr).add ((i + 1) * 11)).add j = ⟨g, (i + 1) * 11 + j, none⟩ by simp [Addr.add]]
      exact this
  obtain ⟨v2, W2, p2, w2, g2⟩ := app_ops W1 47 w.heap.size _ i (flat encO (ws.take i)) w1 ad (n - (i + 1)) (c - (i + 1)) (flat encO (ws.drop (i + 1))) (by rw [flat_len encO_len, hd]) hcd o2 b1.size (by omega)
  have b2 : Below w.heap.size w W2 := b1.grown g2 b1.size (fun k hk => (w1.lt k hk).1)
  rw [← flat_cut, show i + (n - (i + 1)) = (cutI ws i).length by have := cutI_len ws i (by omega); omega] at w2
  obtain ⟨a2, c2, rfl⟩ := owns_form w2
  rw [had] at hsl2
  have HR := hide (And.intro w2 b2)
  have P1 := hide p1
  have P2 := hide p2
  have e1 : (((i + 1 : Nat)) : Int) = (i : Int) + 1 := by omega
  rw [e1] at hsl2
  have hi' : (i : Int) < (n : Int) := by omega
  have hl' : (n : Int) ≤ 1000000 := by omega
  clear e1
  generalize (cutI ws i).length = nn at *
  clear p1 p2 w1 w2 g1 g2 b1 b2 r1 o1 o2 hcd h hone hcell had ht hd
  go_enter Tryz.func57, Tryz.ntmps57
  go_wp2_with (at_builtin; first | (have H1 := P1; clear P1; refine wpList_append_eq rfl _ _ 47 rfl _ _ _ _ rfl rfl (unhide H1) ?_; clear H1) | (have H2 := P2; clear P2; refine wpList_append_eq rfl _ _ 47 rfl _ _ _ _ rfl rfl (unhide H2) ?_; clear H2))
  go_ret
  exact ⟨_, rfl, (unhide HR).1, (unhide HR).2⟩

end Go.Proofs.YtkkolefionbbcaaGreat
