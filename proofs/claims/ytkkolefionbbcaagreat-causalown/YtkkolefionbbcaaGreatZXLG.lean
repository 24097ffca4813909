/-
  The log: rows that are made anew; operations that are cloned.
-/
import Derived.Test.YtkkolefionbbcaaGreatZO5
import Derived.Test.YtkkolefionbbcaaGreatZXV
import Derived.Test.YtkkolefionbbcaaGreatZSh12
import Derived.Deep.RegionWith
import Derived.Test.YtkkolefionbbcaaGreatZXReg

set_option linter.unusedSimpArgs false
set_option linter.unusedVariables false
namespace Go.Proofs.YtkkolefionbbcaaGreat
open Go.RowKit Go.Lib

def encO (e : Opn × Value × Value) : List Value := [.int .i64 e.1.ds, .int .i64 e.1.dq, e.2.1, .int .i64 e.1.kind, .int .i64 e.1.it, .int .i64 e.1.is, .int .i64 e.1.rt, .int .i64 e.1.rs, .string e.1.text, e.2.2, .int .i64 e.1.site]
theorem encO_len (e : Opn × Value × Value) : (encO e).length = 11 := rfl
/-- a row of operations -/
def RO (W : World) (v : Value) (l : List (Opn × Value × Value)) : Prop := RC W v l.length (flat encO l)
theorem RO.at {W : World} {a : Option Addr} {n c : Nat} {l : List (Opn × Value × Value)} (h : RO W (.slice a n c) l) {i : Nat} {e : Opn × Value × Value} (hi : l[i]? = some e) : ∃ b off, a = some ⟨b, off, none⟩ ∧ b < W.heap.size ∧ ∀ q v, (encO e)[q]? = some v → W.cell? ⟨b, off + i * 11 + q, none⟩ = some v := by
  have hl := (List.getElem?_eq_some_iff.1 hi).1
  rcases h with ⟨h0, _⟩ | ⟨b, off, cap, e', h1, h2, hc⟩
  · omega
  · simp at e'
    obtain ⟨rfl, _⟩ := e'
    refine ⟨b, off, rfl, h2, fun q v hv => ?_⟩
    have hq : q < 11 := by have := (List.getElem?_eq_some_iff.1 hv).1; rwa [encO_len] at this
    have := hc (i * 11 + q) v ((flat_get encO_len l i q e hi hq).trans hv)
    rwa [← Nat.add_assoc] at this

theorem infoO : (Tryz.prog.info? 42).map (fun i => (i.zero, i.size, i.bytes)) = some (some (.agg #[.int .i64 0, .int .i64 0, .slice none 0 0, .int .i64 0, .int .i64 0, .int .i64 0, .int .i64 0, .int .i64 0, .string ⟨#[]⟩, .slice none 0 0, .int .i64 0]), 11, 128) := by kernel_rfl
/-- append(l, o) of an operation -/
theorem append_op (w : World) (ty : TypeId) (N : Nat) (v : Value) (l : List (Opn × Value × Value)) (e : Opn × Value × Value) (nb : Nat) (h : w.ownsRow N 42 11 v l.length (flat encO l)) (hbx : Bx w nb 42 (encO e).toArray) (h1 : ∀ u ∈ encO e, u.oneCell' = true) (hN : N ≤ w.heap.size) (hl : l.length ≤ 1000000) :
    ∃ v' w', (Builtin.append_ #[47, 47] ty #[v, .slice (some ⟨nb, 0, none⟩) 1 1]).run Tryz.prog w = .ok v' w' ∧ w'.ownsRow N 42 11 v' (l ++ [e]).length (flat encO (l ++ [e])) ∧ w.grownBy w' v.ownBlock ∧ (v'.ownBlock = v.ownBlock ∨ v'.ownBlock = some w.heap.size) := by
  obtain ⟨i0, hi, hz0, hz1, hz2⟩ := info_parts infoO
  obtain ⟨v', w', q1, q2, q3, q4, q5⟩ := run_append_own_at (P := Tryz.prog) w N 47 ty 42 i0 _ 11 128 Tryz.underlying47 hi hz0 hz1 hz2 rfl (by decide) v l.length _ h ⟨nb, 0, none⟩ 1 1 (encO e) (by rw [encO_len]) (fun j u hu => by
    rw [Addr.add_lit, Nat.zero_add]
    exact hbx.cell j u (by rw [← hu]; simp)) h1 (by unfold maxLen; omega) (by omega) hN
  refine ⟨v', w', q1, ?_, q3, q5⟩
  rw [flat_append, List.length_append]
  have : flat encO [e] = encO e := by simp [flat]
  rw [this]
  exact q2

/-- append(nil, l...) -/
theorem app_nil (TS E : TypeId) (k bytes : Nat) (z : Value) (ht : Tryz.prog.underlying TS = some (.slice E)) (hinf : (Tryz.prog.info? E).map (fun i => (i.zero, i.size, i.bytes)) = some (some z, k, bytes)) (hzs : z.cells.size = k) (k0 : 0 < k)
    (w : World) (base : Nat) (ty : TypeId) (v : Value) (n : Nat) (C : List Value) (h : RC w v n C) (hC : C.length = n * k) (h1 : ∀ u ∈ C, u.oneCell' = true) (hb : base ≤ w.heap.size) (hn : n ≤ maxLen) (hby : n * bytes ≤ 140737488355328) :
    ∃ v' w', (Builtin.append_ #[TS, TS] ty #[.slice none 0 0, v]).run Tryz.prog w = .ok v' w' ∧ w'.ownsRow base E k v' n C ∧ w.grownBy w' none := by
  obtain ⟨i0, hi, hz0, hz1, hz2⟩ := info_parts hinf
  have step : ∀ (ad : Addr) (cc : Nat), v = .slice (some ad) n cc → (∀ j x, C[j]? = some x → w.cell? (ad.add j) = some x) → ∃ v' w', (Builtin.append_ #[TS, TS] ty #[.slice none 0 0, v]).run Tryz.prog w = .ok v' w' ∧ w'.ownsRow base E k v' n C ∧ w.grownBy w' none := by
    rintro ad cc rfl hc
    obtain ⟨v', w', q1, q2, q3, _⟩ := run_append_own (P := Tryz.prog) w base TS ty E i0 z k bytes ht hi hz0 hz1 hz2 hzs k0 (.slice none 0 0) 0 [] (World.ownsRow_nil _ _ _ _) ad n cc C hC hc h1 (by omega) (by rw [Nat.zero_add]; exact hby) hb
    exact ⟨v', w', q1, by simpa using q2, q3⟩
  rcases h with ⟨h0, a, cap, rfl⟩ | ⟨b, off, cap, rfl, _, _, hc⟩
  · subst h0
    have e : C = [] := List.eq_nil_of_length_eq_zero (by simpa using hC)
    subst e
    cases a with
    | some ad => exact step ad cap rfl (fun j x hx => by simp at hx)
    | none =>
      refine ⟨.slice none 0 0, w, ?_, World.ownsRow_nil _ _ _ _, ⟨rfl, rfl, rfl, Nat.le_refl _, fun _ _ _ => rfl⟩⟩
      simp [Builtin.append_, run_underlying ht, sizeOf, typeInfo, hi, Builtin.lenOf, Builtin.firstCells, storeCells]
  · exact step ⟨b, off, none⟩ cap rfl (fun j x hx => by rw [Addr.add_lit]; exact hc j x hx)

theorem encI_oneT {l : List (Int × Int)} : ∀ u ∈ flat encI l, u.oneCell' = true := fun u hu => by
  obtain ⟨x, _, hx⟩ := flat_mem hu
  unfold encI at hx
  simp at hx
  rcases hx with rfl | rfl <;> rfl
theorem encR_oneT {l : List ((Int × Int) × Int)} : ∀ u ∈ flat encR l, u.oneCell' = true := fun u hu => by
  obtain ⟨x, _, hx⟩ := flat_mem hu
  unfold encR at hx
  simp at hx
  rcases hx with rfl | rfl | rfl <;> rfl

/-- a row of runs of one's own -/
def OwR (W : World) (B : Nat) (v : Value) (l : List ((Int × Int) × Int)) : Prop := W.ownsRow B 72 3 v l.length (flat encR l)
theorem OwR.row {W : World} {B : Nat} {v : Value} {l : List ((Int × Int) × Int)} (h : OwR W B v l) : RR W v l := RC.of_owns h
theorem OwR.base {W : World} {B B' : Nat} {v : Value} {l : List ((Int × Int) × Int)} (h : OwR W B v l) (hb : B' ≤ B) : OwR W B' v l := by
  obtain ⟨h1, h2⟩ := h
  refine ⟨h1, ?_⟩
  rcases h2 with h2 | ⟨g, cap, cur, h3, h4, h5⟩
  · exact .inl h2
  · exact .inr ⟨g, cap, cur, h3, by omega, h5⟩
theorem OwR.form {W : World} {B : Nat} {v : Value} {l : List ((Int × Int) × Int)} (h : OwR W B v l) : ∃ a c, v = .slice a l.length c := owns_form h

theorem infoRu : (Tryz.prog.info? 72).map (fun i => (i.zero, i.size, i.bytes)) = some (some (.agg #[.int .i64 0, .int .i64 0, .int .i64 0]), 3, 24) := by kernel_rfl
theorem bx_lastR (w : World) (A : Obj) (vs : Array Value) (t : TypeId) : ((w.alloc A).alloc (.cells vs t)).heap[w.heap.size + 1]? = some (.cells vs t (0, 0)) := by
  have h := Bx.new (w.alloc A) t vs
  have e : (w.alloc A).heap.size = w.heap.size + 1 := by simp
  rw [e] at h
  exact h
theorem Bx.set11 {W : World} {b : Nat} {t : TypeId} {x0 x1 x2 x3 x4 x5 x6 x7 x8 x9 x10 y0 y1 y2 y3 y4 y5 y6 y7 y8 y9 y10 : Value} (h : Bx W b t #[y0, y1, y2, y3, y4, y5, y6, y7, y8, y9, y10]) : Bx (((((((((((W.setCell ⟨b, 0, none⟩ (x0)).setCell ⟨b, 1, none⟩ (x1)).setCell ⟨b, 2, none⟩ (x2)).setCell ⟨b, 3, none⟩ (x3)).setCell ⟨b, 4, none⟩ (x4)).setCell ⟨b, 5, none⟩ (x5)).setCell ⟨b, 6, none⟩ (x6)).setCell ⟨b, 7, none⟩ (x7)).setCell ⟨b, 8, none⟩ (x8)).setCell ⟨b, 9, none⟩ (x9)).setCell ⟨b, 10, none⟩ (x10)) b t #[x0, x1, x2, x3, x4, x5, x6, x7, x8, x9, x10] := by
  have q := (((((((((((h.set 0 x0).set 1 x1).set 2 x2).set 3 x3).set 4 x4).set 5 x5).set 6 x6).set 7 x7).set 8 x8).set 9 x9).set 10 x10)
  simpa using q
theorem Kp.set11 (W : World) (b : Nat) (x0 x1 x2 x3 x4 x5 x6 x7 x8 x9 x10 : Value) : Kp (fun k => k = b) W (((((((((((W.setCell ⟨b, 0, none⟩ (x0)).setCell ⟨b, 1, none⟩ (x1)).setCell ⟨b, 2, none⟩ (x2)).setCell ⟨b, 3, none⟩ (x3)).setCell ⟨b, 4, none⟩ (x4)).setCell ⟨b, 5, none⟩ (x5)).setCell ⟨b, 6, none⟩ (x6)).setCell ⟨b, 7, none⟩ (x7)).setCell ⟨b, 8, none⟩ (x8)).setCell ⟨b, 9, none⟩ (x9)).setCell ⟨b, 10, none⟩ (x10)) := by
  have k0 := Kp.set (N := fun k => k = b) W ⟨b, 0, none⟩ x0 rfl
  have k1 := k0.trans (M := fun k => k = b) (Kp.set _ ⟨b, 1, none⟩ x1 rfl) (fun i h => .inl h)
  have k2 := k1.trans (M := fun k => k = b) (Kp.set _ ⟨b, 2, none⟩ x2 rfl) (fun i h => .inl h)
  have k3 := k2.trans (M := fun k => k = b) (Kp.set _ ⟨b, 3, none⟩ x3 rfl) (fun i h => .inl h)
  have k4 := k3.trans (M := fun k => k = b) (Kp.set _ ⟨b, 4, none⟩ x4 rfl) (fun i h => .inl h)
  have k5 := k4.trans (M := fun k => k = b) (Kp.set _ ⟨b, 5, none⟩ x5 rfl) (fun i h => .inl h)
  have k6 := k5.trans (M := fun k => k = b) (Kp.set _ ⟨b, 6, none⟩ x6 rfl) (fun i h => .inl h)
  have k7 := k6.trans (M := fun k => k = b) (Kp.set _ ⟨b, 7, none⟩ x7 rfl) (fun i h => .inl h)
  have k8 := k7.trans (M := fun k => k = b) (Kp.set _ ⟨b, 8, none⟩ x8 rfl) (fun i h => .inl h)
  have k9 := k8.trans (M := fun k => k = b) (Kp.set _ ⟨b, 9, none⟩ x9 rfl) (fun i h => .inl h)
  have k10 := k9.trans (M := fun k => k = b) (Kp.set _ ⟨b, 10, none⟩ x10 rfl) (fun i h => .inl h)
  exact k10
theorem sizeOp : (Tryz.prog.info? 42).map (·.size) = some 11 := by kernel_rfl
def rb (v : Value) (n : Nat) (k : Nat) : Prop := n ≠ 0 ∧ v.ownBlock = some k
theorem RC.kpn {N : Nat → Prop} {W W' : World} {v : Value} {n : Nat} {C : List Value} (h : RC W v n C) (k : Kp N W W') (hn : ∀ i, rb v n i → ¬ N i) : RC W' v n C := by
  by_cases h0 : n = 0
  · subst h0
    rcases h with h | ⟨b, off, cap, e, _, hl, hc⟩
    · exact .inl h
    · exact .inl ⟨rfl, _, _, e⟩
  · exact RC.kp h k (fun i hi => hn i ⟨h0, hi⟩)
theorem encI_lenT (x : Int × Int) : (encI x).length = 2 := rfl
theorem encR_lenT (x : (Int × Int) × Int) : (encR x).length = 3 := rfl

set_option maxRecDepth 100000 in
set_option maxHeartbeats 1000000 in
theorem freshD_in (v : Value) (l : List (Int × Int)) (w : World) (h : RI w v l) (hl : l.length ≤ 1000000) :
    Calls Tryz.prog 33 #[v] w fun e W => ∃ v', e = .returned v' ∧ OwD W w.heap.size v' l ∧ Below w.heap.size w W := by
  obtain ⟨a, c, rfl⟩ := RC.form h
  obtain ⟨v', w', hr, ho, hg⟩ := app_nil 23 28 2 16 (.agg #[.int .i64 0, .int .i64 0]) Tryz.underlying23 infoD rfl (by omega) w w.heap.size 23 _ l.length (flat encI l) h (flat_len encI_lenT l) encI_oneT (Nat.le_refl _) (by unfold maxLen; omega) (by omega)
  have hb : Below w.heap.size w w' := (Kp.of_grown (N := fun _ => False) hg (fun k hk => by cases hk)).below (Below.refl _ _) (fun i e => e.elim)
  replace hr := hide hr
  obtain ⟨a', c', rfl⟩ := owns_form ho
  go_enter Tryz.func33, Tryz.ntmps33
  go_wp2_with (at_builtin; refine wpList_append_eq rfl _ _ 23 rfl _ _ _ _ rfl rfl (unhide hr) ?_)
  go_ret
  exact ⟨_, rfl, ho, hb⟩

set_option maxRecDepth 100000 in
set_option maxHeartbeats 1000000 in
theorem freshR_in (v : Value) (l : List ((Int × Int) × Int)) (w : World) (h : RR w v l) (hl : l.length ≤ 1000000) :
    Calls Tryz.prog 68 #[v] w fun e W => ∃ v', e = .returned v' ∧ OwR W w.heap.size v' l ∧ Below w.heap.size w W := by
  obtain ⟨a, c, rfl⟩ := RC.form h
  obtain ⟨v', w', hr, ho, hg⟩ := app_nil 40 72 3 24 (.agg #[.int .i64 0, .int .i64 0, .int .i64 0]) Tryz.underlying40 infoRu rfl (by omega) w w.heap.size 40 _ l.length (flat encR l) h (flat_len encR_lenT l) encR_oneT (Nat.le_refl _) (by unfold maxLen; omega) (by omega)
  have hb : Below w.heap.size w w' := (Kp.of_grown (N := fun _ => False) hg (fun k hk => by cases hk)).below (Below.refl _ _) (fun i e => e.elim)
  replace hr := hide hr
  obtain ⟨a', c', rfl⟩ := owns_form ho
  go_enter Tryz.func68, Tryz.ntmps68
  go_wp2_with (at_builtin; refine wpList_append_eq rfl _ _ 40 rfl _ _ _ _ rfl rfl (unhide hr) ?_)
  go_ret
  exact ⟨_, rfl, ho, hb⟩

end Go.Proofs.YtkkolefionbbcaaGreat

/-
  The log: an operation is cloned.
-/
set_option linter.unusedSimpArgs false
set_option linter.unusedVariables false
namespace Go.Proofs.YtkkolefionbbcaaGreat
open Go.RowKit Go.Lib

/-- while an operation is cloned: its variable, of which two lists are made anew -/
structure ClJ (w X : World) (o : Opn) (vd vg : Value) (f : Nat → Bool) (W : World) : Prop where
  bel : Below w.heap.size w W
  sz : X.heap.size ≤ W.heap.size
  rd : f 5 = false → RI W vd o.deps ∧ RR W vg o.gone
  ch : f 8 = true → f 5 = true
  zo : Bx W (w.heap.size + 1) 42 #[.int .i64 0, .int .i64 0, .slice none 0 0, .int .i64 0, .int .i64 0, .int .i64 0, .int .i64 0, .int .i64 0, .string ⟨#[]⟩, .slice none 0 0, .int .i64 0]
  bx : ∃ y2 y9, Bx W w.heap.size 42 #[.int .i64 o.ds, .int .i64 o.dq, y2, .int .i64 o.kind, .int .i64 o.it, .int .i64 o.is, .int .i64 o.rt, .int .i64 o.rs, .string o.text, y9, .int .i64 o.site] ∧ (f 10 = false → y2 = vd) ∧ (f 12 = false → y9 = vg) ∧ (f 10 = true → OwD W X.heap.size y2 o.deps) ∧ (f 12 = true → OwR W X.heap.size y9 o.gone)
  lo : w.heap.size + 1 < X.heap.size
theorem ClJ.nop {w X W : World} {o : Opn} {vd vg : Value} {f : Nat → Bool} (h : ClJ w X o vd vg f W) (i : Nat) (h1 : (10 == i) = false) (h2 : (12 == i) = false) (h8 : i = 8 → f 5 = true) : ClJ w X o vd vg (fun q => f q || q == i) W := by
  obtain ⟨bel, sz, rd, ch, zo, bx, lo⟩ := h
  refine ⟨bel, sz, fun e => rd (by simp at e; exact e.1), fun e => ?_, zo, ?_, lo⟩
  · simp at e
    rcases e with e | e
    · simp [ch e]
    · simp [h8 e.symm]
  · simp only [h1, h2, Bool.or_false]; exact bx
theorem ClJ.below {w X W W' : World} {o : Opn} {vd vg : Value} {f : Nat → Bool} (h : ClJ w X o vd vg f W) (hb : Below W.heap.size W W') : ClJ w X o vd vg f W' := by
  obtain ⟨bel, sz, rd, ch, zo, ⟨y2, y9, b0, b1, b2, b3, b4⟩, lo⟩ := h
  exact ⟨bnext bel hb, Nat.le_trans sz hb.size, fun e => ⟨(rd e).1.below hb, RC.below (rd e).2 hb⟩, ch, zo.below hb, ⟨y2, y9, b0.below hb, b1, b2, fun e => owns_kp (N := fun _ => False) (b3 e) (Kp.of_below hb) (fun _ _ x => x), fun e => owns_kp (N := fun _ => False) (b4 e) (Kp.of_below hb) (fun _ _ x => x)⟩, lo⟩
theorem ClJ.at2 {w X W : World} {o : Opn} {vd vg : Value} {f : Nat → Bool} (h : ClJ w X o vd vg f W) (e : f 10 = false) : W.cell? ⟨w.heap.size, 2, none⟩ = some vd := by
  obtain ⟨y2, y9, b0, b1, _⟩ := h.bx
  rw [← b1 e]; exact b0.cell 2 _ rfl
theorem ClJ.at9 {w X W : World} {o : Opn} {vd vg : Value} {f : Nat → Bool} (h : ClJ w X o vd vg f W) (e : f 12 = false) : W.cell? ⟨w.heap.size, 9, none⟩ = some vg := by
  obtain ⟨y2, y9, b0, _, b1, _⟩ := h.bx
  rw [← b1 e]; exact b0.cell 9 _ rfl
theorem ClJ.at8 {w X W : World} {o : Opn} {vd vg : Value} {f : Nat → Bool} (h : ClJ w X o vd vg f W) : W.cell? ⟨w.heap.size, 8, none⟩ = some (.string o.text) := by
  obtain ⟨y2, y9, b0, _⟩ := h.bx
  exact b0.cell 8 _ rfl
theorem ClJ.has {w X W : World} {o : Opn} {vd vg : Value} {f : Nat → Bool} (h : ClJ w X o vd vg f W) (j : Nat) (hj : j < 11) : ∃ x, W.cell? ⟨w.heap.size, j, none⟩ = some x ∧ W.frozen? ⟨w.heap.size, j, none⟩ = false ∧ w.heap.size < W.heap.size := by
  obtain ⟨y2, y9, b0, _⟩ := h.bx
  exact ⟨_, b0.cell j _ (Array.getElem?_eq_getElem hj), b0.frozen j, b0.lt⟩
theorem ClJ.set2 {w X W : World} {o : Opn} {vd vg v' : Value} {f : Nat → Bool} (h : ClJ w X o vd vg f W) (h8 : f 8 = true) (hv : OwD W X.heap.size v' o.deps) : ClJ w X o vd vg (fun q => f q || q == 10) (W.setCell ⟨w.heap.size, 2, none⟩ v') := by
  obtain ⟨bel, sz, rd, ch, zo, ⟨y2, y9, b0, b1, b2, b3, b4⟩, lo⟩ := h
  have k := Kp.set (N := fun i => i = w.heap.size) W ⟨w.heap.size, 2, none⟩ v' rfl
  refine ⟨k.below bel (fun i e => by omega), Nat.le_trans sz k.size, fun e => by simp [ch h8] at e, fun e => by simp [ch h8], zo.kp k (by omega), ⟨v', y9, by have := b0.set 2 v'; simpa using this, fun e => by simp at e, fun e => b2 (by simpa using e), fun _ => owns_kp hv k (fun i hi e => by have := (hv.lt i hi).1; omega), fun e => ?_⟩, lo⟩
  have q := b4 (by simpa using e)
  exact owns_kp q k (fun i hi e => by have := (q.lt i hi).1; omega)
theorem ClJ.set9 {w X W : World} {o : Opn} {vd vg v' : Value} {f : Nat → Bool} (h : ClJ w X o vd vg f W) (h5 : f 5 = true) (h10 : f 10 = true) (hv : OwR W X.heap.size v' o.gone) : ClJ w X o vd vg (fun q => f q || q == 12) (W.setCell ⟨w.heap.size, 9, none⟩ v') := by
  obtain ⟨bel, sz, rd, ch, zo, ⟨y2, y9, b0, b1, b2, b3, b4⟩, lo⟩ := h
  have k := Kp.set (N := fun i => i = w.heap.size) W ⟨w.heap.size, 9, none⟩ v' rfl
  refine ⟨k.below bel (fun i e => by omega), Nat.le_trans sz k.size, fun e => by simp [h5] at e, fun e => by simp [h5], zo.kp k (by omega), ⟨y2, v', by have := b0.set 9 v'; simpa using this, fun e => by simp [h10] at e, fun e => by simp at e, fun _ => ?_, fun _ => owns_kp hv k (fun i hi e => by have := (hv.lt i hi).1; omega)⟩, lo⟩
  have q := b3 h10
  exact owns_kp q k (fun i hi e => by have := (q.lt i hi).1; omega)
theorem ClJ.set8 {w X W : World} {o : Opn} {vd vg : Value} {f : Nat → Bool} (h : ClJ w X o vd vg f W) (h5 : f 5 = true) (h10 : f 10 = true) (h12 : f 12 = true) : ClJ w X o vd vg (fun q => f q || q == 14) (W.setCell ⟨w.heap.size, 8, none⟩ (.string o.text)) := by
  obtain ⟨bel, sz, rd, ch, zo, ⟨y2, y9, b0, b1, b2, b3, b4⟩, lo⟩ := h
  have k := Kp.set (N := fun i => i = w.heap.size) W ⟨w.heap.size, 8, none⟩ (.string o.text) rfl
  refine ⟨k.below bel (fun i e => by omega), Nat.le_trans sz k.size, fun e => by simp [h5] at e, fun e => by simp [h5], zo.kp k (by omega), ⟨y2, y9, by have := b0.set 8 (.string o.text); simpa using this, fun e => by simp [h10] at e, fun e => by simp [h12] at e, fun _ => ?_, fun _ => ?_⟩, lo⟩
  · have q := b3 h10
    exact owns_kp q k (fun i hi e => by have := (q.lt i hi).1; omega)
  · have q := b4 h12
    exact owns_kp q k (fun i hi e => by have := (q.lt i hi).1; omega)

set_option maxRecDepth 100000 in
set_option maxHeartbeats 8000000 in
theorem clone_in (o : Opn) (ad ag : Option Addr) (cd cg : Nat) (w : World) (hd : RI w (.slice ad o.deps.length cd) o.deps) (hg : RR w (.slice ag o.gone.length cg) o.gone) (h1 : o.deps.length ≤ 1000000) (h2 : o.gone.length ≤ 1000000) (h3 : o.text.size ≤ 1000000) :
    Calls Tryz.prog 42 #[.agg #[.int .i64 o.ds, .int .i64 o.dq, .slice ad o.deps.length cd, .int .i64 o.kind, .int .i64 o.it, .int .i64 o.is, .int .i64 o.rt, .int .i64 o.rs, .string o.text, .slice ag o.gone.length cg, .int .i64 o.site]] w fun e W => ∃ vd' vg', e = .returned (opA o vd' vg') ∧ OwD W w.heap.size vd' o.deps ∧ OwR W w.heap.size vg' o.gone ∧ Below w.heap.size w W := by
  obtain ⟨X, hX⟩ : ∃ X, (w.alloc (.cells #[.int .i64 o.ds, .int .i64 o.dq, .slice ad o.deps.length cd, .int .i64 o.kind, .int .i64 o.it, .int .i64 o.is, .int .i64 o.rt, .int .i64 o.rs, .string o.text, .slice ag o.gone.length cg, .int .i64 o.site] 42)).alloc (.cells #[.int .i64 0, .int .i64 0, .slice none 0 0, .int .i64 0, .int .i64 0, .int .i64 0, .int .i64 0, .int .i64 0, .string ⟨#[]⟩, .slice none 0 0, .int .i64 0] 42) = X := ⟨_, rfl⟩
  have x1 : Bx X w.heap.size 42 #[.int .i64 o.ds, .int .i64 o.dq, .slice ad o.deps.length cd, .int .i64 o.kind, .int .i64 o.it, .int .i64 o.is, .int .i64 o.rt, .int .i64 o.rs, .string o.text, .slice ag o.gone.length cg, .int .i64 o.site] := by rw [← hX]; exact (Bx.new w _ _).below (ballc (Below.refl _ _) _)
  have x2 : Bx X (w.heap.size + 1) 42 #[.int .i64 0, .int .i64 0, .slice none 0 0, .int .i64 0, .int .i64 0, .int .i64 0, .int .i64 0, .int .i64 0, .string ⟨#[]⟩, .slice none 0 0, .int .i64 0] := by rw [← hX]; exact bx_lastR _ _ _ _
  have bX : Below w.heap.size w X := by rw [← hX]; exact ballc (ballc (Below.refl _ _) _) _
  have J0 : ClJ w X o (.slice ad o.deps.length cd) (.slice ag o.gone.length cg) (fun _ => false) X.drew := ⟨bX.drew, Nat.le_refl _, fun _ => ⟨(hd.below bX).below (Below.refl _ _).drew, RC.below (RC.below hg bX) (Below.refl _ _).drew⟩, fun e => Bool.noConfusion e, x2.below (Below.refl _ _).drew, ⟨_, _, x1.below (Below.refl _ _).drew, fun _ => rfl, fun _ => rfl, fun e => Bool.noConfusion e, fun e => Bool.noConfusion e⟩, x2.lt⟩
  replace J0 := hide J0
  have hlo := x2.lt
  clear hd hg x1 x2 bX
  go_enter Tryz.func42, Tryz.ntmps42
  go_wp2
  refine wp_region_any (by kernel_rfl) ?_
  change wpAny _ _ _ _ _ _ _ (World.drew _)
  refine region_ss 16 (fun j => if j = 9 then 12 else if j = 11 then 13 else if j = 13 then 14 else if j = 10 then 100 else if j = 12 then 101 else if j = 14 then 102 else 3 + j) ((0, (.agg #[.int .i64 o.ds, .int .i64 o.dq, .slice ad o.deps.length cd, .int .i64 o.kind, .int .i64 o.it, .int .i64 o.is, .int .i64 o.rt, .int .i64 o.rs, .string o.text, .slice ag o.gone.length cg, .int .i64 o.site])) :: (1, (Value.pointer (some { block := w.heap.size, off := 0 }))) :: (2, (Value.pointer (some { block := w.heap.size + 1, off := 0 }))) :: (15, undef) :: []) (ClJ w X o (.slice ad o.deps.length cd) (.slice ag o.gone.length cg)) (valsOf [isV (Value.pointer (some { block := w.heap.size, off := 2 })), isV (.slice ad o.deps.length cd), (fun W v => OwD W X.heap.size v o.deps), isV (Value.pointer (some { block := w.heap.size, off := 9 })), isV (.slice ag o.gone.length cg), (fun W v => OwR W X.heap.size v o.gone), isV (Value.pointer (some { block := w.heap.size, off := 8 })), isV (.string o.text), isV (.string o.text), isV (Value.pointer (some { block := w.heap.size, off := 2 })), (fun _ _ => True), isV (Value.pointer (some { block := w.heap.size, off := 9 })), (fun _ _ => True), isV (Value.pointer (some { block := w.heap.size, off := 8 })), (fun _ _ => True)]) (fun _ w1 w2 => Kp (fun i => i = w.heap.size) w1 w2) [] ?fit (fun j i f w1 w2 v _ _ hJ hv hG => valsOf_stable (J := fun W => X.heap.size ≤ W.heap.size) (G := fun w1 w2 => Kp (fun i => i = w.heap.size) w1 w2) ?stable j w1 w2 v hJ.sz hv hG) ?none ?steps ?fin _ _ ?sz rfl ?base (unhide J0)
  case fit => kernel_rfl
  case sz => rfl
  case base => intro p hp; repeat (first | (rcases List.mem_cons.1 hp with rfl | hp; · rfl) | cases hp)
  case none =>
    intro j o' ho hdn w1 v
    have hj : j < 15 := (Array.getElem?_eq_some_iff.1 ho).1
    obtain rfl | rfl | rfl | rfl | rfl | rfl | rfl | rfl | rfl | rfl | rfl | rfl | rfl | rfl | rfl : j = 0 ∨ j = 1 ∨ j = 2 ∨ j = 3 ∨ j = 4 ∨ j = 5 ∨ j = 6 ∨ j = 7 ∨ j = 8 ∨ j = 9 ∨ j = 10 ∨ j = 11 ∨ j = 12 ∨ j = 13 ∨ j = 14 := by omega
    all_goals first | exact trivial | (exfalso; have e := Option.some.inj ho; rw [← e] at hdn; cases hdn)
  case stable => exact Stables.all (by repeat (first | exact .nil | refine .same ?_ | refine .other (fun w1 w2 v hs ho hk => owns_kp ho hk (fun i hi e => by have := (ho.lt i hi).1; omega)) ?_ | refine .other (fun _ _ _ _ _ _ => trivial) ?_))
  case steps =>
    refine .cons (fun f ρ wz hf hfe hρ hJ hb hd => by
      refine StepU.ok (by decide) ?_
      have d0 : ρ (.tmp 1) = (Value.pointer (some { block := w.heap.size, off := 0 })) := hb (1, _) (List.mem_of_getElem? (i := 1) rfl)
      exact step_val (v := (Value.pointer (some { block := w.heap.size, off := 2 }))) (w' := wz) (by simp [go_sem, execOp, d0]) ⟨Kp.refl _ _, hJ.nop 0 (by decide) (by decide) (fun e => absurd e (by decide)), rfl⟩) ?_
    refine .cons (fun f ρ wz hf hfe hρ hJ hb hd => by
      refine StepU.ok (by decide) ?_
      have d0 : ρ (.tmp 3) = (Value.pointer (some { block := w.heap.size, off := 2 })) := hd 0 _ rfl rfl
      have x0 := hJ.at2 (hf 10 (.inr (by decide +kernel)))
      exact step_val (v := .slice ad o.deps.length cd) (w' := wz) (by simp [go_sem, execOp, d0, x0]) ⟨Kp.refl _ _, hJ.nop 1 (by decide) (by decide) (fun e => absurd e (by decide)), rfl⟩) ?_
    refine .cons (fun f ρ wz hf hfe hρ hJ hb hd => by
      refine StepU.ok (by decide) ?_
      have d0 : ρ (.tmp 4) = .slice ad o.deps.length cd := hd 0 _ rfl rfl
      refine step_func 33 _ _ #[.slice ad o.deps.length cd] hρ rfl (enters_of Tryz.func33 (by kernel_rfl) rfl) (by simp [d0]) ?_
      refine (freshD_in _ o.deps wz (hJ.rd (hf 5 (.inr (by decide +kernel)))).1 h1).mono ?_
      rintro r W' ⟨v', rfl, ho, hb2⟩
      exact ⟨_, rfl, Kp.of_below hb2, (hJ.below hb2).nop 2 (by decide) (by decide) (fun e => absurd e (by decide)), OwD.base ho hJ.sz⟩) ?_
    refine .cons (fun f ρ wz hf hfe hρ hJ hb hd => by
      refine StepU.ok (by decide) ?_
      have d0 : ρ (.tmp 1) = (Value.pointer (some { block := w.heap.size, off := 0 })) := hb (1, _) (List.mem_of_getElem? (i := 1) rfl)
      exact step_val (v := (Value.pointer (some { block := w.heap.size, off := 9 }))) (w' := wz) (by simp [go_sem, execOp, d0]) ⟨Kp.refl _ _, hJ.nop 3 (by decide) (by decide) (fun e => absurd e (by decide)), rfl⟩) ?_
    refine .cons (fun f ρ wz hf hfe hρ hJ hb hd => by
      refine StepU.ok (by decide) ?_
      have d0 : ρ (.tmp 6) = (Value.pointer (some { block := w.heap.size, off := 9 })) := hd 0 _ rfl rfl
      have x0 := hJ.at9 (hf 12 (.inr (by decide +kernel)))
      exact step_val (v := .slice ag o.gone.length cg) (w' := wz) (by simp [go_sem, execOp, d0, x0]) ⟨Kp.refl _ _, hJ.nop 4 (by decide) (by decide) (fun e => absurd e (by decide)), rfl⟩) ?_
    refine .cons (fun f ρ wz hf hfe hρ hJ hb hd => by
      refine StepU.ok (by decide) ?_
      have d0 : ρ (.tmp 7) = .slice ag o.gone.length cg := hd 0 _ rfl rfl
      refine step_func 68 _ _ #[.slice ag o.gone.length cg] hρ rfl (enters_of Tryz.func68 (by kernel_rfl) rfl) (by simp [d0]) ?_
      refine (freshR_in _ o.gone wz (hJ.rd (hf 5 (.inl rfl))).2 h2).mono ?_
      rintro r W' ⟨v', rfl, ho, hb2⟩
      exact ⟨_, rfl, Kp.of_below hb2, (hJ.below hb2).nop 5 (by decide) (by decide) (fun e => absurd e (by decide)), OwR.base ho hJ.sz⟩) ?_
    refine .cons (fun f ρ wz hf hfe hρ hJ hb hd => by
      refine StepU.ok (by decide) ?_
      have d0 : ρ (.tmp 1) = (Value.pointer (some { block := w.heap.size, off := 0 })) := hb (1, _) (List.mem_of_getElem? (i := 1) rfl)
      exact step_val (v := (Value.pointer (some { block := w.heap.size, off := 8 }))) (w' := wz) (by simp [go_sem, execOp, d0]) ⟨Kp.refl _ _, hJ.nop 6 (by decide) (by decide) (fun e => absurd e (by decide)), rfl⟩) ?_
    refine .cons (fun f ρ wz hf hfe hρ hJ hb hd => by
      refine StepU.ok (by decide) ?_
      have d0 : ρ (.tmp 9) = (Value.pointer (some { block := w.heap.size, off := 8 })) := hd 0 _ rfl rfl
      have x0 := hJ.at8
      exact step_val (v := .string o.text) (w' := wz) (by simp [go_sem, execOp, d0, x0]) ⟨Kp.refl _ _, hJ.nop 7 (by decide) (by decide) (fun e => absurd e (by decide)), rfl⟩) ?_
    refine .cons (fun f ρ wz hf hfe hρ hJ hb hd => by
      refine StepU.ok (by decide) ?_
      have d0 : ρ (.tmp 10) = .string o.text := hd 0 _ rfl rfl
      refine step_func 69 _ _ #[.string o.text] hρ rfl (enters_of Tryz.func69 (by kernel_rfl) rfl) (by simp [d0]) ?_
      refine (sclone_in o.text wz (by omega)).mono ?_
      rintro r W' ⟨rfl, hb2⟩
      exact ⟨_, rfl, Kp.of_below hb2, (hJ.below hb2).nop 8 (by decide) (by decide) (fun _ => hfe 1 _ rfl rfl), rfl⟩) ?_
    refine .cons (fun f ρ wz hf hfe hρ hJ hb hd => by
      refine StepU.ok (by decide) ?_
      have d0 : ρ (.tmp 1) = (Value.pointer (some { block := w.heap.size, off := 0 })) := hb (1, _) (List.mem_of_getElem? (i := 1) rfl)
      exact step_val (v := (Value.pointer (some { block := w.heap.size, off := 2 }))) (w' := wz) (by simp [go_sem, execOp, d0]) ⟨Kp.refl _ _, hJ.nop 9 (by decide) (by decide) (fun e => absurd e (by decide)), rfl⟩) ?_
    refine .cons (fun f ρ wz hf hfe hρ hJ hb hd => by
      have d0 : ρ (.tmp 12) = (Value.pointer (some { block := w.heap.size, off := 2 })) := hd 0 _ rfl rfl
      have d1 : OwD wz X.heap.size (ρ (.tmp 5)) o.deps := hd 1 _ rfl rfl
      obtain ⟨a', c', hv⟩ := OwD.form d1
      rw [hv] at d1
      obtain ⟨x, x0, x1, x2⟩ := hJ.has 2 (by decide)
      exact StepU.st _ (.tmp 12) (.tmp 5) rfl rfl (w' := wz.setCell ⟨w.heap.size, 2, none⟩ (.slice a' o.deps.length c')) (by rw [d0, hv]; simp [go_sem, x0, x1, x2]) ⟨Kp.set _ ⟨w.heap.size, 2, none⟩ _ rfl, hJ.set2 (hfe 2 _ rfl rfl) d1, trivial⟩) ?_
    refine .cons (fun f ρ wz hf hfe hρ hJ hb hd => by
      refine StepU.ok (by decide) ?_
      have d0 : ρ (.tmp 1) = (Value.pointer (some { block := w.heap.size, off := 0 })) := hb (1, _) (List.mem_of_getElem? (i := 1) rfl)
      exact step_val (v := (Value.pointer (some { block := w.heap.size, off := 9 }))) (w' := wz) (by simp [go_sem, execOp, d0]) ⟨Kp.refl _ _, hJ.nop 11 (by decide) (by decide) (fun e => absurd e (by decide)), rfl⟩) ?_
    refine .cons (fun f ρ wz hf hfe hρ hJ hb hd => by
      have d0 : ρ (.tmp 13) = (Value.pointer (some { block := w.heap.size, off := 9 })) := hd 0 _ rfl rfl
      have d1 : OwR wz X.heap.size (ρ (.tmp 8)) o.gone := hd 1 _ rfl rfl
      obtain ⟨a', c', hv⟩ := OwR.form d1
      rw [hv] at d1
      obtain ⟨x, x0, x1, x2⟩ := hJ.has 9 (by decide)
      exact StepU.st _ (.tmp 13) (.tmp 8) rfl rfl (w' := wz.setCell ⟨w.heap.size, 9, none⟩ (.slice a' o.gone.length c')) (by rw [d0, hv]; simp [go_sem, x0, x1, x2]) ⟨Kp.set _ ⟨w.heap.size, 9, none⟩ _ rfl, hJ.set9 (hfe 1 _ rfl rfl) (hfe 2 _ rfl rfl) d1, trivial⟩) ?_
    refine .cons (fun f ρ wz hf hfe hρ hJ hb hd => by
      refine StepU.ok (by decide) ?_
      have d0 : ρ (.tmp 1) = (Value.pointer (some { block := w.heap.size, off := 0 })) := hb (1, _) (List.mem_of_getElem? (i := 1) rfl)
      exact step_val (v := (Value.pointer (some { block := w.heap.size, off := 8 }))) (w' := wz) (by simp [go_sem, execOp, d0]) ⟨Kp.refl _ _, hJ.nop 13 (by decide) (by decide) (fun e => absurd e (by decide)), rfl⟩) ?_
    refine .cons (fun f ρ wz hf hfe hρ hJ hb hd => by
      have d0 : ρ (.tmp 14) = (Value.pointer (some { block := w.heap.size, off := 8 })) := hd 0 _ rfl rfl
      have d1 : ρ (.tmp 11) = .string o.text := hd 1 _ rfl rfl
      obtain ⟨x, x0, x1, x2⟩ := hJ.has 8 (by decide)
      exact StepU.st _ (.tmp 14) (.tmp 11) rfl rfl (w' := wz.setCell ⟨w.heap.size, 8, none⟩ (.string o.text)) (by rw [d0, d1]; simp [go_sem, x0, x1, x2]) ⟨Kp.set _ ⟨w.heap.size, 8, none⟩ _ rfl, hJ.set8 (hfe 8 _ rfl rfl) (hfe 13 _ rfl rfl) (hfe 2 _ rfl rfl), trivial⟩) ?_
    exact .nil _
  case fin =>
    intro a W5 hsz2 hds hb hJ hv
    obtain ⟨f, hf, hJ⟩ := hJ
    obtain ⟨X3, hX3⟩ : ∃ x, a.eval (.tmp 3) = x := ⟨_, rfl⟩
    obtain ⟨X4, hX4⟩ : ∃ x, a.eval (.tmp 4) = x := ⟨_, rfl⟩
    obtain ⟨X5, hX5⟩ : ∃ x, a.eval (.tmp 5) = x := ⟨_, rfl⟩
    obtain ⟨X6, hX6⟩ : ∃ x, a.eval (.tmp 6) = x := ⟨_, rfl⟩
    obtain ⟨X7, hX7⟩ : ∃ x, a.eval (.tmp 7) = x := ⟨_, rfl⟩
    obtain ⟨X8, hX8⟩ : ∃ x, a.eval (.tmp 8) = x := ⟨_, rfl⟩
    obtain ⟨X9, hX9⟩ : ∃ x, a.eval (.tmp 9) = x := ⟨_, rfl⟩
    obtain ⟨X10, hX10⟩ : ∃ x, a.eval (.tmp 10) = x := ⟨_, rfl⟩
    obtain ⟨X11, hX11⟩ : ∃ x, a.eval (.tmp 11) = x := ⟨_, rfl⟩
    obtain ⟨X12, hX12⟩ : ∃ x, a.eval (.tmp 12) = x := ⟨_, rfl⟩
    obtain ⟨X13, hX13⟩ : ∃ x, a.eval (.tmp 13) = x := ⟨_, rfl⟩
    obtain ⟨X14, hX14⟩ : ∃ x, a.eval (.tmp 14) = x := ⟨_, rfl⟩
    obtain rfl := frame_of ((0, (.agg #[.int .i64 o.ds, .int .i64 o.dq, .slice ad o.deps.length cd, .int .i64 o.kind, .int .i64 o.it, .int .i64 o.is, .int .i64 o.rt, .int .i64 o.rs, .string o.text, .slice ag o.gone.length cg, .int .i64 o.site])) :: (1, (Value.pointer (some { block := w.heap.size, off := 0 }))) :: (2, (Value.pointer (some { block := w.heap.size + 1, off := 0 }))) :: (15, undef) :: (3, X3) :: (4, X4) :: (5, X5) :: (6, X6) :: (7, X7) :: (8, X8) :: (9, X9) :: (10, X10) :: (11, X11) :: (12, X12) :: (13, X13) :: (14, X14) :: []) ([.agg #[.int .i64 o.ds, .int .i64 o.dq, .slice ad o.deps.length cd, .int .i64 o.kind, .int .i64 o.it, .int .i64 o.is, .int .i64 o.rt, .int .i64 o.rs, .string o.text, .slice ag o.gone.length cg, .int .i64 o.site], (Value.pointer (some { block := w.heap.size, off := 0 })), .pointer (some { block := w.heap.size + 1, off := 0 }), X3, X4, X5, X6, X7, X8, X9, X10, X11, X12, X13, X14, undef]) hsz2 hds (fun p hp => by
      simp only [List.mem_cons, List.not_mem_nil, or_false] at hp
      rcases hp with rfl | rfl | rfl | rfl | rfl | rfl | rfl | rfl | rfl | rfl | rfl | rfl | rfl | rfl | rfl | rfl
      · exact hb (0, _) (List.mem_of_getElem? (i := 0) rfl)
      · exact hb (1, _) (List.mem_of_getElem? (i := 1) rfl)
      · exact hb (2, _) (List.mem_of_getElem? (i := 2) rfl)
      · exact hb (15, _) (List.mem_of_getElem? (i := 3) rfl)
      all_goals assumption) rfl
    obtain ⟨y2, y9, b0, _, _, b3, b4⟩ := hJ.bx
    have hO := b3 (hf 10 (by decide))
    have hR := b4 (hf 12 (by decide))
    have hbel := hide hJ.bel
    have z0 := hJ.zo
    obtain ⟨ax, cx, rfl⟩ := OwD.form hO
    obtain ⟨ay, cy, rfl⟩ := OwR.form hR
    obtain ⟨p0, p1, p2, p3, p4, p5, p6, p7, p8, p9, p10⟩ := cells_op b0
    obtain ⟨q0, q1, q2, q3, q4, q5, q6, q7, q8, q9, q10⟩ := cells_op z0
    have zf0 := z0.frozen 0
    have zf1 := z0.frozen 1
    have zf2 := z0.frozen 2
    have zf3 := z0.frozen 3
    have zf4 := z0.frozen 4
    have zf5 := z0.frozen 5
    have zf6 := z0.frozen 6
    have zf7 := z0.frozen 7
    have zf8 := z0.frozen 8
    have zf9 := z0.frozen 9
    have zf10 := z0.frozen 10
    have zl := z0.lt
    have bl := b0.lt
    have RA := hide (Bx.set11 (x0 := .int .i64 o.ds) (x1 := .int .i64 o.dq) (x2 := .slice ax o.deps.length cx) (x3 := .int .i64 o.kind) (x4 := .int .i64 o.it) (x5 := .int .i64 o.is) (x6 := .int .i64 o.rt) (x7 := .int .i64 o.rs) (x8 := .string o.text) (x9 := .slice ay o.gone.length cy) (x10 := .int .i64 o.site) z0)
    have KA := hide (Kp.set11 W5 (w.heap.size + 1) (.int .i64 o.ds) (.int .i64 o.dq) (.slice ax o.deps.length cx) (.int .i64 o.kind) (.int .i64 o.it) (.int .i64 o.is) (.int .i64 o.rt) (.int .i64 o.rs) (.string o.text) (.slice ay o.gone.length cy) (.int .i64 o.site))
    have HO := hide (owns_kp hO (unhide KA) (fun i hi e => by have := (hO.lt i hi).1; omega))
    have HR := hide (owns_kp hR (unhide KA) (fun i hi e => by have := (hR.lt i hi).1; omega))
    have HB := hide ((unhide KA).below (unhide hbel) (fun i e => by omega))
    clear hO hR b0 z0 b3 b4 hJ hb hv hf hds
    go_wp2
    refine bodyPost_ret (results_cell_row rfl _ _ (w.heap.size + 1) _ _ _ _ rfl (unhide RA) Tryz.underlying42 rfl sizeOp) rfl ?_
    exact ⟨_, _, rfl, OwD.base (unhide HO) (by omega), OwR.base (unhide HR) (by omega), unhide HB⟩

end Go.Proofs.YtkkolefionbbcaaGreat
