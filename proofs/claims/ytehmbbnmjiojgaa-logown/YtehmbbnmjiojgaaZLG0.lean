/-
  The log: rows that are made anew; operations that are cloned.
-/
import Derived.Test.YtehmbbnmjiojgaaZO5
import Derived.Test.YtehmbbnmjiojgaaZV5
import Derived.Test.YtehmbbnmjiojgaaZSh12
import Derived.Deep.RegionWith
set_option linter.unusedSimpArgs false
set_option linter.unusedVariables false
namespace Go.Proofs.Ytehmbbnmjiojgaa
open Go.RowKit Go.Lib

def encO (e : Opn × Value × Value) : List Value := [.int .i64 e.1.ds, .int .i64 e.1.dq, e.2.1, .int .i64 e.1.kind, .int .i64 e.1.it, .int .i64 e.1.is, .int .i64 e.1.rt, .int .i64 e.1.rs, .string e.1.text, e.2.2, .int .i64 e.1.site]
theorem encO_len (e : Opn × Value × Value) : (encO e).length = 11 := rfl
/-- a row of operations -/
def RO (W : World) (v : Value) (l : List (Opn × Value × Value)) : Prop := RC W v l.length (flat encO l)
theorem RO.at {W : World} {a : Option Addr} {n c : Nat} {l : List (Opn × Value × Value)} (h : RO W (.slice a n c) l) {i : Nat} {e : Opn × Value × Value} (hi : l[i]? = some e) : ∃ b off, a = some ⟨b, off, none⟩ ∧ b < W.heap.size ∧ ∀ q v, (encO e)[q]? = some v → W.cell? ⟨b, off + i * 11 + q, none⟩ = some v := by
  have hl := (List.getElem?_eq_some_iff.1 hi).1
  rcases h with ⟨h0, _⟩ | ⟨b, off, cap, e', h1, h2, hc⟩
  · omega
  · simp at e'
    obtain ⟨rfl, _⟩ := e'
    refine ⟨b, off, rfl, h2, fun q v hv => ?_⟩
    have hq : q < 11 := by have := (List.getElem?_eq_some_iff.1 hv).1; rwa [encO_len] at this
    have := hc (i * 11 + q) v ((flat_get encO_len l i q e hi hq).trans hv)
    rwa [← Nat.add_assoc] at this

theorem infoO : (Try.prog.info? 38).map (fun i => (i.zero, i.size, i.bytes)) = some (some (.agg #[.int .i64 0, .int .i64 0, .slice none 0 0, .int .i64 0, .int .i64 0, .int .i64 0, .int .i64 0, .int .i64 0, .string ⟨#[]⟩, .slice none 0 0, .int .i64 0]), 11, 128) := by kernel_rfl
/-- append(l, o) of an operation -/
theorem append_op (w : World) (ty : TypeId) (N : Nat) (v : Value) (l : List (Opn × Value × Value)) (e : Opn × Value × Value) (nb : Nat) (h : w.ownsRow N 38 11 v l.length (flat encO l)) (hbx : Bx w nb 38 (encO e).toArray) (h1 : ∀ u ∈ encO e, u.oneCell' = true) (hN : N ≤ w.heap.size) (hl : l.length ≤ 1000000) :
    ∃ v' w', (Builtin.append_ #[28, 28] ty #[v, .slice (some ⟨nb, 0, none⟩) 1 1]).run Try.prog w = .ok v' w' ∧ w'.ownsRow N 38 11 v' (l ++ [e]).length (flat encO (l ++ [e])) ∧ w.grownBy w' v.ownBlock ∧ (v'.ownBlock = v.ownBlock ∨ v'.ownBlock = some w.heap.size) := by
  obtain ⟨i0, hi, hz0, hz1, hz2⟩ := info_parts infoO
  obtain ⟨v', w', q1, q2, q3, q4, q5⟩ := run_append_own_at (P := Try.prog) w N 28 ty 38 i0 _ 11 128 Try.underlying28 hi hz0 hz1 hz2 rfl (by decide) v l.length _ h ⟨nb, 0, none⟩ 1 1 (encO e) (by rw [encO_len]) (fun j u hu => by
    rw [Addr.add_lit, Nat.zero_add]
    exact hbx.cell j u (by rw [← hu]; simp)) h1 (by unfold maxLen; omega) (by omega) hN
  refine ⟨v', w', q1, ?_, q3, q5⟩
  rw [flat_append, List.length_append]
  have : flat encO [e] = encO e := by simp [flat]
  rw [this]
  exact q2

/-- append(nil, l...) -/
theorem app_nil (TS E : TypeId) (k bytes : Nat) (z : Value) (ht : Try.prog.underlying TS = some (.slice E)) (hinf : (Try.prog.info? E).map (fun i => (i.zero, i.size, i.bytes)) = some (some z, k, bytes)) (hzs : z.cells.size = k) (k0 : 0 < k)
    (w : World) (base : Nat) (ty : TypeId) (v : Value) (n : Nat) (C : List Value) (h : RC w v n C) (hC : C.length = n * k) (h1 : ∀ u ∈ C, u.oneCell' = true) (hb : base ≤ w.heap.size) (hn : n ≤ maxLen) (hby : n * bytes ≤ 140737488355328) :
    ∃ v' w', (Builtin.append_ #[TS, TS] ty #[.slice none 0 0, v]).run Try.prog w = .ok v' w' ∧ w'.ownsRow base E k v' n C ∧ w.grownBy w' none := by
  obtain ⟨i0, hi, hz0, hz1, hz2⟩ := info_parts hinf
  have step : ∀ (ad : Addr) (cc : Nat), v = .slice (some ad) n cc → (∀ j x, C[j]? = some x → w.cell? (ad.add j) = some x) → ∃ v' w', (Builtin.append_ #[TS, TS] ty #[.slice none 0 0, v]).run Try.prog w = .ok v' w' ∧ w'.ownsRow base E k v' n C ∧ w.grownBy w' none := by
    rintro ad cc rfl hc
    obtain ⟨v', w', q1, q2, q3, _⟩ := run_append_own (P := Try.prog) w base TS ty E i0 z k bytes ht hi hz0 hz1 hz2 hzs k0 (.slice none 0 0) 0 [] (World.ownsRow_nil _ _ _ _) ad n cc C hC hc h1 (by omega) (by rw [Nat.zero_add]; exact hby) hb
    exact ⟨v', w', q1, by simpa using q2, q3⟩
  rcases h with ⟨h0, a, cap, rfl⟩ | ⟨b, off, cap, rfl, _, _, hc⟩
  · subst h0
    have e : C = [] := List.eq_nil_of_length_eq_zero (by simpa using hC)
    subst e
    cases a with
    | some ad => exact step ad cap rfl (fun j x hx => by simp at hx)
    | none =>
      refine ⟨.slice none 0 0, w, ?_, World.ownsRow_nil _ _ _ _, ⟨rfl, rfl, rfl, Nat.le_refl _, fun _ _ _ => rfl⟩⟩
      simp [Builtin.append_, run_underlying ht, sizeOf, typeInfo, hi, Builtin.lenOf, Builtin.firstCells, storeCells]
  · exact step ⟨b, off, none⟩ cap rfl (fun j x hx => by rw [Addr.add_lit]; exact hc j x hx)

theorem encI_oneT {l : List (Int × Int)} : ∀ u ∈ flat encI l, u.oneCell' = true := fun u hu => by
  obtain ⟨x, _, hx⟩ := flat_mem hu
  unfold encI at hx
  simp at hx
  rcases hx with rfl | rfl <;> rfl
theorem encR_oneT {l : List ((Int × Int) × Int)} : ∀ u ∈ flat encR l, u.oneCell' = true := fun u hu => by
  obtain ⟨x, _, hx⟩ := flat_mem hu
  unfold encR at hx
  simp at hx
  rcases hx with rfl | rfl | rfl <;> rfl

/-- a row of runs of one's own -/
def OwR (W : World) (B : Nat) (v : Value) (l : List ((Int × Int) × Int)) : Prop := W.ownsRow B 62 3 v l.length (flat encR l)
theorem OwR.row {W : World} {B : Nat} {v : Value} {l : List ((Int × Int) × Int)} (h : OwR W B v l) : RR W v l := RC.of_owns h
theorem OwR.base {W : World} {B B' : Nat} {v : Value} {l : List ((Int × Int) × Int)} (h : OwR W B v l) (hb : B' ≤ B) : OwR W B' v l := by
  obtain ⟨h1, h2⟩ := h
  refine ⟨h1, ?_⟩
  rcases h2 with h2 | ⟨g, cap, cur, h3, h4, h5⟩
  · exact .inl h2
  · exact .inr ⟨g, cap, cur, h3, by omega, h5⟩
theorem OwR.form {W : World} {B : Nat} {v : Value} {l : List ((Int × Int) × Int)} (h : OwR W B v l) : ∃ a c, v = .slice a l.length c := owns_form h

theorem infoRu : (Try.prog.info? 62).map (fun i => (i.zero, i.size, i.bytes)) = some (some (.agg #[.int .i64 0, .int .i64 0, .int .i64 0]), 3, 24) := by kernel_rfl
theorem bx_lastR (w : World) (A : Obj) (vs : Array Value) (t : TypeId) : ((w.alloc A).alloc (.cells vs t)).heap[w.heap.size + 1]? = some (.cells vs t (0, 0)) := by
  have h := Bx.new (w.alloc A) t vs
  have e : (w.alloc A).heap.size = w.heap.size + 1 := by simp
  rw [e] at h
  exact h
theorem Bx.set11 {W : World} {b : Nat} {t : TypeId} {x0 x1 x2 x3 x4 x5 x6 x7 x8 x9 x10 y0 y1 y2 y3 y4 y5 y6 y7 y8 y9 y10 : Value} (h : Bx W b t #[y0, y1, y2, y3, y4, y5, y6, y7, y8, y9, y10]) : Bx (((((((((((W.setCell ⟨b, 0, none⟩ (x0)).setCell ⟨b, 1, none⟩ (x1)).setCell ⟨b, 2, none⟩ (x2)).setCell ⟨b, 3, none⟩ (x3)).setCell ⟨b, 4, none⟩ (x4)).setCell ⟨b, 5, none⟩ (x5)).setCell ⟨b, 6, none⟩ (x6)).setCell ⟨b, 7, none⟩ (x7)).setCell ⟨b, 8, none⟩ (x8)).setCell ⟨b, 9, none⟩ (x9)).setCell ⟨b, 10, none⟩ (x10)) b t #[x0, x1, x2, x3, x4, x5, x6, x7, x8, x9, x10] := by
  have q := (((((((((((h.set 0 x0).set 1 x1).set 2 x2).set 3 x3).set 4 x4).set 5 x5).set 6 x6).set 7 x7).set 8 x8).set 9 x9).set 10 x10)
  simpa using q
theorem Kp.set11 (W : World) (b : Nat) (x0 x1 x2 x3 x4 x5 x6 x7 x8 x9 x10 : Value) : Kp (fun k => k = b) W (((((((((((W.setCell ⟨b, 0, none⟩ (x0)).setCell ⟨b, 1, none⟩ (x1)).setCell ⟨b, 2, none⟩ (x2)).setCell ⟨b, 3, none⟩ (x3)).setCell ⟨b, 4, none⟩ (x4)).setCell ⟨b, 5, none⟩ (x5)).setCell ⟨b, 6, none⟩ (x6)).setCell ⟨b, 7, none⟩ (x7)).setCell ⟨b, 8, none⟩ (x8)).setCell ⟨b, 9, none⟩ (x9)).setCell ⟨b, 10, none⟩ (x10)) := by
  have k0 := Kp.set (N := fun k => k = b) W ⟨b, 0, none⟩ x0 rfl
  have k1 := k0.trans (M := fun k => k = b) (Kp.set _ ⟨b, 1, none⟩ x1 rfl) (fun i h => .inl h)
  have k2 := k1.trans (M := fun k => k = b) (Kp.set _ ⟨b, 2, none⟩ x2 rfl) (fun i h => .inl h)
  have k3 := k2.trans (M := fun k => k = b) (Kp.set _ ⟨b, 3, none⟩ x3 rfl) (fun i h => .inl h)
  have k4 := k3.trans (M := fun k => k = b) (Kp.set _ ⟨b, 4, none⟩ x4 rfl) (fun i h => .inl h)
  have k5 := k4.trans (M := fun k => k = b) (Kp.set _ ⟨b, 5, none⟩ x5 rfl) (fun i h => .inl h)
  have k6 := k5.trans (M := fun k => k = b) (Kp.set _ ⟨b, 6, none⟩ x6 rfl) (fun i h => .inl h)
  have k7 := k6.trans (M := fun k => k = b) (Kp.set _ ⟨b, 7, none⟩ x7 rfl) (fun i h => .inl h)
  have k8 := k7.trans (M := fun k => k = b) (Kp.set _ ⟨b, 8, none⟩ x8 rfl) (fun i h => .inl h)
  have k9 := k8.trans (M := fun k => k = b) (Kp.set _ ⟨b, 9, none⟩ x9 rfl) (fun i h => .inl h)
  have k10 := k9.trans (M := fun k => k = b) (Kp.set _ ⟨b, 10, none⟩ x10 rfl) (fun i h => .inl h)
  exact k10
theorem sizeOp : (Try.prog.info? 38).map (·.size) = some 11 := by kernel_rfl
def rb (v : Value) (n : Nat) (k : Nat) : Prop := n ≠ 0 ∧ v.ownBlock = some k
theorem RC.kpn {N : Nat → Prop} {W W' : World} {v : Value} {n : Nat} {C : List Value} (h : RC W v n C) (k : Kp N W W') (hn : ∀ i, rb v n i → ¬ N i) : RC W' v n C := by
  by_cases h0 : n = 0
  · subst h0
    rcases h with h | ⟨b, off, cap, e, _, hl, hc⟩
    · exact .inl h
    · exact .inl ⟨rfl, _, _, e⟩
  · exact RC.kp h k (fun i hi => hn i ⟨h0, hi⟩)
theorem encI_lenT (x : Int × Int) : (encI x).length = 2 := rfl
theorem encR_lenT (x : (Int × Int) × Int) : (encR x).length = 3 := rfl

set_option maxRecDepth 100000 in
set_option maxHeartbeats 1000000 in
theorem freshD_in (v : Value) (l : List (Int × Int)) (w : World) (h : RI w v l) (hl : l.length ≤ 1000000) :
    Calls Try.prog 24 #[v] w fun e W => ∃ v', e = .returned v' ∧ OwD W w.heap.size v' l ∧ Below w.heap.size w W := by
  obtain ⟨a, c, rfl⟩ := RC.form h
  obtain ⟨v', w', hr, ho, hg⟩ := app_nil 24 33 2 16 (.agg #[.int .i64 0, .int .i64 0]) Try.underlying24 infoD rfl (by omega) w w.heap.size 24 _ l.length (flat encI l) h (flat_len encI_lenT l) encI_oneT (Nat.le_refl _) (by unfold maxLen; omega) (by omega)
  have hb : Below w.heap.size w w' := (Kp.of_grown (N := fun _ => False) hg (fun k hk => by cases hk)).below (Below.refl _ _) (fun i e => e.elim)
  replace hr := hide hr
  obtain ⟨a', c', rfl⟩ := owns_form ho
  go_enter Try.func24, Try.ntmps24
  go_wp2_with (at_builtin; refine wpList_append_eq rfl _ _ 24 rfl _ _ _ _ rfl rfl (unhide hr) ?_)
  go_ret
  exact ⟨_, rfl, ho, hb⟩

set_option maxRecDepth 100000 in
set_option maxHeartbeats 1000000 in
theorem freshR_in (v : Value) (l : List ((Int × Int) × Int)) (w : World) (h : RR w v l) (hl : l.length ≤ 1000000) :
    Calls Try.prog 34 #[v] w fun e W => ∃ v', e = .returned v' ∧ OwR W w.heap.size v' l ∧ Below w.heap.size w W := by
  obtain ⟨a, c, rfl⟩ := RC.form h
  obtain ⟨v', w', hr, ho, hg⟩ := app_nil 36 62 3 24 (.agg #[.int .i64 0, .int .i64 0, .int .i64 0]) Try.underlying36 infoRu rfl (by omega) w w.heap.size 36 _ l.length (flat encR l) h (flat_len encR_lenT l) encR_oneT (Nat.le_refl _) (by unfold maxLen; omega) (by omega)
  have hb : Below w.heap.size w w' := (Kp.of_grown (N := fun _ => False) hg (fun k hk => by cases hk)).below (Below.refl _ _) (fun i e => e.elim)
  replace hr := hide hr
  obtain ⟨a', c', rfl⟩ := owns_form ho
  go_enter Try.func34, Try.ntmps34
  go_wp2_with (at_builtin; refine wpList_append_eq rfl _ _ 36 rfl _ _ _ _ rfl rfl (unhide hr) ?_)
  go_ret
  exact ⟨_, rfl, ho, hb⟩

end Go.Proofs.Ytehmbbnmjiojgaa
