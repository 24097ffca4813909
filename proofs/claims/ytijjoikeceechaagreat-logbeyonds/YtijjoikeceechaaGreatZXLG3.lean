/-
  The log: a part of it.
-/
import Derived.Test.YtijjoikeceechaaGreatZXLG0
import Derived.Laws.OwnMore
import Derived.Test.YtijjoikeceechaaGreatZRegU
import Derived.Test.YtijjoikeceechaaGreatZQW
import Derived.Deep.RegionHeld3

set_option linter.unusedSimpArgs false
set_option linter.unusedVariables false
namespace Go.Proofs.YtijjoikeceechaaGreat
open Go.RowKit Go.Lib

/-- those of which a vector has the Dot, or has it not -/
def prt (l : List (Int × Int)) (has : Bool) (ops : List (Opn × Value × Value)) : List (Opn × Value × Value) := ops.filter fun e => hasV l (e.1.ds, e.1.dq) == has
theorem prt_snoc (l : List (Int × Int)) (has : Bool) (ops : List (Opn × Value × Value)) (e : Opn × Value × Value) : prt l has (ops ++ [e]) = if (hasV l (e.1.ds, e.1.dq) == has) = true then prt l has ops ++ [e] else prt l has ops := by
  unfold prt
  rw [List.filter_append]
  by_cases h : (hasV l (e.1.ds, e.1.dq) == has) = true
  · rw [if_pos h, List.filter_cons, if_pos h, List.filter_nil]
  · rw [if_neg h, List.filter_cons, if_neg h, List.filter_nil, List.append_nil]
theorem prt_len (l : List (Int × Int)) (has : Bool) (ops : List (Opn × Value × Value)) : (prt l has ops).length ≤ ops.length := List.length_filter_le _ _
theorem prt_mem {l : List (Int × Int)} {has : Bool} {ops : List (Opn × Value × Value)} {e : Opn × Value × Value} (h : e ∈ prt l has ops) : e ∈ ops := (List.mem_filter.1 h).1

theorem own_at11 {W : World} {B n : Nat} {a : Option Addr} {c : Nat} {ops : List (Opn × Value × Value)} (h : W.ownsRow B 45 11 (.slice a n c) n (flat encO ops)) (hn : ops.length = n) {i : Nat} {e : Opn × Value × Value} (hi : ops[i]? = some e) : ∃ g, a = some ⟨g, 0, none⟩ ∧ g < W.heap.size ∧ ∀ q v, (encO e)[q]? = some v → W.cell? ⟨g, i * 11 + q, none⟩ = some v := by
  have hl := (List.getElem?_eq_some_iff.1 hi).1
  have hlt := h.lt
  have h0 := h
  obtain ⟨_, (⟨_, h1⟩ | ⟨g, cap, cur, e', _, hg, _⟩)⟩ := h
  · omega
  · simp at e'
    obtain ⟨rfl, rfl⟩ := e'
    refine ⟨g, rfl, (hlt g rfl).2, fun q v hv => ?_⟩
    have hq : q < 11 := by have := (List.getElem?_eq_some_iff.1 hv).1; rwa [encO_len] at this
    rw [h0.cellAt (i * 11 + q) (by omega)]
    exact (flat_get encO_len ops i q e hi hq).trans hv

set_option maxRecDepth 100000 in
set_option maxHeartbeats 4000000 in
theorem part_in {P : Nat → Prop} {w : World} {b : Nat} {vb vh vo : Value} {base hv : List (Int × Int)} {ops : List (Opn × Value × Value)} (h : LG P w b vb vh vo base hv ops) (v : Value) (l : List (Int × Int)) (has : Bool) (hr : RI w v l) (hl : l.length ≤ 1000000) (hn : ops.length ≤ 1000000) :
    Calls Tryz.prog 39 #[.pointer (some ⟨b, 0, none⟩), v, .bool has] w fun e W => ∃ v', e = .returned v' ∧ W.ownsRow w.heap.size 45 11 v' (prt l has ops).length (flat encO (prt l has ops)) ∧ Below w.heap.size w W := by
  obtain ⟨ao, co, rfl⟩ := owns_form h.ro
  obtain ⟨av, cv, rfl⟩ := hr.form
  have HH := hide (fun (W : World) (hb : Below w.heap.size w W) (x y : Int) => Has_in _ l x y W (hr.below hb) (by omega))
  have c0 := h.box.cell 2 _ rfl
  have HA := hide (fun (W : World) (hb : Below w.heap.size w W) => owns_kp (N := fun _ => False) h.ro (Kp.of_below hb) (fun _ _ e => e))
  have HE := hide h.re
  clear h hr
  go_enter Tryz.func39, Tryz.ntmps39
  go_wp2
  go_loopw [7, 15] (fun vv iv wr => ∃ (i : Nat), iv = .int .i64 (i : Nat) ∧ i ≤ ops.length ∧ Hid (wr.ownsRow w.heap.size 45 11 vv (prt l has (ops.take i)).length (flat encO (prt l has (ops.take i)))) ∧ Hid (Below w.heap.size w wr)) (fun _ iv _ => ops.length - (Lib.intOf iv).toNat)
  case atStart => exact ⟨0, rfl, by omega, hide (by rw [List.take_zero]; exact World.ownsRow_nil _ _ _ _), hide (Below.refl _ _)⟩
  case round =>
    obtain ⟨i, rfl, hi, HO, HB⟩ := hrel
    by_cases hlt : i < ops.length
    · have hlt' : (i : Int) < (ops.length : Int) := by omega
      obtain ⟨e, hx⟩ : ∃ e, ops[i]? = some e := ⟨_, List.getElem?_eq_getElem hlt⟩
      obtain ⟨g, rfl, hgl, hcell⟩ := own_at11 (unhide HA wr (unhide HB)) rfl hx
      have oe := unhide HE e (List.mem_of_getElem? hx)
      have ht : ops.take (i + 1) = ops.take i ++ [e] := by rw [List.take_add_one, hx]; rfl
      have hps := prt_snoc l has (ops.take i) e
      rw [← ht] at hps
      have hpl : (prt l has (ops.take i)).length ≤ 1000000 := by have := prt_len l has (ops.take i); rw [List.length_take] at this; omega
      have Hone := hide oe.one
      obtain ⟨a1, c1, h1⟩ := OwD.form oe.d
      obtain ⟨a2, c2, h2⟩ := OwR.form oe.g
      obtain ⟨o, ud, ug⟩ := e
      simp only at h1 h2
      subst h1 h2
      have q0 := hcell 0 _ rfl
      have q1 := hcell 1 _ rfl
      have q2 := hcell 2 _ rfl
      have q3 := hcell 3 _ rfl
      have q4 := hcell 4 _ rfl
      have q5 := hcell 5 _ rfl
      have q6 := hcell 6 _ rfl
      have q7 := hcell 7 _ rfl
      have q8 := hcell 8 _ rfl
      have q9 := hcell 9 _ rfl
      have q10 := hcell 10 _ rfl
      rw [Nat.add_zero] at q0
      obtain ⟨Y, hY⟩ : ∃ Y, wr.alloc (.cells #[.int .i64 o.ds, .int .i64 o.dq, .slice a1 o.deps.length c1, .int .i64 o.kind, .int .i64 o.it, .int .i64 o.is, .int .i64 o.rt, .int .i64 o.rs, .string o.text, .slice a2 o.gone.length c2, .int .i64 o.site] 45) = Y := ⟨_, rfl⟩
      have bY : Below wr.heap.size wr Y := by rw [← hY]; exact ballc (Below.refl _ _) _
      have xY : Hid (Bx Y wr.heap.size 45 #[.int .i64 o.ds, .int .i64 o.dq, .slice a1 o.deps.length c1, .int .i64 o.kind, .int .i64 o.it, .int .i64 o.is, .int .i64 o.rt, .int .i64 o.rs, .string o.text, .slice a2 o.gone.length c2, .int .i64 o.site]) := by rw [← hY]; exact Bx.new wr _ _
      have B2 := hide (bnext (unhide HB) bY)
      have O2 := hide (owns_kp (N := fun _ => False) (unhide HO) (Kp.of_below bY) (fun _ _ e => e))
      have HS := hide (unhide HH Y (unhide B2) o.ds o.dq)
      have y0 := (unhide xY).cell 0 _ rfl
      have y1 := (unhide xY).cell 1 _ rfl
      have yl := (unhide xY).lt
      have Hps := hide hps
      simp only at Hps
      obtain ⟨hh, hhe⟩ : ∃ x, hasV l (o.ds, o.dq) = x := ⟨_, rfl⟩
      rw [hhe] at HS Hps
      clear hcell oe bY hps ht hx HO HB hhe
      go_wp2_with fail
      refine (unhide HS).mono ?_
      rintro r W2 ⟨rfl, hb2⟩
      have x2 := (unhide xY).below hb2
      have B3 := hide (bnext (unhide B2) hb2)
      have O3 := hide (owns_kp (N := fun _ => False) (unhide O2) (Kp.of_below hb2) (fun _ _ e => e))
      obtain ⟨z0, z1, z2, z3, z4, z5, z6, z7, z8, z9, z10⟩ := cells_op x2
      clear hY HS xY B2 O2 q0 q1 q2 q3 q4 q5 q6 q7 q8 q9 q10 y0 y1 hb2 x2
      by_cases heq : hh = has
      · have heb : (hh == has) = true := by simpa using heq
        rw [heb, if_pos rfl] at Hps
        have al := ballc (Below.refl W2.heap.size W2) (.cells #[.int .i64 o.ds, .int .i64 o.dq, .slice a1 o.deps.length c1, .int .i64 o.kind, .int .i64 o.it, .int .i64 o.is, .int .i64 o.rt, .int .i64 o.rs, .string o.text, .slice a2 o.gone.length c2, .int .i64 o.site] 45)
        obtain ⟨v', w', hr, hown, hgr, _⟩ := append_op (W2.alloc (.cells #[.int .i64 o.ds, .int .i64 o.dq, .slice a1 o.deps.length c1, .int .i64 o.kind, .int .i64 o.it, .int .i64 o.is, .int .i64 o.rt, .int .i64 o.rs, .string o.text, .slice a2 o.gone.length c2, .int .i64 o.site] 45)) 33 w.heap.size _ (prt l has (ops.take i)) (o, .slice a1 o.deps.length c1, .slice a2 o.gone.length c2) W2.heap.size (owns_kp (N := fun _ => False) (unhide O3) (Kp.of_below al) (fun _ _ e => e)) (Bx.new _ _ _) (unhide Hone) (bnext (unhide B3) al).size hpl
        have kk := Kp.of_grown (N := fun k => _ = some k) hgr (fun k hk => hk)
        have HO4 : Hid (w'.ownsRow w.heap.size 45 11 v' (prt l has (ops.take (i + 1))).length (flat encO (prt l has (ops.take (i + 1))))) := by rw [unhide Hps]; exact hown
        have HB4 := hide (kk.below (bnext (unhide B3) al) (fun k hk => ((unhide O3).lt k hk).1))
        obtain ⟨ax, cx, hv'⟩ := owns_form (unhide HO4)
        subst hv'
        replace hr := hide hr
        obtain ⟨vx, cx2, hvv⟩ := owns_form (unhide O3)
        subst hvv
        clear hown hgr kk al O3 B3 Hps Hone
        go_wp2_with (at_builtin; refine wpList_append_eq rfl _ _ 33 rfl _ _ _ _ rfl rfl (unhide hr) ?_; clear hr)
        go_roundw
        case measure => show ops.length - ((i : Int) + 1).toNat < ops.length - ((i : Nat) : Int).toNat; omega
        case rel => exact ⟨i + 1, by go_num, by omega, HO4, HB4⟩
      · have heb : (hh == has) = false := by simpa using heq
        rw [heb, if_neg (by simp)] at Hps
        have HO4 : Hid (W2.ownsRow w.heap.size 45 11 u7 (prt l has (ops.take (i + 1))).length (flat encO (prt l has (ops.take (i + 1))))) := by rw [unhide Hps]; exact unhide O3
        clear O3 Hps
        go_wp2
        go_roundw
        case measure => show ops.length - ((i : Int) + 1).toNat < ops.length - ((i : Nat) : Int).toNat; omega
        case rel => exact ⟨i + 1, by go_num, by omega, HO4, B3⟩
    · have hlt' : ¬ (i : Int) < (ops.length : Int) := by omega
      obtain rfl : i = ops.length := by omega
      rw [List.take_length] at HO
      obtain ⟨vx, cx2, hvv⟩ := owns_form (unhide HO)
      subst hvv
      go_wp2
      go_ret
      exact ⟨_, rfl, unhide HO, unhide HB⟩

end Go.Proofs.YtijjoikeceechaaGreat

/-
  The log: an operation is added.
-/
set_option linter.unusedSimpArgs false
set_option linter.unusedVariables false
namespace Go.Proofs.YtijjoikeceechaaGreat
open Go.RowKit Go.Lib

theorem run_appendO {P : Program} {o : Oper} {ρ : Operand → Value} {w : World} {v' : Value} {w' : World} (s x : Operand) (t : TypeId)
    (ho : o.op = .call { callee := .builtin .append, args := #[s, x], argTypes := #[t, t] }) {v u : Value} (hs : ρ s = v) (hx : ρ x = u) (hr : (Builtin.append_ #[t, t] o.type #[v, u]).run P w = .ok v' w') : (execOp ρ o).run P w = .ok (.value v') w' := by
  unfold execOp
  simp only [ho, resolve, invoke, builtin, Sem.run_bind, Sem.run_pure, Result.andThen_ok, List.map_toArray, List.map_cons, List.map_nil, hs, hx, hr]
theorem Kp.wk {N M : Nat → Prop} {W W' : World} (h : Kp N W W') (hm : ∀ i, N i → M i) : Kp M W W' := ⟨h.os, h.tape, h.output, h.size, fun k hk hn => h.block k hk (fun e => hn (hm k e))⟩
def AdV6 (Z : World) (o : Opn) (W : World) (v : Value) : Prop := ∃ a1 c1 a2 c2, OE (fun i => Z.heap.size ≤ i) W (o, Value.slice a1 o.deps.length c1, Value.slice a2 o.gone.length c2) ∧ v = opA o (.slice a1 o.deps.length c1) (.slice a2 o.gone.length c2)
def AdV7 (Z : World) (o : Opn) (W : World) (v : Value) : Prop := ∃ a1 c1 a2 c2 nb, OE (fun i => Z.heap.size ≤ i) W (o, Value.slice a1 o.deps.length c1, Value.slice a2 o.gone.length c2) ∧ v = .slice (some ⟨nb, 0, none⟩) 1 1 ∧ Z.heap.size ≤ nb ∧ Bx W nb 45 (encO (o, Value.slice a1 o.deps.length c1, Value.slice a2 o.gone.length c2)).toArray
def AdV8 (Z : World) (o : Opn) (vo : Value) (ops : List (Opn × Value × Value)) (W : World) (v : Value) : Prop := ∃ a1 c1 a2 c2, OE (fun i => Z.heap.size ≤ i) W (o, Value.slice a1 o.deps.length c1, Value.slice a2 o.gone.length c2) ∧ W.ownsRow 0 45 11 v (ops ++ [(o, Value.slice a1 o.deps.length c1, Value.slice a2 o.gone.length c2)]).length (flat encO (ops ++ [(o, Value.slice a1 o.deps.length c1, Value.slice a2 o.gone.length c2)])) ∧ (v.ownBlock = vo.ownBlock ∨ ∃ k, v.ownBlock = some k ∧ Z.heap.size ≤ k)
/-- behind the last store -/
def AdF (Z : World) (b : Nat) (o : Opn) (vb vh vo : Value) (ops : List (Opn × Value × Value)) (W : World) : Prop := ∃ v a1 c1 a2 c2, Bx W b 51 #[vb, vh, v] ∧ OE (fun i => Z.heap.size ≤ i) W (o, Value.slice a1 o.deps.length c1, Value.slice a2 o.gone.length c2) ∧ W.ownsRow 0 45 11 v (ops ++ [(o, Value.slice a1 o.deps.length c1, Value.slice a2 o.gone.length c2)]).length (flat encO (ops ++ [(o, Value.slice a1 o.deps.length c1, Value.slice a2 o.gone.length c2)])) ∧ (v.ownBlock = vo.ownBlock ∨ ∃ k, v.ownBlock = some k ∧ Z.heap.size ≤ k)
structure AdJ (Z : World) (b : Nat) (o : Opn) (vb vh vo : Value) (ops : List (Opn × Value × Value)) (f : Nat → Bool) (W : World) : Prop where
  kz : Kp (fun k => k = b ∨ vo.ownBlock = some k) Z W
  k0 : f 11 = false → Kp (fun k => vo.ownBlock = some k) Z W
  bz : f 8 = false → f 11 = false → Below Z.heap.size Z W
  fin : f 11 = true → AdF Z b o vb vh vo ops W
  c8 : f 11 = true → f 8 = true
theorem AdJ.nop {Z W : World} {b : Nat} {o : Opn} {vb vh vo : Value} {ops : List (Opn × Value × Value)} {f : Nat → Bool} (h : AdJ Z b o vb vh vo ops f W) (i : Nat) (h1 : (11 == i) = false) (h2 : (8 == i) = false) : AdJ Z b o vb vh vo ops (fun q => f q || q == i) W := by
  refine ⟨h.kz, ?_, ?_, ?_, ?_⟩ <;> simp only [h1, h2, Bool.or_false]
  · exact h.k0
  · exact h.bz
  · exact h.fin
  · exact h.c8
theorem AdF.kp {N : Nat → Prop} {Z W W' : World} {b : Nat} {o : Opn} {vb vh vo : Value} {ops : List (Opn × Value × Value)} (h : AdF Z b o vb vh vo ops W) (k : Kp N W W') (hn : ∀ i, ¬ N i) : AdF Z b o vb vh vo ops W' := by
  obtain ⟨v, a1, c1, a2, c2, q1, q2, q3, q4⟩ := h
  exact ⟨v, a1, c1, a2, c2, q1.kp k (hn _), q2.kp k (fun i hi => (hn i hi).elim), owns_kp q3 k (fun i _ => hn i), q4⟩
theorem AdJ.below {Z W W' : World} {b : Nat} {o : Opn} {vb vh vo : Value} {ops : List (Opn × Value × Value)} {f : Nat → Bool} (h : AdJ Z b o vb vh vo ops f W) (hb : Below W.heap.size W W') : AdJ Z b o vb vh vo ops f W' :=
  ⟨h.kz.trans (Kp.of_below (N := fun _ => False) hb) (fun i e => .inl e.elim), fun e => (h.k0 e).trans (Kp.of_below (N := fun _ => False) hb) (fun i e => .inl e.elim), fun e e' => bnext (h.bz e e') hb, fun e => (h.fin e).kp (Kp.of_below (N := fun _ => False) hb) (fun i e => e), h.c8⟩
theorem AdJ.app {Z W W' : World} {b : Nat} {o : Opn} {vb vh vo : Value} {ops : List (Opn × Value × Value)} {f : Nat → Bool} (h : AdJ Z b o vb vh vo ops f W) (kk : Kp (fun k => vo.ownBlock = some k) W W') (h11 : f 11 = false) : AdJ Z b o vb vh vo ops (fun q => f q || q == 8) W' :=
  ⟨h.kz.trans kk (fun i e => .inl (.inr e)), fun e => (h.k0 h11).trans kk (fun i e => .inl e), fun e => by simp at e, fun e => by simp [h11] at e, fun e => by simp⟩
theorem AdJ.box {Z W : World} {b : Nat} {o : Opn} {vb vh vo : Value} {ops : List (Opn × Value × Value)} {f : Nat → Bool} (h : AdJ Z b o vb vh vo ops f W) (hb : Bx Z b 51 #[vb, vh, vo]) (hbv : vo.ownBlock ≠ some b) (h11 : f 11 = false) : Bx W b 51 #[vb, vh, vo] := hb.kp (h.k0 h11) hbv
theorem AdJ.st {Z W W' : World} {b : Nat} {o : Opn} {vb vh vo : Value} {ops : List (Opn × Value × Value)} {f : Nat → Bool} (h : AdJ Z b o vb vh vo ops f W) (k : Kp (fun i => i = b) W W') (h8 : f 8 = true) (hF : AdF Z b o vb vh vo ops W') : AdJ Z b o vb vh vo ops (fun q => f q || q == 11) W' :=
  ⟨h.kz.trans k (fun i e => .inl (.inl e)), fun e => by simp at e, fun _ e => by simp at e, fun _ => hF, fun _ => by simp [h8]⟩

theorem frame_fn {a : Act} (N : Nat) (hs : a.tmps.size = N) (hd : a.defers = []) : a = { tmps := ((List.range N).map fun k => a.eval (.tmp k)).toArray, defers := [] } := by
  obtain ⟨t, d⟩ := a
  simp only at hs hd
  subst hd
  congr 1
  apply Array.ext
  · simp [hs]
  · intro i h1 h2
    simp [Act.eval, h1]
/-- a row of numbers does not lie in a log's variable -/
theorem row_ne_box {W : World} {b k n : Nat} {v v0 v1 v2 : Value} {C : List Value} (hint : ∀ (j : Nat) (x : Value), C[j]? = some x → ∃ q, x = .int .i64 q) (h : RC W v n C) (hC : C.length = n * k) (hb : Bx W b 51 #[v0, v1, v2]) (h0 : ∃ a m c, v0 = .slice a m c) (h1 : ∃ a m c, v1 = .slice a m c) (h2 : ∃ a m c, v2 = .slice a m c) (hrb : rb v n b) (hk : 0 < k := by decide) : False := by
  obtain ⟨hn, hv⟩ := hrb
  rcases h with ⟨e, _⟩ | ⟨b', off, cap, rfl, _, _, hc⟩
  · exact hn e
  simp [Value.ownBlock] at hv
  subst hv
  have hpos : 0 < C.length := by rw [hC]; exact Nat.mul_pos (by omega) hk
  obtain ⟨q, hq⟩ := hint 0 _ (List.getElem?_eq_getElem hpos)
  have hx := hc 0 _ (List.getElem?_eq_getElem hpos)
  rw [hq, Nat.add_zero] at hx
  obtain ⟨_, _, _, rfl⟩ := h0
  obtain ⟨_, _, _, rfl⟩ := h1
  obtain ⟨_, _, _, rfl⟩ := h2
  rcases off with _ | _ | _ | off
  · rw [hb.cell 0 _ rfl] at hx; simp at hx
  · rw [hb.cell 1 _ rfl] at hx; simp at hx
  · rw [hb.cell 2 _ rfl] at hx; simp at hx
  · have e : W.heap[b']? = some (.cells #[_, _, _] _ (0, 0)) := hb
    simp [World.cell?, e] at hx
theorem encI_int {l : List (Int × Int)} {j : Nat} {x : Value} (h : (flat encI l)[j]? = some x) : ∃ q, x = .int .i64 q := by
  obtain ⟨y, _, hy⟩ := flat_mem (List.mem_of_getElem? h)
  unfold encI at hy
  simp at hy
  rcases hy with rfl | rfl <;> exact ⟨_, rfl⟩
theorem encR_int {l : List ((Int × Int) × Int)} {j : Nat} {x : Value} (h : (flat encR l)[j]? = some x) : ∃ q, x = .int .i64 q := by
  obtain ⟨y, _, hy⟩ := flat_mem (List.mem_of_getElem? h)
  unfold encR at hy
  simp at hy
  rcases hy with rfl | rfl | rfl <;> exact ⟨_, rfl⟩

/-- the error of an operation that is added -/
def addE (hv : List (Int × Int)) (o : Opn) : Int := if okO o = true then (if cov (sy hv) (sy o.deps) = true then (addV hv (o.ds, o.dq)).2 else 9) else 10
theorem addE_bad {hv : List (Int × Int)} {o : Opn} (h : ¬ okO o = true) : addE hv o = 10 := by unfold addE; rw [if_neg h]
theorem addE_cov {hv : List (Int × Int)} {o : Opn} (h : okO o = true) (h2 : cov (sy hv) (sy o.deps) = false) : addE hv o = 9 := by unfold addE; rw [if_pos h, if_neg (by simp [h2])]
theorem addE_ok {hv : List (Int × Int)} {o : Opn} (h : okO o = true) (h2 : cov (sy hv) (sy o.deps) = true) : addE hv o = (addV hv (o.ds, o.dq)).2 := by unfold addE; rw [if_pos h, if_pos h2]
theorem addV_len (l : List (Int × Int)) (d : Int × Int) : (addV l d).1.length ≤ 17 := by
  obtain ⟨x0, x1⟩ := d
  rcases addV_ways l x0 x1 with ⟨_, e⟩ | ⟨_, _, e⟩ | ⟨_, _, _, e⟩ | ⟨_, _, _, _, e⟩ | ⟨_, _, _, _, e⟩ <;> rw [e]
  · simp
  · simp
  · simp
  · simp
  · exact vec_len _

set_option maxRecDepth 100000 in
theorem Add_nil (o : Opn) (vd vg : Value) (w : World) : Calls Tryz.prog 21 #[.pointer none, opA o vd vg] w fun e W => e = .returned (.int .i64 1) ∧ Below w.heap.size w W := by
  unfold opA
  have bX := ballc (Below.refl w.heap.size w) (.cells #[.int .i64 o.ds, .int .i64 o.dq, vd, .int .i64 o.kind, .int .i64 o.it, .int .i64 o.is, .int .i64 o.rt, .int .i64 o.rs, .string o.text, vg, .int .i64 o.site] 45)
  go_enter Tryz.func21, Tryz.ntmps21
  go_wp2
  go_ret
  exact ⟨rfl, bX⟩

/-- what Add leaves -/
def AddA (P : Nat → Prop) (w : World) (b : Nat) (base hv : List (Int × Int)) (os : List Opn) (o : Opn) (e : Ending) (W : World) : Prop :=
  e = .returned (.int .i64 (addE hv o)) ∧ LL (fun i => P i ∨ w.heap.size ≤ i) W b base (if addE hv o = 0 then (addV hv (o.ds, o.dq)).1 else hv) (if addE hv o = 0 then os ++ [o] else os) ∧ Kp P w W

set_option maxRecDepth 100000 in
set_option maxHeartbeats 16000000 in
theorem LAdd_in {P : Nat → Prop} {w : World} {b : Nat} {base hv : List (Int × Int)} {os : List Opn} (hL : LL P w b base hv os) (hP : ∀ i, P i → i < w.heap.size) (hn0 : os.length ≤ 1000000) (o : Opn) (ad ag : Option Addr) (cd cg : Nat) (hd : RI w (.slice ad o.deps.length cd) o.deps) (hg : RR w (.slice ag o.gone.length cg) o.gone) (hi : InO o) (h1 : o.deps.length ≤ 1000000) (h2 : o.gone.length ≤ 1000000) (h3 : o.text.size ≤ 1000000) :
    Calls Tryz.prog 21 #[.pointer (some ⟨b, 0, none⟩), .agg #[.int .i64 o.ds, .int .i64 o.dq, .slice ad o.deps.length cd, .int .i64 o.kind, .int .i64 o.it, .int .i64 o.is, .int .i64 o.rt, .int .i64 o.rs, .string o.text, .slice ag o.gone.length cg, .int .i64 o.site]] w (AddA P w b base hv os o) := by
  have hL0 := hL
  obtain ⟨vb, vh, vo, ops, h, rfl⟩ := hL
  rw [List.length_map] at hn0
  have hn := hn0
  obtain ⟨av, cv, rfl⟩ := OwD.form h.rh
  obtain ⟨avb, cvb, rfl⟩ := OwD.form h.rb
  obtain ⟨X, hX⟩ : ∃ X, w.alloc (.cells #[.int .i64 o.ds, .int .i64 o.dq, .slice ad o.deps.length cd, .int .i64 o.kind, .int .i64 o.it, .int .i64 o.is, .int .i64 o.rt, .int .i64 o.rs, .string o.text, .slice ag o.gone.length cg, .int .i64 o.site] 45) = X := ⟨_, rfl⟩
  have x1 : Bx X w.heap.size 45 #[.int .i64 o.ds, .int .i64 o.dq, .slice ad o.deps.length cd, .int .i64 o.kind, .int .i64 o.it, .int .i64 o.is, .int .i64 o.rt, .int .i64 o.rs, .string o.text, .slice ag o.gone.length cg, .int .i64 o.site] := by rw [← hX]; exact Bx.new w _ _
  have bX : Below w.heap.size w X := by rw [← hX]; exact ballc (Below.refl _ _) _
  have HC := hide (OCheck_in o (.slice ad o.deps.length cd) (.slice ag o.gone.length cg) X (hd.below bX) (RC.below hg bX) hi)
  unfold opA at HC
  have HX := hide x1
  have B0 := hide bX
  have Hh := hide h
  have Hd0 := hide (hd.below bX)
  have Hg0 := hide (RC.below hg bX)
  obtain ⟨p0, p1, p2, p3, p4, p5, p6, p7, p8, p9, p10⟩ := cells_op x1
  have xl := x1.lt
  have c1 := (h.below bX).box.cell 1 _ rfl
  have bl := (h.below bX).box.lt
  have hblt : b < w.heap.size := h.box.lt
  -- nothing is changed
  have HF : Hid (∀ W, Below w.heap.size w W → addE hv o ≠ 0 → AddA P w b base hv (ops.map Prod.fst) o (.returned (.int .i64 (addE hv o))) W) := fun W hb he => ⟨rfl, by rw [if_neg he, if_neg he]; exact (hL0.below hb).mono (fun i hi => .inl hi), Kp.of_below hb⟩
  clear hL0 hd hg x1 bX h
  by_cases hok : okO o = true
  rotate_left
  · have hc : chkO o = 10 := by unfold chkO; rw [if_neg hok]
    have HE := hide (addE_bad (hv := hv) hok)
    rw [hc] at HC
    clear hok hc
    go_enter Tryz.func21, Tryz.ntmps21
    go_wp2_with fail
    refine (unhide HC).mono ?_
    rintro r W1 ⟨rfl, hb1⟩
    have HB := hide (bnext (unhide B0) hb1)
    clear hb1
    go_wp2
    go_ret
    have := unhide HF _ (unhide HB) (by rw [unhide HE]; decide)
    rw [unhide HE] at this
    exact this
  have hc : chkO o = 0 := by unfold chkO; rw [if_pos hok]
  have Hok := hide hok
  rw [hc] at HC
  clear hok hc
  have HCo := hide (fun (W : World) (hb : Hid (Below X.heap.size X W)) => Covers_in _ _ hv o.deps W (((unhide Hh).below (unhide B0)).below (unhide hb)).rh.row ((unhide Hd0).below (unhide hb)) (by have := (unhide Hh).lh; omega) (by omega))
  have HVa := hide (fun (W : World) (hb : Hid (Below X.heap.size X W)) => Add_in _ hv o.ds o.dq W (((unhide Hh).below (unhide B0)).below (unhide hb)).rh.row (by have := (unhide Hh).lh; omega) (by have := hi.dq; unfold in64 at this; omega))
  go_enter Tryz.func21, Tryz.ntmps21
  go_wp2_with fail
  refine (unhide HC).mono ?_
  rintro r W1 ⟨rfl, hb1⟩
  clear HC p0 p1 p2 p3 p4 p5 p6 p7 p8 p9 p10 c1 hX
  have HX1 := hide ((unhide HX).below hb1)
  obtain ⟨p0, p1, p2, p3, p4, p5, p6, p7, p8, p9, p10⟩ := cells_op (unhide HX1)
  have c1 := (((unhide Hh).below (unhide B0)).below hb1).box.cell 1 _ rfl
  have HB1 := hide hb1
  have hb1' : Hid (Below X.heap.size X W1.drew) := hb1.drew
  clear hb1
  cases hcv : cov (sy hv) (sy o.deps)
  · rw [hcv] at HCo
    have HE := hide (addE_cov (unhide Hok) hcv)
    clear hcv
    go_wp2_with fail
    go_region_held3 (fun w' => w'.cell? ⟨b, 1, none⟩ = some (.slice av hv.length cv) ∧ w'.cell? ⟨w.heap.size, 2, none⟩ = some (.slice ad o.deps.length cd) ∧ Hid (Below X.heap.size X w'))
      (first
        | (exact ⟨c1, p2, hb1'⟩)
        | (go_split_ands
           exact ⟨cell_below (by assumption) hb, cell_below (by assumption) hb, hide (bnext (unhide (by assumption)) hb)⟩)
        | go_keep)
      (first
        | (go_split_ands; go_at_call 44; refine (unhide HCo _ (by assumption)).mono ?_; rintro e w' ⟨rfl, hb⟩))
    go_split_ands
    have HB := hide (bnext (unhide B0) (unhide (by assumption : Hid (Below X.heap.size X _))))
    go_wp2
    go_ret
    have := unhide HF _ (unhide HB) (by rw [unhide HE]; decide)
    rw [unhide HE] at this
    exact this
  rw [hcv] at HCo
  have HE := hide (addE_ok (unhide Hok) hcv)
  clear hcv
  go_wp2_with fail
  go_region_held3 (fun w' => w'.cell? ⟨b, 1, none⟩ = some (.slice av hv.length cv) ∧ w'.cell? ⟨w.heap.size, 2, none⟩ = some (.slice ad o.deps.length cd) ∧ Hid (Below X.heap.size X w'))
    (first
      | (exact ⟨c1, p2, hb1'⟩)
      | (go_split_ands
         exact ⟨cell_below (by assumption) hb, cell_below (by assumption) hb, hide (bnext (unhide (by assumption)) hb)⟩)
      | go_keep)
    (first
      | (go_split_ands; go_at_call 44; refine (unhide HCo _ (by assumption)).mono ?_; rintro e W2 ⟨rfl, hb⟩))
  have HB2 : Hid (Below X.heap.size X W2) := by go_split_ands; assumption
  clear HCo c1 p0 p1 p2 p3 p4 p5 p6 p7 p8 p9 p10 HX1 HB1 hb1' hb
  have HX2 := hide ((unhide HX).below (unhide HB2))
  obtain ⟨p0, p1, p2, p3, p4, p5, p6, p7, p8, p9, p10⟩ := cells_op (unhide HX2)
  have c1 := (((unhide Hh).below (unhide B0)).below (unhide HB2)).box.cell 1 _ rfl
  have hb2' : Hid (Below X.heap.size X W2.drew) := (unhide HB2).drew
  obtain ⟨⟨hv2, er⟩, hAV⟩ : ∃ A, addV hv (o.ds, o.dq) = A := ⟨_, rfl⟩
  have hvl : hv2.length ≤ 17 := by have := addV_len hv (o.ds, o.dq); rw [hAV] at this; exact this
  rw [hAV] at HVa HE
  simp only at HVa HE
  have HAV := hide hAV
  clear hAV
  go_wp2_with fail
  go_region_held3 (fun w' => w'.cell? ⟨b, 1, none⟩ = some (.slice av hv.length cv) ∧ w'.cell? ⟨w.heap.size, 0, none⟩ = some (.int .i64 o.ds) ∧ w'.cell? ⟨w.heap.size, 1, none⟩ = some (.int .i64 o.dq) ∧ Hid (Below X.heap.size X w'))
    (first
      | (exact ⟨c1, p0, p1, hb2'⟩)
      | (go_split_ands
         exact ⟨cell_below (by assumption) hb, cell_below (by assumption) hb, cell_below (by assumption) hb, hide (bnext (unhide (by assumption)) hb)⟩)
      | go_keep)
    (first
      | (go_split_ands; go_at_call 45; refine (unhide HVa _ (by assumption)).mono ?_; rintro e W3 ⟨v3, rfl, ho3, hb⟩; obtain ⟨a3, c3, hv3⟩ := OwD.form ho3; subst hv3; replace ho3 := hide ho3))
  have HB3 : Hid (Below X.heap.size X W3) := by go_split_ands; assumption
  have hz2 := (unhide hb2').size
  clear HVa c1 p0 p1 p2 p3 p4 p5 p6 p7 p8 p9 p10 HX2 HB2 hb2' hb
  by_cases her : er = 0
  rotate_left
  · have her' : (er == 0) = false := by simpa using her
    have HB := hide (bnext (unhide B0) (unhide HB3))
    go_wp2
    go_ret
    have := unhide HF _ (unhide HB) (by rw [unhide HE]; exact her)
    rw [unhide HE] at this
    exact this
  subst her
  have h3' := ((unhide Hh).below (unhide B0)).below (unhide HB3)
  have HX3 := (unhide HX).below (unhide HB3)
  have w1 := h3'.box.cell 1 _ rfl
  have wf := h3'.box.frozen 1
  have wl := h3'.box.lt
  obtain ⟨Z, hZ⟩ : ∃ Z, W3.setCell ⟨b, 1, none⟩ (.slice a3 hv2.length c3) = Z := ⟨_, rfl⟩
  have kZ : Kp (fun i => i = b) W3 Z := by rw [← hZ]; exact Kp.set _ _ _ rfl
  obtain ⟨avo, cvo, hvo⟩ := owns_form h3'.ro
  have hbv : vo.ownBlock ≠ some b := own_ne_box h3'.ro h3'.box (by decide)
  have Hbv := hide hbv
  have Hbx : Hid (Bx Z b 51 #[.slice avb base.length cvb, .slice a3 hv2.length c3, vo]) := by rw [← hZ]; have := h3'.box.set 1 (.slice a3 hv2.length c3); exact hide (by simpa using this)
  have Hro : Hid (Z.ownsRow 0 45 11 vo ops.length (flat encO ops)) := owns_kp h3'.ro kZ (fun i hi e => hbv (by rw [hi, e]))
  have hne0 : ∀ (v : Value) (l : List (Int × Int)), RI W3 v l → rb v l.length b → False := fun v l hr hrb => row_ne_box (k := 2) (fun j x hx => encI_int hx) hr (flat_len encI_lenT l) h3'.box ⟨_, _, _, rfl⟩ ⟨_, _, _, rfl⟩ ⟨_, _, _, hvo⟩ hrb
  have hne1 : ∀ (v : Value) (l : List ((Int × Int) × Int)), RR W3 v l → rb v l.length b → False := fun v l hr hrb => row_ne_box (k := 3) (fun j x hx => encR_int hx) hr (flat_len encR_lenT l) h3'.box ⟨_, _, _, rfl⟩ ⟨_, _, _, rfl⟩ ⟨_, _, _, hvo⟩ hrb
  have d3 := (unhide Hd0).below (unhide HB3)
  have g3 := RC.below (unhide Hg0) (unhide HB3)
  replace Hd0 := hide (RC.kpn d3 kZ (fun i hi e => by subst e; exact hne0 _ _ d3 hi))
  replace Hg0 := hide (RC.kpn g3 kZ (fun i hi e => by subst e; exact hne1 _ _ g3 hi))
  have Hbz := hide (show b < Z.heap.size from Nat.lt_of_lt_of_le wl kZ.size)
  have Hvl := hide (fun i (hi : vo.ownBlock = some i) => ((unhide Hro).lt i hi).2)
  have C1 := hide (fun (W : World) (k : Kp (fun k => vo.ownBlock = some k) Z W) => ((unhide Hbx).kp k (unhide Hbv)).cell 2 _ rfl)
  have HXZ := HX3.kp kZ (by omega)
  have hvo0 : ∀ i, vo.ownBlock = some i → i < w.heap.size := fun i hi => ((unhide Hh).ro.lt i hi).2
  have C2 := hide (fun (W : World) (k : Kp (fun k => k = b ∨ vo.ownBlock = some k) Z W) => cells_op (HXZ.kp k (fun e => e.elim (fun e => by omega) (fun e => by have := hvo0 _ e; omega))))
  have J0 : Hid (AdJ Z b o (.slice avb base.length cvb) (.slice a3 hv2.length c3) vo ops (fun _ => false) Z.drew) := ⟨Kp.of_below (Below.refl _ _).drew, fun _ => Kp.of_below (Below.refl _ _).drew, fun _ _ => (Below.refl _ _).drew, fun e => Bool.noConfusion e, fun e => Bool.noConfusion e⟩
  have H3 := hide h3'
  have KZ := hide kZ
  clear hne0 hne1 d3 g3 HX3 HXZ h3' hbv
  go_wp2
  refine wp_region_any (by kernel_rfl) ?_
  change wpAny _ _ _ _ _ _ _ (World.drew _)
  refine region_ss 51 (fun j => if j = 11 then 100 else 40 + j) ((0, (Value.pointer (some { block := b, off := 0 }))) :: (3, (Value.pointer (some { block := w.heap.size, off := 0 }))) :: []) (AdJ Z b o (.slice avb base.length cvb) (.slice a3 hv2.length c3) vo ops) (valsOf [isV (Value.pointer (some { block := b, off := 0 })), isV (Value.pointer (some { block := b, off := 0 })), isV (Value.pointer (some { block := b, off := 0 })), isV (Value.pointer (some { block := b, off := 2 })), isV vo, isV (.agg #[.int .i64 o.ds, .int .i64 o.dq, .slice ad o.deps.length cd, .int .i64 o.kind, .int .i64 o.it, .int .i64 o.is, .int .i64 o.rt, .int .i64 o.rs, .string o.text, .slice ag o.gone.length cg, .int .i64 o.site]), (AdV6 Z o), (AdV7 Z o), (AdV8 Z o vo ops), isV (Value.pointer (some { block := b, off := 0 })), isV (Value.pointer (some { block := b, off := 2 })), (fun _ _ => True)]) (fun i w1 w2 => Kp (fun k => (i = 8 ∧ vo.ownBlock = some k) ∨ (i = 11 ∧ k = b)) w1 w2) [] ?fit ?stable ?none ?steps ?fin _ _ ?sz rfl ?base (unhide J0)
  case fit => kernel_rfl
  case sz => rfl
  case base => intro p hp; repeat (first | (rcases List.mem_cons.1 hp with rfl | hp; · rfl) | cases hp)
  case none =>
    intro j o' ho hdn w1 v
    have hj : j < 12 := (Array.getElem?_eq_some_iff.1 ho).1
    obtain rfl | rfl | rfl | rfl | rfl | rfl | rfl | rfl | rfl | rfl | rfl | rfl : j = 0 ∨ j = 1 ∨ j = 2 ∨ j = 3 ∨ j = 4 ∨ j = 5 ∨ j = 6 ∨ j = 7 ∨ j = 8 ∨ j = 9 ∨ j = 10 ∨ j = 11 := by omega
    all_goals first | exact trivial | (exfalso; have e := Option.some.inj ho; rw [← e] at hdn; cases hdn)
  case stable =>
    intro j i f w1 w2 v hfj hfi hJ hv hG
    have hnz : ∀ k, ((i = 8 ∧ vo.ownBlock = some k) ∨ (i = 11 ∧ k = b)) → ¬ Z.heap.size ≤ k := fun k hk h => by
      rcases hk with ⟨_, hk⟩ | ⟨_, hk⟩
      · have := unhide Hvl k hk; omega
      · have := unhide Hbz; omega
    rcases Nat.lt_or_ge j 12 with hj | hj
    · obtain rfl | rfl | rfl | rfl | rfl | rfl | rfl | rfl | rfl | rfl | rfl | rfl : j = 0 ∨ j = 1 ∨ j = 2 ∨ j = 3 ∨ j = 4 ∨ j = 5 ∨ j = 6 ∨ j = 7 ∨ j = 8 ∨ j = 9 ∨ j = 10 ∨ j = 11 := by omega
      · exact hv
      · exact hv
      · exact hv
      · exact hv
      · exact hv
      · exact hv
      · obtain ⟨a1, c1, a2, c2, q1, q2⟩ := hv
        exact ⟨a1, c1, a2, c2, q1.kp hG hnz, q2⟩
      · obtain ⟨a1, c1, a2, c2, nb, q1, q2, q3, q4⟩ := hv
        exact ⟨a1, c1, a2, c2, nb, q1.kp hG hnz, q2, q3, q4.kp hG (fun e => hnz _ e q3)⟩
      · obtain ⟨a1, c1, a2, c2, q1, q2, q3⟩ := hv
        refine ⟨a1, c1, a2, c2, q1.kp hG hnz, owns_kp q2 hG (fun k hk e => ?_), q3⟩
        rcases e with ⟨e, _⟩ | ⟨_, e⟩
        · rw [e] at hfi; rw [hfi] at hfj; cases hfj
        · rcases q3 with q3 | ⟨k', q3, hk'⟩
          · exact unhide Hbv (by rw [← q3, hk, e])
          · rw [q3] at hk; simp at hk; have := unhide Hbz; omega
      · exact hv
      · exact hv
      · exact trivial
    · unfold valsOf
      rw [List.getD_eq_getElem?_getD, List.getElem?_eq_none (by simpa using hj)]
      exact trivial
  case steps =>
    refine .cons (fun f ρ wz hf hfe hρ hJ hb hd => by
      refine StepU.ok (by decide) ?_
      have d0 : ρ (.tmp 0) = (Value.pointer (some { block := b, off := 0 })) := hb (0, _) (List.mem_of_getElem? (i := 0) rfl)
      exact step_move (.tmp 0) rfl ⟨Kp.refl _ _, hJ.nop 0 (by decide) (by decide), d0⟩) ?_
    refine .cons (fun f ρ wz hf hfe hρ hJ hb hd => by
      refine StepU.ok (by decide) ?_
      have d0 : ρ (.tmp 0) = (Value.pointer (some { block := b, off := 0 })) := hb (0, _) (List.mem_of_getElem? (i := 0) rfl)
      exact step_move (.tmp 0) rfl ⟨Kp.refl _ _, hJ.nop 1 (by decide) (by decide), d0⟩) ?_
    refine .cons (fun f ρ wz hf hfe hρ hJ hb hd => by
      refine StepU.ok (by decide) ?_
      have d0 : ρ (.tmp 41) = (Value.pointer (some { block := b, off := 0 })) := hd 0 _ rfl rfl
      exact step_val (v := (Value.pointer (some { block := b, off := 0 }))) (w' := wz) (by simp [go_sem, execOp, d0]) ⟨Kp.refl _ _, hJ.nop 2 (by decide) (by decide), rfl⟩) ?_
    refine .cons (fun f ρ wz hf hfe hρ hJ hb hd => by
      refine StepU.ok (by decide) ?_
      have d0 : ρ (.tmp 42) = (Value.pointer (some { block := b, off := 0 })) := hd 0 _ rfl rfl
      exact step_val (v := (Value.pointer (some { block := b, off := 2 }))) (w' := wz) (by simp [go_sem, execOp, d0]) ⟨Kp.refl _ _, hJ.nop 3 (by decide) (by decide), rfl⟩) ?_
    refine .cons (fun f ρ wz hf hfe hρ hJ hb hd => by
      refine StepU.ok (by decide) ?_
      have d0 : ρ (.tmp 43) = (Value.pointer (some { block := b, off := 2 })) := hd 0 _ rfl rfl
      have x0 := unhide C1 _ (hJ.k0 (hf 11 (.inr (by decide +kernel))))
      exact step_val (v := vo) (w' := wz) (by simp [go_sem, execOp, d0, x0]) ⟨Kp.refl _ _, hJ.nop 4 (by decide) (by decide), rfl⟩) ?_
    refine .cons (fun f ρ wz hf hfe hρ hJ hb hd => by
      refine StepU.ok (by decide) ?_
      have d0 : ρ (.tmp 3) = (Value.pointer (some { block := w.heap.size, off := 0 })) := hb (3, _) (List.mem_of_getElem? (i := 1) rfl)
      obtain ⟨x0, x1, x2, x3, x4, x5, x6, x7, x8, x9, x10⟩ := unhide C2 _ hJ.kz
      exact step_val (v := (.agg #[.int .i64 o.ds, .int .i64 o.dq, .slice ad o.deps.length cd, .int .i64 o.kind, .int .i64 o.it, .int .i64 o.is, .int .i64 o.rt, .int .i64 o.rs, .string o.text, .slice ag o.gone.length cg, .int .i64 o.site])) (w' := wz) (by simp [go_sem, execOp, d0, x0, x1, x2, x3, x4, x5, x6, x7, x8, x9, x10]) ⟨Kp.refl _ _, hJ.nop 5 (by decide) (by decide), rfl⟩) ?_
    refine .cons (fun f ρ wz hf hfe hρ hJ hb hd => by
      refine StepU.ok (by decide) ?_
      have d0 : ρ (.tmp 45) = (.agg #[.int .i64 o.ds, .int .i64 o.dq, .slice ad o.deps.length cd, .int .i64 o.kind, .int .i64 o.it, .int .i64 o.is, .int .i64 o.rt, .int .i64 o.rs, .string o.text, .slice ag o.gone.length cg, .int .i64 o.site]) := hd 0 _ rfl rfl
      refine step_func 41 _ _ #[.agg #[.int .i64 o.ds, .int .i64 o.dq, .slice ad o.deps.length cd, .int .i64 o.kind, .int .i64 o.it, .int .i64 o.is, .int .i64 o.rt, .int .i64 o.rs, .string o.text, .slice ag o.gone.length cg, .int .i64 o.site]] hρ rfl (enters_of Tryz.func41 (by kernel_rfl) rfl) (by simp [d0]) ?_
      have hbz := hJ.bz (hf 8 (.inr (by decide +kernel))) (hf 11 (.inr (by decide +kernel)))
      refine (clone_in o ad ag cd cg wz ((unhide Hd0).below hbz) (RC.below (unhide Hg0) hbz) h1 h2 h3).mono ?_
      rintro r W' ⟨vd', vg', rfl, ho, hg', hb2⟩
      obtain ⟨a1, c1, rfl⟩ := OwD.form ho
      obtain ⟨a2, c2, rfl⟩ := OwR.form hg'
      exact ⟨_, rfl, Kp.of_below hb2, (hJ.below hb2).nop 6 (by decide) (by decide), a1, c1, a2, c2, ⟨ho.b0, hg'.b0, fun k hk => Nat.le_trans hbz.size (ho.lt k hk).1, fun k hk => Nat.le_trans hbz.size (hg'.lt k hk).1, h1, h2, h3⟩, rfl⟩) ?_
    refine .cons (fun f ρ wz hf hfe hρ hJ hb hd => by
      refine StepU.ok (by decide) ?_
      obtain ⟨a1, c1, a2, c2, hoe, d0⟩ : AdV6 Z o wz (ρ (.tmp 46)) := hd 0 _ rfl rfl
      have al := ballc (Below.refl wz.heap.size wz) (.cells #[.int .i64 o.ds, .int .i64 o.dq, .slice a1 o.deps.length c1, .int .i64 o.kind, .int .i64 o.it, .int .i64 o.is, .int .i64 o.rt, .int .i64 o.rs, .string o.text, .slice a2 o.gone.length c2, .int .i64 o.site] 45)
      unfold opA at d0
      exact step_val (v := .slice (some ⟨wz.heap.size, 0, none⟩) 1 1) (w' := wz.alloc (.cells #[.int .i64 o.ds, .int .i64 o.dq, .slice a1 o.deps.length c1, .int .i64 o.kind, .int .i64 o.it, .int .i64 o.is, .int .i64 o.rt, .int .i64 o.rs, .string o.text, .slice a2 o.gone.length c2, .int .i64 o.site] 45)) (by simp [go_sem, execOp, d0]) ⟨Kp.of_below al, (hJ.below al).nop 7 (by decide) (by decide), a1, c1, a2, c2, wz.heap.size, hoe.below al, rfl, hJ.kz.size, Bx.new _ _ _⟩) ?_
    refine .cons (fun f ρ wz hf hfe hρ hJ hb hd => by
      refine StepU.ok (by decide) ?_
      have d0 : ρ (.tmp 44) = vo := hd 0 _ rfl rfl
      obtain ⟨a1, c1, a2, c2, nb, hoe, d1, hnb, hbx⟩ : AdV7 Z o wz (ρ (.tmp 47)) := hd 1 _ rfl rfl
      have hbz := hJ.bz (hf 8 (.inl rfl)) (hf 11 (.inr (by decide +kernel)))
      obtain ⟨v', w', hr, hown, hgr, hat⟩ := append_op wz 33 0 vo ops (o, Value.slice a1 o.deps.length c1, Value.slice a2 o.gone.length c2) nb (owns_kp (N := fun _ => False) (unhide Hro) (Kp.of_below hbz) (fun _ _ x => x)) hbx hoe.one (Nat.zero_le _) hn
      have kk := Kp.of_grown (N := fun k => vo.ownBlock = some k) hgr (fun k hk => hk)
      refine step_val (v := v') (w' := w') (run_appendO (.tmp 44) (.tmp 47) 33 rfl d0 d1 hr) ⟨kk.wk (fun i hi => .inl ⟨rfl, hi⟩), hJ.app kk (hf 11 (.inr (by decide +kernel))), a1, c1, a2, c2, hoe.kp kk (fun i hi h => by have := unhide Hvl i hi; omega), hown, ?_⟩
      rcases hat with hat | hat
      · exact .inl hat
      · exact .inr ⟨_, hat, hJ.kz.size⟩) ?_
    refine .cons (fun f ρ wz hf hfe hρ hJ hb hd => by
      refine StepU.ok (by decide) ?_
      have d0 : ρ (.tmp 40) = (Value.pointer (some { block := b, off := 0 })) := hd 0 _ rfl rfl
      exact step_val (v := (Value.pointer (some { block := b, off := 0 }))) (w' := wz) (by simp [go_sem, execOp, d0]) ⟨Kp.refl _ _, hJ.nop 9 (by decide) (by decide), rfl⟩) ?_
    refine .cons (fun f ρ wz hf hfe hρ hJ hb hd => by
      refine StepU.ok (by decide) ?_
      have d0 : ρ (.tmp 49) = (Value.pointer (some { block := b, off := 0 })) := hd 0 _ rfl rfl
      exact step_val (v := (Value.pointer (some { block := b, off := 2 }))) (w' := wz) (by simp [go_sem, execOp, d0]) ⟨Kp.refl _ _, hJ.nop 10 (by decide) (by decide), rfl⟩) ?_
    refine .cons (fun f ρ wz hf hfe hρ hJ hb hd => by
      have d0 : ρ (.tmp 50) = (Value.pointer (some { block := b, off := 2 })) := hd 0 _ rfl rfl
      obtain ⟨a1, c1, a2, c2, hoe, hown, hat⟩ : AdV8 Z o vo ops wz (ρ (.tmp 48)) := hd 1 _ rfl rfl
      obtain ⟨av', cv', hv⟩ := owns_form hown
      rw [hv] at hown hat
      have bx := hJ.box (unhide Hbx) (unhide Hbv) (hf 11 (.inl rfl))
      have x0 := bx.cell 2 _ rfl
      have x1 := bx.frozen 2
      have x2 := bx.lt
      have k := Kp.set (N := fun i => i = b) wz ⟨b, 2, none⟩ (.slice av' (ops ++ [(o, Value.slice a1 o.deps.length c1, Value.slice a2 o.gone.length c2)]).length cv') rfl
      refine StepU.st _ (.tmp 50) (.tmp 48) rfl rfl (w' := wz.setCell ⟨b, 2, none⟩ (.slice av' (ops ++ [(o, Value.slice a1 o.deps.length c1, Value.slice a2 o.gone.length c2)]).length cv')) (by rw [d0, hv]; simp [go_sem, x0, x1, x2]) ⟨k.wk (fun i hi => .inr ⟨rfl, hi⟩), hJ.st k (hfe 1 _ rfl rfl) ?_, trivial⟩
      have hb2 := bx.set 2 (.slice av' (ops ++ [(o, Value.slice a1 o.deps.length c1, Value.slice a2 o.gone.length c2)]).length cv')
      refine ⟨_, a1, c1, a2, c2, by simpa using hb2, hoe.kp k (fun i hi h => by have := unhide Hbz; omega), owns_kp hown k (fun i hi e => ?_), hat⟩
      rcases hat with hat | ⟨q, hat, hq⟩
      · exact unhide Hbv (by rw [← hat, hi, e])
      · rw [hat] at hi; simp at hi; have := unhide Hbz; omega) ?_
    exact .nil _
  case fin =>
    intro a W5 hsz2 hds hb hJ hv
    obtain ⟨f, hf, hJ⟩ := hJ
    have hF := hide (hJ.fin (hf 11 (by decide)))
    have hK := hide hJ.kz
    obtain ⟨u, rfl⟩ : ∃ u : Nat → Value, a = ⟨#[u 0, u 1, u 2, u 3, u 4, u 5, u 6, u 7, u 8, u 9, u 10, u 11, u 12, u 13, u 14, u 15, u 16, u 17, u 18, u 19, u 20, u 21, u 22, u 23, u 24, u 25, u 26, u 27, u 28, u 29, u 30, u 31, u 32, u 33, u 34, u 35, u 36, u 37, u 38, u 39, u 40, u 41, u 42, u 43, u 44, u 45, u 46, u 47, u 48, u 49, u 50], []⟩ := ⟨fun k => a.eval (.tmp k), frame_fn 51 hsz2 hds⟩
    clear hJ hb hv hf hds hsz2
    go_wp2
    go_ret
    obtain ⟨v, a1, c1, a2, c2, q1, q2, q3, q4⟩ := unhide hF
    have h3w := unhide H3
    have k35 : Kp (fun k => k = b ∨ vo.ownBlock = some k) W3 W5 := ((unhide KZ).wk (fun i e => .inl e)).trans (unhide hK) (fun i e => .inl e)
    have KW : Kp (fun k => k = b ∨ vo.ownBlock = some k) w W5 := (Kp.of_below (bnext (unhide B0) (unhide HB3))).trans k35 (fun i e => .inl e)
    have tD : ∀ {B n : Nat} {v : Value} {C : List Value}, W3.ownsRow B 28 2 v n C → ∀ i, v.ownBlock = some i → ¬ (i = b ∨ vo.ownBlock = some i) := fun hr i hi e => by
      rcases e with e | e
      · exact own_ne_box hr h3w.box (by decide) (by rw [hi, e])
      · exact own_ne_own hr h3w.ro (by decide) i hi e
    have tR : ∀ {B n : Nat} {v : Value} {C : List Value}, W3.ownsRow B 81 3 v n C → ∀ i, v.ownBlock = some i → ¬ (i = b ∨ vo.ownBlock = some i) := fun hr i hi e => by
      rcases e with e | e
      · exact own_ne_box hr h3w.box (by decide) (by rw [hi, e])
      · exact own_ne_own hr h3w.ro (by decide) i hi e
    have hzz : w.heap.size ≤ Z.heap.size := by have := (unhide B0).size; have := (unhide HB3).size; have := (unhide KZ).size; omega
    refine ⟨by rw [unhide HE]; rfl, ?_, KW.wk (fun i e => ?_)⟩
    · rw [if_pos (unhide HE), if_pos (unhide HE), unhide HAV]
      refine ⟨_, _, v, ops ++ [(o, Value.slice a1 o.deps.length c1, Value.slice a2 o.gone.length c2)], ⟨q1, owns_kp h3w.rb k35 (tD h3w.rb), owns_kp (unhide ho3).b0 k35 (tD (unhide ho3)), q3, fun e he => ?_, .inl h3w.pb, fun k hk => .inl (h3w.pvb k hk), fun k hk => .inr ?_, fun k hk => ?_, h3w.lb, by simp only; omega⟩, by simp⟩
      · rcases List.mem_append.1 he with he | he
        · have oe := h3w.re e he
          exact ⟨owns_kp oe.d k35 (tD oe.d), owns_kp oe.g k35 (tR oe.g), fun k hk => .inl (oe.pd k hk), fun k hk => .inl (oe.pg k hk), oe.s1, oe.s2, oe.s3⟩
        · simp only [List.mem_singleton] at he
          subst he
          exact q2.mono (fun i hi => .inr (by omega))
      · have := ((unhide ho3).lt k hk).1
        have := (unhide B0).size
        omega
      · rcases q4 with q4 | ⟨k', q4, hk'⟩
        · exact .inl (h3w.pvo k (by rw [← q4]; exact hk))
        · rw [q4] at hk
          simp at hk
          exact .inr (by omega)
    · rcases e with e | e
      · rw [e]; exact h3w.pb
      · exact h3w.pvo i e

end Go.Proofs.YtijjoikeceechaaGreat
