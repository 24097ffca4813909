/-
  The log: a part of it.
-/
import Derived.Test.YtehmbbnmjiojgaaZLG2
import Derived.Laws.OwnMore
set_option linter.unusedSimpArgs false
set_option linter.unusedVariables false
namespace Go.Proofs.Ytehmbbnmjiojgaa
open Go.RowKit Go.Lib

/-- those of which a vector has the Dot, or has it not -/
def prt (l : List (Int × Int)) (has : Bool) (ops : List (Opn × Value × Value)) : List (Opn × Value × Value) := ops.filter fun e => hasV l (e.1.ds, e.1.dq) == has
theorem prt_snoc (l : List (Int × Int)) (has : Bool) (ops : List (Opn × Value × Value)) (e : Opn × Value × Value) : prt l has (ops ++ [e]) = if (hasV l (e.1.ds, e.1.dq) == has) = true then prt l has ops ++ [e] else prt l has ops := by
  unfold prt
  rw [List.filter_append]
  by_cases h : (hasV l (e.1.ds, e.1.dq) == has) = true
  · rw [if_pos h, List.filter_cons, if_pos h, List.filter_nil]
  · rw [if_neg h, List.filter_cons, if_neg h, List.filter_nil, List.append_nil]
theorem prt_len (l : List (Int × Int)) (has : Bool) (ops : List (Opn × Value × Value)) : (prt l has ops).length ≤ ops.length := List.length_filter_le _ _
theorem prt_mem {l : List (Int × Int)} {has : Bool} {ops : List (Opn × Value × Value)} {e : Opn × Value × Value} (h : e ∈ prt l has ops) : e ∈ ops := (List.mem_filter.1 h).1

theorem own_at11 {W : World} {B n : Nat} {a : Option Addr} {c : Nat} {ops : List (Opn × Value × Value)} (h : W.ownsRow B 38 11 (.slice a n c) n (flat encO ops)) (hn : ops.length = n) {i : Nat} {e : Opn × Value × Value} (hi : ops[i]? = some e) : ∃ g, a = some ⟨g, 0, none⟩ ∧ g < W.heap.size ∧ ∀ q v, (encO e)[q]? = some v → W.cell? ⟨g, i * 11 + q, none⟩ = some v := by
  have hl := (List.getElem?_eq_some_iff.1 hi).1
  have hlt := h.lt
  have h0 := h
  obtain ⟨_, (⟨_, h1⟩ | ⟨g, cap, cur, e', _, hg, _⟩)⟩ := h
  · omega
  · simp at e'
    obtain ⟨rfl, rfl⟩ := e'
    refine ⟨g, rfl, (hlt g rfl).2, fun q v hv => ?_⟩
    have hq : q < 11 := by have := (List.getElem?_eq_some_iff.1 hv).1; rwa [encO_len] at this
    rw [h0.cellAt (i * 11 + q) (by omega)]
    exact (flat_get encO_len ops i q e hi hq).trans hv

set_option maxRecDepth 100000 in
set_option maxHeartbeats 4000000 in
theorem part_in {P : Nat → Prop} {w : World} {b : Nat} {vb vh vo : Value} {base hv : List (Int × Int)} {ops : List (Opn × Value × Value)} (h : LG P w b vb vh vo base hv ops) (v : Value) (l : List (Int × Int)) (has : Bool) (hr : RI w v l) (hl : l.length ≤ 1000000) (hn : ops.length ≤ 1000000) :
    Calls Try.prog 21 #[.pointer (some ⟨b, 0, none⟩), v, .bool has] w fun e W => ∃ v', e = .returned v' ∧ W.ownsRow w.heap.size 38 11 v' (prt l has ops).length (flat encO (prt l has ops)) ∧ Below w.heap.size w W := by
  obtain ⟨ao, co, rfl⟩ := owns_form h.ro
  obtain ⟨av, cv, rfl⟩ := hr.form
  have HH := hide (fun (W : World) (hb : Below w.heap.size w W) (x y : Int) => Has_in _ l x y W (hr.below hb) (by omega))
  have c0 := h.box.cell 2 _ rfl
  have HA := hide (fun (W : World) (hb : Below w.heap.size w W) => owns_kp (N := fun _ => False) h.ro (Kp.of_below hb) (fun _ _ e => e))
  have HE := hide h.re
  clear h hr
  go_enter Try.func21, Try.ntmps21
  go_wp2
  go_loopw [7, 15] (fun vv iv wr => ∃ (i : Nat), iv = .int .i64 (i : Nat) ∧ i ≤ ops.length ∧ Hid (wr.ownsRow w.heap.size 38 11 vv (prt l has (ops.take i)).length (flat encO (prt l has (ops.take i)))) ∧ Hid (Below w.heap.size w wr)) (fun _ iv _ => ops.length - (Lib.intOf iv).toNat)
  case atStart => exact ⟨0, rfl, by omega, hide (by rw [List.take_zero]; exact World.ownsRow_nil _ _ _ _), hide (Below.refl _ _)⟩
  case round =>
    obtain ⟨i, rfl, hi, HO, HB⟩ := hrel
    by_cases hlt : i < ops.length
    · have hlt' : (i : Int) < (ops.length : Int) := by omega
      obtain ⟨e, hx⟩ : ∃ e, ops[i]? = some e := ⟨_, List.getElem?_eq_getElem hlt⟩
      obtain ⟨g, rfl, hgl, hcell⟩ := own_at11 (unhide HA wr (unhide HB)) rfl hx
      have oe := unhide HE e (List.mem_of_getElem? hx)
      have ht : ops.take (i + 1) = ops.take i ++ [e] := by rw [List.take_add_one, hx]; rfl
      have hps := prt_snoc l has (ops.take i) e
      rw [← ht] at hps
      have hpl : (prt l has (ops.take i)).length ≤ 1000000 := by have := prt_len l has (ops.take i); rw [List.length_take] at this; omega
      have Hone := hide oe.one
      obtain ⟨a1, c1, h1⟩ := OwD.form oe.d
      obtain ⟨a2, c2, h2⟩ := OwR.form oe.g
      obtain ⟨o, ud, ug⟩ := e
      simp only at h1 h2
      subst h1 h2
      have q0 := hcell 0 _ rfl
      have q1 := hcell 1 _ rfl
      have q2 := hcell 2 _ rfl
      have q3 := hcell 3 _ rfl
      have q4 := hcell 4 _ rfl
      have q5 := hcell 5 _ rfl
      have q6 := hcell 6 _ rfl
      have q7 := hcell 7 _ rfl
      have q8 := hcell 8 _ rfl
      have q9 := hcell 9 _ rfl
      have q10 := hcell 10 _ rfl
      rw [Nat.add_zero] at q0
      obtain ⟨Y, hY⟩ : ∃ Y, wr.alloc (.cells #[.int .i64 o.ds, .int .i64 o.dq, .slice a1 o.deps.length c1, .int .i64 o.kind, .int .i64 o.it, .int .i64 o.is, .int .i64 o.rt, .int .i64 o.rs, .string o.text, .slice a2 o.gone.length c2, .int .i64 o.site] 38) = Y := ⟨_, rfl⟩
      have bY : Below wr.heap.size wr Y := by rw [← hY]; exact ballc (Below.refl _ _) _
      have xY : Hid (Bx Y wr.heap.size 38 #[.int .i64 o.ds, .int .i64 o.dq, .slice a1 o.deps.length c1, .int .i64 o.kind, .int .i64 o.it, .int .i64 o.is, .int .i64 o.rt, .int .i64 o.rs, .string o.text, .slice a2 o.gone.length c2, .int .i64 o.site]) := by rw [← hY]; exact Bx.new wr _ _
      have B2 := hide (bnext (unhide HB) bY)
      have O2 := hide (owns_kp (N := fun _ => False) (unhide HO) (Kp.of_below bY) (fun _ _ e => e))
      have HS := hide (unhide HH Y (unhide B2) o.ds o.dq)
      have y0 := (unhide xY).cell 0 _ rfl
      have y1 := (unhide xY).cell 1 _ rfl
      have yl := (unhide xY).lt
      have Hps := hide hps
      simp only at Hps
      obtain ⟨hh, hhe⟩ : ∃ x, hasV l (o.ds, o.dq) = x := ⟨_, rfl⟩
      rw [hhe] at HS Hps
      clear hcell oe bY hps ht hx HO HB hhe
      go_wp2_with fail
      refine (unhide HS).mono ?_
      rintro r W2 ⟨rfl, hb2⟩
      have x2 := (unhide xY).below hb2
      have B3 := hide (bnext (unhide B2) hb2)
      have O3 := hide (owns_kp (N := fun _ => False) (unhide O2) (Kp.of_below hb2) (fun _ _ e => e))
      obtain ⟨z0, z1, z2, z3, z4, z5, z6, z7, z8, z9, z10⟩ := cells_op x2
      clear hY HS xY B2 O2 q0 q1 q2 q3 q4 q5 q6 q7 q8 q9 q10 y0 y1 hb2 x2
      by_cases heq : hh = has
      · have heb : (hh == has) = true := by simpa using heq
        rw [heb, if_pos rfl] at Hps
        have al := ballc (Below.refl W2.heap.size W2) (.cells #[.int .i64 o.ds, .int .i64 o.dq, .slice a1 o.deps.length c1, .int .i64 o.kind, .int .i64 o.it, .int .i64 o.is, .int .i64 o.rt, .int .i64 o.rs, .string o.text, .slice a2 o.gone.length c2, .int .i64 o.site] 38)
        obtain ⟨v', w', hr, hown, hgr, _⟩ := append_op (W2.alloc (.cells #[.int .i64 o.ds, .int .i64 o.dq, .slice a1 o.deps.length c1, .int .i64 o.kind, .int .i64 o.it, .int .i64 o.is, .int .i64 o.rt, .int .i64 o.rs, .string o.text, .slice a2 o.gone.length c2, .int .i64 o.site] 38)) 28 w.heap.size _ (prt l has (ops.take i)) (o, .slice a1 o.deps.length c1, .slice a2 o.gone.length c2) W2.heap.size (owns_kp (N := fun _ => False) (unhide O3) (Kp.of_below al) (fun _ _ e => e)) (Bx.new _ _ _) (unhide Hone) (bnext (unhide B3) al).size hpl
        have kk := Kp.of_grown (N := fun k => _ = some k) hgr (fun k hk => hk)
        have HO4 : Hid (w'.ownsRow w.heap.size 38 11 v' (prt l has (ops.take (i + 1))).length (flat encO (prt l has (ops.take (i + 1))))) := by rw [unhide Hps]; exact hown
        have HB4 := hide (kk.below (bnext (unhide B3) al) (fun k hk => ((unhide O3).lt k hk).1))
        obtain ⟨ax, cx, hv'⟩ := owns_form (unhide HO4)
        subst hv'
        replace hr := hide hr
        obtain ⟨vx, cx2, hvv⟩ := owns_form (unhide O3)
        subst hvv
        clear hown hgr kk al O3 B3 Hps Hone
        go_wp2_with (at_builtin; refine wpList_append_eq rfl _ _ 28 rfl _ _ _ _ rfl rfl (unhide hr) ?_; clear hr)
        go_roundw
        case measure => show ops.length - ((i : Int) + 1).toNat < ops.length - ((i : Nat) : Int).toNat; omega
        case rel => exact ⟨i + 1, by go_num, by omega, HO4, HB4⟩
      · have heb : (hh == has) = false := by simpa using heq
        rw [heb, if_neg (by simp)] at Hps
        have HO4 : Hid (W2.ownsRow w.heap.size 38 11 u7 (prt l has (ops.take (i + 1))).length (flat encO (prt l has (ops.take (i + 1))))) := by rw [unhide Hps]; exact unhide O3
        clear O3 Hps
        go_wp2
        go_roundw
        case measure => show ops.length - ((i : Int) + 1).toNat < ops.length - ((i : Nat) : Int).toNat; omega
        case rel => exact ⟨i + 1, by go_num, by omega, HO4, B3⟩
    · have hlt' : ¬ (i : Int) < (ops.length : Int) := by omega
      obtain rfl : i = ops.length := by omega
      rw [List.take_length] at HO
      obtain ⟨vx, cx2, hvv⟩ := owns_form (unhide HO)
      subst hvv
      go_wp2
      go_ret
      exact ⟨_, rfl, unhide HO, unhide HB⟩

end Go.Proofs.Ytehmbbnmjiojgaa
