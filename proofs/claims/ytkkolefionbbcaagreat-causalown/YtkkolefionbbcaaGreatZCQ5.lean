/-
  A queue: slices.ContainsFunc over what waits; knows.
-/
import Derived.Test.YtkkolefionbbcaaGreatZCQ4
set_option linter.unusedSimpArgs false
set_option linter.unusedVariables false
namespace Go.Proofs.YtkkolefionbbcaaGreat
open Go.RowKit Go.Lib

variable {P N : Nat → Prop} {w W W' : World} {b : Nat} {hold : Int} {vh vw vr : Value} {hv : List (Int × Int)} {ws rd : List (Opn × Value × Value)}
/-- the lists of each are slices -/
def SlO (ws : List (Opn × Value × Value)) : Prop := ∀ e ∈ ws, (∃ a n c, e.2.1 = .slice a n c) ∧ ∃ a n c, e.2.2 = .slice a n c
set_option maxRecDepth 100000 in
set_option maxHeartbeats 4000000 in
theorem indexF_in (v : Value) (w : World) (h : RO w v ws) (hs : SlO ws) (db : Nat) (d0 d1 : Int) (hb : Bx w db 28 #[.int .i64 d0, .int .i64 d1]) (hl : ws.length ≤ 1000000) :
    Calls Tryz.prog 85 #[v, .func (.func 67) #[] #[.pointer (some ⟨db, 0, none⟩)]] w fun e W => (∃ i : Int, e = .returned (.int .i64 i) ∧ decide (0 ≤ i) = ws.any (fun e => decide (dotO e.1 = (d0, d1)))) ∧ Below w.heap.size w W := by
  obtain ⟨a, c, rfl⟩ := RC.form h
  have HH := hide h
  have Hs := hide hs
  have Hb := hide hb
  obtain ⟨n, hn⟩ : ∃ n, ws.length = n := ⟨_, rfl⟩
  have Hn := hide hn
  rw [hn] at hl ⊢
  clear h hs hb hn
  go_enter Tryz.func85, Tryz.ntmps85
  go_wp2
  go_loopw [8] (fun u wr => ∃ i : Nat, i ≤ n ∧ u = .int .i64 (i : Nat) ∧ Hid ((∀ j, j < i → ∀ e, ws[j]? = some e → dotO e.1 ≠ (d0, d1)) ∧ Below w.heap.size w wr)) (fun u _ => n - (RowKit.intOf u).toNat)
  case atStart => exact ⟨0, Nat.zero_le _, rfl, hide ⟨fun j hj => absurd hj (by omega), Below.refl _ _⟩⟩
  case round =>
    obtain ⟨i, hi, rfl, HI⟩ := hrel
    by_cases hlt : i < n
    · have hlt' : (i : Int) < (n : Int) := by omega
      have hil : i < ws.length := by rw [unhide Hn]; exact hlt
      obtain ⟨⟨o, vd, vg⟩, hx⟩ : ∃ e, ws[i]? = some e := ⟨_, List.getElem?_eq_getElem hil⟩
      have hr := RC.below (unhide HH) (unhide HI).2
      rw [show (Value.slice a ws.length c) = .slice a n c by rw [unhide Hn]] at hr
      obtain ⟨g, off, rfl, hg, hc⟩ := RO.at hr hx
      obtain ⟨⟨ad, nd, cd, e1⟩, ⟨ag, ng, cg, e2⟩⟩ := unhide Hs _ (List.mem_of_getElem? hx)
      simp only at e1 e2
      subst e1 e2
      have q0 : wr.cell? ⟨g, off + i * 11, none⟩ = some (.int .i64 o.ds) := hc 0 _ rfl
      have q1 : wr.cell? ⟨g, off + i * 11 + 1, none⟩ = some (.int .i64 o.dq) := hc 1 _ rfl
      have q2 : wr.cell? ⟨g, off + i * 11 + 2, none⟩ = some (.slice ad nd cd) := hc 2 _ rfl
      have q3 : wr.cell? ⟨g, off + i * 11 + 3, none⟩ = some (.int .i64 o.kind) := hc 3 _ rfl
      have q4 : wr.cell? ⟨g, off + i * 11 + 4, none⟩ = some (.int .i64 o.it) := hc 4 _ rfl
      have q5 : wr.cell? ⟨g, off + i * 11 + 5, none⟩ = some (.int .i64 o.is) := hc 5 _ rfl
      have q6 : wr.cell? ⟨g, off + i * 11 + 6, none⟩ = some (.int .i64 o.rt) := hc 6 _ rfl
      have q7 : wr.cell? ⟨g, off + i * 11 + 7, none⟩ = some (.int .i64 o.rs) := hc 7 _ rfl
      have q8 : wr.cell? ⟨g, off + i * 11 + 8, none⟩ = some (.string o.text) := hc 8 _ rfl
      have q9 : wr.cell? ⟨g, off + i * 11 + 9, none⟩ = some (.slice ag ng cg) := hc 9 _ rfl
      have q10 : wr.cell? ⟨g, off + i * 11 + 10, none⟩ = some (.int .i64 o.site) := hc 10 _ rfl
      have HC := hide (clo_in o ad nd cd ag ng cg db d0 d1 wr ((unhide Hb).below (unhide HI).2))
      obtain ⟨R, hR⟩ : ∃ R, decide (dotO o = (d0, d1)) = R := ⟨_, rfl⟩
      rw [hR] at HC
      have HR := hide hR
      have Hx := hide hx
      clear hR hx hc hr
      go_wp2_with fail
      refine (unhide HC).mono ?_
      rintro e W1 ⟨rfl, b1⟩
      have B1 := hide (bnext (unhide HI).2 b1)
      clear HC b1 q0 q1 q2 q3 q4 q5 q6 q7 q8 q9 q10
      cases R with
      | true =>
        go_wp2
        go_ret
        refine ⟨⟨(i : Nat), rfl, ?_⟩, unhide B1⟩
        rw [decide_eq_true (by omega), eq_comm, List.any_eq_true]
        exact ⟨_, List.mem_of_getElem? (unhide Hx), unhide HR⟩
      | false =>
        go_wp2
        go_roundw
        case rel =>
          refine ⟨i + 1, by omega, by go_num, hide ⟨fun j hj e he => ?_, unhide B1⟩⟩
          by_cases ej : j = i
          · subst ej
            rw [unhide Hx] at he
            cases he
            exact of_decide_eq_false (unhide HR)
          · exact (unhide HI).1 j (by omega) e he
        case measure => show n - ((i : Int) + 1).toNat < n - ((i : Nat) : Int).toNat; omega
    · have hlt' : ¬ (i : Int) < (n : Int) := by omega
      go_wp2
      go_ret
      refine ⟨⟨-1, rfl, ?_⟩, (unhide HI).2⟩
      rw [decide_eq_false (by omega), eq_comm, List.any_eq_false]
      intro e he
      obtain ⟨j, hj, ej⟩ := List.getElem_of_mem he
      have := (unhide HI).1 j (by have := unhide Hn; omega) e (by rw [List.getElem?_eq_getElem hj, ej])
      simpa using this
theorem containsF_in (v : Value) (w : World) (h : RO w v ws) (hs : SlO ws) (db : Nat) (d0 d1 : Int) (hb : Bx w db 28 #[.int .i64 d0, .int .i64 d1]) (hl : ws.length ≤ 1000000) :
    Calls Tryz.prog 66 #[v, .func (.func 67) #[] #[.pointer (some ⟨db, 0, none⟩)]] w fun e W => e = .returned (.bool (ws.any (fun e => decide (dotO e.1 = (d0, d1))))) ∧ Below w.heap.size w W := by
  have HI := hide (indexF_in v w h hs db d0 d1 hb hl)
  obtain ⟨a, c, rfl⟩ := RC.form h
  generalize ws.any (fun e => decide (dotO e.1 = (d0, d1))) = R at *
  clear h hs hb
  go_enter Tryz.func66, Tryz.ntmps66
  go_wp2_with fail
  refine (unhide HI).mono ?_
  rintro e W1 ⟨⟨i, rfl, hR⟩, b1⟩
  replace b1 := hide b1
  clear HI
  go_wp2
  go_ret
  exact ⟨by rw [← hR]; rfl, unhide b1⟩
theorem QM.slw (h : QM P W b hold vh vw vr hv ws rd) : SlO ws := fun e he => by
  obtain ⟨a, c, h1⟩ := OwD.form (h.we e he).d
  obtain ⟨a', c', h2⟩ := OwR.form (h.we e he).g
  exact ⟨⟨a, _, c, h1⟩, ⟨a', _, c', h2⟩⟩
theorem QM.row (h : QM P W b hold vh vw vr hv ws rd) : RO W vw ws := RC.of_owns h.rw
set_option maxRecDepth 100000 in
set_option maxHeartbeats 4000000 in
theorem knows_in (h : QM P w b hold vh vw vr hv ws rd) (d0 d1 : Int) (hl : ws.length ≤ 1000000) : Calls Tryz.prog 41 #[.pointer (some ⟨b, 0, none⟩), .agg #[.int .i64 d0, .int .i64 d1]] w fun e W => e = .returned (.bool (knwO hv (ws.map Prod.fst) (d0, d1))) ∧ Below w.heap.size w W := by
  have hhl := h.hl
  have hvr := OwD.row h.rh
  have hrow := h.row
  have hsl := h.slw
  obtain ⟨ah, ch, rfl⟩ := OwD.form h.rh
  obtain ⟨aw, cw, rfl⟩ := owns_form h.rw
  obtain ⟨X0, hX0⟩ : ∃ X0, w.alloc (.cells #[.int .i64 d0, .int .i64 d1] 28) = X0 := ⟨_, rfl⟩
  have b0 : Below w.heap.size w X0 := by rw [← hX0]; exact ballc (Below.refl _ _) _
  have B0 : Bx X0 w.heap.size 28 #[.int .i64 d0, .int .i64 d1] := by rw [← hX0]; exact Bx.new _ _ _
  have HG := hide (fun (W : World) (hb : Below X0.heap.size X0 W) => Has_in _ hv d0 d1 W (hvr.below (bnext b0 hb)) (by omega))
  have HC := hide (fun (W : World) (hb : Below X0.heap.size X0 W) => containsF_in _ W (RC.below hrow (bnext b0 hb)) hsl w.heap.size d0 d1 (B0.below hb) hl)
  have mixed : Tryz.prog.follows .mixedOrders = true := by kernel_rfl
  have hne := BelowOf.ne X0
  have k0 : ∀ p : BelowOf X0, p.w.cell? ⟨w.heap.size, 0, none⟩ = some (.int .i64 d0) := fun p => cell_below (B0.cell 0 _ rfl) p.h
  have k1 : ∀ p : BelowOf X0, p.w.cell? ⟨w.heap.size, 1, none⟩ = some (.int .i64 d1) := fun p => cell_below (B0.cell 1 _ rfl) p.h
  have k2 : ∀ p : BelowOf X0, p.w.cell? ⟨b, 1, none⟩ = some (.slice ah hv.length ch) := fun p => cell_below (cell_below h.c1 b0) p.h
  have k3 : ∀ p : BelowOf X0, p.w.cell? ⟨b, 2, none⟩ = some (.slice aw ws.length cw) := fun p => cell_below (cell_below h.c2 b0) p.h
  have HB := hide b0
  have hany : (ws.map Prod.fst).any (fun o => decide (dotO o = (d0, d1))) = ws.any (fun e => decide (dotO e.1 = (d0, d1))) := by rw [List.any_map]; rfl
  obtain ⟨R, hR⟩ : ∃ R, knwO hv (ws.map Prod.fst) (d0, d1) = R := ⟨_, rfl⟩
  rw [hR]
  unfold knwO at hR
  rw [hany] at hR
  generalize ws.any (fun e => decide (dotO e.1 = (d0, d1))) = cv at *
  generalize hasV hv (d0, d1) = gv at *
  clear h hvr b0 B0 hrow hsl hany
  cases gv with
  | true =>
    obtain rfl : true = R := by rw [← hR]; simp
    clear hR
    go_enter Tryz.func41, Tryz.ntmps41
    go_wp2_with fail
    refine wp_region_quiet_below mixed (by kernel_rfl) ?_
    repeat (any_goals (first | go_big_quiet_step ((first | (go_at_call 65; exact below_of (unhide HG _ (BelowOf.h _))) | (go_at_call 66; exact below_of (unhide HC _ (BelowOf.h _))))) | quiet_step ((first | (go_at_call 65; exact below_of (unhide HG _ (BelowOf.h _))) | (go_at_call 66; exact below_of (unhide HC _ (BelowOf.h _)))))))
    all_goals (refine wpQuiet_nil ?_; intro _ hw'; obtain ⟨p, hw''⟩ := hw'; subst hw'')
    have HBW := hide (bnext (unhide HB) p.h)
    go_wp2
    go_ret
    exact ⟨rfl, unhide HBW⟩
  | false =>
    obtain rfl : cv = R := by rw [← hR]; simp
    clear hR
    go_enter Tryz.func41, Tryz.ntmps41
    go_wp2_with fail
    refine wp_region_quiet_below mixed (by kernel_rfl) ?_
    repeat (any_goals (first | go_big_quiet_step ((first | (go_at_call 65; exact below_of (unhide HG _ (BelowOf.h _))) | (go_at_call 66; exact below_of (unhide HC _ (BelowOf.h _))))) | quiet_step ((first | (go_at_call 65; exact below_of (unhide HG _ (BelowOf.h _))) | (go_at_call 66; exact below_of (unhide HC _ (BelowOf.h _)))))))
    all_goals (refine wpQuiet_nil ?_; intro _ hw'; obtain ⟨p, hw''⟩ := hw'; subst hw'')
    have HBW := hide (bnext (unhide HB) p.h)
    go_wp2
    go_ret
    exact ⟨rfl, unhide HBW⟩

end Go.Proofs.YtkkolefionbbcaaGreat
