/-
  The farthest of a list.
-/
import Derived.Test.YtkkolefionbbcaaGreatZCQ7
set_option linter.unusedSimpArgs false
set_option linter.unusedVariables false
namespace Go.Proofs.YtkkolefionbbcaaGreat
open Go.RowKit Go.Lib

variable {P N : Nat → Prop} {w W W' : World} {b : Nat} {hold : Int} {vh vw vr : Value} {hv : List (Int × Int)} {ws rd : List (Opn × Value × Value)}
/-- what each needs can be read -/
def RdO (w : World) (ws : List (Opn × Value × Value)) : Prop := ∀ e ∈ ws, RI w e.2.1 e.1.deps ∧ e.1.deps.length ≤ 1000000 ∧ ∃ a n c, e.2.2 = .slice a n c
theorem QM.rdw (h : QM P W b hold vh vw vr hv ws rd) : RdO W ws := fun e he => ⟨OwD.row (h.we e he).d, (h.we e he).s1, by obtain ⟨a, c, q⟩ := OwR.form (h.we e he).g; exact ⟨a, _, c, q⟩⟩
theorem farF_lt (os : List Opn) : ∀ f i t, t < os.length → farF os f i t < os.length
  | 0, _, _, h => h
  | f + 1, i, t, h => by
    unfold farF
    rcases hi : os[i]? with _ | x
    · exact h
    · rw [List.getElem?_eq_getElem h]
      refine farF_lt os f (i + 1) _ ?_
      split
      · exact (List.getElem?_eq_some_iff.1 hi).1
      · exact h
theorem farI_lt (os : List Opn) (h : os ≠ []) : farI os < os.length := farF_lt os _ _ _ (List.length_pos_iff.2 h)
set_option maxRecDepth 100000 in
set_option maxHeartbeats 4000000 in
theorem greatest_in (v : Value) (w : World) (h : RO w v ws) (hs : RdO w ws) (hl : ws.length ≤ 1000000) (h0 : 0 < ws.length) :
    Calls Tryz.prog 74 #[v, .func (.func 75) #[] #[]] w fun e W => e = .returned (.int .i64 (farI (ws.map Prod.fst) : Nat)) ∧ Below w.heap.size w W := by
  obtain ⟨a, c, rfl⟩ := RC.form h
  have HH := hide h
  have Hs := hide hs
  obtain ⟨n, hn⟩ : ∃ n, ws.length = n := ⟨_, rfl⟩
  have Hn := hide hn
  obtain ⟨FI, hFI⟩ : ∃ FI, farI (ws.map Prod.fst) = FI := ⟨_, rfl⟩
  have HF : Hid (farF (ws.map Prod.fst) (n - 0) 0 0 = FI) := hide (by rw [← hFI]; unfold farI; rw [List.length_map, hn]; rfl)
  rw [hFI]
  rw [hn] at hl h0 ⊢
  have mixed : Tryz.prog.follows .mixedOrders = true := by kernel_rfl
  clear h hs hn hFI
  go_enter Tryz.func74, Tryz.ntmps74
  go_wp2
  go_loopw [5, 10] (fun u u' wr => ∃ i t : Nat, i ≤ n ∧ t < n ∧ u = .int .i64 (t : Nat) ∧ u' = .int .i64 (i : Nat) ∧ Hid (farF (ws.map Prod.fst) (n - i) i t = FI ∧ Below w.heap.size w wr)) (fun _ u' _ => n - (RowKit.intOf u').toNat)
  case atStart => exact ⟨0, 0, Nat.zero_le _, h0, rfl, rfl, hide ⟨unhide HF, Below.refl _ _⟩⟩
  case round =>
    obtain ⟨i, t, hi, ht, rfl, rfl, HI⟩ := hrel
    by_cases hlt : i < n
    · have hlt' : (i : Int) < (n : Int) := by omega
      have htn' : (t : Int) < (n : Int) := by omega
      have hil : i < ws.length := by rw [unhide Hn]; exact hlt
      have htl : t < ws.length := by rw [unhide Hn]; exact ht
      obtain ⟨⟨x, vd, vg⟩, hx⟩ : ∃ e, ws[i]? = some e := ⟨_, List.getElem?_eq_getElem hil⟩
      obtain ⟨⟨y, vd', vg'⟩, hy⟩ : ∃ e, ws[t]? = some e := ⟨_, List.getElem?_eq_getElem htl⟩
      have hr := RC.below (unhide HH) (unhide HI).2
      rw [show (Value.slice a ws.length c) = .slice a n c by rw [unhide Hn]] at hr
      obtain ⟨g, off, rfl, hg, hc⟩ := RO.at hr hx
      obtain ⟨g', off', eg, hg', hc'⟩ := RO.at hr hy
      simp at eg
      obtain ⟨rfl, rfl⟩ := eg
      obtain ⟨rx, lx, ⟨ag, ng, cg, e2⟩⟩ := unhide Hs _ (List.mem_of_getElem? hx)
      obtain ⟨ry, ly, ⟨ah, nh, ch, e2'⟩⟩ := unhide Hs _ (List.mem_of_getElem? hy)
      simp only at e2 e2' rx ry lx ly
      subst e2 e2'
      obtain ⟨aa, ca, rfl⟩ := rx.form
      obtain ⟨ab, cb, rfl⟩ := ry.form
      have HD := hide (fun (W : World) (hb : Below wr.heap.size wr W) => byDistance_in x y aa ab ag ah ca cb ng cg nh ch W (rx.below (bnext (unhide HI).2 hb)) (ry.below (bnext (unhide HI).2 hb)) lx ly)
      have hpos := dstO_far x y
      have hstep : farF (ws.map Prod.fst) (n - (i + 1)) (i + 1) (if farO x y = true then i else t) = FI := by
        have q := (unhide HI).1
        rw [show n - i = (n - (i + 1)) + 1 by omega] at q
        unfold farF at q
        simpa [hx, hy] using q
      obtain ⟨D, hD⟩ : ∃ D, dstO x y = D := ⟨_, rfl⟩
      rw [hD] at HD hpos
      obtain ⟨nx, hnx⟩ : ∃ nx, x.deps.length = nx := ⟨_, rfl⟩
      obtain ⟨ny, hny⟩ : ∃ ny, y.deps.length = ny := ⟨_, rfl⟩
      rw [hnx] at HD hc
      rw [hny] at HD hc'
      have q0 : wr.cell? ⟨g, off + i * 11, none⟩ = some (.int .i64 x.ds) := hc 0 _ rfl
      have q1 : wr.cell? ⟨g, off + i * 11 + 1, none⟩ = some (.int .i64 x.dq) := hc 1 _ rfl
      have q2 : wr.cell? ⟨g, off + i * 11 + 2, none⟩ = some (.slice aa nx ca) := hc 2 _ rfl
      have q3 : wr.cell? ⟨g, off + i * 11 + 3, none⟩ = some (.int .i64 x.kind) := hc 3 _ rfl
      have q4 : wr.cell? ⟨g, off + i * 11 + 4, none⟩ = some (.int .i64 x.it) := hc 4 _ rfl
      have q5 : wr.cell? ⟨g, off + i * 11 + 5, none⟩ = some (.int .i64 x.is) := hc 5 _ rfl
      have q6 : wr.cell? ⟨g, off + i * 11 + 6, none⟩ = some (.int .i64 x.rt) := hc 6 _ rfl
      have q7 : wr.cell? ⟨g, off + i * 11 + 7, none⟩ = some (.int .i64 x.rs) := hc 7 _ rfl
      have q8 : wr.cell? ⟨g, off + i * 11 + 8, none⟩ = some (.string x.text) := hc 8 _ rfl
      have q9 : wr.cell? ⟨g, off + i * 11 + 9, none⟩ = some (.slice ag ng cg) := hc 9 _ rfl
      have q10 : wr.cell? ⟨g, off + i * 11 + 10, none⟩ = some (.int .i64 x.site) := hc 10 _ rfl
      obtain ⟨X0, hX0⟩ : ∃ X0, wr.alloc (.cells #[.int .i64 x.ds, .int .i64 x.dq, .slice aa nx ca, .int .i64 x.kind, .int .i64 x.it, .int .i64 x.is, .int .i64 x.rt, .int .i64 x.rs, .string x.text, .slice ag ng cg, .int .i64 x.site] 42) = X0 := ⟨_, rfl⟩
      have b0 : Below wr.heap.size wr X0 := by rw [← hX0]; exact ballc (Below.refl _ _) _
      have B0 : Bx X0 wr.heap.size 42 #[.int .i64 x.ds, .int .i64 x.dq, .slice aa nx ca, .int .i64 x.kind, .int .i64 x.it, .int .i64 x.is, .int .i64 x.rt, .int .i64 x.rs, .string x.text, .slice ag ng cg, .int .i64 x.site] := by rw [← hX0]; exact Bx.new _ _ _
      have k0 : ∀ p : BelowOf X0, p.w.cell? ⟨wr.heap.size, 0, none⟩ = some (.int .i64 x.ds) := fun p => cell_below (B0.cell 0 _ rfl) p.h
      have k1 : ∀ p : BelowOf X0, p.w.cell? ⟨wr.heap.size, 1, none⟩ = some (.int .i64 x.dq) := fun p => cell_below (B0.cell 1 _ rfl) p.h
      have k2 : ∀ p : BelowOf X0, p.w.cell? ⟨wr.heap.size, 2, none⟩ = some (.slice aa nx ca) := fun p => cell_below (B0.cell 2 _ rfl) p.h
      have k3 : ∀ p : BelowOf X0, p.w.cell? ⟨wr.heap.size, 3, none⟩ = some (.int .i64 x.kind) := fun p => cell_below (B0.cell 3 _ rfl) p.h
      have k4 : ∀ p : BelowOf X0, p.w.cell? ⟨wr.heap.size, 4, none⟩ = some (.int .i64 x.it) := fun p => cell_below (B0.cell 4 _ rfl) p.h
      have k5 : ∀ p : BelowOf X0, p.w.cell? ⟨wr.heap.size, 5, none⟩ = some (.int .i64 x.is) := fun p => cell_below (B0.cell 5 _ rfl) p.h
      have k6 : ∀ p : BelowOf X0, p.w.cell? ⟨wr.heap.size, 6, none⟩ = some (.int .i64 x.rt) := fun p => cell_below (B0.cell 6 _ rfl) p.h
      have k7 : ∀ p : BelowOf X0, p.w.cell? ⟨wr.heap.size, 7, none⟩ = some (.int .i64 x.rs) := fun p => cell_below (B0.cell 7 _ rfl) p.h
      have k8 : ∀ p : BelowOf X0, p.w.cell? ⟨wr.heap.size, 8, none⟩ = some (.string x.text) := fun p => cell_below (B0.cell 8 _ rfl) p.h
      have k9 : ∀ p : BelowOf X0, p.w.cell? ⟨wr.heap.size, 9, none⟩ = some (.slice ag ng cg) := fun p => cell_below (B0.cell 9 _ rfl) p.h
      have k10 : ∀ p : BelowOf X0, p.w.cell? ⟨wr.heap.size, 10, none⟩ = some (.int .i64 x.site) := fun p => cell_below (B0.cell 10 _ rfl) p.h
      have m0 : ∀ p : BelowOf X0, p.w.cell? ⟨g, off + t * 11, none⟩ = some (.int .i64 y.ds) := fun p => cell_below (cell_below (hc' 0 _ rfl) b0) p.h
      have m1 : ∀ p : BelowOf X0, p.w.cell? ⟨g, off + t * 11 + 1, none⟩ = some (.int .i64 y.dq) := fun p => cell_below (cell_below (hc' 1 _ rfl) b0) p.h
      have m2 : ∀ p : BelowOf X0, p.w.cell? ⟨g, off + t * 11 + 2, none⟩ = some (.slice ab ny cb) := fun p => cell_below (cell_below (hc' 2 _ rfl) b0) p.h
      have m3 : ∀ p : BelowOf X0, p.w.cell? ⟨g, off + t * 11 + 3, none⟩ = some (.int .i64 y.kind) := fun p => cell_below (cell_below (hc' 3 _ rfl) b0) p.h
      have m4 : ∀ p : BelowOf X0, p.w.cell? ⟨g, off + t * 11 + 4, none⟩ = some (.int .i64 y.it) := fun p => cell_below (cell_below (hc' 4 _ rfl) b0) p.h
      have m5 : ∀ p : BelowOf X0, p.w.cell? ⟨g, off + t * 11 + 5, none⟩ = some (.int .i64 y.is) := fun p => cell_below (cell_below (hc' 5 _ rfl) b0) p.h
      have m6 : ∀ p : BelowOf X0, p.w.cell? ⟨g, off + t * 11 + 6, none⟩ = some (.int .i64 y.rt) := fun p => cell_below (cell_below (hc' 6 _ rfl) b0) p.h
      have m7 : ∀ p : BelowOf X0, p.w.cell? ⟨g, off + t * 11 + 7, none⟩ = some (.int .i64 y.rs) := fun p => cell_below (cell_below (hc' 7 _ rfl) b0) p.h
      have m8 : ∀ p : BelowOf X0, p.w.cell? ⟨g, off + t * 11 + 8, none⟩ = some (.string y.text) := fun p => cell_below (cell_below (hc' 8 _ rfl) b0) p.h
      have m9 : ∀ p : BelowOf X0, p.w.cell? ⟨g, off + t * 11 + 9, none⟩ = some (.slice ah nh ch) := fun p => cell_below (cell_below (hc' 9 _ rfl) b0) p.h
      have m10 : ∀ p : BelowOf X0, p.w.cell? ⟨g, off + t * 11 + 10, none⟩ = some (.int .i64 y.site) := fun p => cell_below (cell_below (hc' 10 _ rfl) b0) p.h
      have hne := BelowOf.ne X0
      have HD' := hide (fun (p : BelowOf X0) => unhide HD p.w (bnext b0 p.h))
      have HB := hide b0
      have Hst := hide hstep
      clear HD rx ry lx ly hc hc' hr hx hy hD hnx hny b0 B0 hstep hg hg'
      cases hq : farO x y with
      | true =>
        rw [hq] at hpos Hst
        have hgt : decide (0 < D) = true := hpos
        clear hpos hq
        go_wp2_with fail
        refine wp_region_quiet_below mixed (by kernel_rfl) ?_
        repeat (any_goals (first | go_big_quiet_step ((go_at_call 75; exact below_of (unhide HD' _))) | quiet_step ((go_at_call 75; exact below_of (unhide HD' _)))))
        all_goals (refine wpQuiet_nil ?_; intro _ hw'; obtain ⟨p, hw''⟩ := hw'; subst hw'')
        have HBW := hide (bnext (unhide HI).2 (bnext (unhide HB) p.h))
        go_wp2
        refine ⟨⟨i + 1, i, by omega, by omega, rfl, by go_num, hide ⟨by simpa using unhide Hst, unhide HBW⟩⟩, ?_⟩
        show n - ((i : Int) + 1).toNat < n - ((i : Nat) : Int).toNat
        omega
      | false =>
        rw [hq] at hpos Hst
        have hgt : decide (0 < D) = false := hpos
        clear hpos hq
        go_wp2_with fail
        refine wp_region_quiet_below mixed (by kernel_rfl) ?_
        repeat (any_goals (first | go_big_quiet_step ((go_at_call 75; exact below_of (unhide HD' _))) | quiet_step ((go_at_call 75; exact below_of (unhide HD' _)))))
        all_goals (refine wpQuiet_nil ?_; intro _ hw'; obtain ⟨p, hw''⟩ := hw'; subst hw'')
        have HBW := hide (bnext (unhide HI).2 (bnext (unhide HB) p.h))
        go_wp2
        refine ⟨⟨i + 1, t, by omega, by omega, rfl, by go_num, hide ⟨by simpa using unhide Hst, unhide HBW⟩⟩, ?_⟩
        show n - ((i : Int) + 1).toNat < n - ((i : Nat) : Int).toNat
        omega
    · have hlt' : ¬ (i : Int) < (n : Int) := by omega
      obtain rfl : i = n := by omega
      have hfi : FI = t := by
        have q := (unhide HI).1
        rw [Nat.sub_self] at q
        exact q.symm
      subst hfi
      go_wp2
      go_ret
      exact ⟨rfl, (unhide HI).2⟩

end Go.Proofs.YtkkolefionbbcaaGreat
