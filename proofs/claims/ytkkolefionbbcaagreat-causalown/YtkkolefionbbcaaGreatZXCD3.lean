/-
  Both queues side by side.
-/
import Derived.Test.YtkkolefionbbcaaGreatZXCD
import Derived.Test.YtkkolefionbbcaaGreatZCRE
import Derived.Test.YtkkolefionbbcaaGreatZCRR
import Derived.Test.YtkkolefionbbcaaGreatZXCRP
import Derived.Test.YtkkolefionbbcaaGreatZCO3
import Derived.Deep.CutRange

set_option linter.unusedSimpArgs false
set_option linter.unusedVariables false
namespace Go.Proofs.YtkkolefionbbcaaGreat
open Go.RowKit Go.Lib

theorem chk_addV (l : List (Int × Int)) (d : Int × Int) : chk (addV l d).1 = 0 := by
  unfold addV
  split
  · rfl
  · rename_i h1
    split
    · rfl
    · rename_i h2
      split
      · rfl
      · exact chk_vec ((sy_good l).put (by omega) (by omega) (by omega) (by omega))
theorem chk_relF : ∀ (f : Nat) (hv : List (Int × Int)) (ws rd : List Opn), chk hv = 0 → chk (relF f hv ws rd).1 = 0
  | 0, hv, ws, rd, h => h
  | f + 1, hv, ws, rd, h => by
    unfold relF
    split
    · exact h
    · split
      · exact h
      · exact chk_relF f _ _ _ (chk_addV _ _)
theorem len_relF : ∀ (f : Nat) (hv : List (Int × Int)) (ws rd : List Opn), (relF f hv ws rd).2.1.length + (relF f hv ws rd).2.2.length = ws.length + rd.length
  | 0, hv, ws, rd => rfl
  | f + 1, hv, ws, rd => by
    unfold relF
    split
    · rfl
    · split
      · rfl
      · rename_i i hi x o ho
        rw [len_relF f]
        have := cutI_len ws i (List.getElem?_eq_some_iff.1 ho).1
        rw [List.length_append, List.length_singleton]
        omega
/-- what holds of a queue behind n offers -/
structure DI (hold : Int) (hv : List (Int × Int)) (ws rd : List Opn) (n : Nat) : Prop where
  ck : chk hv = 0
  len : (ws.length : Int) ≤ hold
  dd : DD ws
  tot : ws.length + rd.length ≤ n
theorem DI.off {hold : Int} {hv : List (Int × Int)} {ws rd : List Opn} {n : Nat} (h : DI hold hv ws rd n) (o : Opn) : DI hold (offA hold hv ws rd o).2.1 (offA hold hv ws rd o).2.2.1 (offA hold hv ws rd o).2.2.2 (n + 1) := by
  refine ⟨?_, ?_, offA_dd _ _ _ _ _ h.dd, ?_⟩
  · have := h.ck
    unfold offA
    split
    · exact this
    · split
      · exact this
      · split
        · exact chk_relF _ _ _ _ (chk_addV _ _)
        · split <;> exact this
  · have hl := h.len
    unfold offA
    split
    · exact hl
    · split
      · exact hl
      · split
        · have := (relF_sub ws.length (addV hv (dotO o)).1 ws (rd ++ [o])).length_le
          show ((relF ws.length (addV hv (dotO o)).1 ws (rd ++ [o])).2.1.length : Int) ≤ hold
          omega
        · split
          · simp only [List.length_append, List.length_singleton]; omega
          · have h1 := farI_lt (ws ++ [o]) (by simp)
            have h2 := cutI_len (ws ++ [o]) _ h1
            rw [List.length_append, List.length_singleton] at h2
            show ((cutI (ws ++ [o]) (farI (ws ++ [o]))).length : Int) ≤ hold
            omega
  · have ht := h.tot
    unfold offA
    split
    · show ws.length + rd.length ≤ n + 1; omega
    · split
      · show ws.length + rd.length ≤ n + 1; omega
      · split
        · have := len_relF ws.length (addV hv (dotO o)).1 ws (rd ++ [o])
          rw [List.length_append, List.length_singleton] at this
          show (relF ws.length (addV hv (dotO o)).1 ws (rd ++ [o])).2.1.length + (relF ws.length (addV hv (dotO o)).1 ws (rd ++ [o])).2.2.length ≤ n + 1
          omega
        · split
          · simp only [List.length_append, List.length_singleton]; omega
          · have h1 := farI_lt (ws ++ [o]) (by simp)
            have h2 := cutI_len (ws ++ [o]) _ h1
            rw [List.length_append, List.length_singleton] at h2
            show (cutI (ws ++ [o]) (farI (ws ++ [o]))).length + rd.length ≤ n + 1
            omega
theorem DI.take {hold : Int} {hv : List (Int × Int)} {ws rd : List Opn} {n : Nat} {o : Opn} (h : DI hold hv ws (o :: rd) n) : DI hold hv ws rd n := ⟨h.ck, h.len, h.dd, by have := h.tot; rw [List.length_cons] at this; omega⟩
theorem DI.more {hold : Int} {hv : List (Int × Int)} {ws rd : List Opn} {n m : Nat} (h : DI hold hv ws rd n) (hm : n ≤ m) : DI hold hv ws rd m := ⟨h.ck, h.len, h.dd, by have := h.tot; omega⟩
theorem DI.start {hold : Int} (h : 0 ≤ hold) {hv : List (Int × Int)} (hc : chk hv = 0) : DI hold hv [] [] 0 := ⟨hc, by simpa using h, DD.nil, Nat.le_refl _⟩

variable {P N : Nat → Prop} {w W W' : World} {b r : Nat} {hold : Int} {hv hu : List (Int × Int)}
/-- what was taken lies apart from what is left -/
theorem QM.less {vh vw vr : Value} {ws rd : List (Opn × Value × Value)} {x : Opn × Value × Value} (h : QM P W b hold vh vw vr hv ws rd) (hx : OE P W x) (hap : Apt vh (x :: (ws ++ rd))) : QM (fun i => P i ∧ x.2.1.ownBlock ≠ some i ∧ x.2.2.ownBlock ≠ some i) W b hold vh vw vr hv ws rd := by
  have hE : ∀ e ∈ ws ++ rd, OE P W e → OE (fun i => P i ∧ x.2.1.ownBlock ≠ some i ∧ x.2.2.ownBlock ≠ some i) W e := fun e he h1 =>
    ⟨h1.d, h1.g, fun k hk => ⟨h1.pd k hk, fun e' => ((List.pairwise_cons.1 hap.2).1 e he).1 k e' hk, fun e' => own_ne_own hx.g h1.d (by decide) k e' hk⟩, fun k hk => ⟨h1.pg k hk, fun e' => own_ne_own hx.d h1.g (by decide) k e' hk, fun e' => ((List.pairwise_cons.1 hap.2).1 e he).2 k e' hk⟩, h1.s1, h1.s2, h1.s3, h1.inn⟩
  refine ⟨h.box, h.rh, h.rw, h.rr, fun e he => hE e (List.mem_append_left _ he) (h.we e he), fun e he => hE e (List.mem_append_right _ he) (h.re e he), ⟨h.pb, own_ne_box hx.d h.box (by decide), own_ne_box hx.g h.box (by decide)⟩, fun k hk => ⟨h.ph k hk, fun e => hap.1 x List.mem_cons_self k e hk, fun e => own_ne_own hx.g h.rh (by decide) k e hk⟩, fun k hk => ⟨h.pw k hk, fun e => own_ne_own hx.d h.rw (by decide) k e hk, fun e => own_ne_own hx.g h.rw (by decide) k e hk⟩, fun k hk => ?_, h.ap, h.hl, h.dj⟩
  obtain ⟨cur, hc⟩ := h.rr.kind k hk
  exact ⟨h.pr k hk, own_ne_box hx.d hc (by decide), own_ne_box hx.g hc (by decide)⟩
/-- the program's queue, by what it says -/
def QP (P : Nat → Prop) (W : World) (b : Nat) (hold : Int) (hv : List (Int × Int)) (ws rd : List Opn) : Prop := ∃ vh vw vr wt rt, QM P W b hold vh vw vr hv wt rt ∧ wt.map Prod.fst = ws ∧ rt.map Prod.fst = rd
/-- the document's -/
def QQ (w : World) (P : Nat → Prop) (W : World) (b : Nat) (hold : Int) (hv : List (Int × Int)) (ws rd : List Opn) : Prop := ∃ vh vw vr wt rt, QD w P W b hold vh vw vr hv wt rt ∧ wt.map Prod.fst = ws ∧ rt.map Prod.fst = rd
theorem QP.kp {ws rd : List Opn} (h : QP P W b hold hv ws rd) (k : Kp N W W') (hn : ∀ i, N i → ¬ P i) : QP P W' b hold hv ws rd := by
  obtain ⟨vh, vw, vr, wt, rt, q, e⟩ := h
  exact ⟨vh, vw, vr, wt, rt, q.kp k hn, e⟩
theorem QQ.kp {ws rd : List Opn} (h : QQ w P W b hold hv ws rd) (k : Kp N W W') (hn : ∀ i, N i → ¬ P i) : QQ w P W' b hold hv ws rd := by
  obtain ⟨vh, vw, vr, wt, rt, q, e⟩ := h
  exact ⟨vh, vw, vr, wt, rt, q.kp k hn, e⟩
theorem QP.tight {ws rd : List Opn} (h : QP P W b hold hv ws rd) : QP (fun i => P i ∧ i < W.heap.size) W b hold hv ws rd := by
  obtain ⟨vh, vw, vr, wt, rt, q, e⟩ := h
  exact ⟨vh, vw, vr, wt, rt, q.tight, e⟩
theorem QQ.tight {ws rd : List Opn} (h : QQ w P W b hold hv ws rd) : QQ w (fun i => P i ∧ i < W.heap.size) W b hold hv ws rd := by
  obtain ⟨vh, vw, vr, wt, rt, q, e⟩ := h
  exact ⟨vh, vw, vr, wt, rt, q.ltD, e⟩
/-- both in blocks of which S holds -/
structure DJ (w : World) (S : Nat → Prop) (b r : Nat) (hold : Int) (hv : List (Int × Int)) (ws rd : List Opn) (hu : List (Int × Int)) (us ud : List Opn) (W : World) : Prop where
  q : ∃ P D : Nat → Prop, QP P W b hold hv ws rd ∧ QQ w D W r hold hu us ud ∧ (∀ i, P i → S i ∧ ¬ D i) ∧ ∀ i, D i → S i
  lo : ∀ i, S i → w.heap.size ≤ i ∧ i < W.heap.size
  bel : Below w.heap.size w W
variable {S : Nat → Prop} {ws rd us ud : List Opn}
theorem DJ.kp (h : DJ w S b r hold hv ws rd hu us ud W) (k : Kp N W W') (hn : ∀ i, N i → ¬ S i ∧ w.heap.size ≤ i) : DJ w S b r hold hv ws rd hu us ud W' := by
  obtain ⟨P, D, q1, q2, h1, h2⟩ := h.q
  exact ⟨⟨P, D, q1.kp k (fun i e e' => (hn i e).1 (h1 i e').1), q2.kp k (fun i e e' => (hn i e).1 (h2 i e')), h1, h2⟩, fun i hi => ⟨(h.lo i hi).1, by have := (h.lo i hi).2; have := k.size; omega⟩, k.below h.bel (fun i hi => (hn i hi).2)⟩
theorem DJ.below (h : DJ w S b r hold hv ws rd hu us ud W) (hb : Below W.heap.size W W') : DJ w S b r hold hv ws rd hu us ud W' := h.kp (N := fun _ => False) (Kp.of_below hb) (fun _ e => e.elim)
/-- behind something, and what was written -/
def DN (w : World) (S : Nat → Prop) (b r : Nat) (hold : Int) (hv : List (Int × Int)) (ws rd : List Opn) (hu : List (Int × Int)) (us ud : List Opn) (W0 W : World) : Prop := ∃ S', DJ w S' b r hold hv ws rd hu us ud W ∧ (∀ i, S' i → S i ∨ W0.heap.size ≤ i) ∧ Kp S W0 W
theorem DJ.dn (h : DJ w S b r hold hv ws rd hu us ud W) : DN w S b r hold hv ws rd hu us ud W W := ⟨S, h, fun i hi => .inl hi, Kp.refl _ _⟩
theorem DN.below {W0 : World} (h : DN w S b r hold hv ws rd hu us ud W0 W) (hb : Below W.heap.size W W') : DN w S b r hold hv ws rd hu us ud W0 W' := by
  obtain ⟨S', j, hs, k⟩ := h
  exact ⟨S', j.below hb, hs, k.trans (Kp.of_below (N := fun _ => False) hb) (fun i e => e.elim)⟩
theorem DN.trans {S' : Nat → Prop} {W0 W1 : World} {hv' hu' : List (Int × Int)} {ws' rd' us' ud' : List Opn} (hs : ∀ i, S' i → S i ∨ W0.heap.size ≤ i) (k : Kp S W0 W1) (h : DN w S' b r hold hv' ws' rd' hu' us' ud' W1 W) : DN w S b r hold hv' ws' rd' hu' us' ud' W0 W := by
  obtain ⟨S2, j, hs2, k2⟩ := h
  have := k.size
  exact ⟨S2, j, fun i hi => (hs2 i hi).elim (hs i) (fun e => .inr (by omega)), k.trans k2 hs⟩
/-- from the program's queue anew -/
theorem DJ.newP {ws' rd' : List Opn} {hv' : List (Int × Int)} {D : Nat → Prop} (h : DJ w S b r hold hv ws rd hu us ud W) (hq : QP (fun i => P i ∨ W.heap.size ≤ i) W' b hold hv' ws' rd') (hd : QQ w D W r hold hu us ud) (h1 : ∀ i, P i → S i ∧ ¬ D i) (h2 : ∀ i, D i → S i) (k : Kp P W W') : DN w S b r hold hv' ws' rd' hu us ud W W' := by
  have hz := k.size
  have hbz := h.bel.size
  refine ⟨fun i => (S i ∨ W.heap.size ≤ i) ∧ i < W'.heap.size, ⟨⟨_, D, hq.tight, hd.kp k (fun i e e' => (h1 i e).2 e'), fun i hi => ⟨⟨hi.1.imp (fun e => (h1 i e).1) id, hi.2⟩, fun e => ?_⟩, fun i hi => ⟨.inl (h2 i hi), by have := (h.lo i (h2 i hi)).2; omega⟩⟩, fun i hi => ⟨?_, hi.2⟩, k.below h.bel (fun i e => (h.lo i (h1 i e).1).1)⟩, fun i hi => hi.1, k.wk (fun i e => (h1 i e).1)⟩
  · rcases hi.1 with e' | e'
    · exact (h1 i e').2 e
    · have := (h.lo i (h2 i e)).2; omega
  · rcases hi.1 with e | e
    · exact (h.lo i e).1
    · omega
theorem DJ.newD {us' ud' : List Opn} {hu' : List (Int × Int)} {D : Nat → Prop} (h : DJ w S b r hold hv ws rd hu us ud W) (hq : QP P W b hold hv ws rd) (hd : QQ w (fun i => D i ∨ W.heap.size ≤ i) W' r hold hu' us' ud') (h1 : ∀ i, P i → S i ∧ ¬ D i) (h2 : ∀ i, D i → S i) (k : Kp D W W') : DN w S b r hold hv ws rd hu' us' ud' W W' := by
  have hz := k.size
  have hbz := h.bel.size
  refine ⟨fun i => (S i ∨ W.heap.size ≤ i) ∧ i < W'.heap.size, ⟨⟨P, _, hq.kp k (fun i e e' => (h1 i e').2 e), hd.tight, fun i hi => ⟨⟨.inl (h1 i hi).1, by have := (h.lo i (h1 i hi).1).2; omega⟩, fun e => ?_⟩, fun i hi => ⟨hi.1.imp (fun e => h2 i e) id, hi.2⟩⟩, fun i hi => ⟨?_, hi.2⟩, k.below h.bel (fun i e => (h.lo i (h2 i e)).1)⟩, fun i hi => hi.1, k.wk (fun i e => h2 i e)⟩
  · rcases e.1 with e' | e'
    · exact (h1 i hi).2 e'
    · have := (h.lo i (h1 i hi).1).2; omega
  · rcases hi.1 with e | e
    · exact (h.lo i e).1
    · omega
theorem DJ.offP (h : DJ w S b r hold hv ws rd hu us ud W) (hd : 0 ≤ hold ∧ hold ≤ 256) (o : Opn) (vd vg : Value) (rdd : RI W vd o.deps) (rgg : RR W vg o.gone) (h1 : o.deps.length ≤ 3000) (h2 : o.gone.length ≤ 3000) (h3 : o.text.size ≤ 3000) (hin : InO o) (hl : ws.length + rd.length ≤ 1000) : Calls Tryz.prog 15 #[.pointer (some ⟨b, 0, none⟩), opA o vd vg] W fun e W' => e = .returned (.tuple #[.int .i64 (offA hold hv ws rd o).1.1, .int .i64 (offA hold hv ws rd o).1.2]) ∧ DN w S b r hold (offA hold hv ws rd o).2.1 (offA hold hv ws rd o).2.2.1 (offA hold hv ws rd o).2.2.2 hu us ud W W' := by
  obtain ⟨P, D, ⟨vh, vw, vr, wt, rt, q, e1, e2⟩, q2, a1, a2⟩ := h.q
  have l1 : wt.length = ws.length := by rw [← e1, List.length_map]
  have l2 : rt.length = rd.length := by rw [← e2, List.length_map]
  refine (Offer_in q o vd vg rdd rgg (by omega) (by omega) (by omega) hin hd (by omega)).mono ?_
  rintro e W' ⟨rfl, hq, k⟩
  rw [e1, e2] at hq
  rw [e1, e2]
  exact ⟨rfl, h.newP hq q2 a1 a2 k⟩
theorem DJ.offD (h : DJ w S b r hold hv ws rd hu us ud W) (hd : 0 ≤ hold ∧ hold ≤ 256) (o : Opn) (vd vg : Value) (rdd : RI w vd o.deps) (rgg : RR w vg o.gone) (h1 : o.deps.length ≤ 3000) (h2 : o.gone.length ≤ 3000) (h3 : o.text.size ≤ 3000) (hin : InO o) (hl : us.length + ud.length ≤ 1000) (hdd : DD us) : Calls Tryz.prog 36 #[.pointer (some ⟨r, 0, none⟩), opA o vd vg] W fun e W' => e = .returned (.tuple #[.int .i64 (offA hold hu us ud o).1.1, .int .i64 (offA hold hu us ud o).1.2]) ∧ DN w S b r hold hv ws rd (offA hold hu us ud o).2.1 (offA hold hu us ud o).2.2.1 (offA hold hu us ud o).2.2.2 W W' := by
  obtain ⟨P, D, q1, ⟨vh, vw, vr, wt, rt, q, e1, e2⟩, a1, a2⟩ := h.q
  have l1 : wt.length = us.length := by rw [← e1, List.length_map]
  have l2 : rt.length = ud.length := by rw [← e2, List.length_map]
  refine (refOffer_in q h.bel (fun i hi => (h.lo i (a2 i hi)).1) o vd vg ⟨rdd, rgg, (show o.deps.length ≤ 1000000 by omega), (show o.gone.length ≤ 1000000 by omega), (show o.text.size ≤ 1000000 by omega), hin⟩ hd (by omega) (by rw [e1]; exact hdd)).mono ?_
  rintro e W' ⟨rfl, hq, k⟩
  rw [e1, e2] at hq
  rw [e1, e2]
  exact ⟨rfl, h.newD q1 hq a1 a2 k⟩
theorem DJ.takePN (h : DJ w S b r hold hv ws [] hu us ud W) : Calls Tryz.prog 16 #[.pointer (some ⟨b, 0, none⟩)] W fun e W' => e = .returned (.tuple #[zeroA, .bool false]) ∧ Below W.heap.size W W' := by
  obtain ⟨P, D, ⟨vh, vw, vr, wt, rt, q, e1, e2⟩, q2, a1, a2⟩ := h.q
  have : rt = [] := by simpa using e2
  subst this
  exact Take_none q
theorem DJ.takeDN (h : DJ w S b r hold hv ws rd hu us [] W) : Calls Tryz.prog 39 #[.pointer (some ⟨r, 0, none⟩)] W fun e W' => e = .returned (.tuple #[zeroA, .bool false]) ∧ Below W.heap.size W W' := by
  obtain ⟨P, D, q1, ⟨vh, vw, vr, wt, rt, q, e1, e2⟩, a1, a2⟩ := h.q
  have : rt = [] := by simpa using e2
  subst this
  exact refTake_none q
/-- what was taken: in rows that the queue does not have any more -/
structure TkP (S S' : Nat → Prop) (W' : World) (x : Opn × Value × Value) : Prop where
  oe : OE S W' x
  ap : ∀ i, (x.2.1.ownBlock = some i ∨ x.2.2.ownBlock = some i) → ¬ S' i
theorem DJ.takeP {o : Opn} (h : DJ w S b r hold hv ws (o :: rd) hu us ud W) (hl : rd.length ≤ 1000) : Calls Tryz.prog 16 #[.pointer (some ⟨b, 0, none⟩)] W fun e W' => ∃ ad cd ag cg S', e = .returned (.tuple #[opA o (.slice ad o.deps.length cd) (.slice ag o.gone.length cg), .bool true]) ∧ DJ w S' b r hold hv ws rd hu us ud W' ∧ (∀ i, S' i → S i) ∧ TkP S S' W' (o, .slice ad o.deps.length cd, .slice ag o.gone.length cg) ∧ Kp S W W' := by
  obtain ⟨P, D, ⟨vh, vw, vr, wt, rt, q, e1, e2⟩, q2, a1, a2⟩ := h.q
  cases rt with
  | nil => simp at e2
  | cons x rt =>
    simp only [List.map_cons, List.cons.injEq] at e2
    obtain ⟨rfl, e2⟩ := e2
    have l2 : rt.length = rd.length := by rw [← e2, List.length_map]
    refine (Take_some q (by omega)).mono ?_
    rintro e W' ⟨rfl, ⟨vr', q'⟩, hoe, k⟩
    obtain ⟨x, vd, vg⟩ := x
    obtain ⟨ad, cd, f1⟩ := OwD.form hoe.d
    obtain ⟨ag, cg, f2⟩ := OwR.form hoe.g
    simp only at f1 f2
    subst f1
    subst f2
    have hap : Apt vh ((x, Value.slice ad x.deps.length cd, Value.slice ag x.gone.length cg) :: (wt ++ rt)) := q.dj.perm List.perm_middle
    have q3 := q'.less hoe hap
    have hz := k.size
    refine ⟨ad, cd, ag, cg, fun i => S i ∧ (Value.slice ad x.deps.length cd).ownBlock ≠ some i ∧ (Value.slice ag x.gone.length cg).ownBlock ≠ some i, rfl, ⟨⟨_, D, ⟨vh, vw, vr', wt, rt, q3, e1, e2⟩, q2.kp k (fun i e e' => (a1 i e).2 e'), fun i hi => ⟨⟨(a1 i hi.1).1, hi.2⟩, (a1 i hi.1).2⟩, fun i hi => ⟨a2 i hi, fun e => (a1 i (hoe.pd i e)).2 hi, fun e => (a1 i (hoe.pg i e)).2 hi⟩⟩, fun i hi => ⟨(h.lo i hi.1).1, by have := (h.lo i hi.1).2; omega⟩, k.below h.bel (fun i e => (h.lo i (a1 i e).1).1)⟩, fun i hi => hi.1, ⟨hoe.mono (fun i e => (a1 i e).1), fun i hi e => hi.elim e.2.1 e.2.2⟩, k.wk (fun i e => (a1 i e).1)⟩
theorem DJ.takeD {o : Opn} (h : DJ w S b r hold hv ws rd hu us (o :: ud) W) (hl : ud.length ≤ 1000) : Calls Tryz.prog 39 #[.pointer (some ⟨r, 0, none⟩)] W fun e W' => ∃ ad cd ag cg, e = .returned (.tuple #[opA o (.slice ad o.deps.length cd) (.slice ag o.gone.length cg), .bool true]) ∧ DN w S b r hold hv ws rd hu us ud W W' ∧ RI w (.slice ad o.deps.length cd) o.deps ∧ RR w (.slice ag o.gone.length cg) o.gone := by
  obtain ⟨P, D, q1, ⟨vh, vw, vr, wt, rt, q, e1, e2⟩, a1, a2⟩ := h.q
  cases rt with
  | nil => simp at e2
  | cons x rt =>
    simp only [List.map_cons, List.cons.injEq] at e2
    obtain ⟨rfl, e2⟩ := e2
    have l2 : rt.length = ud.length := by rw [← e2, List.length_map]
    refine (refTake_some q (by omega)).mono ?_
    rintro e W' ⟨rfl, ⟨vr', q'⟩, hoe, k⟩
    obtain ⟨x, vd, vg⟩ := x
    obtain ⟨ad, cd, f1⟩ := RI.form hoe.d
    obtain ⟨ag, cg, f2⟩ := RC.form hoe.g
    simp only at f1 f2
    subst f1
    subst f2
    exact ⟨ad, cd, ag, cg, rfl, h.newD q1 ⟨vh, vw, vr', wt, rt, q'.mono (fun i hi => .inl hi), e1, e2⟩ a1 a2 k, hoe.d, hoe.g⟩

end Go.Proofs.YtkkolefionbbcaaGreat

/-
  The law's alike: both queues tell the same.
-/
set_option linter.unusedSimpArgs false
set_option linter.unusedVariables false
namespace Go.Proofs.YtkkolefionbbcaaGreat
open Go.RowKit Go.Lib

variable {w W W' : World} {b r : Nat} {hold : Int} {hv : List (Int × Int)} {S : Nat → Prop} {ws rd : List Opn}
theorem DJ.calls (h : DJ w S b r hold hv ws rd hv ws rd W) (hd : 0 ≤ hold ∧ hold ≤ 256) (hl : ws.length ≤ 1000) (hc : chk hv = 0) :
    (∀ X, Below W.heap.size W X → Calls Tryz.prog 18 #[.pointer (some ⟨b, 0, none⟩)] X fun e X' => ∃ a c, e = .returned (.slice a ws.length c) ∧ RI X' (.slice a ws.length c) (sortI (ws.map dotO)) ∧ Below X.heap.size X X') ∧
    (∀ X, Below W.heap.size W X → Calls Tryz.prog 59 #[.pointer (some ⟨r, 0, none⟩)] X fun e X' => ∃ a c, e = .returned (.slice a ws.length c) ∧ RI X' (.slice a ws.length c) (sortI (ws.map dotO)) ∧ Below X.heap.size X X') ∧
    (∀ X, Below W.heap.size W X → Calls Tryz.prog 19 #[.pointer (some ⟨b, 0, none⟩)] X fun e X' => e = .returned (.int .i64 (hold - (ws.length : Nat))) ∧ Below X.heap.size X X') ∧
    (∀ X, Below W.heap.size W X → Calls Tryz.prog 60 #[.pointer (some ⟨r, 0, none⟩)] X fun e X' => e = .returned (.int .i64 (hold - (ws.length : Nat))) ∧ Below X.heap.size X X') ∧
    (∀ X, Below W.heap.size W X → Calls Tryz.prog 20 #[.pointer (some ⟨b, 0, none⟩)] X fun e X' => ∃ a c, e = .returned (.slice a hv.length c) ∧ RI X' (.slice a hv.length c) hv ∧ Below X.heap.size X X') ∧
    (∀ X, Below W.heap.size W X → Calls Tryz.prog 61 #[.pointer (some ⟨r, 0, none⟩)] X fun e X' => ∃ a c, e = .returned (.slice a hv.length c) ∧ RI X' (.slice a hv.length c) hv ∧ Below X.heap.size X X') := by
  obtain ⟨P, D, ⟨vh, vw, vr, wt, rt, q, e1, e2⟩, ⟨uh, uw, ur, wu, ru, q', e1', e2'⟩, a1, a2⟩ := h.q
  have l1 : wt.length = ws.length := by rw [← e1, List.length_map]
  have l2 : wu.length = ws.length := by rw [← e1', List.length_map]
  have d1 : dotsT wt = ws.map dotO := by rw [← e1, List.map_map]; rfl
  have d2 : dotsT wu = ws.map dotO := by rw [← e1', List.map_map]; rfl
  refine ⟨fun X hX => ?_, fun X hX => ?_, fun X hX => ?_, fun X hX => ?_, fun X hX => ?_, fun X hX => ?_⟩
  · refine (Waits_in (q.below hX) (by omega)).mono ?_
    rintro e W' ⟨v', rfl, ho, hb⟩
    rw [d1] at ho
    obtain ⟨a, c, rfl⟩ := owns_form ho
    have e3 : (sortI (ws.map dotO)).length = wt.length := by rw [(sortI_perm _).length_eq, List.length_map, l1]
    rw [← l1]
    refine ⟨a, c, rfl, ?_, hb⟩
    unfold RI
    rw [e3]
    exact RC.of_owns ho
  · refine (refWaits_in (q'.below hX) (by omega)).mono ?_
    rintro e W' ⟨v', rfl, ho, hb⟩
    rw [d2] at ho
    obtain ⟨a, c, rfl⟩ := owns_form ho
    have e3 : (sortI (ws.map dotO)).length = wu.length := by rw [(sortI_perm _).length_eq, List.length_map, l2]
    rw [← l2]
    refine ⟨a, c, rfl, ?_, hb⟩
    unfold RI
    rw [e3]
    exact RC.of_owns ho
  · have := Free_in (q.below hX) hd (by omega)
    rw [l1] at this
    exact this
  · have := refFree_in (q'.below hX) hd (by omega)
    rw [l2] at this
    exact this
  · refine (Vector_in (q.below hX)).mono ?_
    rintro e W' ⟨v', rfl, ho, hb⟩
    obtain ⟨a, c, rfl⟩ := OwD.form ho
    exact ⟨a, c, rfl, OwD.row ho, hb⟩
  · refine (refVector_in (q'.below hX)).mono ?_
    rintro e W' ⟨v', rfl, ho, hb⟩
    rw [vec_mrg hc] at ho
    obtain ⟨a, c, rfl⟩ := OwD.form ho
    exact ⟨a, c, rfl, OwD.row ho, hb⟩
theorem DJ.hlen (h : DJ w S b r hold hv ws rd hv ws rd W) : hv.length ≤ 1000000 := by
  obtain ⟨P, D, ⟨vh, vw, vr, wt, rt, q, e1, e2⟩, _⟩ := h.q
  exact q.hl
set_option maxRecDepth 100000 in
set_option maxHeartbeats 4000000 in
theorem alike_in (h : DJ w S b r hold hv ws rd hv ws rd W) (hd : 0 ≤ hold ∧ hold ≤ 256) (hl : ws.length ≤ 1000) (hc : chk hv = 0) :
    Calls Tryz.prog 38 #[.pointer (some ⟨b, 0, none⟩), .pointer (some ⟨r, 0, none⟩)] W fun e W' => e = .returned (.bool true) ∧ Below W.heap.size W W' := by
  obtain ⟨h1, h2, h3, h4, h5, h6⟩ := h.calls hd hl hc
  have hhl := h.hlen
  have hsl : (sortI (ws.map dotO)).length ≤ 1000 := by rw [(sortI_perm _).length_eq, List.length_map]; exact hl
  obtain ⟨n, hn⟩ : ∃ n, ws.length = n := ⟨_, rfl⟩
  obtain ⟨m, hm⟩ : ∃ m, hv.length = m := ⟨_, rfl⟩
  rw [hn] at h1 h2 h3 h4
  rw [hm] at h5 h6
  have HSa := hide (fun (a a' : Option Addr) (c c' : Nat) X (hr : RI X (.slice a n c) (sortI (ws.map dotO))) (hr' : RI X (.slice a' n c') (sortI (ws.map dotO))) => dots_in _ _ (.slice a n c) (.slice a' n c') X hr hr' (by omega) (by omega))
  have HSv := hide (fun (a a' : Option Addr) (c c' : Nat) X (hr : RI X (.slice a m c) hv) (hr' : RI X (.slice a' m c') hv) => Same_in hv hv (.slice a m c) (.slice a' m c') X hr hr' (by omega) (by omega))
  have H1 := hide h1
  have H2 := hide h2
  have H3 := hide h3
  have H4 := hide h4
  have H5 := hide h5
  have H6 := hide h6
  obtain ⟨fr, hfr⟩ : ∃ fr, hold - ((n : Nat) : Int) = fr := ⟨_, rfl⟩
  rw [hfr] at H3 H4
  clear h1 h2 h3 h4 h5 h6 h hn hm hfr hsl hhl
  go_enter Tryz.func38, Tryz.ntmps38
  go_wp2_with fail
  refine (unhide H1 _ (Below.refl _ _)).mono ?_
  rintro e X1 ⟨a1, c1, rfl, r1, b1⟩
  have R1 := hide r1
  have B1 := hide b1
  clear H1 r1 b1
  go_wp2_with fail
  refine (unhide H2 _ (unhide B1)).mono ?_
  rintro e X2 ⟨a2, c2, rfl, r2, b2⟩
  have HD := hide (unhide HSa a1 a2 c1 c2 X2 ((unhide R1).below b2) r2)
  have B2 := hide (bnext (unhide B1) b2)
  clear H2 r2 b2 HSa R1
  simp only [decide_true] at HD
  go_wp2_with fail
  refine (unhide HD).mono ?_
  rintro e X3 ⟨rfl, b3⟩
  have B3 := hide (bnext (unhide B2) b3)
  clear HD b3
  go_wp2_with fail
  refine (unhide H3 _ (unhide B3)).mono ?_
  rintro e X4 ⟨rfl, b4⟩
  have B4 := hide (bnext (unhide B3) b4)
  clear H3 b4
  go_wp2_with fail
  refine (unhide H4 _ (unhide B4)).mono ?_
  rintro e X5 ⟨rfl, b5⟩
  have B5 := hide (bnext (unhide B4) b5)
  clear H4 b5
  go_wp2_with fail
  refine (unhide H5 _ (unhide B5)).mono ?_
  rintro e X6 ⟨a6, c6, rfl, r6, b6⟩
  have R6 := hide r6
  have B6 := hide (bnext (unhide B5) b6)
  clear H5 r6 b6
  go_wp2_with fail
  refine (unhide H6 _ (unhide B6)).mono ?_
  rintro e X7 ⟨a7, c7, rfl, r7, b7⟩
  have HE := hide (unhide HSv a6 a7 c6 c7 X7 ((unhide R6).below b7) r7)
  have B7 := hide (bnext (unhide B6) b7)
  clear H6 r7 b7 R6 HSv
  simp only [decide_true] at HE
  go_wp2_with fail
  refine (unhide HE).mono ?_
  rintro e X8 ⟨rfl, nn, rfl⟩
  go_wp2
  go_ret
  exact ⟨rfl, bdrew (unhide B7) nn⟩

end Go.Proofs.YtkkolefionbbcaaGreat

/-
  The law's does: a step on both queues.
-/
set_option linter.unusedSimpArgs false
set_option linter.unusedVariables false
namespace Go.Proofs.YtkkolefionbbcaaGreat
open Go.RowKit Go.Lib

def zeroO : Opn := ⟨0, 0, [], 0, 0, 0, 0, 0, ⟨#[]⟩, [], 0⟩
/-- the first that is ready, or none -/
def hdO (rd : List Opn) : Opn := rd.headD zeroO
def isO (rd : List Opn) : Bool := !rd.isEmpty
variable {w W W' : World} {b r : Nat} {hold : Int} {hv hu : List (Int × Int)} {S : Nat → Prop} {ws rd us ud : List Opn}
theorem TkP.zero (W : World) : TkP S S W (zeroO, .slice none 0 0, .slice none 0 0) :=
  ⟨⟨World.ownsRow_nil _ _ _ _, World.ownsRow_nil _ _ _ _, fun k hk => (by cases hk), fun k hk => (by cases hk), by decide, by decide, by decide, by constructor <;> first | (unfold in64; simp [zeroO]; done) | (simp [zeroO]; done) | decide | (intro e he; cases he)⟩, fun i hi => (by rcases hi with hi | hi <;> cases hi)⟩
theorem DJ.takePA (h : DJ w S b r hold hv ws rd hu us ud W) (hl : rd.length ≤ 1000) : Calls Tryz.prog 16 #[.pointer (some ⟨b, 0, none⟩)] W fun e W' => ∃ ad cd ag cg S', e = .returned (.tuple #[opA (hdO rd) (.slice ad (hdO rd).deps.length cd) (.slice ag (hdO rd).gone.length cg), .bool (isO rd)]) ∧ DJ w S' b r hold hv ws rd.tail hu us ud W' ∧ (∀ i, S' i → S i) ∧ TkP S S' W' (hdO rd, .slice ad (hdO rd).deps.length cd, .slice ag (hdO rd).gone.length cg) ∧ Kp S W W' := by
  cases rd with
  | nil =>
    refine h.takePN.mono ?_
    rintro e W' ⟨rfl, hb⟩
    exact ⟨none, 0, none, 0, S, rfl, h.below hb, fun i hi => hi, TkP.zero W', Kp.of_below hb⟩
  | cons o rd => exact h.takeP (by simp at hl; omega)
theorem DJ.takeDA (h : DJ w S b r hold hv ws rd hu us ud W) (hl : ud.length ≤ 1000) : Calls Tryz.prog 39 #[.pointer (some ⟨r, 0, none⟩)] W fun e W' => ∃ ad cd ag cg, e = .returned (.tuple #[opA (hdO ud) (.slice ad (hdO ud).deps.length cd) (.slice ag (hdO ud).gone.length cg), .bool (isO ud)]) ∧ DN w S b r hold hv ws rd hu us ud.tail W W' ∧ RI w (.slice ad (hdO ud).deps.length cd) (hdO ud).deps ∧ RR w (.slice ag (hdO ud).gone.length cg) (hdO ud).gone := by
  cases ud with
  | nil =>
    refine h.takeDN.mono ?_
    rintro e W' ⟨rfl, hb⟩
    exact ⟨none, 0, none, 0, rfl, h.dn.below hb, RC.nil _ _ _, RC.nil _ _ _⟩
  | cons o ud => exact h.takeD (by simp at hl; omega)
theorem Tw.kp {N : Nat → Prop} {B : Nat} {deps : List (Int × Int)} {gone : List ((Int × Int) × Int)} {gd cd gg cg : Nat} (h : Tw W B deps gone gd cd gg cg) (k : Kp N W W') (h1 : ¬ N gd) (h2 : ¬ N gg) : Tw W' B deps gone gd cd gg cg :=
  ⟨owns_kp h.d k (fun i hi e => by cases hi; exact h1 e), owns_kp h.g k (fun i hi e => by cases hi; exact h2 e)⟩
theorem DN.from {X : World} (hb : Below W.heap.size W X) (h : DN w S b r hold hv ws rd hu us ud X W') : DN w S b r hold hv ws rd hu us ud W W' := by
  obtain ⟨S', j, hs, k⟩ := h
  have := hb.size
  exact ⟨S', j, fun i hi => (hs i hi).imp id (fun e => by omega), (Kp.of_below (N := S) hb).trans k (fun i e => .inl e)⟩
/-- both took one, and what the program gave is written over -/
theorem DN.took {S2 S3 S4 N : Nat → Prop} {X0 X X1 V1 X2 X3 Y : World} (hs2 : ∀ i, S2 i → S i ∨ X0.heap.size ≤ i) (k2 : Kp S X0 X) (lo2 : ∀ i, S2 i → w.heap.size ≤ i) (hs3 : ∀ i, S3 i → S2 i) (k3 : Kp S2 X X1) (b1 : Below X1.heap.size X1 V1) (j4 : DJ w S4 b r hold hv ws rd hu us ud X2) (hs4 : ∀ i, S4 i → S3 i ∨ V1.heap.size ≤ i) (k4 : Kp S3 V1 X2) (b3 : Below X2.heap.size X2 X3) (kN : Kp N X3 Y) (hN : ∀ i, N i → S2 i ∧ ¬ S3 i ∧ i < X1.heap.size) : DN w S b r hold hv ws rd hu us ud X0 Y := by
  have z2 := k2.size
  have z3 := k3.size
  have z4 := b1.size
  refine ⟨S4, (j4.below b3).kp kN (fun i e => ⟨fun e' => ?_, lo2 i (hN i e).1⟩), fun i hi => ?_, ?_⟩
  · rcases hs4 i e' with q | q
    · exact (hN i e).2.1 q
    · have := (hN i e).2.2; omega
  · rcases hs4 i hi with q | q
    · exact hs2 i (hs3 i q)
    · exact .inr (by omega)
  · exact ((((k2.trans k3 hs2).trans (Kp.of_below (N := fun _ => False) b1) (fun i e => e.elim)).trans k4 (fun i e => hs2 i (hs3 i e))).trans (Kp.of_below (N := fun _ => False) b3) (fun i e => e.elim)).trans kN (fun i e => hs2 i (hN i e).1)
/-- what does leaves -/
def DoA (w : World) (S : Nat → Prop) (b r : Nat) (hold : Int) (n : Nat) (W : World) (e : Ending) (W' : World) : Prop := e = .returned (.bool true) ∧ ∃ hv' ws' rd', DI hold hv' ws' rd' n ∧ DN w S b r hold hv' ws' rd' hv' ws' rd' W W'
/-- behind the offer -/
def DoO (w : World) (S : Nat → Prop) (b r : Nat) (hold : Int) (n : Nat) (W W' : World) : Prop := ∃ hv' ws' rd', DI hold hv' ws' rd' n ∧ DN w S b r hold hv' ws' rd' hv' ws' rd' W W'
set_option maxRecDepth 100000 in
set_option maxHeartbeats 8000000 in
theorem does_in {n : Nat} (h : DJ w S b r hold hv ws rd hv ws rd W) (hi : DI hold hv ws rd n) (hn : n ≤ 900) (hd : 0 ≤ hold ∧ hold ≤ 256) (o : Opn) (ad ag : Option Addr) (L1 cd L2 cg : Nat) (nt : Bool) (tk : Int) (hL1 : o.deps.length = L1) (hL2 : o.gone.length = L2) (rdd : RI w (.slice ad L1 cd) o.deps) (rgg : RR w (.slice ag L2 cg) o.gone) (hin : InO o) (s1 : L1 ≤ 3000) (s2 : L2 ≤ 3000) (s3 : o.text.size ≤ 3000) :
    Calls Tryz.prog 14 #[.pointer (some ⟨b, 0, none⟩), .pointer (some ⟨r, 0, none⟩), .agg #[.int .i64 o.ds, .int .i64 o.dq, .slice ad L1 cd, .int .i64 o.kind, .int .i64 o.it, .int .i64 o.is, .int .i64 o.rt, .int .i64 o.rs, .string o.text, .slice ag L2 cg, .int .i64 o.site, .bool nt, .int .i64 tk]] W (DoA w S b r hold (n + 1) W) := by
  obtain ⟨X0, hX0⟩ : ∃ X0, W.alloc (.cells #[.int .i64 o.ds, .int .i64 o.dq, .slice ad L1 cd, .int .i64 o.kind, .int .i64 o.it, .int .i64 o.is, .int .i64 o.rt, .int .i64 o.rs, .string o.text, .slice ag L2 cg, .int .i64 o.site, .bool nt, .int .i64 tk] 44) = X0 := ⟨_, rfl⟩
  have b0 : Below W.heap.size W X0 := by rw [← hX0]; exact ballc (Below.refl _ _) _
  have B0 : Bx X0 W.heap.size 44 #[.int .i64 o.ds, .int .i64 o.dq, .slice ad L1 cd, .int .i64 o.kind, .int .i64 o.it, .int .i64 o.is, .int .i64 o.rt, .int .i64 o.rs, .string o.text, .slice ag L2 cg, .int .i64 o.site, .bool nt, .int .i64 tk] := by rw [← hX0]; exact Bx.new _ _ _
  have hx0 : X0.heap.size = W.heap.size + 1 := by rw [← hX0]; simp
  have hnS : ¬ S W.heap.size := fun e => by have := (h.lo _ e).2; omega
  have hlS : ∀ i, S i → i < W.heap.size := fun i e => (h.lo i e).2
  have HJ0 := hide (h.below b0)
  have HW0 := hide (bnext h.bel b0)
  have HB0 := hide B0
  have Hb0 := hide b0
  have HI := hide hi
  have HR := hide (And.intro rdd rgg)
  have Hsz := hide hx0
  have HL := hide (And.intro hL1 hL2)
  have HnS := hide hnS
  have HlS := hide hlS
  have HBk : Hid (∀ X, Kp S X0 X → Bx X W.heap.size 44 #[.int .i64 o.ds, .int .i64 o.dq, .slice ad L1 cd, .int .i64 o.kind, .int .i64 o.it, .int .i64 o.is, .int .i64 o.rt, .int .i64 o.rs, .string o.text, .slice ag L2 cg, .int .i64 o.site, .bool nt, .int .i64 tk]) := hide (fun X k => B0.kp k hnS)
  have p11 := B0.cell 11 _ rfl
  have p0 := B0.cell 0 _ rfl
  have p1 := B0.cell 1 _ rfl
  have p2 := B0.cell 2 _ rfl
  have p3 := B0.cell 3 _ rfl
  have p4 := B0.cell 4 _ rfl
  have p5 := B0.cell 5 _ rfl
  have p6 := B0.cell 6 _ rfl
  have p7 := B0.cell 7 _ rfl
  have p8 := B0.cell 8 _ rfl
  have p9 := B0.cell 9 _ rfl
  have p10 := B0.cell 10 _ rfl
  obtain ⟨bx, hbx⟩ : ∃ bx, W.heap.size = bx := ⟨_, rfl⟩
  have Hbx := hide hbx
  rw [hbx] at p0 p1 p2 p3 p4 p5 p6 p7 p8 p9 p10 p11 HBk HB0 HnS
  clear h hi rdd rgg b0 B0 hx0 hnS hlS hL1 hL2
  go_enter Tryz.func14, Tryz.ntmps14
  go_upto_if 21 with fail
  go_cut [] from 19 to 58 (fun wx => Hid (DoO w S b r hold (n + 1) X0 wx))
  case first =>
    cases nt with
    | true =>
      go_wp2
      go_meet
      case rel => exact hide ⟨hv, ws, rd, (unhide HI).more (by omega), (unhide HJ0).dn⟩
    | false =>
      obtain ⟨hL1, hL2⟩ := unhide HL
      have hR := unhide HR
      have HLe := hide (lent_in o ad ag cd cg X0 (by rw [hL1]; exact hR.1.below (unhide HW0)) (by rw [hL2]; exact RC.below hR.2 (unhide HW0)) (by omega) (by omega))
      rw [hL1, hL2] at HLe
      clear hL1 hL2 hR
      go_wp2_with fail
      refine (unhide HLe).mono ?_
      rintro e X1 ⟨gd, c1, gg, c2, rfl, htw, b1⟩
      obtain ⟨V, hV⟩ : ∃ V, X1.alloc (.cells #[.int .i64 o.ds, .int .i64 o.dq, .slice (some ⟨gd, 0, none⟩) L1 c1, .int .i64 o.kind, .int .i64 o.it, .int .i64 o.is, .int .i64 o.rt, .int .i64 o.rs, .string o.text, .slice (some ⟨gg, 0, none⟩) L2 c2, .int .i64 o.site] 42) = V := ⟨_, rfl⟩
      have bV : Below X1.heap.size X1 V := by rw [← hV]; exact ballc (Below.refl _ _) _
      have BV : Bx V X1.heap.size 42 #[.int .i64 o.ds, .int .i64 o.dq, .slice (some ⟨gd, 0, none⟩) L1 c1, .int .i64 o.kind, .int .i64 o.it, .int .i64 o.is, .int .i64 o.rt, .int .i64 o.rs, .string o.text, .slice (some ⟨gg, 0, none⟩) L2 c2, .int .i64 o.site] := by rw [← hV]; exact Bx.new _ _ _
      have jV := ((unhide HJ0).below b1).below bV
      have tV := htw.below bV
      have z0 := unhide Hsz
      have z1 := b1.size
      have zV := BV.lt
      have ngd := (htw.d.lt gd rfl)
      have ngg := (htw.g.lt gg rfl)
      obtain ⟨hL1, hL2⟩ := unhide HL
      have hi := unhide HI
      have hlen := hi.len
      have htot := hi.tot
      have r1 := tV.ri
      have r2 := tV.rr
      rw [hL1] at r1
      rw [hL2] at r2
      have HOf := hide (jV.offP hd o _ _ r1 r2 (by omega) (by omega) s3 hin (by omega))
      have HI1 := hide (hi.off o)
      obtain ⟨⟨⟨rr, er⟩, hv', ws', rd'⟩, hA⟩ : ∃ A, offA hold hv ws rd o = A := ⟨_, rfl⟩
      have HA := hide hA
      rw [hA] at HOf HI1
      simp only at HOf HI1
      unfold opA at HOf
      obtain ⟨v0, v1, v2, v3, v4, v5, v6, v7, v8, v9, v10⟩ := cells_op BV
      have HBV := hide BV
      have HtV := hide tV
      have HzV := hide (And.intro z0 (And.intro z1 (And.intro zV (And.intro ngd ngg))))
      have HbV := hide (bnext b1 bV)
      clear HLe htw b1 bV BV jV tV z0 z1 zV ngd ngg hL1 hL2 hi hlen htot r1 r2 hA
      go_wp2_with fail
      refine (unhide HOf).mono ?_
      rintro e X2 ⟨rfl, ⟨S2, j2, hs2, k2⟩⟩
      have B2 := ((unhide HBk V (Kp.of_below (unhide HbV)))).kp k2 (unhide HnS)
      have hi := unhide HI
      have hlen := hi.len
      have htot := hi.tot
      have hRR := unhide HR
      have HOd := hide (j2.offD hd o _ _ hRR.1 hRR.2 (by have := (unhide HL).1; omega) (by have := (unhide HL).2; omega) s3 hin (by omega) hi.dd)
      rw [unhide HA] at HOd
      simp only at HOd
      unfold opA at HOd
      have HS2 := hide (And.intro hs2 k2)
      have w0 := B2.cell 0 _ rfl
      have w1 := B2.cell 1 _ rfl
      have w2 := B2.cell 2 _ rfl
      have w3 := B2.cell 3 _ rfl
      have w4 := B2.cell 4 _ rfl
      have w5 := B2.cell 5 _ rfl
      have w6 := B2.cell 6 _ rfl
      have w7 := B2.cell 7 _ rfl
      have w8 := B2.cell 8 _ rfl
      have w9 := B2.cell 9 _ rfl
      have w10 := B2.cell 10 _ rfl
      have HB2 := hide B2
      have Hlo2 := hide (show ∀ i, S2 i → S i ∨ V.heap.size ≤ i from hs2)
      have BV2 := (unhide HBV).kp k2 (fun e => by have := unhide HlS _ e; have := unhide HzV; omega)
      have HBV2 := hide BV2
      have Ht2 := hide ((unhide HtV).kp k2 (fun e => by have := unhide HlS _ e; have := unhide HzV; omega) (fun e => by have := unhide HlS _ e; have := unhide HzV; omega))
      clear HOf j2 hs2 k2 B2 BV2 hi hlen htot hRR v0 v1 v2 v3 v4 v5 v6 v7 v8 v9 v10 p0 p1 p2 p3 p4 p5 p6 p7 p8 p9 p10 p11 hV hX0
      go_wp2_with fail
      refine (unhide HOd).mono ?_
      rintro e X3 ⟨rfl, ⟨S3, j3, hs3, k3⟩⟩
      have zz := unhide HzV
      have k2s := (unhide HS2).2.size
      have n2 : ∀ i, i < V.heap.size → ¬ S i → ¬ S2 i := fun i h1 h2 e => (unhide Hlo2 i e).elim h2 (fun q => by omega)
      have nS : ∀ i, W.heap.size ≤ i → ¬ S i := fun i h1 e => by have := unhide HlS _ e; omega
      have B3 := (unhide HB2).kp k3 (n2 _ (by have := unhide Hbx; omega) (unhide HnS))
      have BV3 := (unhide HBV2).kp k3 (n2 _ (by omega) (nS _ (by have := unhide Hbx; omega)))
      have ngd : ¬ S2 gd := n2 _ (by omega) (nS _ (by have := unhide Hbx; omega))
      have ngg : ¬ S2 gg := n2 _ (by omega) (nS _ (by have := unhide Hbx; omega))
      have t3 := (unhide Ht2).kp k3 ngd ngg
      have hRR := unhide HR
      have HBa := hide (back_in o ad ag cd cg X0.heap.size gd c1 gg c2 X3 t3 (by rw [(unhide HL).1]; exact hRR.1.below j3.bel) (by rw [(unhide HL).2]; exact RC.below hRR.2 j3.bel) (by have := (unhide HL).1; omega) (by have := (unhide HL).2; omega))
      rw [(unhide HL).1, (unhide HL).2] at HBa
      obtain ⟨v0, v1, v2, v3, v4, v5, v6, v7, v8, v9, v10⟩ := cells_op BV3
      have y0 := B3.cell 0 _ rfl
      have y1 := B3.cell 1 _ rfl
      have y2 := B3.cell 2 _ rfl
      have y3 := B3.cell 3 _ rfl
      have y4 := B3.cell 4 _ rfl
      have y5 := B3.cell 5 _ rfl
      have y6 := B3.cell 6 _ rfl
      have y7 := B3.cell 7 _ rfl
      have y8 := B3.cell 8 _ rfl
      have y9 := B3.cell 9 _ rfl
      have y10 := B3.cell 10 _ rfl
      have n3 : ∀ i, (i = gd ∨ i = gg) → ¬ S3 i ∧ w.heap.size ≤ i := fun i hi => ⟨fun e => (hs3 i e).elim (fun q => by rcases hi with rfl | rfl; exact ngd q; exact ngg q) (fun q => by have := k2s; omega), by have := (unhide HJ0).bel.size; omega⟩
      have HJ3 := hide (fun (Y : World) (kb : Kp (fun i => i = gd ∨ i = gg) X3 Y) => j3.kp kb n3)
      have HKS : Hid (∀ (Y : World), Kp (fun i => i = gd ∨ i = gg) X3 Y → Kp S X0 Y) := hide (fun Y kb => (((Kp.of_below (N := S) (unhide HbV)).trans (unhide HS2).2 (fun i e => .inl e)).trans k3 (fun i e => ((unhide HS2).1 i e).imp id (fun q => by omega))).trans kb (fun i e => .inr (by omega)))
      have Hs3 : Hid (∀ i, S3 i → S i ∨ X0.heap.size ≤ i) := hide (fun i e => (hs3 i e).elim (fun q => ((unhide HS2).1 i q).imp id (fun q => by omega)) (fun q => .inr (by have := k2s; omega)))
      have HI1l := (unhide HI1).len
      have HI1c := (unhide HI1).ck
      have hrr : (rr != rr) = false := by simp
      have her : (er != er) = false := by simp
      clear HOd j3 hs3 k3 zz k2s n2 nS B3 BV3 ngd ngg t3 hRR n3 w0 w1 w2 w3 w4 w5 w6 w7 w8 w9 w10
      go_wp2_with fail
      refine (unhide HBa).mono ?_
      rintro e X4 ⟨rfl, kb⟩
      have j4 := unhide HJ3 X4 kb
      have HAl := hide (alike_in j4 hd (by omega) HI1c)
      have HD4 : Hid (DN w S b r hold hv' ws' rd' hv' ws' rd' X0 X4) := hide ⟨S3, j4, unhide Hs3, unhide HKS X4 kb⟩
      clear HBa kb j4 HJ3 HKS Hs3 HI1l HI1c y0 y1 y2 y3 y4 y5 y6 y7 y8 y9 y10 v0 v1 v2 v3 v4 v5 v6 v7 v8 v9 v10
      go_wp2_with fail
      refine (unhide HAl).mono ?_
      rintro e X5 ⟨rfl, b5⟩
      have HD5 := hide ((unhide HD4).below b5)
      clear HAl b5 HD4
      go_wp2
      go_meet
      case rel => exact hide ⟨hv', ws', rd', unhide HI1, unhide HD5⟩
  obtain ⟨hv, ws, rd, hi, hdn⟩ := unhide hcut
  have HI := hide hi
  have HD := hide hdn
  clear p0 p1 p2 p3 p4 p5 p6 p7 p8 p9 p10 p11 hcut hi hdn HJ0 hX0 hbx
  go_wp2
  go_loopw [12] (fun iv wq => ∃ (i : Nat) (rk : List Opn), iv = .int .i64 (i : Nat) ∧ i ≤ 400 ∧ Hid (DI hold hv ws rk (n + 1)) ∧ Hid (DN w S b r hold hv ws rk hv ws rk X0 wq)) (fun iv _ => 400 - (RowKit.intOf iv).toNat)
  case atStart => exact ⟨0, rd, rfl, by omega, HI, HD⟩
  case round =>
    clear HI HD
    obtain ⟨i, rk, rfl, hik, HI, HD⟩ := hrel
    obtain ⟨X, rfl⟩ : ∃ X, X = wr := ⟨_, rfl⟩
    obtain ⟨S2, j2, hs2, k2⟩ := unhide HD
    have c12 : X.cell? ⟨bx, 12, none⟩ = some (.int .i64 tk) := (unhide HBk X k2).cell 12 _ rfl
    have htot := (unhide HI).tot
    have hlen := (unhide HI).len
    have hckk := (unhide HI).ck
    have HAl := hide (alike_in j2 hd (by omega) hckk)
    by_cases hA : (i : Int) < tk
    rotate_left
    · clear htot hlen hckk j2 hs2 k2
      go_wp2_with fail
      refine (unhide HAl).mono ?_
      rintro e Y ⟨rfl, bY⟩
      have HDY := hide ((unhide HD).below bY)
      clear HAl bY
      go_wp2
      go_ret
      exact ⟨rfl, hv, ws, rk, unhide HI, DN.from (unhide Hb0) (unhide HDY)⟩
    by_cases hB : i < 400
    rotate_left
    · have hB' : ¬ (i : Int) < 400 := by omega
      clear htot hlen hckk j2 hs2 k2
      go_wp2_with fail
      refine (unhide HAl).mono ?_
      rintro e Y ⟨rfl, bY⟩
      have HDY := hide ((unhide HD).below bY)
      clear HAl bY
      go_wp2
      go_ret
      exact ⟨rfl, hv, ws, rk, unhide HI, DN.from (unhide Hb0) (unhide HDY)⟩
    have hB' : (i : Int) < 400 := by omega
    have HT := hide (j2.takePA (by omega))
    have HJ2 := hide (And.intro j2 (And.intro hs2 k2))
    have htl : rk.tail.length ≤ rk.length := by rw [List.length_tail]; omega
    have HI2 : Hid (DI hold hv ws rk.tail (n + 1)) := hide (by
      cases rk with
      | nil => exact unhide HI
      | cons y rk => exact (unhide HI).take)
    have Htt := hide htot
    have HTD := hide (fun (S3 : Nat → Prop) (Y : World) (j3 : DJ w S3 b r hold hv ws rk.tail hv ws rk Y) => j3.takeDA (by omega))
    obtain ⟨o2, ho2⟩ : ∃ o2, hdO rk = o2 := ⟨_, rfl⟩
    obtain ⟨is, his⟩ : ∃ is, isO rk = is := ⟨_, rfl⟩
    rw [ho2, his] at HT HTD
    have Hrk : Hid (is = false → rk = rk.tail) := hide (fun e => by
      rw [← his] at e
      cases rk with
      | nil => rfl
      | cons y rk => simp [isO] at e)
    obtain ⟨M1, hM1⟩ : ∃ M1, o2.deps.length = M1 := ⟨_, rfl⟩
    obtain ⟨M2, hM2⟩ : ∃ M2, o2.gone.length = M2 := ⟨_, rfl⟩
    have HM := hide (And.intro hM1 hM2)
    rw [hM1, hM2] at HT HTD
    unfold opA at HT HTD
    clear j2 hs2 k2 HAl htot hlen htl ho2 his hM1 hM2 HD
    go_wp2_with fail
    refine (unhide HT).mono ?_
    rintro e X1 ⟨ae, ce, af, cf, S3, rfl, j3, hs3, tp, k3⟩
    obtain ⟨V1, hV1⟩ : ∃ V1, X1.alloc (.cells #[.int .i64 o2.ds, .int .i64 o2.dq, .slice ae M1 ce, .int .i64 o2.kind, .int .i64 o2.it, .int .i64 o2.is, .int .i64 o2.rt, .int .i64 o2.rs, .string o2.text, .slice af M2 cf, .int .i64 o2.site] 42) = V1 := ⟨_, rfl⟩
    have bV1 : Below X1.heap.size X1 V1 := by rw [← hV1]; exact ballc (Below.refl _ _) _
    have BV1 : Bx V1 X1.heap.size 42 #[.int .i64 o2.ds, .int .i64 o2.dq, .slice ae M1 ce, .int .i64 o2.kind, .int .i64 o2.it, .int .i64 o2.is, .int .i64 o2.rt, .int .i64 o2.rs, .string o2.text, .slice af M2 cf, .int .i64 o2.site] := by rw [← hV1]; exact Bx.new _ _ _
    have HTd := hide (unhide HTD S3 V1 (j3.below bV1))
    have H3 := hide (And.intro hs3 (And.intro k3 bV1))
    have Htp := hide tp
    have HBV1 := hide BV1
    have hsV1 : X1.heap.size < V1.heap.size := BV1.lt
    have HsV1 := hide hsV1
    have Hlo3 := hide (show ∀ i, S3 i → i < X1.heap.size from fun i e => (j3.lo i e).2)
    have HB3 := hide (bnext j3.bel bV1)
    clear HT HTD c12 j3 hs3 tp k3 bV1 BV1 hsV1
    go_wp2_with fail
    refine (unhide HTd).mono ?_
    rintro e X2 ⟨ae', ce', af', cf', rfl, ⟨S4, j4, hs4, k4⟩, rd', rg'⟩
    obtain ⟨V2, hV2⟩ : ∃ V2, X2.alloc (.cells #[.int .i64 o2.ds, .int .i64 o2.dq, .slice ae' M1 ce', .int .i64 o2.kind, .int .i64 o2.it, .int .i64 o2.is, .int .i64 o2.rt, .int .i64 o2.rs, .string o2.text, .slice af' M2 cf', .int .i64 o2.site] 42) = V2 := ⟨_, rfl⟩
    have bV2 : Below X2.heap.size X2 V2 := by rw [← hV2]; exact ballc (Below.refl _ _) _
    have BV2 : Bx V2 X2.heap.size 42 #[.int .i64 o2.ds, .int .i64 o2.dq, .slice ae' M1 ce', .int .i64 o2.kind, .int .i64 o2.it, .int .i64 o2.is, .int .i64 o2.rt, .int .i64 o2.rs, .string o2.text, .slice af' M2 cf', .int .i64 o2.site] := by rw [← hV2]; exact Bx.new _ _ _
    have hns : ¬ S3 X1.heap.size := fun e => by have := unhide Hlo3 _ e; omega
    have BA2 := ((unhide HBV1).kp k4 hns).below bV2
    have hoe := (unhide Htp).oe
    have oD : OwD V2 0 (.slice ae M1 ce) o2.deps := by
      have q := owns_kp (N := fun _ => False) hoe.d (Kp.of_below (unhide H3).2.2) (fun _ _ e => e)
      exact owns_kp (N := fun _ => False) (owns_kp q k4 (fun i hi e => (unhide Htp).ap i (.inl hi) e)) (Kp.of_below bV2) (fun _ _ e => e)
    have oG : OwR V2 0 (.slice af M2 cf) o2.gone := by
      have q := owns_kp (N := fun _ => False) hoe.g (Kp.of_below (unhide H3).2.2) (fun _ _ e => e)
      exact owns_kp (N := fun _ => False) (owns_kp q k4 (fun i hi e => (unhide Htp).ap i (.inr hi) e)) (Kp.of_below bV2) (fun _ _ e => e)
    have hw2 := bnext j4.bel bV2
    have q1 := hoe.s1
    have q2 := hoe.s2
    simp only at q1 q2
    have HSm := hide (lsame_in o2 (.slice ae M1 ce) (.slice af M2 cf) (.slice ae' M1 ce') (.slice af' M2 cf') V2 (OwD.row oD) (RC.of_owns oG) (rd'.below hw2) (RC.below rg' hw2) q1 q2)
    unfold opA at HSm
    have hM := unhide HM
    have hM1b : M1 ≤ 1000000 := by have := hM.1; omega
    have hM2b : M2 ≤ 1000000 := by have := hM.2; omega
    have HXD : Hid (OwX V2 28 2 (.slice ae M1 ce) M1) := hide (by have := OwX.of oD; rw [hM.1] at this; exact this)
    have HXG : Hid (OwX V2 72 3 (.slice af M2 cf) M2) := hide (by have := OwX.of oG; rw [hM.2] at this; exact this)
    have HND : Hid (∀ i, ((Value.slice ae M1 ce).ownBlock = some i ∨ (Value.slice af M2 cf).ownBlock = some i) → S2 i ∧ ¬ S3 i ∧ i < X1.heap.size) := hide (fun i hi => ⟨hi.elim (fun e => hoe.pd i e) (fun e => hoe.pg i e), (unhide Htp).ap i hi, hi.elim (fun e => (hoe.d.lt i e).2) (fun e => (hoe.g.lt i e).2)⟩)
    have H4 := hide (And.intro j4 (And.intro hs4 (And.intro k4 bV2)))
    have HBA2 := hide BA2
    obtain ⟨a0, a1, a2, a3, a4, a5, a6, a7, a8, a9, a10⟩ := cells_op BA2
    obtain ⟨b0, b1, b2, b3, b4, b5, b6, b7, b8, b9, b10⟩ := cells_op BV2
    have ha1 := BA2.lt
    have hb1 := BV2.lt
    have hll := (unhide HsV1)
    have hk4 := k4.size
    clear HTd j4 hs4 k4 rd' rg' bV2 BV2 hns BA2 hoe oD oG hw2 q1 q2 hM Htp HBV1 hV1
    go_wp2_with fail
    refine (unhide HSm).mono ?_
    rintro e X3 ⟨rfl, b5'⟩
    have HB5 := hide b5'
    have HXD3 := hide ((unhide HXD).ss (SS.below b5'))
    have HXG3 := hide ((unhide HXG).ss (SS.below b5'))
    have HBA3 := hide ((unhide HBA2).below b5')
    have G1 : Hid (Kp (fun i => (Value.slice ae M1 ce).ownBlock = some i ∨ (Value.slice af M2 cf).ownBlock = some i) X3 X3 ∧ SS X3 X3) := hide ⟨Kp.refl _ _, SS.refl _⟩
    have hneq : ¬ ((Value.slice ae M1 ce).ownBlock = some X1.heap.size ∨ (Value.slice af M2 cf).ownBlock = some X1.heap.size) := fun e => by have := (unhide HND _ e).2.2; omega
    have Hneq := hide hneq
    clear HSm b5' HXD HXG HBA2 hneq a0 a1 a2 a3 a4 a5 a6 a7 a8 a9 a10 b0 b1 b2 b3 b4 b5 b6 b7 b8 b9 b10 hV2 ha1 hb1 hll hk4
    have hbne : (is != is) = false := by simp
    have HA3 := hide (((unhide HBA3).cell 2 _ rfl))
    go_wp2
    go_loopw [17] (fun kv wq => ∃ k : Nat, kv = .int .i64 (k : Nat) ∧ k ≤ M1 ∧ Hid (Kp (fun i => (Value.slice ae M1 ce).ownBlock = some i ∨ (Value.slice af M2 cf).ownBlock = some i) X3 wq ∧ SS X3 wq)) (fun kv _ => M1 - (RowKit.intOf kv).toNat)
    case atStart => exact ⟨0, rfl, by omega, G1⟩
    case round =>
      clear G1
      obtain ⟨k, rfl, hk, G1⟩ := hrel
      have c2 := ((unhide HBA3).kp (unhide G1).1 (unhide Hneq)).cell 2 _ rfl
      by_cases hlt : k < M1
      · have hlt' : (k : Int) < (M1 : Int) := by omega
        obtain ⟨g, rfl, l0, fz, cc, _⟩ := ((unhide HXD3).ss (unhide G1).2).at (by omega)
        obtain ⟨y0, d0⟩ := cc (k * 2) (by omega)
        obtain ⟨y1, d1⟩ := cc (k * 2 + 1) (by omega)
        have f0 := fz (k * 2)
        have f1 := fz (k * 2 + 1)
        have G2 : Hid (Kp (fun i => (Value.slice (some ⟨g, 0, none⟩) M1 ce).ownBlock = some i ∨ (Value.slice af M2 cf).ownBlock = some i) X3 ((wr.setCell ⟨g, k * 2, none⟩ (.int .i64 906)).setCell ⟨g, k * 2 + 1, none⟩ (.int .i64 0)) ∧ SS X3 ((wr.setCell ⟨g, k * 2, none⟩ (.int .i64 906)).setCell ⟨g, k * 2 + 1, none⟩ (.int .i64 0))) :=
          hide ⟨((unhide G1).1.trans (Kp.set (N := fun k => k = g) _ _ _ rfl) (fun i e => .inl (.inl (by rw [e]; rfl)))).trans (Kp.set (N := fun k => k = g) _ _ _ rfl) (fun i e => .inl (.inl (by rw [e]; rfl))), ((unhide G1).2.trans (SS.set _ _ _ _)).trans (SS.set _ _ _ _)⟩
        clear G1 fz cc
        go_wp2
        go_roundw
        case rel => exact ⟨k + 1, by go_num, by omega, G2⟩
        case measure => simp [RowKit.intOf]; omega
      · have hlt' : ¬ (k : Int) < (M1 : Int) := by omega
        go_wp2
        clear hlt' hlt hk c2
        go_loopw [18] (fun kv wq => ∃ k : Nat, kv = .int .i64 (k : Nat) ∧ k ≤ M2 ∧ Hid (Kp (fun i => (Value.slice ae M1 ce).ownBlock = some i ∨ (Value.slice af M2 cf).ownBlock = some i) X3 wq ∧ SS X3 wq)) (fun kv _ => M2 - (RowKit.intOf kv).toNat)
        case atStart => exact ⟨0, rfl, by omega, G1⟩
        case round =>
          clear G1
          obtain ⟨k, rfl, hk, G1⟩ := hrel
          have c9 := ((unhide HBA3).kp (unhide G1).1 (unhide Hneq)).cell 9 _ rfl
          by_cases hlt : k < M2
          · have hlt' : (k : Int) < (M2 : Int) := by omega
            obtain ⟨g, rfl, l0, fz, cc, _⟩ := ((unhide HXG3).ss (unhide G1).2).at (by omega)
            obtain ⟨y0, d0⟩ := cc (k * 3) (by omega)
            obtain ⟨y1, d1⟩ := cc (k * 3 + 1) (by omega)
            obtain ⟨y2, d2⟩ := cc (k * 3 + 2) (by omega)
            have f0 := fz (k * 3)
            have f1 := fz (k * 3 + 1)
            have f2 := fz (k * 3 + 2)
            have G2 : Hid (Kp (fun i => (Value.slice ae M1 ce).ownBlock = some i ∨ (Value.slice (some ⟨g, 0, none⟩) M2 cf).ownBlock = some i) X3 (((wr.setCell ⟨g, k * 3, none⟩ (.int .i64 0)).setCell ⟨g, k * 3 + 1, none⟩ (.int .i64 0)).setCell ⟨g, k * 3 + 2, none⟩ (.int .i64 907)) ∧ SS X3 (((wr.setCell ⟨g, k * 3, none⟩ (.int .i64 0)).setCell ⟨g, k * 3 + 1, none⟩ (.int .i64 0)).setCell ⟨g, k * 3 + 2, none⟩ (.int .i64 907))) :=
              hide ⟨(((unhide G1).1.trans (Kp.set (N := fun k => k = g) _ _ _ rfl) (fun i e => .inl (.inr (by rw [e]; rfl)))).trans (Kp.set (N := fun k => k = g) _ _ _ rfl) (fun i e => .inl (.inr (by rw [e]; rfl)))).trans (Kp.set (N := fun k => k = g) _ _ _ rfl) (fun i e => .inl (.inr (by rw [e]; rfl))), (((unhide G1).2.trans (SS.set _ _ _ _)).trans (SS.set _ _ _ _)).trans (SS.set _ _ _ _)⟩
            clear G1 fz cc
            go_wp2
            go_roundw
            case rel => exact ⟨k + 1, by go_num, by omega, G2⟩
            case measure => simp [RowKit.intOf]; omega
          · have hlt' : ¬ (k : Int) < (M2 : Int) := by omega
            have HD : Hid (DN w S b r hold hv ws rk.tail hv ws rk.tail X0 wr) := hide (DN.took (unhide HJ2).2.1 (unhide HJ2).2.2 (fun i e => ((unhide HJ2).1.lo i e).1) (unhide H3).1 (unhide H3).2.1 (unhide H3).2.2 (unhide H4).1 (unhide H4).2.1 (unhide H4).2.2.1 (bnext (unhide H4).2.2.2 (unhide HB5)) (unhide G1).1 (unhide HND))
            cases is with
            | true =>
              go_wp2
              go_roundw
              case rel => exact ⟨i + 1, rk.tail, by go_num, by omega, HI2, HD⟩
              case measure => show 400 - ((i : Int) + 1).toNat < 400 - ((i : Nat) : Int).toNat; omega
            | false =>
              have HI := HI2
              have hlen := (unhide HI).len
              have HAl : Hid (Calls Tryz.prog 38 #[.pointer (some ⟨b, 0, none⟩), .pointer (some ⟨r, 0, none⟩)] wr fun e W' => e = .returned (.bool true) ∧ Below wr.heap.size wr W') := hide (by
                obtain ⟨S5, j5, _, _⟩ := unhide HD
                exact alike_in j5 hd (by omega) (unhide HI).ck)
              clear hlen
              go_wp2_with fail
              refine (unhide HAl).mono ?_
              rintro e Y ⟨rfl, bY⟩
              have HDY := hide ((unhide HD).below bY)
              clear HAl bY
              go_wp2
              go_ret
              exact ⟨rfl, hv, ws, rk.tail, unhide HI, DN.from (unhide Hb0) (unhide HDY)⟩

end Go.Proofs.YtkkolefionbbcaaGreat

/-
  Pairs of queues, from step to step; how they begin.
-/
set_option linter.unusedSimpArgs false
set_option linter.unusedVariables false
namespace Go.Proofs.YtkkolefionbbcaaGreat
open Go.RowKit Go.Lib

variable {w W W' : World} {b r : Nat} {hold : Int} {hv hu : List (Int × Int)} {S : Nat → Prop} {ws rd us ud : List Opn}
/-- a pair behind i steps, in blocks of which S holds -/
def DQ (w : World) (S : Nat → Prop) (b r : Nat) (hold : Int) (i : Nat) (W : World) : Prop := ∃ hv ws rd, DI hold hv ws rd i ∧ DJ w S b r hold hv ws rd hv ws rd W
def DP (w : World) (b r : Nat) (hold : Int) (i : Nat) (W : World) : Prop := ∃ S, DQ w S b r hold i W
theorem DQ.kp {N : Nat → Prop} {i : Nat} (h : DQ w S b r hold i W) (k : Kp N W W') (hn : ∀ i, N i → ¬ S i ∧ w.heap.size ≤ i) : DQ w S b r hold i W' := by
  obtain ⟨hv, ws, rd, h1, h2⟩ := h
  exact ⟨hv, ws, rd, h1, h2.kp k hn⟩
theorem DQ.below {i : Nat} (h : DQ w S b r hold i W) (hb : Below W.heap.size W W') : DQ w S b r hold i W' := by
  obtain ⟨hv, ws, rd, h1, h2⟩ := h
  exact ⟨hv, ws, rd, h1, h2.below hb⟩
theorem DQ.bel {i : Nat} (h : DQ w S b r hold i W) : Below w.heap.size w W := by
  obtain ⟨hv, ws, rd, h1, h2⟩ := h
  exact h2.bel
theorem DQ.lo {i : Nat} (h : DQ w S b r hold i W) : ∀ i, S i → w.heap.size ≤ i ∧ i < W.heap.size := by
  obtain ⟨hv, ws, rd, h1, h2⟩ := h
  exact h2.lo
theorem DP.below {i : Nat} (h : DP w b r hold i W) (hb : Below W.heap.size W W') : DP w b r hold i W' := by
  obtain ⟨S, h⟩ := h
  exact ⟨S, h.below hb⟩
theorem DP.bel {i : Nat} (h : DP w b r hold i W) : Below w.heap.size w W := by
  obtain ⟨S, h⟩ := h
  exact h.bel
theorem DQ.more {i j : Nat} (h : DQ w S b r hold i W) (hj : i ≤ j) : DQ w S b r hold j W := by
  obtain ⟨hv, ws, rd, h1, h2⟩ := h
  exact ⟨hv, ws, rd, h1.more hj, h2⟩
/-- a step -/
theorem DQ.does {i : Nat} (h : DQ w S b r hold i W) (hi : i ≤ 900) (hd : 0 ≤ hold ∧ hold ≤ 256) (s : Stp) (ad ag : Option Addr) (cd cg : Nat) (hst : StW w s) (e1 : s.vd = .slice ad s.op.deps.length cd) (e2 : s.vg = .slice ag s.op.gone.length cg) (s1 : s.op.deps.length ≤ 3000) (s2 : s.op.gone.length ≤ 3000) (s3 : s.op.text.size ≤ 3000) :
    Calls Tryz.prog 14 #[.pointer (some ⟨b, 0, none⟩), .pointer (some ⟨r, 0, none⟩), .agg #[.int .i64 s.op.ds, .int .i64 s.op.dq, .slice ad s.op.deps.length cd, .int .i64 s.op.kind, .int .i64 s.op.it, .int .i64 s.op.is, .int .i64 s.op.rt, .int .i64 s.op.rs, .string s.op.text, .slice ag s.op.gone.length cg, .int .i64 s.op.site, .bool s.nt, .int .i64 s.tk]] W fun e W' => e = .returned (.bool true) ∧ ∃ S', DQ w S' b r hold (i + 1) W' ∧ (∀ i, S' i → S i ∨ W.heap.size ≤ i) ∧ Kp S W W' := by
  obtain ⟨hv, ws, rd, h1, h2⟩ := h
  have r1 := hst.rd
  have r2 := hst.rg
  rw [e1] at r1
  rw [e2] at r2
  refine (does_in h2 h1 hi hd s.op ad ag _ cd _ cg s.nt s.tk rfl rfl r1 r2 (hst.inn.fit (by omega) (by omega) (by omega)) s1 s2 s3).mono ?_
  rintro e W' ⟨rfl, hv', ws', rd', hi', S', j, hs, k⟩
  exact ⟨rfl, S', ⟨hv', ws', rd', hi', j⟩, hs, k⟩
theorem DP.does {i : Nat} (h : DP w b r hold i W) (hi : i ≤ 900) (hd : 0 ≤ hold ∧ hold ≤ 256) (s : Stp) (ad ag : Option Addr) (cd cg : Nat) (hst : StW w s) (e1 : s.vd = .slice ad s.op.deps.length cd) (e2 : s.vg = .slice ag s.op.gone.length cg) (s1 : s.op.deps.length ≤ 3000) (s2 : s.op.gone.length ≤ 3000) (s3 : s.op.text.size ≤ 3000) :
    Calls Tryz.prog 14 #[.pointer (some ⟨b, 0, none⟩), .pointer (some ⟨r, 0, none⟩), .agg #[.int .i64 s.op.ds, .int .i64 s.op.dq, .slice ad s.op.deps.length cd, .int .i64 s.op.kind, .int .i64 s.op.it, .int .i64 s.op.is, .int .i64 s.op.rt, .int .i64 s.op.rs, .string s.op.text, .slice ag s.op.gone.length cg, .int .i64 s.op.site, .bool s.nt, .int .i64 s.tk]] W fun e W' => e = .returned (.bool true) ∧ DP w b r hold (i + 1) W' := by
  obtain ⟨S, h⟩ := h
  refine (h.does hi hd s ad ag cd cg hst e1 e2 s1 s2 s3).mono ?_
  rintro e W' ⟨rfl, S', h', _, _⟩
  exact ⟨rfl, S', h'⟩
/-- two pairs -/
def D4 (w : World) (b r : Nat) (hold : Int) (b' r' : Nat) (hold' : Int) (i : Nat) (W : World) : Prop := ∃ S S', DQ w S b r hold i W ∧ DQ w S' b' r' hold' i W ∧ ∀ k, S k → ¬ S' k
theorem D4.below {b' r' : Nat} {hold' : Int} {i : Nat} (h : D4 w b r hold b' r' hold' i W) (hb : Below W.heap.size W W') : D4 w b r hold b' r' hold' i W' := by
  obtain ⟨S, S', h1, h2, h3⟩ := h
  exact ⟨S, S', h1.below hb, h2.below hb, h3⟩
theorem D4.bel {b' r' : Nat} {hold' : Int} {i : Nat} (h : D4 w b r hold b' r' hold' i W) : Below w.heap.size w W := by
  obtain ⟨S, S', h1, h2, h3⟩ := h
  exact h1.bel
theorem D4.more {b' r' : Nat} {hold' : Int} {i j : Nat} (h : D4 w b r hold b' r' hold' i W) (hj : i ≤ j) : D4 w b r hold b' r' hold' j W := by
  obtain ⟨S, S', h1, h2, h3⟩ := h
  exact ⟨S, S', h1.more hj, h2.more hj, h3⟩
theorem D4.swap {b' r' : Nat} {hold' : Int} {i : Nat} (h : D4 w b r hold b' r' hold' i W) : D4 w b' r' hold' b r hold i W := by
  obtain ⟨S, S', h1, h2, h3⟩ := h
  exact ⟨S', S, h2, h1, fun k e e' => h3 k e' e⟩
theorem D4.does {b' r' : Nat} {hold' : Int} {i : Nat} (h : D4 w b r hold b' r' hold' i W) (hi : i ≤ 900) (hd : 0 ≤ hold ∧ hold ≤ 256) (s : Stp) (ad ag : Option Addr) (cd cg : Nat) (hst : StW w s) (e1 : s.vd = .slice ad s.op.deps.length cd) (e2 : s.vg = .slice ag s.op.gone.length cg) (s1 : s.op.deps.length ≤ 3000) (s2 : s.op.gone.length ≤ 3000) (s3 : s.op.text.size ≤ 3000) :
    Calls Tryz.prog 14 #[.pointer (some ⟨b, 0, none⟩), .pointer (some ⟨r, 0, none⟩), .agg #[.int .i64 s.op.ds, .int .i64 s.op.dq, .slice ad s.op.deps.length cd, .int .i64 s.op.kind, .int .i64 s.op.it, .int .i64 s.op.is, .int .i64 s.op.rt, .int .i64 s.op.rs, .string s.op.text, .slice ag s.op.gone.length cg, .int .i64 s.op.site, .bool s.nt, .int .i64 s.tk]] W fun e W' => e = .returned (.bool true) ∧ D4 w b r hold b' r' hold' (i + 1) W' := by
  obtain ⟨S, S', h1, h2, h3⟩ := h
  have hlo1 := h1.lo
  have hlo2 := h2.lo
  refine (h1.does hi hd s ad ag cd cg hst e1 e2 s1 s2 s3).mono ?_
  rintro e W' ⟨rfl, S2, h', hs, k⟩
  refine ⟨rfl, S2, S', h', (h2.kp k (fun i e => ⟨h3 i e, (hlo1 i e).1⟩)).more (by omega), fun i e e' => ?_⟩
  rcases hs i e with q | q
  · exact h3 i q e'
  · have := (hlo2 i e').2; omega
/-- what New says -/
def newC (hold : Int) (l : List (Int × Int)) : Int := if 0 ≤ hold ∧ hold ≤ 256 then chk l else 1
def NwP (w : World) (hold : Int) (l : List (Int × Int)) (c : Int) (qo : Option Addr) (W : World) : Prop := (c = 0 ∧ (0 ≤ hold ∧ hold ≤ 256) ∧ chk l = 0 ∧ ∃ b, qo = some ⟨b, 0, none⟩ ∧ QP (fun i => w.heap.size ≤ i) W b hold l [] []) ∨ (c ≠ 0 ∧ qo = none)
def NwD (w : World) (hold : Int) (l : List (Int × Int)) (c : Int) (qo : Option Addr) (W : World) : Prop := (c = 0 ∧ ∃ b, qo = some ⟨b, 0, none⟩ ∧ ∀ w0, QQ w0 (fun i => w.heap.size ≤ i) W b hold l [] []) ∨ (c ≠ 0 ∧ qo = none)
theorem newP_in (hold : Int) (v : Value) (l : List (Int × Int)) (w : World) (h : RI w v l) (hl : l.length ≤ 1000000) : Calls Tryz.prog 11 #[.int .i64 hold, v] w fun e W => ∃ qo, e = .returned (.tuple #[.pointer qo, .int .i64 (newC hold l)]) ∧ NwP w hold l (newC hold l) qo W ∧ Below w.heap.size w W := by
  refine (New_in hold v l w h hl).mono ?_
  rintro e W ⟨hb, ⟨b, vh, h0, h1, hc, rfl, q⟩ | ⟨c, hc, rfl⟩⟩
  · have : newC hold l = 0 := by unfold newC; rw [if_pos ⟨h0, h1⟩, hc]
    rw [this]
    exact ⟨_, rfl, .inl ⟨rfl, ⟨h0, h1⟩, hc, b, rfl, vh, _, _, [], [], q, rfl, rfl⟩, hb⟩
  · have : newC hold l = c ∧ c ≠ 0 := by
      unfold newC
      rcases hc with ⟨h1, rfl⟩ | ⟨h1, h2, h3, h4⟩
      · rw [if_neg h1]; exact ⟨rfl, by decide⟩
      · rw [if_pos ⟨h1, h2⟩]; exact ⟨h3, h4⟩
    rw [this.1]
    exact ⟨_, rfl, .inr ⟨this.2, rfl⟩, hb⟩
theorem newD_in (hold : Int) (v : Value) (l : List (Int × Int)) (w : World) (h : RI w v l) (hl : l.length ≤ 1000000) : Calls Tryz.prog 12 #[.int .i64 hold, v] w fun e W => ∃ qo, e = .returned (.tuple #[.pointer qo, .int .i64 (newC hold l)]) ∧ NwD w hold l (newC hold l) qo W ∧ Below w.heap.size w W := by
  refine (refNew_in hold v l w h hl).mono ?_
  rintro e W ⟨hb, ⟨b, vh, h0, h1, hc, rfl, q⟩ | ⟨c, hc, rfl⟩⟩
  · have : newC hold l = 0 := by unfold newC; rw [if_pos ⟨h0, h1⟩, hc]
    rw [this]
    rw [vec_mrg hc] at q
    exact ⟨_, rfl, .inl ⟨rfl, b, rfl, fun w0 => ⟨vh, _, _, [], [], q w0, rfl, rfl⟩⟩, hb⟩
  · have : newC hold l = c ∧ c ≠ 0 := by
      unfold newC
      rcases hc with ⟨h1, rfl⟩ | ⟨h1, h2, h3, h4⟩
      · rw [if_neg h1]; exact ⟨rfl, by decide⟩
      · rw [if_pos ⟨h1, h2⟩]; exact ⟨h3, h4⟩
    rw [this.1]
    exact ⟨_, rfl, .inr ⟨this.2, rfl⟩, hb⟩
/-- both are made, one behind the other -/
theorem DQ.new {X Y Y' Z : World} (hh : 0 ≤ hold) (hc : chk hv = 0) (hq : QP (fun i => X.heap.size ≤ i) Y b hold hv [] []) (hb : Below Y.heap.size Y Y') (hd : QQ w (fun i => Y'.heap.size ≤ i) Z r hold hv [] []) (hb2 : Below Y'.heap.size Y' Z) (hX : Below w.heap.size w X) (hXY : Below X.heap.size X Y) : DQ w (fun i => (X.heap.size ≤ i ∧ i < Y.heap.size) ∨ (Y'.heap.size ≤ i ∧ i < Z.heap.size)) b r hold 0 Z := by
  have z0 := hX.size
  have z1 := hXY.size
  have z2 := hb.size
  have z3 := hb2.size
  have q1 := hq.tight.kp (N := fun _ => False) (Kp.of_below (bnext hb hb2)) (fun _ e => e.elim)
  refine ⟨hv, [], [], DI.start hh hc, ⟨⟨_, _, q1, hd.tight, fun i hi => ⟨.inl hi, fun e => ?_⟩, fun i hi => .inr hi⟩, fun i hi => ?_, bnext hX (bnext hXY (bnext hb hb2))⟩⟩
  · have := e.1; have := hi.2; omega
  · rcases hi with hi | hi
    · exact ⟨by omega, by omega⟩
    · exact ⟨by omega, by omega⟩

end Go.Proofs.YtkkolefionbbcaaGreat
