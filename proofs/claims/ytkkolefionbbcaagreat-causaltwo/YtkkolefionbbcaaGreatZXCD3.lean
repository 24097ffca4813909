/-
  Both queues side by side.
-/
import Derived.Test.YtkkolefionbbcaaGreatZXCD
import Derived.Test.YtkkolefionbbcaaGreatZCRE
import Derived.Test.YtkkolefionbbcaaGreatZCRR
import Derived.Test.YtkkolefionbbcaaGreatZXCRP
import Derived.Test.YtkkolefionbbcaaGreatZCO3

set_option linter.unusedSimpArgs false
set_option linter.unusedVariables false
namespace Go.Proofs.YtkkolefionbbcaaGreat
open Go.RowKit Go.Lib

theorem chk_addV (l : List (Int × Int)) (d : Int × Int) : chk (addV l d).1 = 0 := by
  unfold addV
  split
  · rfl
  · rename_i h1
    split
    · rfl
    · rename_i h2
      split
      · rfl
      · exact chk_vec ((sy_good l).put (by omega) (by omega) (by omega) (by omega))
theorem chk_relF : ∀ (f : Nat) (hv : List (Int × Int)) (ws rd : List Opn), chk hv = 0 → chk (relF f hv ws rd).1 = 0
  | 0, hv, ws, rd, h => h
  | f + 1, hv, ws, rd, h => by
    unfold relF
    split
    · exact h
    · split
      · exact h
      · exact chk_relF f _ _ _ (chk_addV _ _)
theorem len_relF : ∀ (f : Nat) (hv : List (Int × Int)) (ws rd : List Opn), (relF f hv ws rd).2.1.length + (relF f hv ws rd).2.2.length = ws.length + rd.length
  | 0, hv, ws, rd => rfl
  | f + 1, hv, ws, rd => by
    unfold relF
    split
    · rfl
    · split
      · rfl
      · rename_i i hi x o ho
        rw [len_relF f]
        have := cutI_len ws i (List.getElem?_eq_some_iff.1 ho).1
        rw [List.length_append, List.length_singleton]
        omega
/-- what holds of a queue behind n offers -/
structure DI (hold : Int) (hv : List (Int × Int)) (ws rd : List Opn) (n : Nat) : Prop where
  ck : chk hv = 0
  len : (ws.length : Int) ≤ hold
  dd : DD ws
  tot : ws.length + rd.length ≤ n
theorem DI.off {hold : Int} {hv : List (Int × Int)} {ws rd : List Opn} {n : Nat} (h : DI hold hv ws rd n) (o : Opn) : DI hold (offA hold hv ws rd o).2.1 (offA hold hv ws rd o).2.2.1 (offA hold hv ws rd o).2.2.2 (n + 1) := by
  refine ⟨?_, ?_, offA_dd _ _ _ _ _ h.dd, ?_⟩
  · have := h.ck
    unfold offA
    split
    · exact this
    · split
      · exact this
      · split
        · exact chk_relF _ _ _ _ (chk_addV _ _)
        · split <;> exact this
  · have hl := h.len
    unfold offA
    split
    · exact hl
    · split
      · exact hl
      · split
        · have := (relF_sub ws.length (addV hv (dotO o)).1 ws (rd ++ [o])).length_le
          show ((relF ws.length (addV hv (dotO o)).1 ws (rd ++ [o])).2.1.length : Int) ≤ hold
          omega
        · split
          · simp only [List.length_append, List.length_singleton]; omega
          · have h1 := farI_lt (ws ++ [o]) (by simp)
            have h2 := cutI_len (ws ++ [o]) _ h1
            rw [List.length_append, List.length_singleton] at h2
            show ((cutI (ws ++ [o]) (farI (ws ++ [o]))).length : Int) ≤ hold
            omega
  · have ht := h.tot
    unfold offA
    split
    · show ws.length + rd.length ≤ n + 1; omega
    · split
      · show ws.length + rd.length ≤ n + 1; omega
      · split
        · have := len_relF ws.length (addV hv (dotO o)).1 ws (rd ++ [o])
          rw [List.length_append, List.length_singleton] at this
          show (relF ws.length (addV hv (dotO o)).1 ws (rd ++ [o])).2.1.length + (relF ws.length (addV hv (dotO o)).1 ws (rd ++ [o])).2.2.length ≤ n + 1
          omega
        · split
          · simp only [List.length_append, List.length_singleton]; omega
          · have h1 := farI_lt (ws ++ [o]) (by simp)
            have h2 := cutI_len (ws ++ [o]) _ h1
            rw [List.length_append, List.length_singleton] at h2
            show (cutI (ws ++ [o]) (farI (ws ++ [o]))).length + rd.length ≤ n + 1
            omega
theorem DI.take {hold : Int} {hv : List (Int × Int)} {ws rd : List Opn} {n : Nat} {o : Opn} (h : DI hold hv ws (o :: rd) n) : DI hold hv ws rd n := ⟨h.ck, h.len, h.dd, by have := h.tot; rw [List.length_cons] at this; omega⟩
theorem DI.more {hold : Int} {hv : List (Int × Int)} {ws rd : List Opn} {n m : Nat} (h : DI hold hv ws rd n) (hm : n ≤ m) : DI hold hv ws rd m := ⟨h.ck, h.len, h.dd, by have := h.tot; omega⟩
theorem DI.start {hold : Int} (h : 0 ≤ hold) {hv : List (Int × Int)} (hc : chk hv = 0) : DI hold hv [] [] 0 := ⟨hc, by simpa using h, DD.nil, Nat.le_refl _⟩

variable {P N : Nat → Prop} {w W W' : World} {b r : Nat} {hold : Int} {hv hu : List (Int × Int)}
/-- what was taken lies apart from what is left -/
theorem QM.less {vh vw vr : Value} {ws rd : List (Opn × Value × Value)} {x : Opn × Value × Value} (h : QM P W b hold vh vw vr hv ws rd) (hx : OE P W x) (hap : Apt vh (x :: (ws ++ rd))) : QM (fun i => P i ∧ x.2.1.ownBlock ≠ some i ∧ x.2.2.ownBlock ≠ some i) W b hold vh vw vr hv ws rd := by
  have hE : ∀ e ∈ ws ++ rd, OE P W e → OE (fun i => P i ∧ x.2.1.ownBlock ≠ some i ∧ x.2.2.ownBlock ≠ some i) W e := fun e he h1 =>
    ⟨h1.d, h1.g, fun k hk => ⟨h1.pd k hk, fun e' => ((List.pairwise_cons.1 hap.2).1 e he).1 k e' hk, fun e' => own_ne_own hx.g h1.d (by decide) k e' hk⟩, fun k hk => ⟨h1.pg k hk, fun e' => own_ne_own hx.d h1.g (by decide) k e' hk, fun e' => ((List.pairwise_cons.1 hap.2).1 e he).2 k e' hk⟩, h1.s1, h1.s2, h1.s3, h1.inn⟩
  refine ⟨h.box, h.rh, h.rw, h.rr, fun e he => hE e (List.mem_append_left _ he) (h.we e he), fun e he => hE e (List.mem_append_right _ he) (h.re e he), ⟨h.pb, own_ne_box hx.d h.box (by decide), own_ne_box hx.g h.box (by decide)⟩, fun k hk => ⟨h.ph k hk, fun e => hap.1 x List.mem_cons_self k e hk, fun e => own_ne_own hx.g h.rh (by decide) k e hk⟩, fun k hk => ⟨h.pw k hk, fun e => own_ne_own hx.d h.rw (by decide) k e hk, fun e => own_ne_own hx.g h.rw (by decide) k e hk⟩, fun k hk => ?_, h.ap, h.hl, h.dj⟩
  obtain ⟨cur, hc⟩ := h.rr.kind k hk
  exact ⟨h.pr k hk, own_ne_box hx.d hc (by decide), own_ne_box hx.g hc (by decide)⟩
/-- the program's queue, by what it says -/
def QP (P : Nat → Prop) (W : World) (b : Nat) (hold : Int) (hv : List (Int × Int)) (ws rd : List Opn) : Prop := ∃ vh vw vr wt rt, QM P W b hold vh vw vr hv wt rt ∧ wt.map Prod.fst = ws ∧ rt.map Prod.fst = rd
/-- the document's -/
def QQ (w : World) (P : Nat → Prop) (W : World) (b : Nat) (hold : Int) (hv : List (Int × Int)) (ws rd : List Opn) : Prop := ∃ vh vw vr wt rt, QD w P W b hold vh vw vr hv wt rt ∧ wt.map Prod.fst = ws ∧ rt.map Prod.fst = rd
theorem QP.kp {ws rd : List Opn} (h : QP P W b hold hv ws rd) (k : Kp N W W') (hn : ∀ i, N i → ¬ P i) : QP P W' b hold hv ws rd := by
  obtain ⟨vh, vw, vr, wt, rt, q, e⟩ := h
  exact ⟨vh, vw, vr, wt, rt, q.kp k hn, e⟩
theorem QQ.kp {ws rd : List Opn} (h : QQ w P W b hold hv ws rd) (k : Kp N W W') (hn : ∀ i, N i → ¬ P i) : QQ w P W' b hold hv ws rd := by
  obtain ⟨vh, vw, vr, wt, rt, q, e⟩ := h
  exact ⟨vh, vw, vr, wt, rt, q.kp k hn, e⟩
theorem QP.tight {ws rd : List Opn} (h : QP P W b hold hv ws rd) : QP (fun i => P i ∧ i < W.heap.size) W b hold hv ws rd := by
  obtain ⟨vh, vw, vr, wt, rt, q, e⟩ := h
  exact ⟨vh, vw, vr, wt, rt, q.tight, e⟩
theorem QQ.tight {ws rd : List Opn} (h : QQ w P W b hold hv ws rd) : QQ w (fun i => P i ∧ i < W.heap.size) W b hold hv ws rd := by
  obtain ⟨vh, vw, vr, wt, rt, q, e⟩ := h
  exact ⟨vh, vw, vr, wt, rt, q.ltD, e⟩
/-- both in blocks of which S holds -/
structure DJ (w : World) (S : Nat → Prop) (b r : Nat) (hold : Int) (hv : List (Int × Int)) (ws rd : List Opn) (hu : List (Int × Int)) (us ud : List Opn) (W : World) : Prop where
  q : ∃ P D : Nat → Prop, QP P W b hold hv ws rd ∧ QQ w D W r hold hu us ud ∧ (∀ i, P i → S i ∧ ¬ D i) ∧ ∀ i, D i → S i
  lo : ∀ i, S i → w.heap.size ≤ i ∧ i < W.heap.size
  bel : Below w.heap.size w W
variable {S : Nat → Prop} {ws rd us ud : List Opn}
theorem DJ.kp (h : DJ w S b r hold hv ws rd hu us ud W) (k : Kp N W W') (hn : ∀ i, N i → ¬ S i ∧ w.heap.size ≤ i) : DJ w S b r hold hv ws rd hu us ud W' := by
  obtain ⟨P, D, q1, q2, h1, h2⟩ := h.q
  exact ⟨⟨P, D, q1.kp k (fun i e e' => (hn i e).1 (h1 i e').1), q2.kp k (fun i e e' => (hn i e).1 (h2 i e')), h1, h2⟩, fun i hi => ⟨(h.lo i hi).1, by have := (h.lo i hi).2; have := k.size; omega⟩, k.below h.bel (fun i hi => (hn i hi).2)⟩
theorem DJ.below (h : DJ w S b r hold hv ws rd hu us ud W) (hb : Below W.heap.size W W') : DJ w S b r hold hv ws rd hu us ud W' := h.kp (N := fun _ => False) (Kp.of_below hb) (fun _ e => e.elim)
/-- behind something, and what was written -/
def DN (w : World) (S : Nat → Prop) (b r : Nat) (hold : Int) (hv : List (Int × Int)) (ws rd : List Opn) (hu : List (Int × Int)) (us ud : List Opn) (W0 W : World) : Prop := ∃ S', DJ w S' b r hold hv ws rd hu us ud W ∧ (∀ i, S' i → S i ∨ W0.heap.size ≤ i) ∧ Kp S W0 W
theorem DJ.dn (h : DJ w S b r hold hv ws rd hu us ud W) : DN w S b r hold hv ws rd hu us ud W W := ⟨S, h, fun i hi => .inl hi, Kp.refl _ _⟩
theorem DN.below {W0 : World} (h : DN w S b r hold hv ws rd hu us ud W0 W) (hb : Below W.heap.size W W') : DN w S b r hold hv ws rd hu us ud W0 W' := by
  obtain ⟨S', j, hs, k⟩ := h
  exact ⟨S', j.below hb, hs, k.trans (Kp.of_below (N := fun _ => False) hb) (fun i e => e.elim)⟩
theorem DN.trans {S' : Nat → Prop} {W0 W1 : World} {hv' hu' : List (Int × Int)} {ws' rd' us' ud' : List Opn} (hs : ∀ i, S' i → S i ∨ W0.heap.size ≤ i) (k : Kp S W0 W1) (h : DN w S' b r hold hv' ws' rd' hu' us' ud' W1 W) : DN w S b r hold hv' ws' rd' hu' us' ud' W0 W := by
  obtain ⟨S2, j, hs2, k2⟩ := h
  have := k.size
  exact ⟨S2, j, fun i hi => (hs2 i hi).elim (hs i) (fun e => .inr (by omega)), k.trans k2 hs⟩
/-- from the program's queue anew -/
theorem DJ.newP {ws' rd' : List Opn} {hv' : List (Int × Int)} {D : Nat → Prop} (h : DJ w S b r hold hv ws rd hu us ud W) (hq : QP (fun i => P i ∨ W.heap.size ≤ i) W' b hold hv' ws' rd') (hd : QQ w D W r hold hu us ud) (h1 : ∀ i, P i → S i ∧ ¬ D i) (h2 : ∀ i, D i → S i) (k : Kp P W W') : DN w S b r hold hv' ws' rd' hu us ud W W' := by
  have hz := k.size
  have hbz := h.bel.size
  refine ⟨fun i => (S i ∨ W.heap.size ≤ i) ∧ i < W'.heap.size, ⟨⟨_, D, hq.tight, hd.kp k (fun i e e' => (h1 i e).2 e'), fun i hi => ⟨⟨hi.1.imp (fun e => (h1 i e).1) id, hi.2⟩, fun e => ?_⟩, fun i hi => ⟨.inl (h2 i hi), by have := (h.lo i (h2 i hi)).2; omega⟩⟩, fun i hi => ⟨?_, hi.2⟩, k.below h.bel (fun i e => (h.lo i (h1 i e).1).1)⟩, fun i hi => hi.1, k.wk (fun i e => (h1 i e).1)⟩
  · rcases hi.1 with e' | e'
    · exact (h1 i e').2 e
    · have := (h.lo i (h2 i e)).2; omega
  · rcases hi.1 with e | e
    · exact (h.lo i e).1
    · omega
theorem DJ.newD {us' ud' : List Opn} {hu' : List (Int × Int)} {D : Nat → Prop} (h : DJ w S b r hold hv ws rd hu us ud W) (hq : QP P W b hold hv ws rd) (hd : QQ w (fun i => D i ∨ W.heap.size ≤ i) W' r hold hu' us' ud') (h1 : ∀ i, P i → S i ∧ ¬ D i) (h2 : ∀ i, D i → S i) (k : Kp D W W') : DN w S b r hold hv ws rd hu' us' ud' W W' := by
  have hz := k.size
  have hbz := h.bel.size
  refine ⟨fun i => (S i ∨ W.heap.size ≤ i) ∧ i < W'.heap.size, ⟨⟨P, _, hq.kp k (fun i e e' => (h1 i e').2 e), hd.tight, fun i hi => ⟨⟨.inl (h1 i hi).1, by have := (h.lo i (h1 i hi).1).2; omega⟩, fun e => ?_⟩, fun i hi => ⟨hi.1.imp (fun e => h2 i e) id, hi.2⟩⟩, fun i hi => ⟨?_, hi.2⟩, k.below h.bel (fun i e => (h.lo i (h2 i e)).1)⟩, fun i hi => hi.1, k.wk (fun i e => h2 i e)⟩
  · rcases e.1 with e' | e'
    · exact (h1 i hi).2 e'
    · have := (h.lo i (h1 i hi).1).2; omega
  · rcases hi.1 with e | e
    · exact (h.lo i e).1
    · omega
theorem DJ.offP (h : DJ w S b r hold hv ws rd hu us ud W) (hd : 0 ≤ hold ∧ hold ≤ 256) (o : Opn) (vd vg : Value) (rdd : RI W vd o.deps) (rgg : RR W vg o.gone) (h1 : o.deps.length ≤ 3000) (h2 : o.gone.length ≤ 3000) (h3 : o.text.size ≤ 3000) (hin : InO o) (hl : ws.length + rd.length ≤ 1000) : Calls Tryz.prog 15 #[.pointer (some ⟨b, 0, none⟩), opA o vd vg] W fun e W' => e = .returned (.tuple #[.int .i64 (offA hold hv ws rd o).1.1, .int .i64 (offA hold hv ws rd o).1.2]) ∧ DN w S b r hold (offA hold hv ws rd o).2.1 (offA hold hv ws rd o).2.2.1 (offA hold hv ws rd o).2.2.2 hu us ud W W' := by
  obtain ⟨P, D, ⟨vh, vw, vr, wt, rt, q, e1, e2⟩, q2, a1, a2⟩ := h.q
  have l1 : wt.length = ws.length := by rw [← e1, List.length_map]
  have l2 : rt.length = rd.length := by rw [← e2, List.length_map]
  refine (Offer_in q o vd vg rdd rgg (by omega) (by omega) (by omega) hin hd (by omega)).mono ?_
  rintro e W' ⟨rfl, hq, k⟩
  rw [e1, e2] at hq
  rw [e1, e2]
  exact ⟨rfl, h.newP hq q2 a1 a2 k⟩
theorem DJ.offD (h : DJ w S b r hold hv ws rd hu us ud W) (hd : 0 ≤ hold ∧ hold ≤ 256) (o : Opn) (vd vg : Value) (rdd : RI w vd o.deps) (rgg : RR w vg o.gone) (h1 : o.deps.length ≤ 3000) (h2 : o.gone.length ≤ 3000) (h3 : o.text.size ≤ 3000) (hin : InO o) (hl : us.length + ud.length ≤ 1000) (hdd : DD us) : Calls Tryz.prog 36 #[.pointer (some ⟨r, 0, none⟩), opA o vd vg] W fun e W' => e = .returned (.tuple #[.int .i64 (offA hold hu us ud o).1.1, .int .i64 (offA hold hu us ud o).1.2]) ∧ DN w S b r hold hv ws rd (offA hold hu us ud o).2.1 (offA hold hu us ud o).2.2.1 (offA hold hu us ud o).2.2.2 W W' := by
  obtain ⟨P, D, q1, ⟨vh, vw, vr, wt, rt, q, e1, e2⟩, a1, a2⟩ := h.q
  have l1 : wt.length = us.length := by rw [← e1, List.length_map]
  have l2 : rt.length = ud.length := by rw [← e2, List.length_map]
  refine (refOffer_in q h.bel (fun i hi => (h.lo i (a2 i hi)).1) o vd vg ⟨rdd, rgg, (show o.deps.length ≤ 1000000 by omega), (show o.gone.length ≤ 1000000 by omega), (show o.text.size ≤ 1000000 by omega), hin⟩ hd (by omega) (by rw [e1]; exact hdd)).mono ?_
  rintro e W' ⟨rfl, hq, k⟩
  rw [e1, e2] at hq
  rw [e1, e2]
  exact ⟨rfl, h.newD q1 hq a1 a2 k⟩
theorem DJ.takePN (h : DJ w S b r hold hv ws [] hu us ud W) : Calls Tryz.prog 16 #[.pointer (some ⟨b, 0, none⟩)] W fun e W' => e = .returned (.tuple #[zeroA, .bool false]) ∧ Below W.heap.size W W' := by
  obtain ⟨P, D, ⟨vh, vw, vr, wt, rt, q, e1, e2⟩, q2, a1, a2⟩ := h.q
  have : rt = [] := by simpa using e2
  subst this
  exact Take_none q
theorem DJ.takeDN (h : DJ w S b r hold hv ws rd hu us [] W) : Calls Tryz.prog 39 #[.pointer (some ⟨r, 0, none⟩)] W fun e W' => e = .returned (.tuple #[zeroA, .bool false]) ∧ Below W.heap.size W W' := by
  obtain ⟨P, D, q1, ⟨vh, vw, vr, wt, rt, q, e1, e2⟩, a1, a2⟩ := h.q
  have : rt = [] := by simpa using e2
  subst this
  exact refTake_none q
/-- what was taken: in rows that the queue does not have any more -/
structure TkP (S S' : Nat → Prop) (W' : World) (x : Opn × Value × Value) : Prop where
  oe : OE S W' x
  ap : ∀ i, (x.2.1.ownBlock = some i ∨ x.2.2.ownBlock = some i) → ¬ S' i
theorem DJ.takeP {o : Opn} (h : DJ w S b r hold hv ws (o :: rd) hu us ud W) (hl : rd.length ≤ 1000) : Calls Tryz.prog 16 #[.pointer (some ⟨b, 0, none⟩)] W fun e W' => ∃ ad cd ag cg S', e = .returned (.tuple #[opA o (.slice ad o.deps.length cd) (.slice ag o.gone.length cg), .bool true]) ∧ DJ w S' b r hold hv ws rd hu us ud W' ∧ (∀ i, S' i → S i) ∧ TkP S S' W' (o, .slice ad o.deps.length cd, .slice ag o.gone.length cg) ∧ Kp S W W' := by
  obtain ⟨P, D, ⟨vh, vw, vr, wt, rt, q, e1, e2⟩, q2, a1, a2⟩ := h.q
  cases rt with
  | nil => simp at e2
  | cons x rt =>
    simp only [List.map_cons, List.cons.injEq] at e2
    obtain ⟨rfl, e2⟩ := e2
    have l2 : rt.length = rd.length := by rw [← e2, List.length_map]
    refine (Take_some q (by omega)).mono ?_
    rintro e W' ⟨rfl, ⟨vr', q'⟩, hoe, k⟩
    obtain ⟨x, vd, vg⟩ := x
    obtain ⟨ad, cd, f1⟩ := OwD.form hoe.d
    obtain ⟨ag, cg, f2⟩ := OwR.form hoe.g
    simp only at f1 f2
    subst f1
    subst f2
    have hap : Apt vh ((x, Value.slice ad x.deps.length cd, Value.slice ag x.gone.length cg) :: (wt ++ rt)) := q.dj.perm List.perm_middle
    have q3 := q'.less hoe hap
    have hz := k.size
    refine ⟨ad, cd, ag, cg, fun i => S i ∧ (Value.slice ad x.deps.length cd).ownBlock ≠ some i ∧ (Value.slice ag x.gone.length cg).ownBlock ≠ some i, rfl, ⟨⟨_, D, ⟨vh, vw, vr', wt, rt, q3, e1, e2⟩, q2.kp k (fun i e e' => (a1 i e).2 e'), fun i hi => ⟨⟨(a1 i hi.1).1, hi.2⟩, (a1 i hi.1).2⟩, fun i hi => ⟨a2 i hi, fun e => (a1 i (hoe.pd i e)).2 hi, fun e => (a1 i (hoe.pg i e)).2 hi⟩⟩, fun i hi => ⟨(h.lo i hi.1).1, by have := (h.lo i hi.1).2; omega⟩, k.below h.bel (fun i e => (h.lo i (a1 i e).1).1)⟩, fun i hi => hi.1, ⟨hoe.mono (fun i e => (a1 i e).1), fun i hi e => hi.elim e.2.1 e.2.2⟩, k.wk (fun i e => (a1 i e).1)⟩
theorem DJ.takeD {o : Opn} (h : DJ w S b r hold hv ws rd hu us (o :: ud) W) (hl : ud.length ≤ 1000) : Calls Tryz.prog 39 #[.pointer (some ⟨r, 0, none⟩)] W fun e W' => ∃ ad cd ag cg, e = .returned (.tuple #[opA o (.slice ad o.deps.length cd) (.slice ag o.gone.length cg), .bool true]) ∧ DN w S b r hold hv ws rd hu us ud W W' ∧ RI w (.slice ad o.deps.length cd) o.deps ∧ RR w (.slice ag o.gone.length cg) o.gone := by
  obtain ⟨P, D, q1, ⟨vh, vw, vr, wt, rt, q, e1, e2⟩, a1, a2⟩ := h.q
  cases rt with
  | nil => simp at e2
  | cons x rt =>
    simp only [List.map_cons, List.cons.injEq] at e2
    obtain ⟨rfl, e2⟩ := e2
    have l2 : rt.length = ud.length := by rw [← e2, List.length_map]
    refine (refTake_some q (by omega)).mono ?_
    rintro e W' ⟨rfl, ⟨vr', q'⟩, hoe, k⟩
    obtain ⟨x, vd, vg⟩ := x
    obtain ⟨ad, cd, f1⟩ := RI.form hoe.d
    obtain ⟨ag, cg, f2⟩ := RC.form hoe.g
    simp only at f1 f2
    subst f1
    subst f2
    exact ⟨ad, cd, ag, cg, rfl, h.newD q1 ⟨vh, vw, vr', wt, rt, q'.mono (fun i hi => .inl hi), e1, e2⟩ a1 a2 k, hoe.d, hoe.g⟩

end Go.Proofs.YtkkolefionbbcaaGreat

/-
  The law's alike: both queues tell the same.
-/
set_option linter.unusedSimpArgs false
set_option linter.unusedVariables false
namespace Go.Proofs.YtkkolefionbbcaaGreat
open Go.RowKit Go.Lib

variable {w W W' : World} {b r : Nat} {hold : Int} {hv : List (Int × Int)} {S : Nat → Prop} {ws rd : List Opn}
theorem DJ.calls (h : DJ w S b r hold hv ws rd hv ws rd W) (hd : 0 ≤ hold ∧ hold ≤ 256) (hl : ws.length ≤ 1000) (hc : chk hv = 0) :
    (∀ X, Below W.heap.size W X → Calls Tryz.prog 18 #[.pointer (some ⟨b, 0, none⟩)] X fun e X' => ∃ a c, e = .returned (.slice a ws.length c) ∧ RI X' (.slice a ws.length c) (sortI (ws.map dotO)) ∧ Below X.heap.size X X') ∧
    (∀ X, Below W.heap.size W X → Calls Tryz.prog 59 #[.pointer (some ⟨r, 0, none⟩)] X fun e X' => ∃ a c, e = .returned (.slice a ws.length c) ∧ RI X' (.slice a ws.length c) (sortI (ws.map dotO)) ∧ Below X.heap.size X X') ∧
    (∀ X, Below W.heap.size W X → Calls Tryz.prog 19 #[.pointer (some ⟨b, 0, none⟩)] X fun e X' => e = .returned (.int .i64 (hold - (ws.length : Nat))) ∧ Below X.heap.size X X') ∧
    (∀ X, Below W.heap.size W X → Calls Tryz.prog 60 #[.pointer (some ⟨r, 0, none⟩)] X fun e X' => e = .returned (.int .i64 (hold - (ws.length : Nat))) ∧ Below X.heap.size X X') ∧
    (∀ X, Below W.heap.size W X → Calls Tryz.prog 20 #[.pointer (some ⟨b, 0, none⟩)] X fun e X' => ∃ a c, e = .returned (.slice a hv.length c) ∧ RI X' (.slice a hv.length c) hv ∧ Below X.heap.size X X') ∧
    (∀ X, Below W.heap.size W X → Calls Tryz.prog 61 #[.pointer (some ⟨r, 0, none⟩)] X fun e X' => ∃ a c, e = .returned (.slice a hv.length c) ∧ RI X' (.slice a hv.length c) hv ∧ Below X.heap.size X X') := by
  obtain ⟨P, D, ⟨vh, vw, vr, wt, rt, q, e1, e2⟩, ⟨uh, uw, ur, wu, ru, q', e1', e2'⟩, a1, a2⟩ := h.q
  have l1 : wt.length = ws.length := by rw [← e1, List.length_map]
  have l2 : wu.length = ws.length := by rw [← e1', List.length_map]
  have d1 : dotsT wt = ws.map dotO := by rw [← e1, List.map_map]; rfl
  have d2 : dotsT wu = ws.map dotO := by rw [← e1', List.map_map]; rfl
  refine ⟨fun X hX => ?_, fun X hX => ?_, fun X hX => ?_, fun X hX => ?_, fun X hX => ?_, fun X hX => ?_⟩
  · refine (Waits_in (q.below hX) (by omega)).mono ?_
    rintro e W' ⟨v', rfl, ho, hb⟩
    rw [d1] at ho
    obtain ⟨a, c, rfl⟩ := owns_form ho
    have e3 : (sortI (ws.map dotO)).length = wt.length := by rw [(sortI_perm _).length_eq, List.length_map, l1]
    rw [← l1]
    refine ⟨a, c, rfl, ?_, hb⟩
    unfold RI
    rw [e3]
    exact RC.of_owns ho
  · refine (refWaits_in (q'.below hX) (by omega)).mono ?_
    rintro e W' ⟨v', rfl, ho, hb⟩
    rw [d2] at ho
    obtain ⟨a, c, rfl⟩ := owns_form ho
    have e3 : (sortI (ws.map dotO)).length = wu.length := by rw [(sortI_perm _).length_eq, List.length_map, l2]
    rw [← l2]
    refine ⟨a, c, rfl, ?_, hb⟩
    unfold RI
    rw [e3]
    exact RC.of_owns ho
  · have := Free_in (q.below hX) hd (by omega)
    rw [l1] at this
    exact this
  · have := refFree_in (q'.below hX) hd (by omega)
    rw [l2] at this
    exact this
  · refine (Vector_in (q.below hX)).mono ?_
    rintro e W' ⟨v', rfl, ho, hb⟩
    obtain ⟨a, c, rfl⟩ := OwD.form ho
    exact ⟨a, c, rfl, OwD.row ho, hb⟩
  · refine (refVector_in (q'.below hX)).mono ?_
    rintro e W' ⟨v', rfl, ho, hb⟩
    rw [vec_mrg hc] at ho
    obtain ⟨a, c, rfl⟩ := OwD.form ho
    exact ⟨a, c, rfl, OwD.row ho, hb⟩
theorem DJ.hlen (h : DJ w S b r hold hv ws rd hv ws rd W) : hv.length ≤ 1000000 := by
  obtain ⟨P, D, ⟨vh, vw, vr, wt, rt, q, e1, e2⟩, _⟩ := h.q
  exact q.hl
set_option maxRecDepth 100000 in
set_option maxHeartbeats 4000000 in
theorem alike_in (h : DJ w S b r hold hv ws rd hv ws rd W) (hd : 0 ≤ hold ∧ hold ≤ 256) (hl : ws.length ≤ 1000) (hc : chk hv = 0) :
    Calls Tryz.prog 38 #[.pointer (some ⟨b, 0, none⟩), .pointer (some ⟨r, 0, none⟩)] W fun e W' => e = .returned (.bool true) ∧ Below W.heap.size W W' := by
  obtain ⟨h1, h2, h3, h4, h5, h6⟩ := h.calls hd hl hc
  have hhl := h.hlen
  have hsl : (sortI (ws.map dotO)).length ≤ 1000 := by rw [(sortI_perm _).length_eq, List.length_map]; exact hl
  obtain ⟨n, hn⟩ : ∃ n, ws.length = n := ⟨_, rfl⟩
  obtain ⟨m, hm⟩ : ∃ m, hv.length = m := ⟨_, rfl⟩
  rw [hn] at h1 h2 h3 h4
  rw [hm] at h5 h6
  have HSa := hide (fun (a a' : Option Addr) (c c' : Nat) X (hr : RI X (.slice a n c) (sortI (ws.map dotO))) (hr' : RI X (.slice a' n c') (sortI (ws.map dotO))) => dots_in _ _ (.slice a n c) (.slice a' n c') X hr hr' (by omega) (by omega))
  have HSv := hide (fun (a a' : Option Addr) (c c' : Nat) X (hr : RI X (.slice a m c) hv) (hr' : RI X (.slice a' m c') hv) => Same_in hv hv (.slice a m c) (.slice a' m c') X hr hr' (by omega) (by omega))
  have H1 := hide h1
  have H2 := hide h2
  have H3 := hide h3
  have H4 := hide h4
  have H5 := hide h5
  have H6 := hide h6
  obtain ⟨fr, hfr⟩ : ∃ fr, hold - ((n : Nat) : Int) = fr := ⟨_, rfl⟩
  rw [hfr] at H3 H4
  clear h1 h2 h3 h4 h5 h6 h hn hm hfr hsl hhl
  go_enter Tryz.func38, Tryz.ntmps38
  go_wp2_with fail
  refine (unhide H1 _ (Below.refl _ _)).mono ?_
  rintro e X1 ⟨a1, c1, rfl, r1, b1⟩
  have R1 := hide r1
  have B1 := hide b1
  clear H1 r1 b1
  go_wp2_with fail
  refine (unhide H2 _ (unhide B1)).mono ?_
  rintro e X2 ⟨a2, c2, rfl, r2, b2⟩
  have HD := hide (unhide HSa a1 a2 c1 c2 X2 ((unhide R1).below b2) r2)
  have B2 := hide (bnext (unhide B1) b2)
  clear H2 r2 b2 HSa R1
  simp only [decide_true] at HD
  go_wp2_with fail
  refine (unhide HD).mono ?_
  rintro e X3 ⟨rfl, b3⟩
  have B3 := hide (bnext (unhide B2) b3)
  clear HD b3
  go_wp2_with fail
  refine (unhide H3 _ (unhide B3)).mono ?_
  rintro e X4 ⟨rfl, b4⟩
  have B4 := hide (bnext (unhide B3) b4)
  clear H3 b4
  go_wp2_with fail
  refine (unhide H4 _ (unhide B4)).mono ?_
  rintro e X5 ⟨rfl, b5⟩
  have B5 := hide (bnext (unhide B4) b5)
  clear H4 b5
  go_wp2_with fail
  refine (unhide H5 _ (unhide B5)).mono ?_
  rintro e X6 ⟨a6, c6, rfl, r6, b6⟩
  have R6 := hide r6
  have B6 := hide (bnext (unhide B5) b6)
  clear H5 r6 b6
  go_wp2_with fail
  refine (unhide H6 _ (unhide B6)).mono ?_
  rintro e X7 ⟨a7, c7, rfl, r7, b7⟩
  have HE := hide (unhide HSv a6 a7 c6 c7 X7 ((unhide R6).below b7) r7)
  have B7 := hide (bnext (unhide B6) b7)
  clear H6 r7 b7 R6 HSv
  simp only [decide_true] at HE
  go_wp2_with fail
  refine (unhide HE).mono ?_
  rintro e X8 ⟨rfl, nn, rfl⟩
  go_wp2
  go_ret
  exact ⟨rfl, bdrew (unhide B7) nn⟩

end Go.Proofs.YtkkolefionbbcaaGreat
