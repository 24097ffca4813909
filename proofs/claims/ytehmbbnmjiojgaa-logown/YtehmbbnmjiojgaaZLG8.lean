/-
  The log's iterator, ranged over; Lacks.
-/
import Derived.Test.YtehmbbnmjiojgaaZRge
set_option linter.unusedSimpArgs false
set_option linter.unusedVariables false
namespace Go.Proofs.Ytehmbbnmjiojgaa
open Go.RowKit Go.Lib Go.Shelf

attribute [local go_sem] Oper.semAt_some

/-- what the iterator yields: an operation in lists of its own -/
def BydA (o : Opn) (W : World) (args : Array Value) : Prop := ∃ vd vg, args = #[opA o vd vg]

set_option maxRecDepth 100000 in
set_option maxHeartbeats 4000000 in
theorem byd_E (P : Nat → Prop) (nb : Nat) (v : Value) (ops : List (Opn × Value × Value)) :
    SeqE 22 #[.pointer (some ⟨nb, 0, none⟩)] BydA (ops.map Prod.fst) (fun W => ITR P W nb v ops) := by
  intro l J Jx W hJ hI hY h0 n
  show CallsIn Fence.wide n Try.prog 22 #[.func (.yield l) #[] #[], .pointer (some ⟨nb, 0, none⟩)] W _
  have i0 := hI _ _ h0
  obtain ⟨a, cap, rfl⟩ := owns_form i0.row
  have c0 := i0.box.cell 0 _ rfl
  have hlen := i0.len
  have HI := hide hI
  have HJ := hide hJ
  have HY := hide hY
  have H0 := hide h0
  clear i0 hJ hI hY h0
  refine callsIn_of_wp Try.func22 rfl trivial ?_ rfl
  simp only [Try.ntmps22, List.size_toArray, List.length_cons, List.length_nil, Nat.reduceAdd, Nat.reduceSub, Array.replicate_succ, Array.replicate_zero, List.push_toArray, List.append_toArray, List.nil_append, List.cons_append]
  gi_wp2
  gi_loopw [7] (fun iv wr => ∃ k : Nat, iv = .int .i64 (k : Nat) ∧ k ≤ ops.length ∧ Hid (J ((ops.take k).map Prod.fst) wr)) (fun iv _ => ops.length - (Lib.intOf iv).toNat)
  case atStart => exact ⟨0, rfl, by omega, by rw [List.take_zero]; exact H0⟩
  case round =>
    clear H0 c0
    obtain ⟨k, rfl, hkn, HH⟩ := hrel
    by_cases hlt : k < ops.length
    · have hlt' : (k : Int) < (ops.length : Int) := by omega
      obtain ⟨e, hx⟩ : ∃ e, ops[k]? = some e := ⟨_, List.getElem?_eq_getElem hlt⟩
      have it := unhide HI _ _ (unhide HH)
      obtain ⟨g, rfl, hgl, hcell⟩ := own_at11 it.row rfl hx
      have oe := it.re e (List.mem_of_getElem? hx)
      obtain ⟨a1, c1, h1⟩ := OwD.form oe.d
      obtain ⟨a2, c2, h2⟩ := OwR.form oe.g
      obtain ⟨o, ud, ug⟩ := e
      simp only at h1 h2
      subst h1 h2
      have q0 := hcell 0 _ rfl
      have q1 := hcell 1 _ rfl
      have q2 := hcell 2 _ rfl
      have q3 := hcell 3 _ rfl
      have q4 := hcell 4 _ rfl
      have q5 := hcell 5 _ rfl
      have q6 := hcell 6 _ rfl
      have q7 := hcell 7 _ rfl
      have q8 := hcell 8 _ rfl
      have q9 := hcell 9 _ rfl
      have q10 := hcell 10 _ rfl
      rw [Nat.add_zero] at q0
      have hsp : Hid ((ops.take k).map Prod.fst ++ o :: (ops.drop (k + 1)).map Prod.fst = ops.map Prod.fst) := by
        refine hide ?_
        have e1 : ops = ops.take k ++ (o, Value.slice a1 o.deps.length c1, Value.slice a2 o.gone.length c2) :: ops.drop (k + 1) := by
          have e2 : ops.drop k = (o, Value.slice a1 o.deps.length c1, Value.slice a2 o.gone.length c2) :: ops.drop (k + 1) := by
            rw [List.drop_eq_getElem_cons hlt]
            congr 1
            exact Option.some.inj ((List.getElem?_eq_getElem hlt).symm.trans hx)
          rw [← e2, List.take_append_drop]
        conv => rhs; rw [e1]
        simp
      have htk : Hid ((ops.take (k + 1)).map Prod.fst = (ops.take k).map Prod.fst ++ [o]) := by
        refine hide ?_
        rw [List.take_add_one, hx]
        simp
      obtain ⟨Y, hY0⟩ : ∃ Y, wr.alloc (.cells #[.int .i64 o.ds, .int .i64 o.dq, .slice a1 o.deps.length c1, .int .i64 o.kind, .int .i64 o.it, .int .i64 o.is, .int .i64 o.rt, .int .i64 o.rs, .string o.text, .slice a2 o.gone.length c2, .int .i64 o.site] 38) = Y := ⟨_, rfl⟩
      have bY : Below wr.heap.size wr Y := by rw [← hY0]; exact ballc (Below.refl _ _) _
      have xY := Bx.new wr 38 #[.int .i64 o.ds, .int .i64 o.dq, .slice a1 o.deps.length c1, .int .i64 o.kind, .int .i64 o.it, .int .i64 o.is, .int .i64 o.rt, .int .i64 o.rs, .string o.text, .slice a2 o.gone.length c2, .int .i64 o.site]
      rw [hY0] at xY
      have HCl := hide (clone_in o a1 a2 c1 c2 Y (oe.d.row.below bY) (RC.below oe.g.row bY) oe.s1 oe.s2 oe.s3)
      obtain ⟨z0, z1, z2, z3, z4, z5, z6, z7, z8, z9, z10⟩ := cells_op xY
      have yl := xY.lt
      have Hs := hide (show o.deps.length ≤ 1000000 ∧ o.gone.length ≤ 1000000 ∧ o.text.size ≤ 1000000 from ⟨oe.s1, oe.s2, oe.s3⟩)
      have BY := hide bY
      clear it oe hcell hx bY xY
      gi_wp2
      refine ⟨trivial, fun h => (by cases h), (callsIn_wide.2 (unhide HCl)).mono ?_⟩
      rintro r W1 ⟨vd', vg', rfl, hod, hog, hb1⟩
      obtain ⟨ad, cd, rfl⟩ := OwD.form hod
      obtain ⟨ag, cg, rfl⟩ := OwR.form hog
      have hj1 := unhide HJ _ _ _ (unhide HH) (bnext (unhide BY) hb1)
      obtain ⟨fn, tmps, assign, body, hy, hR⟩ := unhide HY _ o _ W1 #[opA o (.slice ad o.deps.length cd) (.slice ag o.gone.length cg)] (unhide hsp) hj1 ⟨_, _, rfl⟩ (n - 1)
      unfold opA at hy ⊢
      clear HCl hod hog hb1 BY hY0 q0 q1 q2 q3 q4 q5 q6 q7 q8 q9 q10 z0 z1 z2 z3 z4 z5 z6 z7 z8 z9 z10 hj1
      gi_wp2
      refine ⟨fun h => (by cases h), hR.mono ?_⟩
      rintro e W3 ⟨b, rfl, hJ3⟩
      cases b with
      | true =>
        have HJ3 := hide (show J ((ops.take (k + 1)).map Prod.fst) W3 by rw [unhide htk]; exact hJ3)
        clear hJ3 hR hy
        gi_wp2
        go_roundw
        case measure => show ops.length - ((k : Int) + 1).toNat < ops.length - ((k : Nat) : Int).toNat; omega
        case rel => exact ⟨k + 1, by go_num, by omega, HJ3⟩
      | false =>
        have HJ3 := hide hJ3
        clear hJ3 hR hy
        gi_wp2
        refine bodyPost_ret (results_none rfl _ _ _) rfl ?_
        refine ⟨⟨_, rfl⟩, .inr ⟨_, (ops.drop (k + 1)).map Prod.fst, ?_, unhide HJ3⟩⟩
        rw [← unhide hsp]
        simp
    · have hlt' : ¬ (k : Int) < (ops.length : Int) := by omega
      have HJl := hide (show J (ops.map Prod.fst) wr by have := unhide HH; rw [List.take_of_length_le (by omega)] at this; exact this)
      clear HH
      gi_wp2
      go_end0
      exact ⟨⟨_, rfl⟩, .inl (unhide HJl)⟩

theorem ITR.lt {P : Nat → Prop} {W : World} {nb : Nat} {v : Value} {ops : List (Opn × Value × Value)} (h : ITR P W nb v ops) : ITR (fun i => P i ∧ i < W.heap.size) W nb v ops :=
  ⟨h.box, h.row, fun e he => (h.re e he).lt, ⟨h.pn, h.box.lt⟩, fun k hk => ⟨h.pv k hk, (h.row.lt k hk).2⟩, h.len⟩
set_option maxRecDepth 100000 in
set_option maxHeartbeats 4000000 in
theorem Lacks_any (w : World) (ptr : Value) (a : Option Addr) (n c : Nat) (P : Nat → Prop) (os : List Opn) (hl : os.length ≤ 1000000) (hP : ∀ i, P i → i < w.heap.size)
    (hB : ∀ W, Below w.heap.size w W → w.heap.size < W.heap.size → Calls Try.prog 8 #[ptr, .slice a n c] W fun e W' => e = .returned (itV W.heap.size) ∧ IT (fun i => P i ∨ W.heap.size ≤ i) W' W.heap.size os ∧ Below W.heap.size W W') :
    Calls Try.prog 17 #[ptr, .slice a n c] w fun e W' => e = .returned (.int .i64 (os.length : Nat)) ∧ Below w.heap.size w W' := by
  have HB := hide (hB (w.alloc (.cells #[.int .i64 0] 3)) (ballc (Below.refl _ _) _) (by simp))
  refine (callsIn_wide (n := 6)).1 ?_
  refine callsIn_of_wp_marks Try.func17 rfl trivial ?_ rfl
  simp only [Try.ntmps17, List.size_toArray, List.length_cons, List.length_nil, Nat.reduceAdd, Nat.reduceSub, Array.replicate_succ, Array.replicate_zero, List.push_toArray, List.append_toArray, List.nil_append, List.cons_append]
  gi_wp2
  refine ⟨trivial, (callsIn_wide.2 (unhide HB)).mono ?_⟩
  rintro r W1 ⟨rfl, ⟨v, ops, hit0, rfl⟩, hb1⟩
  rw [List.length_map] at hl
  have hsz : (w.alloc (.cells #[.int .i64 0] 3)).heap.size = w.heap.size + 1 := by simp
  have hb01 : Below w.heap.size w W1 := bnext (ballc (Below.refl _ _) _) hb1
  have hz1 : w.heap.size + 1 ≤ W1.heap.size := by have := hb1.size; omega
  have bx1 : Bx W1 w.heap.size 3 #[.int .i64 0] := (Bx.new w _ _).below hb1
  have hit := hit0.lt
  obtain ⟨nb, hnb⟩ : ∃ nb, (w.alloc (.cells #[.int .i64 0] 3)).heap.size = nb := ⟨_, rfl⟩
  rw [hnb] at hit ⊢
  have hP' : ∀ i, ((P i ∨ nb ≤ i) ∧ i < W1.heap.size) → i ≠ w.heap.size := fun i hi e => by
    rcases hi.1 with h | h
    · have := hP i h; omega
    · omega
  clear hit0 hB HB hb1
  unfold itV
  gi_wp2
  refine range_E (gf := 22) (lb := #[.pointer (some ⟨nb, 0, none⟩)]) rfl (enters_of Try.func22 (by kernel_rfl) rfl) (byd_E _ nb v ops) (fun x W args h => by obtain ⟨_, _, rfl⟩ := h; rfl)
    (fun pre W => Bx W w.heap.size 3 #[.int .i64 (pre.length : Nat)] ∧ ITR (fun i => (P i ∨ nb ≤ i) ∧ i < W1.heap.size) W nb v ops ∧ Below w.heap.size w W)
    (fun _ _ _ => False) ?hI (fun _ _ _ _ _ hs _ _ => hs) (fun pre W h => h.2.1) ⟨bx1, hit, hb01⟩
    (fun x args => { tmps := #[ptr, .slice a n c, undef, undef, .int .i64 0, .pointer (some ⟨w.heap.size, 0, none⟩), ptr, .slice a n c, .func (.func 22) #[] #[.pointer (some ⟨nb, 0, none⟩)], args.getD 0 undef, undef, undef, undef], defers := [] }) ?assign ?body ?done ?stop
  case hI =>
    rintro s A B row ⟨h1, h2, h3⟩ hg hr
    have k := Kp.of_grown (N := fun k => row = some k) hg (fun k e => e)
    exact ⟨h1.kp k (fun e => by have := hr _ e; omega), h2.kp k (fun i e h => by have := hr _ e; omega), k.below h3 (fun i e => by have := hr _ e; omega)⟩
  case assign =>
    rintro l x args W K ⟨vd, vg, rfl⟩ hK
    gi_wp2
    simpa using hK
  case body =>
    rintro l pre x rest args W hpre hzW ⟨h1, h2, h3⟩
    have hlen : pre.length < 1000000 := by have := congrArg List.length hpre; simp at this; omega
    have c0 := h1.cell 0 _ rfl
    have f0 := h1.frozen 0
    have l0 := h1.lt
    have k := Kp.set (N := fun i => i = w.heap.size) W ⟨w.heap.size, 0, none⟩ (.int .i64 ((pre.length : Int) + 1)) rfl
    have b2 := h1.set 0 (.int .i64 ((pre.length : Int) + 1))
    gi_wp2
    refine ⟨fun q hq hq2 => k.block q (by omega) (by omega), ?_, h2.kp k (fun i e h => hP' i h e), k.below h3 (fun i e => by omega)⟩
    have e1 : Value.int .i64 ((pre ++ [x]).length : Nat) = .int .i64 ((pre.length : Int) + 1) := by simp
    rw [e1]
    simpa using b2
  case done =>
    rintro D W hD hzW ⟨h1, h2, h3⟩ hdd
    subst hD
    have c0 := h1.cell 0 _ rfl
    rw [List.length_map] at c0
    have l0 := h1.lt
    gi_wp2
    refine ⟨by simp, .inl ⟨_, _, rfl, run_takeDeferred hdd, ?_⟩⟩
    refine ⟨_, results_tmp rfl _ _ _, by rw [List.length_map]; rfl, ?_⟩
    exact (Kp.of_grown (N := fun k => k = W1.heap.size) (grownBy_putObj' W W1.heap.size _) (fun k e => by cases e; rfl)).below h3 (fun i e => by omega)
  case stop => rintro D c pre rest W hD hp h _; exact h.elim

end Go.Proofs.Ytehmbbnmjiojgaa
