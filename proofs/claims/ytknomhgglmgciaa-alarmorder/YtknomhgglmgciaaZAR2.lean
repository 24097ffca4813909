/-
  The document's own Alarm: Off, Set, Reset.
-/
import Derived.Test.YtknomhgglmgciaaZAR1
set_option linter.unusedSimpArgs false
set_option linter.unusedVariables false
namespace Go.Proofs.Ytknomhgglmgciaa
open Go.RowKit Go.Lib

theorem step_append_eq {ops : Array Oper} {o : Oper} {a : Act} {w w' : World} {K : Act → World → Prop} {Q : Exit → Act → World → Prop} {E : Prop} (hg : o.guard = none) (s x : Operand) (t : TypeId) (hop : o.op = Op.call { callee := Callee.builtin Builtin.append, args := #[s, x], argTypes := #[t, t] })
    (v u v' : Value) (hs : a.eval s = v) (hx : a.eval x = u) (hr : (Builtin.append_ #[t, t] o.type #[v, u]).run Try.prog w = .ok v' w') (hK : K (a.put o.dst v') w') : if Region.wanted o (yielded ops a.tmps) = true then Oper.wp Try.prog o a w K Q else E := by
  have hw : Region.wanted o (yielded ops a.tmps) = true := by simp [Region.wanted, hg]
  rw [if_pos hw]
  unfold Oper.wp
  simp [execOp, hop, resolve, invoke, builtin, hs, hx, hr, Result.andThen]
  exact hK
theorem infoT : (Try.prog.info? 70).map (fun i => (i.zero, i.size, i.bytes)) = some (some (.agg #[.int .i64 0, .int .i64 0, .int .i64 0]), 3, 24) := by kernel_rfl
abbrev tmO (x : Tm) : Obj := .cells #[.int .i64 x.key, .int .i64 x.gap, .int .i64 x.due] 70
/-- append(l, x) -/
theorem append_t (w : World) (ty : TypeId) (N : Nat) (v : Value) (l : List Tm) (x : Tm) (h : w.ownsRow N 70 3 v l.length (flat encT l)) (hN : N ≤ w.heap.size) (hl : l.length ≤ 1000000) :
    ∃ v' w', (Builtin.append_ #[43, 43] ty #[v, .slice (some ⟨w.heap.size, 0, none⟩) 1 1]).run Try.prog (w.alloc (tmO x)) = .ok v' w' ∧ w'.ownsRow N 70 3 v' (l ++ [x]).length (flat encT (l ++ [x])) ∧ (w.alloc (tmO x)).grownBy w' v.ownBlock ∧ (v'.ownBlock = v.ownBlock ∨ v'.ownBlock = some (w.heap.size + 1)) := by
  obtain ⟨i0, hi, hz0, hz1, hz2⟩ := info_parts infoT
  have hbx := Bx.new w 70 #[.int .i64 x.key, .int .i64 x.gap, .int .i64 x.due]
  obtain ⟨v', w', h1, h2, h3, h4, h5⟩ := run_append_own_at (P := Try.prog) (w.alloc (tmO x)) N 43 ty 70 i0 _ 3 24 Try.underlying43 hi hz0 hz1 hz2 rfl (by decide) v l.length _ (World.ownsRow.alloc h _) ⟨w.heap.size, 0, none⟩ 1 1 (encT x) rfl (fun j u hu => by
    rw [Addr.add_lit, Nat.zero_add]
    exact hbx.cell j u (by rw [← hu]; simp [encT])) (fun u hu => by
      unfold encT at hu
      simp at hu
      rcases hu with rfl | rfl | rfl <;> rfl) (by unfold maxLen; omega) (by omega) (by simp; omega)
  refine ⟨v', w', h1, ?_, h3, ?_⟩
  · rw [flat_append, List.length_append]
    have : flat encT [x] = encT x := by simp [flat]
    rw [this]
    exact h2
  · simpa using h5
/-- a call that may change the document's Alarm -/
def RA (P : Nat → Prop) (w : World) (r : Nat) (ls ms : Int) (L : List Tm) (v : Value) (e : Ending) (W : World) : Prop := e = .returned v ∧ RL (fun i => P i ∨ w.heap.size ≤ i) W r ls ms L ∧ Kp P w W
theorem off_take {L : List Tm} {k : Int} {i : Nat} {x : Tm} (h : L[i]? = some x) : offL (L.take (i + 1)) k = offL (L.take i) k ++ (if x.key = k then [] else [x]) := by
  rw [List.take_add_one, h]
  unfold offL
  simp only [Option.toList, List.filter_append]
  congr 1
  by_cases e : x.key = k
  · simp [e]
  · simp [e]
set_option maxRecDepth 100000 in
set_option maxHeartbeats 2000000 in
theorem rOff_in {P : Nat → Prop} {w : World} {r : Nat} {ls ms : Int} {L : List Tm} (h : RL P w r ls ms L) (hl : L.length ≤ 1000000) (k : Int) : Calls Try.prog 27 #[.pointer (some ⟨r, 0, none⟩), .int .i64 k] w (RA P w r ls ms (offL L k) (.tuple #[])) := by
  obtain ⟨v, h⟩ := h
  obtain ⟨a, c, rfl⟩ := h.form
  have HH := hide h
  clear h
  obtain ⟨n, hn⟩ : ∃ n, L.length = n := ⟨_, rfl⟩
  have Hn := hide hn
  rw [hn] at hl
  clear hn
  go_enter Try.func27, Try.ntmps27
  go_wp2
  go_loopw [4, 5] (fun u z wr => ∃ i : Nat, i ≤ n ∧ z = .int .i64 (i : Nat) ∧ Hid (wr.ownsRow w.heap.size 70 3 u (offL (L.take i) k).length (flat encT (offL (L.take i) k)) ∧ Below w.heap.size w wr)) (fun _ z _ => n - (RowKit.intOf z).toNat)
  case atStart => exact ⟨0, Nat.zero_le _, rfl, hide ⟨World.ownsRow_nil _ _ _ _, Below.refl _ _⟩⟩
  case round =>
    obtain ⟨i, hi, rfl, HI⟩ := hrel
    obtain ⟨ho, hb⟩ := unhide HI
    have h' := (unhide HH).kp (N := fun _ => False) (Kp.of_below hb) (fun _ e => e.elim)
    have c2 := h'.c2
    rw [unhide Hn] at c2
    by_cases hlt : i < n
    · have hlt' : (i : Int) < (n : Int) := by omega
      have hiL : i < L.length := by rw [unhide Hn]; exact hlt
      obtain ⟨x, hx⟩ : ∃ x, L[i]? = some x := ⟨_, List.getElem?_eq_getElem hiL⟩
      obtain ⟨_, g, rfl, _, _, k0, k1, k2⟩ := h'.at hx
      have hot := off_take (k := k) hx
      by_cases he : x.key = k
      · have he' : (x.key != k) = false := by simpa using he
        rw [if_pos he, List.append_nil] at hot
        have Hot := hide hot
        clear he hot h' ho hb hx
        go_wp2
        go_roundw
        case rel => exact ⟨i + 1, by omega, by go_num, by rw [unhide Hot]; exact HI⟩
        case measure => show n - ((i : Int) + 1).toNat < n - ((i : Nat) : Int).toNat; omega
      · have he' : (x.key != k) = true := by simpa using he
        rw [if_neg he] at hot
        obtain ⟨v', X2, hr, o2, g2, hv2⟩ := append_t wr 43 w.heap.size _ _ x ho hb.size (by
          have h1 : (offL (L.take i) k).length ≤ (L.take i).length := List.length_filter_le _ _
          rw [List.length_take] at h1
          omega)
        rw [← hot] at o2
        have hb2 : Below w.heap.size w X2 := by
          have k2 : Kp (fun i => w.heap.size ≤ i) wr X2 := (Kp.of_below (N := fun i => w.heap.size ≤ i) (ballc (Below.refl _ wr) (tmO x))).trans (Kp.of_grown (N := fun i => w.heap.size ≤ i) g2 (fun j hj => (World.ownsRow.lt ho j hj).1)) (fun i hi => .inl hi)
          exact k2.below hb (fun i hi => hi)
        obtain ⟨ua, uc, rfl⟩ := owns_form ho
        obtain ⟨va, vc, rfl⟩ := owns_form o2
        have HO := hide (And.intro o2 hb2)
        replace hr := hide hr
        clear he hot h' ho hb hx o2 g2 hv2 hb2
        unfold tmO at hr
        go_wp2_with (at_builtin; refine wpList_append_eq rfl _ _ _ _ rfl _ _ _ _ rfl rfl (unhide hr) ?_)
        go_roundw
        case rel => exact ⟨i + 1, by omega, by go_num, HO⟩
        case measure => show n - ((i : Int) + 1).toNat < n - ((i : Nat) : Int).toNat; omega
    · have hlt' : ¬ (i : Int) < (n : Int) := by omega
      have fz := h'.bx.frozen 2
      obtain rfl : i = n := by omega
      rw [List.take_of_length_le (by rw [unhide Hn]; omega)] at ho
      obtain ⟨ua, uc, eu⟩ := owns_form ho
      subst eu
      have kB : Kp (fun j => j = r) wr (wr.setCell ⟨r, 2, none⟩ (.slice ua (offL L k).length uc)) := Kp.set wr ⟨r, 2, none⟩ _ rfl
      have hrl := (unhide HH).bx.lt
      have FIN : Hid (RL (fun i => P i ∨ w.heap.size ≤ i) (wr.setCell ⟨r, 2, none⟩ (.slice ua (offL L k).length uc)) r ls ms (offL L k) ∧ Kp P w (wr.setCell ⟨r, 2, none⟩ (.slice ua (offL L k).length uc))) := by
        refine ⟨⟨_, ⟨h'.bx.set 2 _, owns_wk (owns_kp ho kB (fun j hj e => ?_)) (Nat.zero_le _), .inl h'.pr, fun j hj => .inr (World.ownsRow.lt ho j hj).1⟩⟩, (Kp.of_below (N := P) hb).trans kB (fun j hj => .inl (by rw [hj]; exact h'.pr))⟩
        have := (World.ownsRow.lt ho j hj).1
        omega
      clear h' ho hb kB hrl HI
      go_wp2
      refine bodyPost_end (results_none rfl _ _ _) rfl ?_
      exact ⟨rfl, unhide FIN⟩

set_option maxRecDepth 100000 in
set_option maxHeartbeats 2000000 in
theorem rSet_in {P : Nat → Prop} {w : World} {r : Nat} {ls ms : Int} {L : List Tm} (h : RL P w r ls ms L) (gl : GL ls ms L) (hl : L.length ≤ 999999) (k now : Int) : Calls Try.prog 25 #[.pointer (some ⟨r, 0, none⟩), .int .i64 k, .int .i64 now] w (RA P w r ls ms (setS ls L k now) (.int .i64 (setE ls L k now))) := by
  have HA := hide h
  have HT := hide (rtick_in now w)
  have HAt := hide (at_in h (by omega) k)
  obtain ⟨v, h⟩ := h
  obtain ⟨a, c, rfl⟩ := h.form
  have c0 := h.c0
  have same : Hid (∀ v, RA P w r ls ms L v (.returned v) w) := fun v => ⟨rfl, (unhide HA).mono (fun _ h => .inl h), Kp.refl _ _⟩
  have hls : 0 ≤ ls := by rcases gl.rng with h | h <;> omega
  unfold setS setE mayS
  cases hT : tickB now with
  | false =>
    rw [hT] at HT
    simp only [Bool.and_false, Bool.false_eq_true, if_false, false_and]
    clear h hT HAt
    go_enter Try.func25, Try.ntmps25
    go_wp2_with fail
    refine (unhide HT).mono ?_
    rintro e W1 ⟨rfl, rfl⟩
    clear HT
    go_wp2
    go_ret
    exact unhide same _
  | true =>
    rw [hT] at HT
    have hnow : 0 ≤ now ∧ now ≤ 2147483647 := by unfold tickB at hT; simpa using hT
    simp only [Bool.and_true]
    by_cases h0 : ls = 0
    · subst h0
      simp only [Int.lt_irrefl, decide_false, Bool.false_eq_true, if_false, false_and]
      clear h hT HAt hls
      go_enter Try.func25, Try.ntmps25
      go_wp2_with fail
      refine (unhide HT).mono ?_
      rintro e W1 ⟨rfl, rfl⟩
      clear HT
      go_wp2
      go_ret
      exact unhide same _
    · have hd : decide (0 < ls) = true := decide_eq_true (by omega)
      have h0' : (ls == 0) = false := by simpa using h0
      simp only [hd, if_true, true_and]
      have hls' : ls ≤ 4096 := by rcases gl.rng with h | h <;> omega
      cases hlk : lookL L k with
      | some x =>
        rw [if_neg (by simp)]
        simp only [Option.isSome_some, if_true]
        have hat : Hid (Calls Try.prog 34 #[.pointer (some ⟨r, 0, none⟩), .int .i64 k] w fun e W => (∃ i : Nat, e = .returned (.int .i64 (i : Nat))) ∧ w = W) := (unhide HAt).mono (by
          rintro e W ⟨h1, h2⟩
          rcases h1 with ⟨h1, _⟩ | ⟨i, x, _, _, h1⟩
          · rw [hlk] at h1; cases h1
          · exact ⟨⟨i, h1⟩, h2⟩)
        clear h hT HAt hls hlk h0 hd
        go_enter Try.func25, Try.ntmps25
        go_wp2_with fail
        refine (unhide HT).mono ?_
        rintro e W1 ⟨rfl, rfl⟩
        clear HT
        go_wp2_with fail
        refine (unhide hat).mono ?_
        rintro e W1 ⟨⟨i, rfl⟩, rfl⟩
        clear hat
        have hi0 : (0 : Int) ≤ (i : Int) := by omega
        go_wp2
        go_ret
        exact unhide same _
      | none =>
        rw [if_pos rfl]
        simp only [Option.isSome_none, Bool.false_eq_true, if_false]
        have hat : Hid (Calls Try.prog 34 #[.pointer (some ⟨r, 0, none⟩), .int .i64 k] w fun e W => e = .returned (.int .i64 (-1)) ∧ w = W) := (unhide HAt).mono (by
          rintro e W ⟨h1, h2⟩
          rcases h1 with ⟨_, h1⟩ | ⟨i, x, _, h1, _⟩
          · exact ⟨h1, h2⟩
          · rw [hlk] at h1; cases h1)
        have hrst : rstL L ⟨k, ls, now + ls⟩ = L ++ [⟨k, ls, now + ls⟩] := by unfold rstL; rw [offL_none (lookL_none hlk)]
        rw [hrst]
        have hw1 : now + ls ≤ 9223372036854775807 := by omega
        have hw2 : -9223372036854775808 ≤ now + ls := by omega
        have hd0 : Kp (fun _ => False) w w.drew := (Kp.refl _ _).drew
        have h' := h.kp hd0 (fun _ e => e.elim)
        obtain ⟨v', X2, hr, o2, g2, hv2⟩ := append_t w.drew 43 0 _ _ ⟨k, ls, now + ls⟩ h'.row (Nat.zero_le _) (by omega)
        obtain ⟨va, vc, ev⟩ := owns_form o2
        subst ev
        have hpk := h.pk
        have hrl := h.bx.lt
        have k2 : Kp P w X2 := (Kp.of_below (N := P) (bdrew (Below.refl _ w) 1) |>.trans (Kp.of_below (N := P) (ballc (Below.refl _ w.drew) (tmO ⟨k, ls, now + ls⟩))) (fun i hi => .inl hi)).trans (Kp.of_grown (N := P) g2 (fun j hj => hpk j hj)) (fun i hi => .inl hi)
        have hgr : r ≠ 0 → True := fun _ => trivial
        have hrow : ∀ j, (Value.slice a L.length c).ownBlock = some j → j ≠ r := fun j hj e => by
          obtain ⟨_, (⟨e1, _⟩ | ⟨g, cap, cur, e1, _, hg, _⟩)⟩ := h.row
          · rw [e1] at hj; cases hj
          · rw [e1] at hj
            simp [Value.ownBlock] at hj
            subst hj
            subst e
            exact Bx.apart h.bx (show Bx w g 70 cur from hg) (by decide) rfl
        have b2 : Bx X2 r 45 #[.int .i64 ls, .int .i64 ms, .slice a L.length c] := (g2.block r (by simp; omega) (fun e => hrow r e.symm rfl)).trans (h'.bx.below (ballc (Below.refl _ _) _))
        have f2 := b2.frozen 2
        have c22 : X2.cell? ⟨r, 2, none⟩ = some (.slice a L.length c) := b2.cell 2 _ rfl
        have kB : Kp (fun j => j = r) X2 (X2.setCell ⟨r, 2, none⟩ (.slice va (L ++ [(⟨k, ls, now + ls⟩ : Tm)]).length vc)) := Kp.set X2 ⟨r, 2, none⟩ _ rfl
        have FIN : Hid (RL (fun i => P i ∨ w.heap.size ≤ i) (X2.setCell ⟨r, 2, none⟩ (.slice va (L ++ [(⟨k, ls, now + ls⟩ : Tm)]).length vc)) r ls ms (L ++ [⟨k, ls, now + ls⟩]) ∧ Kp P w (X2.setCell ⟨r, 2, none⟩ (.slice va (L ++ [(⟨k, ls, now + ls⟩ : Tm)]).length vc))) := by
          refine ⟨⟨_, ⟨b2.set 2 _, owns_kp o2 kB (fun j hj e => ?_), .inl h.pr, fun j hj => ?_⟩⟩, k2.trans kB (fun j hj => .inl (by rw [hj]; exact h.pr))⟩
          · subst e
            rcases hv2 with e | e
            · exact hrow j (by rw [← e]; exact hj) rfl
            · rw [hj] at e
              simp at e
              omega
          · rcases hv2 with e | e
            · exact .inl (hpk j (by rw [← e]; exact hj))
            · rw [hj] at e
              simp at e
              exact .inr (by omega)
        have c2 := h.c2
        have hll : (L ++ [(⟨k, ls, now + ls⟩ : Tm)]).length = L.length + 1 := by simp
        rw [hll] at hr FIN
        have hr' : (Builtin.append_ #[43, 43] 43 #[.slice a L.length c, .slice (some ⟨w.heap.size, 0, none⟩) 1 1]).run Try.prog (w.alloc (.cells #[.int .i64 k, .int .i64 ls, .int .i64 (now + ls)] 70)).drew = .ok (.slice va (L.length + 1) vc) X2 := hr
        replace hr' := hide hr'
        have ca2 := cell_below c2 (ballc (Below.refl _ w) (.cells #[.int .i64 k, .int .i64 ls, .int .i64 (now + ls)] 70))
        have ca0 := cell_below c0 (ballc (Below.refl _ w) (.cells #[.int .i64 k, .int .i64 ls, .int .i64 (now + ls)] 70))
        have hwr : IntKind.i64.wrap (now + ls) = now + ls := by simp only [IntKind.wrap_i64]; omega
        clear h hT HAt hls hlk h0 hd hr o2 g2 hv2 hpk hrl k2 hrow b2 kB hrst hd0 h' hgr HA hll
        go_enter Try.func25, Try.ntmps25
        go_wp2_with fail
        refine (unhide HT).mono ?_
        rintro e W1 ⟨rfl, rfl⟩
        clear HT
        go_wp2_with fail
        refine (unhide hat).mono ?_
        rintro e W1 ⟨rfl, rfl⟩
        clear hat
        go_wp2
        go_region_law (refine step_append_eq rfl (.tmp 25) (.tmp 38) 43 rfl _ _ _ (by simp [Act.eval, Act.put]) (by simp [Act.eval, Act.put]) (unhide hr') ?_)
        all_goals (
          go_wp2
          go_ret
          exact ⟨rfl, unhide FIN⟩)

set_option maxRecDepth 100000 in
set_option maxHeartbeats 2000000 in
theorem rReset_in {P : Nat → Prop} {w : World} {r : Nat} {ls ms : Int} {L : List Tm} (h : RL P w r ls ms L) (hP : ∀ i, P i → i < w.heap.size) (gl : GL ls ms L) (hl : L.length ≤ 999999) (k now : Int) : Calls Try.prog 26 #[.pointer (some ⟨r, 0, none⟩), .int .i64 k, .int .i64 now] w (RA P w r ls ms (rstS ls L k now) (.int .i64 (rstE ls now))) := by
  have HA := hide h
  have HT := hide (rtick_in now w)
  have HO := hide (rOff_in h (by omega) k)
  obtain ⟨v, h⟩ := h
  obtain ⟨a, c, rfl⟩ := h.form
  have c0 := h.c0
  have same : Hid (∀ v, RA P w r ls ms L v (.returned v) w) := fun v => ⟨rfl, (unhide HA).mono (fun _ h => .inl h), Kp.refl _ _⟩
  have hls : 0 ≤ ls := by rcases gl.rng with h | h <;> omega
  have hlo : (offL L k).length ≤ 999999 := by
    have : (offL L k).length ≤ L.length := List.length_filter_le _ _
    omega
  have hnone : lookL (offL L k) k = none := look_not (fun j y hy => (offL_mem.1 (List.mem_of_getElem? hy)).2)
  have hoff2 : rstL (offL L k) ⟨k, ls, now + ls⟩ = rstL L ⟨k, ls, now + ls⟩ := by
    unfold rstL
    rw [offL_none (fun x hx => (offL_mem.1 hx).2)]
  unfold rstS rstE mayS
  cases hT : tickB now with
  | false =>
    rw [hT] at HT
    simp only [Bool.and_false, Bool.false_eq_true, if_false]
    clear h hT HO hnone hoff2
    go_enter Try.func26, Try.ntmps26
    go_wp2_with fail
    refine (unhide HT).mono ?_
    rintro e W1 ⟨rfl, rfl⟩
    clear HT
    go_wp2
    go_ret
    exact unhide same _
  | true =>
    rw [hT] at HT
    simp only [Bool.and_true]
    by_cases h0 : ls = 0
    · subst h0
      simp only [Int.lt_irrefl, decide_false, Bool.false_eq_true, if_false]
      clear h hT HO hls hnone hoff2
      go_enter Try.func26, Try.ntmps26
      go_wp2_with fail
      refine (unhide HT).mono ?_
      rintro e W1 ⟨rfl, rfl⟩
      clear HT
      go_wp2
      go_ret
      exact unhide same _
    · have hd : decide (0 < ls) = true := decide_eq_true (by omega)
      have h0' : (ls == 0) = false := by simpa using h0
      simp only [hd, if_true]
      have hS : Hid (∀ X, RL (fun i => P i ∨ w.heap.size ≤ i) X r ls ms (offL L k) → Calls Try.prog 25 #[.pointer (some ⟨r, 0, none⟩), .int .i64 k, .int .i64 now] X (RA (fun i => P i ∨ w.heap.size ≤ i) X r ls ms (rstL L ⟨k, ls, now + ls⟩) (.int .i64 0))) := fun X hX => by
        have := rSet_in hX (gl.off k) hlo k now
        unfold setS setE mayS at this
        rw [hT, hd, hnone] at this
        simpa [hoff2] using this
      clear h hT hls hnone hoff2 h0 hd hlo gl
      go_enter Try.func26, Try.ntmps26
      go_wp2_with fail
      refine (unhide HT).mono ?_
      rintro e W1 ⟨rfl, rfl⟩
      clear HT
      go_wp2_with fail
      refine (unhide HO).mono ?_
      rintro e W1 ⟨rfl, h1, k1⟩
      have hS1 := hide (unhide hS W1 h1)
      replace h1 := hide h1
      replace k1 := hide k1
      clear hS HO
      go_wp2_with fail
      refine (unhide hS1).mono ?_
      rintro e W2 ⟨rfl, h2, k2⟩
      replace h2 := hide h2
      replace k2 := hide k2
      clear hS1
      go_wp2
      go_ret
      have hz := (unhide k1).size
      refine ⟨rfl, (unhide h2).mono (fun i hi => ?_), (unhide k1).trans (unhide k2) (fun i hi => hi)⟩
      rcases hi with hi | hi
      · exact hi
      · exact .inr (by omega)

end Go.Proofs.Ytknomhgglmgciaa
