/-
  An Alarm: Due.
-/
import Derived.Test.YtknomhgglmgciaaZAA4
set_option linter.unusedSimpArgs false
set_option linter.unusedVariables false
namespace Go.Proofs.Ytknomhgglmgciaa
open Go.RowKit Go.Lib

/-- what Due answers, and leaves -/
def duA (ms now : Int) (L : List Tm) : List Int × List Tm := if tickB now = true then dueL ms now L.length L else ([], L)
/-- how far a loop of Due is -/
def DuI (ms now : Int) (L : List Tm) (ks : List Int) (M : List Tm) : Prop := ∃ f, cntL now M ≤ f ∧ dueL ms now L.length L = (ks ++ (dueL ms now f M).1, (dueL ms now f M).2)
theorem DuI.start (ms now : Int) (L : List Tm) : DuI ms now L [] L := ⟨L.length, cntL_le _ _, by simp⟩
theorem cnt_pos {now : Int} {L : List Tm} {x : Tm} (hx : x ∈ L) (hd : x.due ≤ now) : 0 < cntL now L := by
  unfold cntL
  exact List.length_pos_of_mem (List.mem_filter.2 ⟨hx, by simpa using hd⟩)
theorem DuI.more {ls ms now : Int} {L M : List Tm} {ks : List Int} (h : DuI ms now L ks M) (gl : GL ls ms M) {x : Tm} (hm : minL M = some x) (hd : x.due ≤ now) : DuI ms now L (ks ++ [x.key]) (updL M (again ms now x)) := by
  obtain ⟨f, hf, e⟩ := h
  have hx := (minL_some hm).1
  have hp := cnt_pos hx hd
  have hc := cntL_upd gl.nod hx hd (y := again ms now x) rfl (again_due gl hx now)
  obtain ⟨f, rfl⟩ : ∃ f', f = f' + 1 := ⟨f - 1, by omega⟩
  refine ⟨f, by omega, ?_⟩
  rw [e, dueL_more hm hd]
  simp
theorem DuI.fin {ms now : Int} {L M : List Tm} {ks : List Int} (h : DuI ms now L ks M) (hend : ∀ x, minL M = some x → now < x.due) : dueL ms now L.length L = (ks, M) := by
  obtain ⟨f, hf, e⟩ := h
  rw [e, dueL_end hend]
  simp
/-- what a call of Due answers -/
def DuR (P : Nat → Prop) (w : World) (b : Nat) (ls ms : Int) (n : Nat) (R : List Int × List Tm) (e : Ending) (W : World) : Prop := ∃ v, e = .returned v ∧ OwN W w.heap.size v R.1 ∧ AL P W b ls ms n R.2 ∧ Kp P w W
/-- within the loop -/
structure DuJ (P : Nat → Prop) (w : World) (b : Nat) (ls ms : Int) (n : Nat) (now : Int) (L : List Tm) (u : Value) (wr : World) (ks : List Int) (M : List Tm) : Prop where
  own : OwN wr w.heap.size u ks
  al : AL P wr b ls ms n M
  i : DuI ms now L ks M
  len : M.length = L.length
  sh : ks.length + cntL now M ≤ L.length
  kp : Kp P w wr
def slN : Value → Nat
  | .slice _ n _ => n
  | _ => 0
theorem own_kp {N : Nat → Prop} {W W' : World} {B : Nat} {u : Value} {ks : List Int} (h : OwN W B u ks) (k : Kp N W W') (hn : ∀ i, B ≤ i → ¬ N i) : OwN W' B u ks := owns_kp h k (fun i hi => hn i (World.ownsRow.lt h i hi).1)
set_option maxRecDepth 100000 in
set_option maxHeartbeats 4000000 in
theorem Due_in {P : Nat → Prop} {w : World} {b n : Nat} {ls ms : Int} {L : List Tm} (h : AL P w b ls ms n L) (hP : ∀ i, P i → i < w.heap.size) (hn : n ≤ 999998) (now : Int) :
    Calls Try.prog 19 #[.pointer (some ⟨b, 0, none⟩), .int .i64 now] w (DuR P w b ls ms n (duA ms now L)) := by
  have HA := hide h
  have HT := hide (tick_in now w)
  unfold duA
  cases hT : tickB now with
  | false =>
    rw [hT] at HT
    simp only [Bool.false_eq_true, if_false]
    clear h hP hT
    go_enter Try.func19, Try.ntmps19
    go_wp2_with fail
    refine (unhide HT).mono ?_
    rintro e W1 ⟨rfl, rfl⟩
    clear HT
    go_wp2
    go_ret
    exact ⟨_, rfl, World.ownsRow_nil _ _ _ _, unhide HA, Kp.refl _ _⟩
  | true =>
    rw [hT] at HT
    simp only [if_true]
    have hnow : 0 ≤ now ∧ now ≤ 2147483647 := by unfold tickB at hT; simpa using hT
    have hlen := h.ln
    have H0 : Hid (DuJ P w b ls ms n now L (.slice none 0 0) w [] L) := ⟨World.ownsRow_nil _ _ _ _, h, DuI.start _ _ _, rfl, by have := cntL_le now L; simp; omega, Kp.refl _ _⟩
    clear h hT HA
    go_enter Try.func19, Try.ntmps19
    go_wp2_with fail
    refine (unhide HT).mono ?_
    rintro e W1 ⟨rfl, rfl⟩
    clear HT
    go_wp2
    go_loopw [5] (fun u wr => ∃ ks M, Hid (DuJ P w b ls ms n now L u wr ks M)) (fun u wr => L.length + 1 - slN u)
    case atStart => exact ⟨[], L, H0⟩
    case round =>
      clear H0
      obtain ⟨ks, M, HJ⟩ := hrel
      have J := unhide HJ
      obtain ⟨ua, uc, rfl⟩ := J.own.form
      obtain ⟨mv, v, g, ps, t, ha⟩ := J.al
      obtain ⟨a, c, rfl⟩ := ha.q.form
      have c3 := ha.bx.cell
      by_cases h0 : ps.length = 0
      · have hM : M = [] := List.eq_nil_of_length_eq_zero (by rw [← ha.lst.len]; exact h0)
        rw [h0] at c3
        have hf := hide (J.i.fin (fun x hx => by rw [hM] at hx; cases hx))
        clear J ha h0
        go_wp2
        go_ret
        have J := unhide HJ
        rw [unhide hf]
        exact ⟨_, rfl, J.own, J.al, J.kp⟩
      · have hmin := ha.lst.min ha.gl.nod ha.hp (by omega)
        obtain ⟨_, gg, rfl, q0, _⟩ := ha.q.at (i := 0) (by omega)
        obtain ⟨t0, t1, t2, _⟩ := ha.q.cells (i := 0) (by omega)
        unfold ptrV at q0
        have h0' : (0 : Int) < (ps.length : Int) := by omega
        by_cases hd : (t (pg ps 0)).due ≤ now
        · have hx := (minL_some hmin).1
          have hgap := again_ok ha.gl hx
          have hgb := ha.gl.gap _ hx
          have hkl := J.sh
          have hpos := cnt_pos hx hd
          have hc1 := ha.bx.c1
          -- the key behind the others
          obtain ⟨v', X1, hr, o1, g1, hv1⟩ := append_n wr 52 w.heap.size _ ks (t (pg ps 0)).key J.own J.kp.size (by omega)
          have nP : ∀ i, w.heap.size ≤ i → ¬ (P i ∧ i ≠ b ∧ mv ≠ .map (some i)) := fun i hi e => by have := hP i e.1; omega
          have kal : Kp (fun i => w.heap.size ≤ i) wr (wr.alloc (.cells #[.int .i64 (t (pg ps 0)).key] 3)) := Kp.of_below (ballc (Below.refl _ _) _)
          have k1 : Kp (fun i => w.heap.size ≤ i) wr X1 := kal.trans (Kp.of_grown (N := fun i => w.heap.size ≤ i) g1 (fun i hi => (World.ownsRow.lt J.own i hi).1)) (fun i hi => .inl hi)
          have ha1 := ha.kp k1 (fun i hi e => by have := hP i e; omega)
          have hgap0 : min (2 * (t (pg ps 0)).gap) ms = min (2 * (t (pg ps 0)).gap) ms := rfl
          have hRun := fun (Y : World) (hY : Below X1.heap.size X1 Y) => run_in (ha1.q.below hY) (ha1.bx.kp (Kp.of_below (N := fun _ => False) hY) (fun e => e)) (fun e => e.2.1 rfl) (by have := ha.ln; omega) ha1.hp 0 (by omega) (min (2 * (t (pg ps 0)).gap) ms) now (by omega) hnow
          have HR := hide hRun
          obtain ⟨d0, d1, d2, _⟩ := ha1.q.cells (i := 0) (by omega)
          have hc1' := ha1.bx.c1
          have hc3' := ha1.bx.cell
          have HH := hide (And.intro ha1 (And.intro hmin (And.intro hx (And.intro o1 (And.intro k1 hpos)))))
          obtain ⟨Mn, hMn⟩ : ∃ Mn, min (2 * (t (pg ps 0)).gap) ms = Mn := ⟨_, rfl⟩
          have hif : (if ms < 2 * (t (pg ps 0)).gap then ms else 2 * (t (pg ps 0)).gap) = Mn := by rw [← hMn]; split <;> omega
          rw [hMn] at HR
          have HMn := hide hMn
          have hGb : -9223372036854775808 ≤ 2 * (t (pg ps 0)).gap ∧ 2 * (t (pg ps 0)).gap ≤ 9223372036854775807 := by omega
          obtain ⟨hGb1, hGb2⟩ := hGb
          obtain ⟨va, vc, ev⟩ := OwN.form o1
          rw [ev] at hr
          have Hev := hide ev
          have Hd := hide hd
          replace hr := hide hr
          clear J ha hmin hx hgap hgb hkl hpos o1 g1 hv1 nP kal k1 ha1 hgap0 hRun hMn ev
          obtain ⟨T0, hT0⟩ : ∃ T0, t (pg ps 0) = T0 := ⟨_, rfl⟩
          have HT0 := hide hT0
          rw [hT0] at t0 t1 t2 d0 d1 d2 hr hd HR hif hGb1 hGb2
          clear hT0
          have hwr : IntKind.i64.wrap (2 * T0.gap) = 2 * T0.gap := by simp only [IntKind.wrap_i64]; omega
          rw [← hwr] at hif
          clear hwr
          obtain ⟨A, hA⟩ : ∃ A, pg ps 0 = A := ⟨_, rfl⟩
          have HAA := hide hA
          rw [hA] at t0 t1 t2 d0 d1 d2 q0 HR
          clear hA
          go_wp2_with (at_builtin; refine wpList_append_eq rfl _ _ _ _ rfl _ _ _ _ rfl rfl (unhide hr) ?_)
          go_region_with (go_at_call 31; refine (unhide HR _ (Below.refl _ _).drew).mono ?_; intro e W5 H5; obtain ⟨rfl, H6⟩ := H5; clear HR; replace H6 := hide H6)
          all_goals (
            go_wp2
            go_roundw
            case rel =>
              obtain ⟨qs, q1, q2, q3, q4, q5⟩ := unhide H6
              obtain ⟨ha1, hmin, hx, o1, k1, hpos⟩ := unhide HH
              have J := unhide HJ
              have hT0 := unhide HT0
              have hA := unhide HAA
              have hMn := unhide HMn
              have hd := unhide Hd
              subst hA
              have hag : again ms now T0 = ⟨T0.key, Mn, now + Mn⟩ := by unfold again; rw [← hT0, hMn]
              rw [hT0] at hmin hx hd hMn
              have hgl := J.al.gl
              rw [hT0] at o1
              have hlen2 : (updL M (again ms now T0)).length = M.length := updL_len _ _
              have ha2 := ha1.kp (N := fun _ => False) (Kp.refl _ X1).drew (fun _ e => e.elim)
              have a3 := ha2.upd (i := 0) (by omega) (again ms now T0) (by rw [hT0]; rfl) (hgl.again hx hnow) hlen2 (fun x => updL_iff (y := again ms now T0) ⟨T0, hx, rfl⟩ x) (by rw [hag]; exact q1) (by rw [hag]; exact q2) q3 q4 q5
              have kX : Kp P w X1 := J.kp.trans k1 (fun i hi => .inr hi)
              refine ⟨ks ++ [T0.key], updL M (again ms now T0), hide ⟨?_, ⟨_, _, _, _, _, a3⟩, J.i.more hgl hmin hd, by rw [hlen2]; exact J.len, ?_, kX.drew.trans q5 (fun i hi => .inl hi.1)⟩⟩
              · have hev := unhide Hev
                rw [← hT0] at o1
                rw [hev] at o1
                have := own_kp o1 ((Kp.refl (fun i => P i ∧ i ≠ b ∧ mv ≠ .map (some i)) X1).drew.trans q5 (fun i hi => .inl hi)) (fun i hi e => by have := hP i e.1; omega)
                rw [hT0] at this
                simpa using this
              · have hc := cntL_upd hgl.nod hx hd (y := again ms now T0) rfl (again_due hgl hx now)
                have := J.sh
                rw [List.length_append]
                simp only [List.length_cons, List.length_nil]
                omega
            case measure =>
              have J := unhide HJ
              have hpos := (unhide HH).2.2.2.2.2
              have := J.sh
              show L.length + 1 - (ks.length + 1) < L.length + 1 - ks.length
              omega)
        · have hd' : ¬ (t (pg ps 0)).due ≤ now := hd
          have hf := hide (J.i.fin (fun x hx => by rw [hmin] at hx; cases hx; omega))
          clear J ha hmin hd
          generalize t (pg ps 0) = x at *
          generalize pg ps 0 = A at *
          go_wp2
          go_ret
          have J := unhide HJ
          rw [unhide hf]
          exact ⟨_, rfl, J.own, J.al, J.kp⟩

end Go.Proofs.Ytknomhgglmgciaa
