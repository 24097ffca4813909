/-
  An Alarm: Set, Off, New.
-/
import Derived.Test.YtknomhgglmgciaaZAA3
set_option linter.unusedSimpArgs false
set_option linter.unusedVariables false
namespace Go.Proofs.Ytknomhgglmgciaa
open Go.RowKit Go.Lib

set_option maxRecDepth 100000 in
set_option maxHeartbeats 4000000 in
theorem Set_in {P : Nat → Prop} {w : World} {b n : Nat} {ls ms : Int} {L : List Tm} (h : AL P w b ls ms n L) (hP : ∀ i, P i → i < w.heap.size) (hn : n ≤ 999998) (k : Int) (hk : in64 k) (now : Int) :
    Calls Try.prog 17 #[.pointer (some ⟨b, 0, none⟩), .int .i64 k, .int .i64 now] w (CA P w b ls ms (n + 1) (setS ls L k now) (.int .i64 (setE ls L k now))) := by
  have HA := hide h
  have HRe := hide (Reset_in h hP hn k hk now)
  obtain ⟨mv, v, g, ps, t, h⟩ := h
  have HS := hide (sets_in h.bx now)
  unfold setS setE
  unfold rstS rstE at HRe
  change Hid (Calls Try.prog _ _ w fun e W => e = .returned (.bool (mayS ls now)) ∧ w = W) at HS
  cases hR : mayS ls now with
  | false =>
    rw [hR] at HS
    simp only [Bool.false_eq_true, if_false, false_and]
    clear h hR HRe
    go_enter Try.func17, Try.ntmps17
    go_wp2_with fail
    refine (unhide HS).mono ?_
    rintro e W1 ⟨rfl, rfl⟩
    clear HS
    go_wp2
    go_ret
    exact CA.same (unhide HA) (by omega) (Below.refl _ _)
  | true =>
    rw [hR] at HS HRe
    simp only [if_true, true_and] at HRe ⊢
    clear hR
    have c2 := h.bx.c2
    have hlk := h.look hk
    cases e : lookL L k with
    | some x =>
      obtain ⟨i, hi, e1, e2⟩ := h.has e
      rw [e1] at hlk
      unfold pO at hlk
      simp only [Option.isSome_some, if_true, reduceCtorEq, if_false]
      clear h hi e1 e2 e HRe hP
      generalize pg ps i = A at *
      go_enter Try.func17, Try.ntmps17
      go_wp2_with fail
      refine (unhide HS).mono ?_
      rintro e W1 ⟨rfl, rfl⟩
      clear HS
      go_wp2
      go_ret
      exact CA.same (unhide HA) (by omega) (Below.refl _ _)
    | none =>
      rw [h.hasnt.1 e] at hlk
      unfold pO at hlk
      simp only [Option.isSome_none, Bool.false_eq_true, if_true, if_false]
      clear h e hP
      go_enter Try.func17, Try.ntmps17
      go_wp2_with fail
      refine (unhide HS).mono ?_
      rintro e W1 ⟨rfl, rfl⟩
      clear HS
      go_wp2_with fail
      refine (unhide HRe).mono ?_
      rintro e W1 ⟨rfl, HQ⟩
      replace HQ := hide HQ
      clear HRe
      go_wp2
      go_ret
      exact ⟨rfl, unhide HQ⟩
theorem Set_nil (k now : Int) (w : World) : Calls Try.prog 17 #[.pointer none, .int .i64 k, .int .i64 now] w fun e W => e = .returned (.int .i64 1) ∧ w = W := by
  have HS := hide (sets_nil now w)
  go_enter Try.func17, Try.ntmps17
  go_wp2_with fail
  refine (unhide HS).mono ?_
  rintro e W1 ⟨rfl, rfl⟩
  go_wp2
  go_ret
  exact ⟨rfl, rfl⟩
theorem Reset_nil (k now : Int) (w : World) : Calls Try.prog 18 #[.pointer none, .int .i64 k, .int .i64 now] w fun e W => e = .returned (.int .i64 1) ∧ w = W := by
  have HS := hide (sets_nil now w)
  go_enter Try.func18, Try.ntmps18
  go_wp2_with fail
  refine (unhide HS).mono ?_
  rintro e W1 ⟨rfl, rfl⟩
  go_wp2
  go_ret
  exact ⟨rfl, rfl⟩
theorem Off_nil (k : Int) (w : World) : Calls Try.prog 14 #[.pointer none, .int .i64 k] w fun e W => e = .returned (.tuple #[]) ∧ w = W := by
  go_enter Try.func14, Try.ntmps14
  go_wp2
  refine bodyPost_ret (results_none rfl _ _ _) rfl ?_
  exact ⟨rfl, rfl⟩

/-- a timer less -/
theorem AS.off {P : Nat → Prop} {w W : World} {b n : Nat} {ls ms : Int} {mv v v' : Value} {g : Int → Option Nat} {m : Nat} {ps qs : List Nat} {t : Nat → Tm} {L : List Tm} (h : AS P w b ls ms mv v g n ps t L) {i : Nat} (hi : i < ps.length)
    (em : mv = .map (some m)) (hm : P m) (hmp : MP W m n (dropG g (t (pg ps i)).key)) (hb : aB W b ls ms mv v')
    (hq : QS (fun i => P i ∧ i ≠ b ∧ mv ≠ .map (some i)) W v' qs t) (hp : Hp t qs qs.length) (hlen : qs.length + 1 = ps.length) (hmem : ∀ a, a ∈ qs ↔ a ∈ ps ∧ a ≠ pg ps i) : AS P W b ls ms mv v' (dropG g (t (pg ps i)).key) n qs t (offL L (t (pg ps i)).key) := by
  refine ⟨h.pb, hb, .inl ⟨m, em, hm, hmp⟩, hq, hp, h.lst.pop h.gl.nod (pg_mem hi) hlen hmem, h.gl.off _, by have := h.ln; omega, fun k a => ?_⟩
  unfold dropG
  rw [hmem a]
  by_cases e : k = (t (pg ps i)).key
  · rw [if_pos e]
    constructor
    · intro e2; cases e2
    · rintro ⟨⟨h1, h2⟩, h3⟩
      exact absurd (h.lst.inj a h1 _ (pg_mem hi) (h3.trans e)) h2
  · rw [if_neg e, h.gm k a]
    constructor
    · rintro ⟨h1, h2⟩
      exact ⟨⟨h1, fun e2 => e (by rw [← h2, e2])⟩, h2⟩
    · rintro ⟨⟨h1, _⟩, h2⟩
      exact ⟨h1, h2⟩

set_option maxRecDepth 100000 in
set_option maxHeartbeats 4000000 in
theorem Off_in {P : Nat → Prop} {w : World} {b n : Nat} {ls ms : Int} {L : List Tm} (h : AL P w b ls ms n L) (hn : n ≤ 999999) (k : Int) (hk : in64 k) :
    Calls Try.prog 14 #[.pointer (some ⟨b, 0, none⟩), .int .i64 k] w (CA P w b ls ms n (offL L k) (.tuple #[])) := by
  have HA := hide h
  obtain ⟨mv, v, g, ps, t, h⟩ := h
  have c2 := h.bx.c2
  have hlk := h.look hk
  cases e : lookL L k with
  | none =>
    rw [h.hasnt.1 e] at hlk
    rw [offL_none (lookL_none e)]
    unfold pO at hlk
    clear h e
    go_enter Try.func14, Try.ntmps14
    go_wp2
    refine bodyPost_ret (results_none rfl _ _ _) rfl ?_
    exact CA.same (unhide HA) (Nat.le_refl _) (Below.refl _ _)
  | some x =>
    obtain ⟨i, hi, e1, e2⟩ := h.has e
    rw [e1] at hlk
    unfold pO at hlk
    have hkx : (t (pg ps i)).key = k := by rw [e2]; exact (lookL_some e).2
    obtain ⟨m, rfl, hm, hmp⟩ : ∃ m, mv = .map (some m) ∧ P m ∧ MP w m n g := by
      rcases h.mp with h | ⟨_, hg, _⟩
      · exact h
      · rw [hg] at e1; cases e1
    obtain ⟨_, _, _, c3, _⟩ := h.q.cells hi
    have hbm : b ≠ m := fun e2 => by
      subst e2
      obtain ⟨D, ⟨es, cl, hh, _⟩, _⟩ := hmp
      have h3 : w.heap[b]? = _ := h.bx
      rw [h3] at hh
      cases hh
    have hlkd : (Instr.lookup 38 (.map (some m)) (.int .i64 k) false).run Try.prog w.drew = .ok (pO (g k)) w.drew := (hmp.kp (N := fun _ => False) (Kp.refl _ _).drew (fun e => e)).look hk
    rw [e1] at hlkd
    unfold pO at hlkd
    have HRm := hide (fun (Y : World) (hY : Below w.heap.size w Y) => HRemove_in (h.q.below hY) (h.bx.kp (Kp.of_below (N := fun _ => False) hY) (fun e => e)) (by have := h.ln; omega) (fun e => e.2.1 rfl) h.hp i hi)
    have HH := hide (And.intro h (And.intro hm (And.intro hmp (And.intro hi (And.intro hkx hbm)))))
    have hpb := h.pb
    clear h hm hmp hi hkx e e1 e2 hbm hpb
    unfold hI at HRm
    go_enter Try.func14, Try.ntmps14
    go_wp2
    go_cut [28] from 15 to 28 (fun u wx => Hid (∃ Y, Below w.heap.size w Y ∧ RmA (fun i => P i ∧ i ≠ b ∧ Value.map (some m) ≠ .map (some i)) Y b ls ms (.map (some m)) ps t i (.returned u) wx))
    case first =>
      go_region_with (go_at_call 29; refine (unhide HRm _ (Below.refl _ _).drew).mono ?_; intro e W5 H5; have H6 := H5; obtain ⟨x5, rfl, _⟩ := H5; clear HRm; replace H6 := hide H6)
      all_goals (
        go_wp2
        go_meet
        exact ⟨_, (Below.refl _ _).drew, unhide H6⟩)
    case rest =>
      obtain ⟨Y, hY, x, ex, v', qs, b1, q1, p1, l1, m1, k1⟩ := unhide hcut
      clear hcut HRm c3 ex hlk
      have c2' := b1.c2
      obtain ⟨h, hm, hmp, hi, hkx, hbm⟩ := unhide HH
      have kY : Kp (fun i => (P i ∧ i ≠ b ∧ Value.map (some m) ≠ .map (some i)) ∨ i = b) w wc := (Kp.of_below (N := fun i => (P i ∧ i ≠ b ∧ Value.map (some m) ≠ .map (some i)) ∨ i = b) hY).trans k1 (fun i hi => .inl hi)
      have hmpc : MP wc m n g := hmp.kp kY (fun e => by
        rcases e with e | e
        · exact e.2.2 rfl
        · exact hbm e.symm)
      obtain ⟨Z, hr, hmp2, hgr, hzZ⟩ := hmpc.del hk 0
      have kZ : Kp (fun i => i = m) wc Z := Kp.of_grown hgr (fun i hi => by cases hi; rfl)
      have bZ := b1.kp kZ hbm
      have qZ := q1.kp kZ (fun i hi e => e.2.2 (by rw [hi]))
      have ha := h.off hi rfl hm (by rw [hkx]; exact hmp2) bZ qZ p1 l1 m1
      rw [hkx] at ha
      have kall : Kp P w Z := (kY.wk (N' := P) (fun i hi => by rcases hi with hi | rfl; exact hi.1; exact h.pb)).trans kZ (fun i hi => .inl (by rw [hi]; exact hm))
      obtain ⟨a', c', rfl⟩ := qZ.form
      have c3 := bZ.cell
      have c2z := bZ.c2
      by_cases h0 : qs.length = 0
      · rw [h0] at c3
        obtain ⟨Z2, hr2, hmp3, hgr2, hzZ2⟩ := hmp2.clear 0
        have kZ2 : Kp (fun i => i = m) Z Z2 := Kp.of_grown hgr2 (fun i hi => by cases hi; rfl)
        have bZ2 := bZ.kp kZ2 hbm
        have fz := Bx.frozen bZ2 3
        have c3b := bZ2.cell
        have kZ3 : Kp (fun i => i = b) Z2 (Z2.setCell ⟨b, 3, none⟩ (.slice none 0 0)) := Kp.set Z2 ⟨b, 3, none⟩ _ rfl
        have hL0 : offL L k = [] := List.eq_nil_of_length_eq_zero (by rw [← ha.lst.len]; exact h0)
        have hq0 : qs = [] := List.eq_nil_of_length_eq_zero h0
        have fin : AS P (Z2.setCell ⟨b, 3, none⟩ (.slice none 0 0)) b ls ms (.map (some m)) (.slice none 0 0) (fun _ => none) n [] t (offL L k) := by
          refine ⟨h.pb, Bx.set bZ2 3 _, .inl ⟨m, rfl, hm, hmp3.kp kZ3 (fun e => hbm e.symm)⟩, ⟨World.ownsRow_nil _ _ _ _, fun k hk => (by cases hk), fun i hi => absurd hi (by simp)⟩, fun c h0 hc => absurd hc (by simp), ?_, ha.gl, Nat.zero_le _, fun k a => by simp⟩
          rw [hL0]
          exact ⟨rfl, fun a ha => (by cases ha), fun x hx => (by cases hx), fun a ha => (by cases ha)⟩
        have kfin : Kp P w (Z2.setCell ⟨b, 3, none⟩ (.slice none 0 0)) := (kall.trans kZ2 (fun i hi => .inl (by rw [hi]; exact hm))).trans kZ3 (fun i hi => .inl (by rw [hi]; exact h.pb))
        have FIN := hide (And.intro fin kfin)
        replace hr := hide hr
        clear h hm hmp hi hkx hbm kY hmpc hmp2 hgr hzZ kZ bZ qZ ha kall hmp3 hgr2 hzZ2 kZ2 bZ2 kZ3 hL0 hq0 fin kfin b1 q1 p1 l1 m1 k1 hY h0 HA HH
        go_wp2_with (at_delete; refine wpList_delete_eq rfl _ _ _ _ rfl _ _ _ _ rfl rfl (unhide hr) ?_)
        refine bodyPost_end (results_none rfl _ _ _) rfl ?_
        obtain ⟨fin, kfin⟩ := unhide FIN
        exact ⟨rfl, AL.mono ⟨_, _, _, _, _, fin⟩ (fun i hi => .inl hi), kfin⟩
      · have FIN := hide (And.intro ha kall)
        have h0' : ((qs.length : Int) == 0) = false := by rw [beq_eq_false_iff_ne]; omega
        replace hr := hide hr
        clear h hm hmp hi hkx hbm kY hmpc hmp2 hgr hzZ kZ bZ qZ ha kall b1 q1 p1 l1 m1 k1 hY h0 HA HH
        go_wp2_with (at_delete; refine wpList_delete_eq rfl _ _ _ _ rfl _ _ _ _ rfl rfl (unhide hr) ?_)
        refine bodyPost_end (results_none rfl _ _ _) rfl ?_
        obtain ⟨fin, kfin⟩ := unhide FIN
        exact ⟨rfl, AL.mono ⟨_, _, _, _, _, fin⟩ (fun i hi => .inl hi), kfin⟩

/-- are these a least and a most? -/
def newB (ls ms : Int) : Bool := decide (1 ≤ ls ∧ ls ≤ ms ∧ ms ≤ 4096)
theorem GL.nil {ls ms : Int} (h : newB ls ms = true) : GL ls ms [] := by
  unfold newB at h
  simp at h
  exact ⟨.inl h, List.nodup_nil, fun x hx => (by cases hx), fun x hx => (by cases hx), fun x hx => (by cases hx)⟩
/-- what New answers -/
def NewA (P : Nat → Prop) (w : World) (ls ms : Int) (e : Ending) (W : World) : Prop := Below w.heap.size w W ∧ ((newB ls ms = true ∧ e = .returned (.tuple #[.pointer (some ⟨w.heap.size + 1, 0, none⟩), .int .i64 0]) ∧ AL P W (w.heap.size + 1) ls ms 0 []) ∨ (newB ls ms = false ∧ e = .returned (.tuple #[.pointer none, .int .i64 1])))
set_option maxRecDepth 100000 in
set_option maxHeartbeats 4000000 in
theorem New_in (ls ms : Int) (w : World) : Calls Try.prog 9 #[.int .i64 ls, .int .i64 ms] w (NewA (fun i => w.heap.size ≤ i) w ls ms) := by
  by_cases h1 : 1 ≤ ls
  · by_cases h2 : ls ≤ ms
    · by_cases h3 : ms ≤ 4096
      · have h1' : ¬ ls < 1 := by omega
        have h2' : ¬ ms < ls := by omega
        have h3' : ¬ 4096 < ms := by omega
        have hB : newB ls ms = true := by unfold newB; simp [h1, h2, h3]
        have HB := hide hB
        clear h1 h2 h3 hB
        have hmm := @run_makeMap Try.prog
        go_enter Try.func9, Try.ntmps9
        go_wp2
        refine bodyPost_ret (results_tmp2 rfl _ _ _) rfl ?_
        refine ⟨ballc (ballc (Below.refl _ _) _) _, .inl ⟨unhide HB, by simp, .map (some w.heap.size), .slice none 0 0, fun _ => none, [], fun _ => ⟨0, 0, 0⟩, ?_⟩⟩
        have mm := (MP.made w).kp (N := fun _ => False) (Kp.of_below (ballc (Below.refl _ _) (.cells #[.int .i64 ls, .int .i64 ms, .map (some w.heap.size), .slice none 0 0] 42))) (fun e => e)
        have bb := Bx.new (w.alloc (.map #[] 0)) 42 #[.int .i64 ls, .int .i64 ms, .map (some w.heap.size), .slice none 0 0]
        refine ⟨Nat.le_succ _, ?_, .inl ⟨w.heap.size, rfl, Nat.le_refl _, mm⟩, ⟨World.ownsRow_nil _ _ _ _, fun k hk => (by cases hk), fun i hi => absurd hi (by simp)⟩, fun c h0 hc => absurd hc (by simp), ⟨rfl, fun a ha => (by cases ha), fun x hx => (by cases hx), fun a ha => (by cases ha)⟩, GL.nil (unhide HB), Nat.zero_le _, fun k a => by simp⟩
        unfold aB
        simpa using bb
      · have h1' : ¬ ls < 1 := by omega
        have h2' : ¬ ms < ls := by omega
        have h3' : 4096 < ms := by omega
        have hB : newB ls ms = false := by unfold newB; simp [h1, h2, h3]
        have HB := hide hB
        clear h1 h2 h3 hB
        go_enter Try.func9, Try.ntmps9
        go_wp2
        refine bodyPost_ret (results_tmp2 rfl _ _ _) rfl ?_
        exact ⟨Below.refl _ _, .inr ⟨unhide HB, rfl⟩⟩
    · have h1' : ¬ ls < 1 := by omega
      have h2' : ms < ls := by omega
      have hB : newB ls ms = false := by unfold newB; simp [h1, h2]
      have HB := hide hB
      clear h1 h2 hB
      go_enter Try.func9, Try.ntmps9
      go_wp2
      refine bodyPost_ret (results_tmp2 rfl _ _ _) rfl ?_
      exact ⟨Below.refl _ _, .inr ⟨unhide HB, rfl⟩⟩
  · have h1' : ls < 1 := by omega
    have hB : newB ls ms = false := by unfold newB; simp [h1]
    have HB := hide hB
    clear h1 hB
    go_enter Try.func9, Try.ntmps9
    go_wp2
    refine bodyPost_ret (results_tmp2 rfl _ _ _) rfl ?_
    exact ⟨Below.refl _ _, .inr ⟨unhide HB, rfl⟩⟩

end Go.Proofs.Ytknomhgglmgciaa
