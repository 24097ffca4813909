/-
  An Alarm: Reset, Set.
-/
import Derived.Test.YtknomhgglmgciaaZAA2
import Derived.Deep.CutRange
set_option linter.unusedSimpArgs false
set_option linter.unusedVariables false
namespace Go.Proofs.Ytknomhgglmgciaa
open Go.RowKit Go.Lib

/-- may a timer be set now? -/
def mayS (ls now : Int) : Bool := decide (0 < ls) && tickB now
theorem mayS_iff {ls now : Int} : mayS ls now = true ↔ 0 < ls ∧ 0 ≤ now ∧ now ≤ 2147483647 := by
  unfold mayS tickB
  simp
def rstE (ls now : Int) : Int := if mayS ls now = true then 0 else 1
def rstS (ls : Int) (L : List Tm) (k now : Int) : List Tm := if mayS ls now = true then rstL L ⟨k, ls, now + ls⟩ else L
def setE (ls : Int) (L : List Tm) (k now : Int) : Int := if mayS ls now = true then (if (lookL L k).isSome = true then 12 else 0) else 1
def setS (ls : Int) (L : List Tm) (k now : Int) : List Tm := if mayS ls now = true ∧ lookL L k = none then rstL L ⟨k, ls, now + ls⟩ else L
/-- a call that may change an Alarm -/
def CA (P : Nat → Prop) (w : World) (b : Nat) (ls ms : Int) (n : Nat) (L : List Tm) (v : Value) (e : Ending) (W : World) : Prop := e = .returned v ∧ AL (fun i => P i ∨ w.heap.size ≤ i) W b ls ms n L ∧ Kp P w W
theorem AL.more {P : Nat → Prop} {W : World} {b n n' : Nat} {ls ms : Int} {L : List Tm} (h : AL P W b ls ms n L) (hn : n ≤ n') : AL P W b ls ms n' L := by
  obtain ⟨mv, v, g, ps, t, h⟩ := h
  refine ⟨mv, v, g, ps, t, ⟨h.pb, h.bx, ?_, h.q, h.hp, h.lst, h.gl, Nat.le_trans h.ln hn, h.gm⟩⟩
  rcases h.mp with ⟨m, e, hm, hmp⟩ | e
  · exact .inl ⟨m, e, hm, hmp.mono hn⟩
  · exact .inr e
theorem CA.same {P : Nat → Prop} {w W : World} {b n n' : Nat} {ls ms : Int} {L : List Tm} {v : Value} (h : AL P w b ls ms n L) (hn : n ≤ n') (hb : Below w.heap.size w W) : CA P w b ls ms n' L v (.returned v) W := ⟨rfl, ((h.below hb).mono (fun _ h => .inl h)).more hn, Kp.of_below hb⟩
/-- a timer that is there is another -/
theorem AS.upd {P : Nat → Prop} {w W : World} {b n : Nat} {ls ms : Int} {mv v : Value} {g : Int → Option Nat} {ps qs : List Nat} {t : Nat → Tm} {L L' : List Tm} (h : AS P w b ls ms mv v g n ps t L) {i : Nat} (hi : i < ps.length) (y : Tm) (hy : y.key = (t (pg ps i)).key) (gl : GL ls ms L') (hl : L'.length = L.length) (hm : ∀ x, x ∈ L' ↔ x = y ∨ (x ∈ L ∧ x.key ≠ y.key))
    (hq : QS (fun i => P i ∧ i ≠ b ∧ mv ≠ .map (some i)) W v qs (setT t (pg ps i) y)) (hp : Hp (setT t (pg ps i) y) qs qs.length) (hlen : qs.length = ps.length) (hmem : ∀ a, a ∈ qs ↔ a ∈ ps) (kk : Kp (fun i => P i ∧ i ≠ b ∧ mv ≠ .map (some i)) w W) : AS P W b ls ms mv v g n qs (setT t (pg ps i) y) L' := by
  have hkey : ∀ a, (setT t (pg ps i) y a).key = (t a).key := fun a => by
    by_cases e : a = pg ps i
    · rw [e, setT_at, hy]
    · rw [setT_ne e]
  refine ⟨h.pb, h.bx.kp kk (fun e => e.2.1 rfl), ?_, hq, hp, ?_, gl, by rw [hlen]; exact h.ln, fun k a => ?_⟩
  · rcases h.mp with ⟨m, e, hm, hmp⟩ | e
    · exact .inl ⟨m, e, hm, hmp.kp kk (fun e2 => e2.2.2 e)⟩
    · exact .inr e
  · have := h.lst.upd (t' := setT t (pg ps i) y) (c := pg ps i) (L' := L') (pg_mem hi) (fun a _ hne => setT_ne hne) (hkey _) hl (fun x => by rw [hm x, setT_at, hy])
    exact this.mem hlen hmem
  · rw [h.gm k a, hmem a, hkey]
/-- a timer more -/
theorem AS.new {P P' : Nat → Prop} {w W : World} {b n c : Nat} {ls ms : Int} {mv v v' : Value} {g : Int → Option Nat} {m : Nat} {ps qs : List Nat} {t : Nat → Tm} {L : List Tm} (h : AS P w b ls ms mv v g n ps t L) (y : Tm) (hc : ∀ a ∈ ps, a ≠ c) (hno : ∀ x ∈ L, x.key ≠ y.key) (gl : GL ls ms (rstL L y)) (hP : ∀ i, P i → P' i)
    (em : mv = .map (some m)) (hm : P m) (hmp : MP W m (n + 1) (putG g y.key c)) (hb : aB W b ls ms mv v')
    (hq : QS (fun i => P' i ∧ i ≠ b ∧ mv ≠ .map (some i)) W v' qs (setT t c y)) (hp : Hp (setT t c y) qs qs.length) (hlen : qs.length = ps.length + 1) (hmem : ∀ a, a ∈ qs ↔ a ∈ ps ∨ a = c) : AS P' W b ls ms mv v' (putG g y.key c) (n + 1) qs (setT t c y) (rstL L y) := by
  refine ⟨hP _ h.pb, hb, .inl ⟨m, em, hP _ hm, hmp⟩, hq, hp, ?_, gl, by have := h.ln; omega, fun k a => ?_⟩
  · unfold rstL
    rw [offL_none hno]
    have := h.lst.push (t' := setT t c y) (c := c) hlen hmem (fun a ha => setT_ne (hc a ha)) (by rw [setT_at]; exact hno)
    rwa [setT_at] at this
  · unfold putG
    rw [hmem a]
    by_cases e : k = y.key
    · rw [if_pos e]
      constructor
      · intro e2
        cases e2
        exact ⟨.inr rfl, by rw [setT_at, e]⟩
      · rintro ⟨h1 | h1, h2⟩
        · rw [setT_ne (hc a h1), e] at h2
          exact absurd h2 (hno _ (h.lst.inl a h1))
        · rw [h1]
    · rw [if_neg e, h.gm k a]
      constructor
      · rintro ⟨h1, h2⟩
        exact ⟨.inl h1, by rw [setT_ne (hc a h1)]; exact h2⟩
      · rintro ⟨h1 | h1, h2⟩
        · rw [setT_ne (hc a h1)] at h2
          exact ⟨h1, h2⟩
        · rw [h1, setT_at] at h2
          exact absurd h2.symm e
theorem neq_p (w : World) (a : Option Addr) : (binOp .neq 60 (.pointer a) (.pointer none)).run Try.prog w = .ok (.bool a.isSome) w := by
  cases a <;> rfl

set_option maxRecDepth 100000 in
set_option maxHeartbeats 4000000 in
theorem Reset_in {P : Nat → Prop} {w : World} {b n : Nat} {ls ms : Int} {L : List Tm} (h : AL P w b ls ms n L) (hP : ∀ i, P i → i < w.heap.size) (hn : n ≤ 999998) (k : Int) (hk : in64 k) (now : Int) :
    Calls Try.prog 18 #[.pointer (some ⟨b, 0, none⟩), .int .i64 k, .int .i64 now] w (CA P w b ls ms (n + 1) (rstS ls L k now) (.int .i64 (rstE ls now))) := by
  have HA := hide h
  obtain ⟨mv, v, g, ps, t, h⟩ := h
  have HS := hide (sets_in h.bx now)
  unfold rstS rstE
  change Hid (Calls Try.prog _ _ w fun e W => e = .returned (.bool (mayS ls now)) ∧ w = W) at HS
  cases hR : mayS ls now with
  | false =>
    rw [hR] at HS
    simp only [Bool.false_eq_true, if_false]
    clear h hR
    go_enter Try.func18, Try.ntmps18
    go_wp2_with fail
    refine (unhide HS).mono ?_
    rintro e W1 ⟨rfl, rfl⟩
    clear HS
    go_wp2
    go_ret
    exact CA.same (unhide HA) (by omega) (Below.refl _ _)
  | true =>
    rw [hR] at HS
    simp only [if_true]
    obtain ⟨hls, hn0, hn1⟩ := mayS_iff.1 hR
    clear hR
    have hr : 1 ≤ ls ∧ ls ≤ ms ∧ ms ≤ 4096 := by
      rcases h.gl.rng with h | ⟨h1, _⟩
      · exact h
      · omega
    have hGL := h.gl.rst (by omega) (k := k) (now := now) hk ⟨hn0, hn1⟩
    have c0 := h.bx.c0
    have c2 := h.bx.c2
    have hlk := h.look hk
    cases e : lookL L k with
    | some x =>
      obtain ⟨i, hi, e1, e2⟩ := h.has e
      rw [e1] at hlk
      unfold pO at hlk
      have hkx : x.key = k := (lookL_some e).2
      have hx0 : x ∈ L := (lookL_some e).1
      have HR := hide (run_in h.q h.bx (fun e => e.2.1 rfl) (by have := h.ln; omega) h.hp i hi ls now (by omega) ⟨hn0, hn1⟩)
      rw [e2, hkx] at HR
      have HH := hide (And.intro h (And.intro hGL (And.intro hi (And.intro e2 (And.intro hkx hx0)))))
      clear h hGL hi e1 e2 hkx hx0 e
      have HP := hide (And.intro hls (And.intro hr hn))
      generalize hAg : pg ps i = A at *
      have HAg := hide hAg
      clear hAg hls hr hn hn0 hn1 hP
      go_enter Try.func18, Try.ntmps18
      go_wp2_with fail
      refine (unhide HS).mono ?_
      rintro e W1 ⟨rfl, rfl⟩
      clear HS
      go_wp2_with fail
      refine (unhide HR).mono ?_
      intro e W2 hA2
      obtain ⟨rfl, HQ⟩ := hA2
      replace HQ := hide HQ
      clear HR
      go_wp2
      go_ret
      obtain ⟨qs, q1, q2, q3, q4, q5⟩ := unhide HQ
      obtain ⟨h, hGL, hi, e2, hkx, hx0⟩ := unhide HH
      have hAg := unhide HAg
      subst hAg
      have hlen : (rstL L ⟨k, ls, now + ls⟩).length = L.length := by
        unfold rstL
        rw [List.length_append]
        have := offL_len h.gl.nod hx0 hkx
        simp only [List.length_cons, List.length_nil]
        omega
      have ha := h.upd hi ⟨k, ls, now + ls⟩ (by rw [e2]; exact hkx.symm) hGL hlen (fun x => rstL_iff x) q1 q2 q3 q4 q5
      exact ⟨rfl, (AL.mono ⟨_, _, _, _, _, ha⟩ (fun i hi => .inl hi)).more (Nat.le_succ _), q5.wk (fun i hi => hi.1)⟩
    | none =>
      rw [h.hasnt.1 e] at hlk
      unfold pO at hlk
      obtain ⟨m, rfl, hm, hmp⟩ : ∃ m, mv = .map (some m) ∧ P m ∧ MP w m n g := by
        rcases h.mp with h | ⟨_, _, h⟩
        · exact h
        · omega
      have hw' : now + ls ≤ 9223372036854775807 := by omega
      have hw'' : -9223372036854775808 ≤ now + ls := by omega
      have hno := lookL_none e
      obtain ⟨X0, hX0⟩ : ∃ X0, w.alloc (.cells #[.int .i64 k, .int .i64 ls, .int .i64 (now + ls), .int .i64 0] 64) = X0 := ⟨_, rfl⟩
      obtain ⟨X, hX⟩ : ∃ X, X0.drew = X := ⟨_, rfl⟩
      have hb0 : Below w.heap.size w X := by rw [← hX, ← hX0]; exact (ballc (Below.refl _ _) _).drew
      have hc0 : Bx X w.heap.size 64 (tmV ⟨k, ls, now + ls⟩ 0) := by rw [← hX, ← hX0]; exact Bx.new w _ _
      have hz0 : X.heap.size = w.heap.size + 1 := by rw [← hX, ← hX0]; simp
      have kX : Kp (fun _ => False) w X := Kp.of_below hb0
      have h1 := h.kp kX (fun _ e => e.elim)
      obtain ⟨Y, hr, hmp2, hgr, hzY⟩ := (hmp.kp kX (fun e => e)).put hk w.heap.size (by unfold maxLen; omega)
      have kY : Kp (fun i => i = m) X Y := Kp.of_grown hgr (fun i hi => by cases hi; rfl)
      have hbm : b ≠ m := fun e2 => by
        subst e2
        obtain ⟨D, ⟨es, cl, hh, _⟩, _⟩ := hmp
        have h3 : w.heap[b]? = _ := h.bx
        rw [h3] at hh
        cases hh
      have hcm : w.heap.size ≠ m := fun e2 => by have := hP m hm; omega
      have bY := h1.bx.kp kY hbm
      have hcY := hc0.kp kY hcm
      have qY : QS (fun i => P i ∧ i ≠ b ∧ Value.map (some m) ≠ .map (some i)) Y v ps t := h1.q.kp kY (fun i hi e2 => e2.2.2 (by rw [hi]))
      have hnotin : ∀ a ∈ ps, a ≠ w.heap.size := fun a ha e2 => by
        obtain ⟨i, hi, rfl⟩ := mem_pg ha
        have := hP _ (h.q.tm i hi).2.1
        omega
      have qY' : QS (fun i => P i ∧ i ≠ b ∧ Value.map (some m) ≠ .map (some i)) Y v ps (setT t w.heap.size ⟨k, ls, now + ls⟩) := ⟨qY.row, qY.pk, fun i hi => by rw [setT_ne (hnotin _ (pg_mem hi))]; exact qY.tm i hi⟩
      have hHp : Hp (setT t w.heap.size ⟨k, ls, now + ls⟩) ps ps.length := h.hp.eq (fun c hc => by rw [setT_ne (hnotin _ (pg_mem hc))])
      have hbl := Bx.lt h.bx
      have hml := hP m hm
      have HPu := hide (HPush_in (P' := fun i => (P i ∨ w.heap.size ≤ i) ∧ i ≠ b ∧ Value.map (some m) ≠ .map (some i)) qY' bY (by have := h.ln; omega) w.heap.size 0 (by rw [setT_at]; exact hcY) (fun i hi => hnotin _ (pg_mem hi)) (fun i hi => ⟨.inl hi.1, hi.2⟩) ⟨.inr (Nat.le_refl _), by omega, by simp; omega⟩ (fun i hi => ⟨.inr (by omega), by omega, by simp; omega⟩) (fun e => e.2.1 rfl) hHp)
      have cX2 := h1.bx.c2
      have HH := hide (And.intro h (And.intro hGL (And.intro hm (And.intro hmp2 (And.intro hno (And.intro kX (And.intro kY hnotin)))))))
      have HP := hide (And.intro hbm (And.intro hbl (And.intro hn hP)))
      unfold hI ptrV at HPu
      clear h hGL hm hmp e hls hn hP hno hb0 hc0 hz0 kX h1 hmp2 hgr hzY kY hbm hcm bY hcY qY hnotin qY' hHp hbl hml
      go_enter Try.func18, Try.ntmps18
      go_wp2_with fail
      refine (unhide HS).mono ?_
      rintro e W1 ⟨rfl, rfl⟩
      clear HS
      go_wp2
      go_region
      go_wp2_with fail
      refine (unhide HPu).mono ?_
      rintro e W3 ⟨rfl, HQ⟩
      replace HQ := hide HQ
      clear HPu
      go_wp2
      go_ret
      obtain ⟨v', qs, b3, q3, p3, l3, m3, k3⟩ := unhide HQ
      obtain ⟨h, hGL, hm, hmp2, hno, kX, kY, hnotin⟩ := unhide HH
      obtain ⟨hbm, hbl, hn, hP⟩ := unhide HP
      have hmp3 := hmp2.kp k3 (fun e => by
        rcases e with e | e
        · exact e.2.2 rfl
        · exact hbm e.symm)
      have ha := h.new (P' := fun i => P i ∨ w.heap.size ≤ i) ⟨k, ls, now + ls⟩ hnotin hno hGL (fun i hi => .inl hi) rfl hm hmp3 b3 q3 p3 l3 m3
      refine ⟨rfl, ⟨_, _, _, _, _, ha⟩, ?_⟩
      have kXY := (kX.wk (N' := P) (fun _ e => e.elim)).trans kY (fun i hi => .inl (by rw [hi]; exact hm))
      exact kXY.trans k3 (fun i hi => by
        rcases hi with hi | rfl
        · exact hi.1
        · exact .inl h.pb)

end Go.Proofs.Ytknomhgglmgciaa
