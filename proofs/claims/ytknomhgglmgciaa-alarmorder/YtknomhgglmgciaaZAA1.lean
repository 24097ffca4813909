/-
  An Alarm in memory; tick, sets, Len, Next, Gap.
-/
import Derived.Test.YtknomhgglmgciaaZAQ6
import Derived.Test.YtknomhgglmgciaaZAM
set_option linter.unusedSimpArgs false
set_option linter.unusedVariables false
namespace Go.Proofs.Ytknomhgglmgciaa
open Go.RowKit Go.Lib

/-- an Alarm in blocks of which P holds -/
structure AS (P : Nat → Prop) (W : World) (b : Nat) (ls ms : Int) (mv v : Value) (g : Int → Option Nat) (n : Nat) (ps : List Nat) (t : Nat → Tm) (L : List Tm) : Prop where
  pb : P b
  bx : aB W b ls ms mv v
  mp : (∃ m, mv = .map (some m) ∧ P m ∧ MP W m n g) ∨ (mv = .map none ∧ g = (fun _ => none) ∧ ls = 0)
  q : QS (fun i => P i ∧ i ≠ b ∧ mv ≠ .map (some i)) W v ps t
  hp : Hp t ps ps.length
  lst : Ls t ps L
  gl : GL ls ms L
  ln : ps.length ≤ n
  gm : ∀ k a, g k = some a ↔ (a ∈ ps ∧ (t a).key = k)
def AL (P : Nat → Prop) (W : World) (b : Nat) (ls ms : Int) (n : Nat) (L : List Tm) : Prop := ∃ mv v g ps t, AS P W b ls ms mv v g n ps t L
variable {P N : Nat → Prop} {w W W' : World} {b n : Nat} {ls ms : Int} {mv v : Value} {g : Int → Option Nat} {ps : List Nat} {t : Nat → Tm} {L : List Tm}
theorem AS.kp (h : AS P W b ls ms mv v g n ps t L) (k : Kp N W W') (hn : ∀ i, N i → ¬ P i) : AS P W' b ls ms mv v g n ps t L := by
  refine ⟨h.pb, h.bx.kp k (fun e => hn _ e h.pb), ?_, h.q.kp k (fun i hi e => hn i hi e.1), h.hp, h.lst, h.gl, h.ln, h.gm⟩
  rcases h.mp with ⟨m, e, hm, hmp⟩ | e
  · exact .inl ⟨m, e, hm, hmp.kp k (fun e => hn _ e hm)⟩
  · exact .inr e
theorem AS.mono {P' : Nat → Prop} (h : AS P W b ls ms mv v g n ps t L) (hp : ∀ i, P i → P' i) : AS P' W b ls ms mv v g n ps t L := by
  refine ⟨hp _ h.pb, h.bx, ?_, h.q.mono (fun i hi => ⟨hp i hi.1, hi.2⟩), h.hp, h.lst, h.gl, h.ln, h.gm⟩
  rcases h.mp with ⟨m, e, hm, hmp⟩ | e
  · exact .inl ⟨m, e, hp _ hm, hmp⟩
  · exact .inr e
theorem AS.lt (h : AS P W b ls ms mv v g n ps t L) : AS (fun i => P i ∧ i < W.heap.size) W b ls ms mv v g n ps t L := by
  refine ⟨⟨h.pb, Bx.lt h.bx⟩, h.bx, ?_, ⟨h.q.row, fun k hk => ⟨⟨(h.q.pk k hk).1, (h.q.row.lt k hk).2⟩, (h.q.pk k hk).2⟩, fun i hi => ⟨(h.q.tm i hi).1, ⟨(h.q.tm i hi).2.1, (h.q.tm i hi).1.lt⟩, (h.q.tm i hi).2.2⟩⟩, h.hp, h.lst, h.gl, h.ln, h.gm⟩
  rcases h.mp with ⟨m, e, hm, hmp⟩ | e
  · exact .inl ⟨m, e, ⟨hm, hmp.lt⟩, hmp⟩
  · exact .inr e
theorem AL.kp (h : AL P W b ls ms n L) (k : Kp N W W') (hn : ∀ i, N i → ¬ P i) : AL P W' b ls ms n L := by
  obtain ⟨mv, v, g, ps, t, h⟩ := h; exact ⟨mv, v, g, ps, t, h.kp k hn⟩
theorem AL.below (h : AL P W b ls ms n L) (hb : Below W.heap.size W W') : AL P W' b ls ms n L := h.kp (N := fun _ => False) (Kp.of_below hb) (fun _ h => h.elim)
theorem AL.mono {P' : Nat → Prop} (h : AL P W b ls ms n L) (hp : ∀ i, P i → P' i) : AL P' W b ls ms n L := by
  obtain ⟨mv, v, g, ps, t, h⟩ := h; exact ⟨mv, v, g, ps, t, h.mono hp⟩
theorem AL.lt (h : AL P W b ls ms n L) : AL (fun i => P i ∧ i < W.heap.size) W b ls ms n L := by
  obtain ⟨mv, v, g, ps, t, h⟩ := h; exact ⟨mv, v, g, ps, t, h.lt⟩
theorem AL.gl (h : AL P W b ls ms n L) : GL ls ms L := by obtain ⟨mv, v, g, ps, t, h⟩ := h; exact h.gl
theorem AL.ln (h : AL P W b ls ms n L) : L.length ≤ n := by obtain ⟨mv, v, g, ps, t, h⟩ := h; rw [← h.lst.len]; exact h.ln
theorem AL.pb (h : AL P W b ls ms n L) : P b := by obtain ⟨mv, v, g, ps, t, h⟩ := h; exact h.pb
theorem AS.nm (h : AS P W b ls ms mv v g n ps t L) : n ≤ n + 1 → True := fun _ => trivial
/-- what the map tells -/
theorem AS.look (h : AS P W b ls ms mv v g n ps t L) {k : Int} (hk : in64 k) : (Instr.lookup 38 mv (.int .i64 k) false).run Try.prog W = .ok (pO (g k)) W := by
  rcases h.mp with ⟨m, rfl, _, hm⟩ | ⟨rfl, rfl, _⟩
  · exact hm.look hk
  · exact look_none W hk
theorem AS.hasnt (h : AS P W b ls ms mv v g n ps t L) {k : Int} : lookL L k = none ↔ g k = none := by
  constructor
  · intro e
    cases e2 : g k with
    | none => rfl
    | some a =>
      obtain ⟨h1, h2⟩ := (h.gm k a).1 e2
      exact absurd h2 (lookL_none e _ (h.lst.inl a h1))
  · intro e
    cases e2 : lookL L k with
    | none => rfl
    | some x =>
      obtain ⟨h1, h2⟩ := lookL_some e2
      obtain ⟨a, ha, ea⟩ := h.lst.all x h1
      have := (h.gm k a).2 ⟨ha, by rw [ea]; exact h2⟩
      rw [e] at this
      cases this
theorem AS.has (h : AS P W b ls ms mv v g n ps t L) {k : Int} {x : Tm} (e : lookL L k = some x) : ∃ i, i < ps.length ∧ g k = some (pg ps i) ∧ t (pg ps i) = x := by
  obtain ⟨h1, h2⟩ := lookL_some e
  obtain ⟨a, ha, ea⟩ := h.lst.all x h1
  obtain ⟨i, hi, rfl⟩ := mem_pg ha
  exact ⟨i, hi, (h.gm k _).2 ⟨ha, by rw [ea]; exact h2⟩, ea⟩

def tickB (n : Int) : Bool := decide (0 ≤ n ∧ n ≤ 2147483647)
set_option maxRecDepth 100000 in
theorem tick_in (x : Int) (w : World) : Calls Try.prog 33 #[.int .i64 x] w fun e W => e = .returned (.bool (tickB x)) ∧ w = W := by
  obtain ⟨R, hR⟩ : ∃ R, tickB x = R := ⟨_, rfl⟩
  rw [hR]
  unfold tickB at hR
  by_cases h1 : 0 ≤ x
  · by_cases h2 : x ≤ 2147483647
    · obtain rfl : true = R := by rw [← hR]; simp [h1, h2]
      clear hR
      go_enter Try.func33, Try.ntmps33
      go_wp2
      go_ret
      exact ⟨rfl, rfl⟩
    · obtain rfl : false = R := by rw [← hR]; simp [h1, h2]
      clear hR
      go_enter Try.func33, Try.ntmps33
      go_wp2
      go_ret
      exact ⟨rfl, rfl⟩
  · obtain rfl : false = R := by rw [← hR]; simp [h1]
    clear hR
    go_enter Try.func33, Try.ntmps33
    go_wp2
    go_ret
    exact ⟨rfl, rfl⟩

theorem aB.c0 (h : aB W b ls ms mv v) : W.cell? ⟨b, 0, none⟩ = some (.int .i64 ls) := Bx.cell h 0 _ rfl
theorem aB.c1 (h : aB W b ls ms mv v) : W.cell? ⟨b, 1, none⟩ = some (.int .i64 ms) := Bx.cell h 1 _ rfl
theorem aB.c2 (h : aB W b ls ms mv v) : W.cell? ⟨b, 2, none⟩ = some mv := Bx.cell h 2 _ rfl
set_option maxRecDepth 100000 in
set_option maxHeartbeats 2000000 in
theorem sets_in (h : aB w b ls ms mv v) (now : Int) : Calls Try.prog 30 #[.pointer (some ⟨b, 0, none⟩), .int .i64 now] w fun e W => e = .returned (.bool (decide (0 < ls) && tickB now)) ∧ w = W := by
  have c0 := h.c0
  have HT := hide (tick_in now w)
  clear h
  by_cases hl : 0 < ls
  · have hd : decide (0 < ls) = true := decide_eq_true hl
    rw [hd, Bool.true_and]
    generalize tickB now = R at *
    go_enter Try.func30, Try.ntmps30
    go_wp2_with fail
    refine (unhide HT).mono ?_
    rintro e W1 ⟨rfl, rfl⟩
    go_wp2
    go_ret
    exact ⟨rfl, rfl⟩
  · have hd : decide (0 < ls) = false := decide_eq_false hl
    rw [hd, Bool.false_and]
    clear HT
    go_enter Try.func30, Try.ntmps30
    go_wp2
    go_ret
    exact ⟨rfl, rfl⟩
theorem sets_nil (now : Int) (w : World) : Calls Try.prog 30 #[.pointer none, .int .i64 now] w fun e W => e = .returned (.bool false) ∧ w = W := by
  go_enter Try.func30, Try.ntmps30
  go_wp2
  go_ret
  exact ⟨rfl, rfl⟩

theorem Len_in (h : AL P w b ls ms n L) : Calls Try.prog 20 #[.pointer (some ⟨b, 0, none⟩)] w fun e W => e = .returned (.int .i64 (L.length : Nat)) ∧ w = W := by
  obtain ⟨mv, v, g, ps, t, h⟩ := h
  obtain ⟨a, c, rfl⟩ := h.q.form
  have c3 := h.bx.cell
  have hl := h.lst.len
  rw [hl] at c3
  clear h hl
  go_enter Try.func20, Try.ntmps20
  go_wp2
  go_ret
  exact ⟨rfl, rfl⟩
theorem Len_nil (w : World) : Calls Try.prog 20 #[.pointer none] w fun e W => e = .returned (.int .i64 0) ∧ w = W := by
  go_enter Try.func20, Try.ntmps20
  go_wp2
  go_ret
  exact ⟨rfl, rfl⟩

/-- what Next answers -/
def nxtA (L : List Tm) : Value := match minL L with
  | none => .tuple #[.int .i64 0, .int .i64 0, .bool false]
  | some x => .tuple #[.int .i64 x.key, .int .i64 x.due, .bool true]
set_option maxRecDepth 100000 in
set_option maxHeartbeats 2000000 in
theorem Next_in (h : AL P w b ls ms n L) : Calls Try.prog 16 #[.pointer (some ⟨b, 0, none⟩)] w fun e W => e = .returned (nxtA L) ∧ Below w.heap.size w W := by
  obtain ⟨mv, v, g, ps, t, h⟩ := h
  obtain ⟨a, c, rfl⟩ := h.q.form
  have c3 := h.bx.cell
  unfold nxtA
  by_cases h0 : ps.length = 0
  · have hL : L = [] := List.eq_nil_of_length_eq_zero (by rw [← h.lst.len]; exact h0)
    subst hL
    rw [h0] at c3
    clear h
    unfold minL
    go_enter Try.func16, Try.ntmps16
    go_wp2
    refine bodyPost_ret (results_tmp3 rfl _ _ _) rfl ?_
    exact ⟨rfl, Below.refl _ _⟩
  · rw [h.lst.min h.gl.nod h.hp (by omega)]
    obtain ⟨_, gg, rfl, q0, _⟩ := h.q.at (i := 0) (by omega)
    obtain ⟨t0, _, t2, _⟩ := h.q.cells (i := 0) (by omega)
    unfold ptrV at q0
    have h0' : ((ps.length : Int) == 0) = false := by rw [beq_eq_false_iff_ne]; omega
    have h0'' : (0 : Int) < (ps.length : Int) := by omega
    clear h
    generalize t (pg ps 0) = x at *
    generalize pg ps 0 = A at *
    generalize ps.length = m at *
    go_enter Try.func16, Try.ntmps16
    go_wp2
    go_quiet (fail)
    go_wp2
    refine bodyPost_ret (results_tmp3 rfl _ _ _) rfl ?_
    exact ⟨rfl, bdrew (Below.refl _ _) _⟩
theorem Next_nil (w : World) : Calls Try.prog 16 #[.pointer none] w fun e W => e = .returned (nxtA []) ∧ w = W := by
  unfold nxtA minL
  go_enter Try.func16, Try.ntmps16
  go_wp2
  refine bodyPost_ret (results_tmp3 rfl _ _ _) rfl ?_
  exact ⟨rfl, rfl⟩

/-- what Gap answers -/
def gapA (L : List Tm) (k : Int) : Value := match lookL L k with
  | none => .tuple #[.int .i64 0, .int .i64 0]
  | some x => .tuple #[.int .i64 x.gap, .int .i64 x.due]
set_option maxRecDepth 100000 in
set_option maxHeartbeats 2000000 in
theorem Gap_in (h : AL P w b ls ms n L) (k : Int) (hk : in64 k) : Calls Try.prog 15 #[.pointer (some ⟨b, 0, none⟩), .int .i64 k] w fun e W => e = .returned (gapA L k) ∧ Below w.heap.size w W := by
  obtain ⟨mv, v, g, ps, t, h⟩ := h
  have c2 := h.bx.c2
  have hlk := h.look hk
  unfold gapA
  cases e : lookL L k with
  | none =>
    rw [h.hasnt.1 e] at hlk
    unfold pO at hlk
    clear h e
    have HM : ∃ mv', mv' = mv := ⟨_, rfl⟩
    go_enter Try.func15, Try.ntmps15
    go_wp2
    refine bodyPost_ret (results_tmp2 rfl _ _ _) rfl ?_
    exact ⟨rfl, Below.refl _ _⟩
  | some x =>
    obtain ⟨i, hi, e1, e2⟩ := h.has e
    rw [e1] at hlk
    obtain ⟨t0, t1, t2, _⟩ := h.q.cells hi
    rw [e2] at t0 t1 t2
    unfold pO at hlk
    clear h e e1 e2
    simp only
    generalize pg ps i = A at *
    go_enter Try.func15, Try.ntmps15
    go_wp2
    go_quiet (fail)
    go_wp2
    refine bodyPost_ret (results_tmp2 rfl _ _ _) rfl ?_
    exact ⟨rfl, bdrew (Below.refl _ _) _⟩
theorem Gap_nil (k : Int) (w : World) : Calls Try.prog 15 #[.pointer none, .int .i64 k] w fun e W => e = .returned (gapA [] k) ∧ w = W := by
  unfold gapA lookL
  simp only [List.find?_nil]
  go_enter Try.func15, Try.ntmps15
  go_wp2
  refine bodyPost_ret (results_tmp2 rfl _ _ _) rfl ?_
  exact ⟨rfl, rfl⟩

end Go.Proofs.Ytknomhgglmgciaa
