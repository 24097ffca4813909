/-
  The law's same and ops, of what is the same.
-/
import Derived.Test.YtijjoikeceechaaGreatZXLM
import Derived.Deep.RegionHeld3

set_option linter.unusedSimpArgs false
set_option linter.unusedVariables false
namespace Go.Proofs.YtijjoikeceechaaGreat
open Go.RowKit Go.Lib

theorem neqR (x y : (Int × Int) × Int) (w : World) : (binOp .neq 81 (.agg #[.int .i64 x.1.1, .int .i64 x.1.2, .int .i64 x.2]) (.agg #[.int .i64 y.1.1, .int .i64 y.1.2, .int .i64 y.2])).run Tryz.prog w = .ok (.bool (!decide (x = y))) w := by
  obtain ⟨⟨t, s⟩, c⟩ := x
  obtain ⟨⟨t', s'⟩, c'⟩ := y
  simp only
  by_cases h1 : t = t'
  · subst h1
    by_cases h2 : s = s'
    · subst h2
      by_cases h3 : c = c'
      · subst h3
        simp [go_sem]
      · have hd : decide ((((t, s), c) : (Int × Int) × Int) = ((t, s), c')) = false := by rw [decide_eq_false_iff_not]; intro e; exact h3 (by simpa using e)
        rw [hd]
        simp [go_sem, h3]
    · have hd : decide ((((t, s), c) : (Int × Int) × Int) = ((t, s'), c')) = false := by rw [decide_eq_false_iff_not]; intro e; simp at e; exact h2 e.1
      rw [hd]
      simp [go_sem, h2]
  · have hd : decide ((((t, s), c) : (Int × Int) × Int) = ((t', s'), c')) = false := by rw [decide_eq_false_iff_not]; intro e; simp at e; exact h1 e.1.1
    rw [hd]
    simp [go_sem, h1]

theorem neqID (t s : Int) (w : World) : (binOp .neq 42 (.agg #[.int .i64 t, .int .i64 s]) (.agg #[.int .i64 t, .int .i64 s])).run Tryz.prog w = .ok (.bool false) w := by simp [go_sem]

set_option maxRecDepth 100000 in
set_option maxHeartbeats 4000000 in
theorem lsame_in (o : Opn) (vd vg ud ug : Value) (w : World) (hd : RI w vd o.deps) (hg : RR w vg o.gone) (hd' : RI w ud o.deps) (hg' : RR w ug o.gone) (l1 : o.deps.length ≤ 1000000) (l2 : o.gone.length ≤ 1000000) :
    Calls Tryz.prog 17 #[opA o vd vg, opA o ud ug] w fun e W => e = .returned (.bool true) ∧ Below w.heap.size w W := by
  obtain ⟨ad, cd, rfl⟩ := hd.form
  obtain ⟨ag, cg, rfl⟩ := RC.form hg
  obtain ⟨bd, dd, rfl⟩ := hd'.form
  obtain ⟨bg, dg, rfl⟩ := RC.form hg'
  unfold opA
  obtain ⟨L, hL⟩ : ∃ L, o.deps.length = L := ⟨_, rfl⟩
  obtain ⟨M, hM⟩ : ∃ M, o.gone.length = M := ⟨_, rfl⟩
  rw [hL] at hd hd' l1 ⊢
  rw [hM] at hg hg' l2 ⊢
  obtain ⟨X, hX⟩ : ∃ X, (w.alloc (.cells #[.int .i64 o.ds, .int .i64 o.dq, .slice ad L cd, .int .i64 o.kind, .int .i64 o.it, .int .i64 o.is, .int .i64 o.rt, .int .i64 o.rs, .string o.text, .slice ag M cg, .int .i64 o.site] 45)).alloc (.cells #[.int .i64 o.ds, .int .i64 o.dq, .slice bd L dd, .int .i64 o.kind, .int .i64 o.it, .int .i64 o.is, .int .i64 o.rt, .int .i64 o.rs, .string o.text, .slice bg M dg, .int .i64 o.site] 45) = X := ⟨_, rfl⟩
  have HA : Bx X w.heap.size 45 #[.int .i64 o.ds, .int .i64 o.dq, .slice ad L cd, .int .i64 o.kind, .int .i64 o.it, .int .i64 o.is, .int .i64 o.rt, .int .i64 o.rs, .string o.text, .slice ag M cg, .int .i64 o.site] := by rw [← hX]; exact (Bx.new w _ _).below (ballc (Below.refl _ _) _)
  have HB : Bx X (w.heap.size + 1) 45 #[.int .i64 o.ds, .int .i64 o.dq, .slice bd L dd, .int .i64 o.kind, .int .i64 o.it, .int .i64 o.is, .int .i64 o.rt, .int .i64 o.rs, .string o.text, .slice bg M dg, .int .i64 o.site] := by
    rw [← hX]
    have := Bx.new (w.alloc (.cells #[.int .i64 o.ds, .int .i64 o.dq, .slice ad L cd, .int .i64 o.kind, .int .i64 o.it, .int .i64 o.is, .int .i64 o.rt, .int .i64 o.rs, .string o.text, .slice ag M cg, .int .i64 o.site] 45)) 45 #[.int .i64 o.ds, .int .i64 o.dq, .slice bd L dd, .int .i64 o.kind, .int .i64 o.it, .int .i64 o.is, .int .i64 o.rt, .int .i64 o.rs, .string o.text, .slice bg M dg, .int .i64 o.site]
    rw [World.size_alloc] at this
    exact this
  have B0 : Below w.heap.size w X := by rw [← hX]; exact ballc (ballc (Below.refl _ _) _) _
  have HV := hide (vectors_in o.deps o.deps _ _ X (hd.below B0) (hd'.below B0) (by omega) (by omega))
  rw [decide_eq_true rfl] at HV
  have HG : Hid (RR X (.slice ag M cg) o.gone) := RC.below hg B0
  have HG' : Hid (RR X (.slice bg M dg) o.gone) := RC.below hg' B0
  have HM := hide hM
  replace B0 := hide B0
  have hqD : ∀ W, (binOp .neq 28 (.agg #[.int .i64 o.ds, .int .i64 o.dq]) (.agg #[.int .i64 o.ds, .int .i64 o.dq])).run Tryz.prog W = .ok (.bool false) W := fun W => by rw [neqD, decide_eq_true rfl]; rfl
  have hqI := neqID o.it o.is
  have hqR := neqID o.rt o.rs
  obtain ⟨a0, a1, a2, a3, a4, a5, a6, a7, a8, a9, a10⟩ := cells_op HA
  obtain ⟨b0, b1, b2, b3, b4, b5, b6, b7, b8, b9, b10⟩ := cells_op HB
  have al := HA.lt
  have bl := HB.lt
  replace HA := hide HA
  replace HB := hide HB
  clear hd hd' hg hg' hL hM
  go_enter Tryz.func17, Tryz.ntmps17
  go_wp2_with fail
  refine (unhide HV).mono ?_
  rintro r W1 ⟨rfl, n1, rfl⟩
  clear HV hX hqD hqI hqR a0 a1 a2 a3 a4 a5 a6 a7 a8 a10 b0 b1 b2 b3 b4 b5 b6 b7 b8 b10
  go_wp2
  go_loopw [5] (fun jv wr => ∃ j n : Nat, j ≤ M ∧ jv = .int .i64 (j : Nat) ∧ wr = X.drewN n) (fun jv _ => M - (RowKit.intOf jv).toNat)
  case atStart => exact ⟨0, n1, by omega, rfl, rfl⟩
  case round =>
    obtain ⟨j, nd2, hj, rfl, rfl⟩ := hrel
    by_cases hlt2 : j < M
    · have hlt' : j < o.gone.length := by rw [unhide HM]; exact hlt2
      obtain ⟨b, off, rfl, q0, c0, c1, c2⟩ := RR.at (unhide HG) (List.getElem?_eq_getElem hlt')
      obtain ⟨b', off', rfl, q1, d0, d1, d2⟩ := RR.at (unhide HG') (List.getElem?_eq_getElem hlt')
      have i2 : (j : Int) < (M : Int) := by omega
      have hnq := neqR o.gone[j] o.gone[j]
      rw [decide_eq_true rfl] at hnq
      generalize o.gone[j] = e at *
      obtain ⟨⟨t, s⟩, c⟩ := e
      (try simp only at *)
      go_wp2
      go_quiet (fail)
      go_wp2
      go_roundw
      case rel => exact ⟨j + 1, _, by omega, by go_num, rfl⟩
      case measure => simp [RowKit.intOf]; omega
    · have i2 : ¬ (j : Int) < (M : Int) := by omega
      go_wp2
      go_ret
      exact ⟨rfl, bdrew (unhide B0) _⟩

theorem rl_at {P : Nat → Prop} {W : World} {v : Value} {os : List Opn} (h : RL P W v os) {i : Nat} {o : Opn} (hi : os[i]? = some o) : ∃ a n c b off ad cd ag cg, v = .slice a n c ∧ n = os.length ∧ a = some ⟨b, off, none⟩ ∧ b < W.heap.size ∧ (∀ q x, (encO (o, .slice ad o.deps.length cd, .slice ag o.gone.length cg))[q]? = some x → W.cell? ⟨b, off + i * 11 + q, none⟩ = some x) ∧ RI W (.slice ad o.deps.length cd) o.deps ∧ RR W (.slice ag o.gone.length cg) o.gone ∧ o.deps.length ≤ 1000000 ∧ o.gone.length ≤ 1000000 := by
  obtain ⟨ops, ho, hre, _, rfl⟩ := h
  obtain ⟨a, c, rfl⟩ := owns_form ho
  rw [List.getElem?_map] at hi
  obtain ⟨e, he, rfl⟩ := Option.map_eq_some_iff.1 hi
  obtain ⟨b, off, rfl, hb, hc⟩ := RO.at (RC.of_owns ho) he
  have hoe := hre e (List.mem_of_getElem? he)
  obtain ⟨o, vd, vg⟩ := e
  obtain ⟨ad, cd, hvd⟩ := OwD.form hoe.d
  obtain ⟨ag, cg, hvg⟩ := OwR.form hoe.g
  simp only at hvd hvg
  subst hvd hvg
  exact ⟨_, _, _, b, off, ad, cd, ag, cg, rfl, by rw [List.length_map], rfl, hb, hc, hoe.d.row, RC.of_owns hoe.g, hoe.s1, hoe.s2⟩
theorem rl_form {P : Nat → Prop} {W : World} {v : Value} {os : List Opn} (h : RL P W v os) : ∃ a c, v = .slice a os.length c := by
  obtain ⟨ops, ho, hre, _, rfl⟩ := h
  obtain ⟨a, c, rfl⟩ := owns_form ho
  exact ⟨a, c, by rw [List.length_map]⟩

set_option maxRecDepth 100000 in
set_option maxHeartbeats 8000000 in
theorem ops_in {P P' : Nat → Prop} {w : World} (v u : Value) (os : List Opn) (hr : RL P w v os) (hr' : RL P' w u os) (hn : os.length ≤ 1000000) :
    Calls Tryz.prog 19 #[v, u] w fun e W => e = .returned (.bool true) ∧ Below w.heap.size w W := by
  obtain ⟨a, c, rfl⟩ := rl_form hr
  obtain ⟨a', c', rfl⟩ := rl_form hr'
  have HR := hide hr
  have HR' := hide hr'
  obtain ⟨L, hL⟩ : ∃ L, os.length = L := ⟨_, rfl⟩
  rw [hL] at hn HR HR' ⊢
  have HL := hide hL
  clear hr hr' hL
  go_enter Tryz.func19, Tryz.ntmps19
  go_wp2
  go_loopw [5] (fun iv wr => ∃ i : Nat, iv = .int .i64 (i : Nat) ∧ i ≤ L ∧ Hid (Below w.heap.size w wr)) (fun iv _ => L - (RowKit.intOf iv).toNat)
  case atStart => exact ⟨0, rfl, by omega, hide (Below.refl _ _)⟩
  case round =>
    obtain ⟨i, rfl, hi, HB⟩ := hrel
    by_cases hlt : i < L
    · have hlt' : (i : Int) < (L : Int) := by omega
      have hls : i < os.length := by rw [unhide HL]; exact hlt
      obtain ⟨o, hx⟩ : ∃ o, os[i]? = some o := ⟨_, List.getElem?_eq_getElem hls⟩
      obtain ⟨_, _, _, b0, off, ad, cd, ag, cg, e1, e2, e3, hb0, hc, rd, rg, s1, s2⟩ := rl_at ((unhide HR).below (unhide HB)) hx
      obtain ⟨_, _, _, b1, off', ad', cd', ag', cg', e1', e2', e3', hb1, hc', rd', rg', _, _⟩ := rl_at ((unhide HR').below (unhide HB)) hx
      simp only [Value.slice.injEq] at e1 e1'
      rw [← e1.1] at e3
      rw [← e1'.1] at e3'
      subst e3 e3'
      clear e1 e1' e2 e2'
      have p0 := hc 0 _ rfl
      have p1 := hc 1 _ rfl
      have p2 := hc 2 _ rfl
      have p3 := hc 3 _ rfl
      have p4 := hc 4 _ rfl
      have p5 := hc 5 _ rfl
      have p6 := hc 6 _ rfl
      have p7 := hc 7 _ rfl
      have p8 := hc 8 _ rfl
      have p9 := hc 9 _ rfl
      have p10 := hc 10 _ rfl
      have q0 := hc' 0 _ rfl
      have q1 := hc' 1 _ rfl
      have q2 := hc' 2 _ rfl
      have q3 := hc' 3 _ rfl
      have q4 := hc' 4 _ rfl
      have q5 := hc' 5 _ rfl
      have q6 := hc' 6 _ rfl
      have q7 := hc' 7 _ rfl
      have q8 := hc' 8 _ rfl
      have q9 := hc' 9 _ rfl
      have q10 := hc' 10 _ rfl
      simp only [Nat.add_zero] at p0 p1 p2 p3 p4 p5 p6 p7 p8 p9 p10 q0 q1 q2 q3 q4 q5 q6 q7 q8 q9 q10
      have HS := hide (fun (W : World) (hb : Hid (Below wr.heap.size wr W)) => lsame_in o _ _ _ _ W (rd.below (unhide hb)) (RC.below rg (unhide hb)) (rd'.below (unhide hb)) (RC.below rg' (unhide hb)) s1 s2)
      unfold opA at HS
      clear hc hc' rd rg rd' rg' hx
      go_wp2_with fail
      go_region_held3 (fun w' => w'.cell? ⟨b0, off + i * 11, none⟩ = some (.int .i64 o.ds) ∧ w'.cell? ⟨b0, off + i * 11 + 1, none⟩ = some (.int .i64 o.dq) ∧ w'.cell? ⟨b0, off + i * 11 + 2, none⟩ = some (.slice ad o.deps.length cd) ∧ w'.cell? ⟨b0, off + i * 11 + 3, none⟩ = some (.int .i64 o.kind) ∧ w'.cell? ⟨b0, off + i * 11 + 4, none⟩ = some (.int .i64 o.it) ∧ w'.cell? ⟨b0, off + i * 11 + 5, none⟩ = some (.int .i64 o.is) ∧ w'.cell? ⟨b0, off + i * 11 + 6, none⟩ = some (.int .i64 o.rt) ∧ w'.cell? ⟨b0, off + i * 11 + 7, none⟩ = some (.int .i64 o.rs) ∧ w'.cell? ⟨b0, off + i * 11 + 8, none⟩ = some (.string o.text) ∧ w'.cell? ⟨b0, off + i * 11 + 9, none⟩ = some (.slice ag o.gone.length cg) ∧ w'.cell? ⟨b0, off + i * 11 + 10, none⟩ = some (.int .i64 o.site) ∧ w'.cell? ⟨b1, off' + i * 11, none⟩ = some (.int .i64 o.ds) ∧ w'.cell? ⟨b1, off' + i * 11 + 1, none⟩ = some (.int .i64 o.dq) ∧ w'.cell? ⟨b1, off' + i * 11 + 2, none⟩ = some (.slice ad' o.deps.length cd') ∧ w'.cell? ⟨b1, off' + i * 11 + 3, none⟩ = some (.int .i64 o.kind) ∧ w'.cell? ⟨b1, off' + i * 11 + 4, none⟩ = some (.int .i64 o.it) ∧ w'.cell? ⟨b1, off' + i * 11 + 5, none⟩ = some (.int .i64 o.is) ∧ w'.cell? ⟨b1, off' + i * 11 + 6, none⟩ = some (.int .i64 o.rt) ∧ w'.cell? ⟨b1, off' + i * 11 + 7, none⟩ = some (.int .i64 o.rs) ∧ w'.cell? ⟨b1, off' + i * 11 + 8, none⟩ = some (.string o.text) ∧ w'.cell? ⟨b1, off' + i * 11 + 9, none⟩ = some (.slice ag' o.gone.length cg') ∧ w'.cell? ⟨b1, off' + i * 11 + 10, none⟩ = some (.int .i64 o.site) ∧ Hid (Below wr.heap.size wr w'))
        (first
          | (exact ⟨p0, p1, p2, p3, p4, p5, p6, p7, p8, p9, p10, q0, q1, q2, q3, q4, q5, q6, q7, q8, q9, q10, hide (Below.refl _ _).drew⟩)
          | (go_split_ands
             exact ⟨cell_below (by assumption) hb, cell_below (by assumption) hb, cell_below (by assumption) hb, cell_below (by assumption) hb, cell_below (by assumption) hb, cell_below (by assumption) hb, cell_below (by assumption) hb, cell_below (by assumption) hb, cell_below (by assumption) hb, cell_below (by assumption) hb, cell_below (by assumption) hb, cell_below (by assumption) hb, cell_below (by assumption) hb, cell_below (by assumption) hb, cell_below (by assumption) hb, cell_below (by assumption) hb, cell_below (by assumption) hb, cell_below (by assumption) hb, cell_below (by assumption) hb, cell_below (by assumption) hb, cell_below (by assumption) hb, cell_below (by assumption) hb, hide (bnext (unhide (by assumption)) hb)⟩)
          | go_keep)
        (first
          | (go_split_ands; go_at_call 17; refine (unhide HS _ (by assumption)).mono ?_; rintro e w' ⟨rfl, hb⟩))
      go_split_ands
      have HB2 := hide (bnext (unhide HB) (unhide (by assumption : Hid (Below wr.heap.size wr _))))
      go_wp2
      go_roundw
      case measure => simp [RowKit.intOf]; omega
      case rel => exact ⟨i + 1, by go_num, by omega, HB2⟩
    · have hlt' : ¬ (i : Int) < (L : Int) := by omega
      go_wp2
      go_ret
      exact ⟨rfl, unhide HB⟩

end Go.Proofs.YtijjoikeceechaaGreat

/-
  Two logs, side by side.
-/
set_option linter.unusedSimpArgs false
set_option linter.unusedVariables false
namespace Go.Proofs.YtijjoikeceechaaGreat
open Go.RowKit Go.Lib

/-- two logs in new memory, apart from each other and from Q -/
def KT (Q : Nat → Prop) (w W : World) (b1 : Nat) (B1 H1 : List (Int × Int)) (O1 : List Opn) (b2 : Nat) (B2 H2 : List (Int × Int)) (O2 : List Opn) : Prop :=
  ∃ P1 P2, LL P1 W b1 B1 H1 O1 ∧ LL P2 W b2 B2 H2 O2 ∧ (∀ i, P1 i → w.heap.size ≤ i ∧ i < W.heap.size ∧ ¬ P2 i ∧ ¬ Q i) ∧ (∀ i, P2 i → w.heap.size ≤ i ∧ i < W.heap.size ∧ ¬ P1 i ∧ ¬ Q i) ∧ (∀ i, Q i → i < W.heap.size) ∧ Below w.heap.size w W
variable {Q : Nat → Prop} {w W W' : World} {b1 : Nat} {B1 H1 : List (Int × Int)} {O1 : List Opn} {b2 : Nat} {B2 H2 : List (Int × Int)} {O2 : List Opn}
theorem KT.swap (h : KT Q w W b1 B1 H1 O1 b2 B2 H2 O2) : KT Q w W b2 B2 H2 O2 b1 B1 H1 O1 := by
  obtain ⟨P1, P2, h1, h2, h3, h4, h5, h6⟩ := h
  exact ⟨P2, P1, h2, h1, h4, h3, h5, h6⟩
theorem KT.bel (h : KT Q w W b1 B1 H1 O1 b2 B2 H2 O2) : Below w.heap.size w W := by
  obtain ⟨_, _, _, _, _, _, _, h⟩ := h; exact h
theorem KT.one (h : KT Q w W b1 B1 H1 O1 b2 B2 H2 O2) : KS w W b1 B1 H1 O1 := by
  obtain ⟨P1, P2, h1, h2, h3, h4, h5, h6⟩ := h
  exact ⟨P1, h1, fun i hi => ⟨(h3 i hi).1, (h3 i hi).2.1⟩, h6⟩
/-- what is new behind may be told apart too -/
theorem KT.grow (h : KT Q w W b1 B1 H1 O1 b2 B2 H2 O2) (hb : Below W.heap.size W W') : KT (fun i => Q i ∨ (W.heap.size ≤ i ∧ i < W'.heap.size)) w W' b1 B1 H1 O1 b2 B2 H2 O2 := by
  obtain ⟨P1, P2, h1, h2, h3, h4, h5, h6⟩ := h
  have hz := hb.size
  refine ⟨P1, P2, h1.below hb, h2.below hb, fun i hi => ?_, fun i hi => ?_, fun i hi => ?_, bnext h6 hb⟩
  · obtain ⟨k1, k2, k3, k4⟩ := h3 i hi
    exact ⟨k1, by omega, k3, fun e => by rcases e with e | e; exact k4 e; omega⟩
  · obtain ⟨k1, k2, k3, k4⟩ := h4 i hi
    exact ⟨k1, by omega, k3, fun e => by rcases e with e | e; exact k4 e; omega⟩
  · rcases hi with e | e
    · have := h5 i e; omega
    · omega
theorem KT.below (h : KT Q w W b1 B1 H1 O1 b2 B2 H2 O2) (hb : Below W.heap.size W W') : KT Q w W' b1 B1 H1 O1 b2 B2 H2 O2 := by
  obtain ⟨P1, P2, h1, h2, h3, h4, h5, h6⟩ := h
  have hz := hb.size
  exact ⟨P1, P2, h1.below hb, h2.below hb, fun i hi => ⟨(h3 i hi).1, by have := (h3 i hi).2.1; omega, (h3 i hi).2.2⟩, fun i hi => ⟨(h4 i hi).1, by have := (h4 i hi).2.1; omega, (h4 i hi).2.2⟩, fun i hi => by have := h5 i hi; omega, bnext h6 hb⟩
/-- log 1 has gone on -/
theorem KT.step {b1 : Nat} {B1' H1' : List (Int × Int)} {O1' : List Opn} {P1 P2 P1' : Nat → Prop} (h2 : LL P2 W b2 B2 H2 O2) (h3 : ∀ i, P1 i → w.heap.size ≤ i ∧ i < W.heap.size ∧ ¬ P2 i ∧ ¬ Q i) (h4 : ∀ i, P2 i → w.heap.size ≤ i ∧ i < W.heap.size ∧ ¬ P1 i ∧ ¬ Q i) (h5 : ∀ i, Q i → i < W.heap.size) (h6 : Below w.heap.size w W) (h1 : LL P1' W' b1 B1' H1' O1') (hp : ∀ i, P1' i → P1 i ∨ W.heap.size ≤ i) (k : Kp P1 W W') : KT Q w W' b1 B1' H1' O1' b2 B2 H2 O2 := by
  have hz := k.size
  have hz6 := h6.size
  refine ⟨_, P2, h1.lt, h2.kp k (fun i hi => (h3 i hi).2.2.1), fun i hi => ?_, fun i hi => ?_, fun i hi => by have := h5 i hi; omega, k.below h6 (fun i hi => (h3 i hi).1)⟩
  · rcases hp i hi.1 with h | h
    · obtain ⟨q1, q2, q3, q4⟩ := h3 i h
      exact ⟨q1, hi.2, q3, q4⟩
    · exact ⟨by omega, hi.2, fun e => by have := (h4 i e).2.1; omega, fun e => by have := h5 i e; omega⟩
  · obtain ⟨q1, q2, q3, q4⟩ := h4 i hi
    refine ⟨q1, by omega, fun e => ?_, q4⟩
    rcases hp i e.1 with h | h
    · exact q3 h
    · omega
theorem cut1_in (h : KT Q w W b1 B1 H1 O1 b2 B2 H2 O2) (hn : O1.length ≤ 1000000) (v : Value) (l : List (Int × Int)) (hr : RI W v l) (hl : l.length ≤ 1000000) (hap : ∀ k, rb v l.length k → Q k ∨ k < w.heap.size) :
    Calls Tryz.prog 23 #[.pointer (some ⟨b1, 0, none⟩), v] W fun e W' => ∃ a c, e = .returned (.tuple #[.slice a (if cutE H1 l = 0 then prL l true O1 else []).length c, .int .i64 (cutE H1 l)]) ∧ RL (fun _ => True) W' (.slice a (if cutE H1 l = 0 then prL l true O1 else []).length c) (if cutE H1 l = 0 then prL l true O1 else []) ∧ KT Q w W' b1 (if cutE H1 l = 0 then vec (mrg (sy B1) (sy l)) else B1) H1 (if cutE H1 l = 0 then prL l false O1 else O1) b2 B2 H2 O2 ∧ Kp (fun i => ¬ Q i) W W' := by
  obtain ⟨P1, P2, g1, g2, g3, g4, g5, g6⟩ := h
  refine (Cut_in g1 (fun i hi => (g3 i hi).2.1) hn v l hr hl (fun k hk e => by
    rcases hap k hk with h | h
    · exact (g3 k e).2.2.2 h
    · have := (g3 k e).1; omega)).mono ?_
  rintro e W' ⟨v', M, rfl, hM1, hM2, hrl, hll, k⟩
  obtain ⟨a, c, rfl⟩ := rl_form hrl
  exact ⟨a, c, rfl, hrl.mono (fun _ _ => trivial), KT.step g2 g3 g4 g5 g6 hll (fun i hi => by rcases hi with h | h; exact .inl h; exact .inr (by omega)) k, k.wk (fun i hi => (g3 i hi).2.2.2)⟩
theorem RI.kpQ {W W' : World} {v : Value} {l : List (Int × Int)} (h : RI W v l) (k : Kp (fun i => ¬ Q i) W W') (hq : ∀ i, rb v l.length i → Q i) : RI W' v l := RC.kpn h k (fun i hi hn => hn (hq i hi))

end Go.Proofs.YtijjoikeceechaaGreat

/-
  Cuts: twice, and once by both. Pure; and what is told, apart from the logs.
-/
set_option linter.unusedSimpArgs false
set_option linter.unusedVariables false
namespace Go.Proofs.YtijjoikeceechaaGreat
open Go.RowKit Go.Lib

theorem has_nil (d : Int × Int) : hasV [] d = false := by
  unfold hasV getV
  rw [decide_eq_false_iff_not]
  intro h
  have h2 := h.2
  split at h2
  · rw [sy_nil] at h2
    have h3 : d.2 ≤ 0 := h2
    omega
  · omega
theorem bynd_nil (os : List Opn) : bynd [] os = os := by
  unfold bynd prL
  rw [if_pos (show chk [] = 0 from rfl), List.filter_eq_self]
  intro o _
  rw [has_nil]
  rfl
theorem pr_both (p q r : Opn → Bool) (os : List Opn) (h : ∀ o ∈ os, r o = (p o || q o)) : (os.filter fun o => p o == false).filter (fun o => q o == false) = os.filter (fun o => r o == false) ∧ (os.filter fun o => p o == true).length + ((os.filter fun o => p o == false).filter (fun o => q o == true)).length = (os.filter fun o => r o == true).length ∧ (os.filter fun o => r o == true).length + (os.filter fun o => r o == false).length = os.length := by
  induction os with
  | nil => exact ⟨rfl, rfl, rfl⟩
  | cons o os ih =>
    obtain ⟨i1, i2, i3⟩ := ih (fun x hx => h x (by simp [hx]))
    have ho := h o (by simp)
    cases hp : p o <;> cases hq : q o <;> rw [hp, hq] at ho <;> simp only [List.filter_cons, hp, hq, ho] <;> simp only [Bool.or_self, Bool.or_true, Bool.true_or, Bool.or_false, beq_self_eq_true, if_true, Bool.false_eq_true, if_false, show (true == false) = false from rfl, show (false == true) = false from rfl, List.filter_cons, hq, List.length_cons] <;> refine ⟨?_, ?_, ?_⟩ <;> first | exact i1 | omega | (rw [i1])
theorem has_both {a b both : List (Int × Int)} (e : sy both = mrg (sy a) (sy b)) {d : Int × Int} (h : 1 ≤ d.1 ∧ d.1 ≤ 16) (h2 : 1 ≤ d.2) : hasV both d = (hasV a d || hasV b d) := by
  obtain ⟨x, y⟩ := d
  simp only at h h2
  rw [has_site h h2, has_site h h2, has_site h h2, e]
  unfold mrg
  by_cases h3 : y ≤ sy a x.toNat <;> by_cases h4 : y ≤ sy b x.toNat <;> simp only [h3, h4, decide_true, decide_false, Bool.or_true, Bool.true_or, Bool.or_false] <;> first | (rw [decide_eq_true_iff]; omega) | (rw [decide_eq_false_iff_not]; omega)
theorem cut_ways (hv l : List (Int × Int)) : (chk l ≠ 0 ∧ cutE hv l ≠ 0) ∨ (chk l = 0 ∧ cov (sy hv) (sy l) = false ∧ cutE hv l ≠ 0) ∨ (chk l = 0 ∧ cov (sy hv) (sy l) = true ∧ cutE hv l = 0) := by
  by_cases h : chk l = 0
  · cases hc : cov (sy hv) (sy l)
    · exact .inr (.inl ⟨h, rfl, by rw [cutE_cov h hc]; decide⟩)
    · exact .inr (.inr ⟨h, rfl, cutE_ok h hc⟩)
  · exact .inl ⟨h, by rw [cutE_chk h]; exact h⟩
/-- all that the law asks of the two ways -/
theorem cut_both {B H a b both : List (Int × Int)} {O : List Opn} (h : ST B H O) (e : vec (mrg (sy a) (sy b)) = both) (ca : cov (sy H) (sy a) = true) (cb : cov (sy H) (sy b) = true) :
    chk both = 0 ∧ cutE H both = 0 ∧ vec (mrg (sy (vec (mrg (sy B) (sy a)))) (sy b)) = vec (mrg (sy B) (sy both)) ∧ prL b false (prL a false O) = prL both false O ∧ (prL a true O).length + (prL b true (prL a false O)).length = (prL both true O).length ∧ (prL both true O).length + (prL both false O).length = O.length := by
  subst e
  have g := (sy_good a).mrg (sy_good b)
  have gB := (sy_good B).mrg (sy_good a)
  have hs := sy_vec g
  have hk := chk_vec g
  have hc : cov (sy H) (sy (vec (mrg (sy a) (sy b)))) = true := by
    rw [hs]
    rw [cov_iff (sy_good H) (sy_good a)] at ca
    rw [cov_iff (sy_good H) (sy_good b)] at cb
    rw [cov_iff (sy_good H) g]
    intro i
    have := ca i
    have := cb i
    unfold mrg
    omega
  refine ⟨hk, cutE_ok hk hc, ?_, ?_⟩
  · rw [sy_vec gB, hs]
    congr 1
    funext i
    unfold mrg
    omega
  · exact pr_both (fun o => hasV a (o.ds, o.dq)) (fun o => hasV b (o.ds, o.dq)) (fun o => hasV (vec (mrg (sy a) (sy b))) (o.ds, o.dq)) O (fun o ho => by
      obtain ⟨h1, h2, h3⟩ := h.sq.mem o ho
      have := (sy_good B).lo o.ds.toNat
      exact has_both hs h1 (by show 1 ≤ o.dq; omega))
theorem filter_at {α : Type} (p : α → Bool) (l : List α) (i : Nat) (x : α) (h : l[i]? = some x) (hp : p x = true) : (l.filter p)[((l.take i).filter p).length]? = some x ∧ ((l.take i).filter p).length < (l.filter p).length ∧ ((l.take (i + 1)).filter p).length = ((l.take i).filter p).length + 1 := by
  have hi := (List.getElem?_eq_some_iff.1 h).1
  have e1 : l.filter p = (l.take i).filter p ++ (x :: (l.drop (i + 1)).filter p) := by
    conv => lhs; rw [← List.take_append_drop i l, List.filter_append, drop_at h, List.filter_cons, if_pos hp]
  refine ⟨by rw [e1, List.getElem?_append_right (Nat.le_refl _)]; simp, by rw [e1]; simp, ?_⟩
  rw [List.take_add_one, h, List.filter_append]
  simp [hp]
theorem filter_not {α : Type} (p : α → Bool) (l : List α) (i : Nat) (x : α) (h : l[i]? = some x) (hp : p x = false) : ((l.take (i + 1)).filter p).length = ((l.take i).filter p).length := by
  rw [List.take_add_one, h, List.filter_append]
  simp [hp]
theorem prL_at {l : List (Int × Int)} {x : Bool} {os : List Opn} {i : Nat} {o : Opn} (h : os[i]? = some o) (hp : hasV l (o.ds, o.dq) = x) : (prL l x os)[(prL l x (os.take i)).length]? = some o ∧ (prL l x (os.take i)).length < (prL l x os).length ∧ (prL l x (os.take (i + 1))).length = (prL l x (os.take i)).length + 1 ∧ (prL l (!x) (os.take (i + 1))).length = (prL l (!x) (os.take i)).length := by
  obtain ⟨h1, h2, h3⟩ := filter_at (fun o => hasV l (o.ds, o.dq) == x) os i o h (by simp [hp])
  have h4 := filter_not (fun o : Opn => hasV l (o.ds, o.dq) == !x) os i o h (by simp [hp])
  exact ⟨h1, h2, h3, h4⟩
theorem RL.lt {P : Nat → Prop} {W : World} {v : Value} {os : List Opn} (h : RL P W v os) : RL (fun i => P i ∧ i < W.heap.size) W v os := by
  obtain ⟨ops, h1, h2, h3, h4⟩ := h
  exact ⟨ops, h1, fun e he => (h2 e he).lt, fun k hk => ⟨h3 k hk, (h1.lt k hk).2⟩, h4⟩
theorem own_rb {W : World} {N : Nat} {v : Value} {l : List (Int × Int)} (h : OwD W N v l) {k : Nat} (hk : rb v l.length k) : N ≤ k ∧ k < W.heap.size := h.lt k hk.2
theorem KVectorQ_in {w W : World} {b : Nat} {base hv : List (Int × Int)} {os : List Opn} (h : KS w W b base hv os) :
    Calls Tryz.prog 36 #[.pointer (some ⟨b, 0, none⟩)] W fun e W' => ∃ a c, e = .returned (.slice a hv.length c) ∧ OwD W' W.heap.size (.slice a hv.length c) hv ∧ Below W.heap.size W W' := by
  obtain ⟨P, hL, hP, hb⟩ := h
  refine (Vector_in hL).mono ?_
  rintro e W' ⟨v', rfl, ho, hb'⟩
  obtain ⟨a, c, rfl⟩ := ho.form
  exact ⟨a, c, rfl, ho, hb'⟩
theorem KT.new {w W1 W2 W3 : World} {b m : Nat} {base : List (Int × Int)} (h0 : Below w.heap.size w W1) (h1 : LL (fun i => W1.heap.size ≤ i) W2 b base base []) (hb1 : Below W1.heap.size W1 W2) (h2 : LL (fun i => W2.heap.size ≤ i) W3 m base base []) (hb2 : Below W2.heap.size W2 W3) : KT (fun _ => False) w W3 b base base [] m base base [] := by
  have z0 := h0.size
  have z1 := hb1.size
  have z2 := hb2.size
  exact ⟨_, _, h1.lt.below hb2, h2.lt, fun i hi => ⟨by have := hi.1; omega, by have := hi.2; omega, fun e => by have := hi.2; have := e.1; omega, fun e => e⟩, fun i hi => ⟨by have := hi.1; omega, hi.2, fun e => by have := e.2; have := hi.1; omega, fun e => e⟩, fun i hi => hi.elim, bnext (bnext h0 hb1) hb2⟩

end Go.Proofs.YtijjoikeceechaaGreat
