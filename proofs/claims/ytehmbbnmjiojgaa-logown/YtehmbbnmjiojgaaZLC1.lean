/-
  The law's same and ops, of what is the same.
-/
import Derived.Test.YtehmbbnmjiojgaaZLM4
import Derived.Deep.RegionHeld3
set_option linter.unusedSimpArgs false
set_option linter.unusedVariables false
namespace Go.Proofs.Ytehmbbnmjiojgaa
open Go.RowKit Go.Lib

theorem neqR (x y : (Int × Int) × Int) (w : World) : (binOp .neq 62 (.agg #[.int .i64 x.1.1, .int .i64 x.1.2, .int .i64 x.2]) (.agg #[.int .i64 y.1.1, .int .i64 y.1.2, .int .i64 y.2])).run Try.prog w = .ok (.bool (!decide (x = y))) w := by
  obtain ⟨⟨t, s⟩, c⟩ := x
  obtain ⟨⟨t', s'⟩, c'⟩ := y
  simp only
  by_cases h1 : t = t'
  · subst h1
    by_cases h2 : s = s'
    · subst h2
      by_cases h3 : c = c'
      · subst h3
        simp [go_sem]
      · have hd : decide ((((t, s), c) : (Int × Int) × Int) = ((t, s), c')) = false := by rw [decide_eq_false_iff_not]; intro e; exact h3 (by simpa using e)
        rw [hd]
        simp [go_sem, h3]
    · have hd : decide ((((t, s), c) : (Int × Int) × Int) = ((t, s'), c')) = false := by rw [decide_eq_false_iff_not]; intro e; simp at e; exact h2 e.1
      rw [hd]
      simp [go_sem, h2]
  · have hd : decide ((((t, s), c) : (Int × Int) × Int) = ((t', s'), c')) = false := by rw [decide_eq_false_iff_not]; intro e; simp at e; exact h1 e.1.1
    rw [hd]
    simp [go_sem, h1]

theorem neqID (t s : Int) (w : World) : (binOp .neq 35 (.agg #[.int .i64 t, .int .i64 s]) (.agg #[.int .i64 t, .int .i64 s])).run Try.prog w = .ok (.bool false) w := by simp [go_sem]

set_option maxRecDepth 100000 in
set_option maxHeartbeats 4000000 in
theorem lsame_in (o : Opn) (vd vg ud ug : Value) (w : World) (hd : RI w vd o.deps) (hg : RR w vg o.gone) (hd' : RI w ud o.deps) (hg' : RR w ug o.gone) (l1 : o.deps.length ≤ 1000000) (l2 : o.gone.length ≤ 1000000) :
    Calls Try.prog 25 #[opA o vd vg, opA o ud ug] w fun e W => e = .returned (.bool true) ∧ Below w.heap.size w W := by
  obtain ⟨ad, cd, rfl⟩ := hd.form
  obtain ⟨ag, cg, rfl⟩ := RC.form hg
  obtain ⟨bd, dd, rfl⟩ := hd'.form
  obtain ⟨bg, dg, rfl⟩ := RC.form hg'
  unfold opA
  obtain ⟨L, hL⟩ : ∃ L, o.deps.length = L := ⟨_, rfl⟩
  obtain ⟨M, hM⟩ : ∃ M, o.gone.length = M := ⟨_, rfl⟩
  rw [hL] at hd hd' l1 ⊢
  rw [hM] at hg hg' l2 ⊢
  obtain ⟨X, hX⟩ : ∃ X, (w.alloc (.cells #[.int .i64 o.ds, .int .i64 o.dq, .slice ad L cd, .int .i64 o.kind, .int .i64 o.it, .int .i64 o.is, .int .i64 o.rt, .int .i64 o.rs, .string o.text, .slice ag M cg, .int .i64 o.site] 38)).alloc (.cells #[.int .i64 o.ds, .int .i64 o.dq, .slice bd L dd, .int .i64 o.kind, .int .i64 o.it, .int .i64 o.is, .int .i64 o.rt, .int .i64 o.rs, .string o.text, .slice bg M dg, .int .i64 o.site] 38) = X := ⟨_, rfl⟩
  have HA : Bx X w.heap.size 38 #[.int .i64 o.ds, .int .i64 o.dq, .slice ad L cd, .int .i64 o.kind, .int .i64 o.it, .int .i64 o.is, .int .i64 o.rt, .int .i64 o.rs, .string o.text, .slice ag M cg, .int .i64 o.site] := by rw [← hX]; exact (Bx.new w _ _).below (ballc (Below.refl _ _) _)
  have HB : Bx X (w.heap.size + 1) 38 #[.int .i64 o.ds, .int .i64 o.dq, .slice bd L dd, .int .i64 o.kind, .int .i64 o.it, .int .i64 o.is, .int .i64 o.rt, .int .i64 o.rs, .string o.text, .slice bg M dg, .int .i64 o.site] := by
    rw [← hX]
    have := Bx.new (w.alloc (.cells #[.int .i64 o.ds, .int .i64 o.dq, .slice ad L cd, .int .i64 o.kind, .int .i64 o.it, .int .i64 o.is, .int .i64 o.rt, .int .i64 o.rs, .string o.text, .slice ag M cg, .int .i64 o.site] 38)) 38 #[.int .i64 o.ds, .int .i64 o.dq, .slice bd L dd, .int .i64 o.kind, .int .i64 o.it, .int .i64 o.is, .int .i64 o.rt, .int .i64 o.rs, .string o.text, .slice bg M dg, .int .i64 o.site]
    rw [World.size_alloc] at this
    exact this
  have B0 : Below w.heap.size w X := by rw [← hX]; exact ballc (ballc (Below.refl _ _) _) _
  have HV := hide (vectors_in o.deps o.deps _ _ X (hd.below B0) (hd'.below B0) (by omega) (by omega))
  rw [decide_eq_true rfl] at HV
  have HG : Hid (RR X (.slice ag M cg) o.gone) := RC.below hg B0
  have HG' : Hid (RR X (.slice bg M dg) o.gone) := RC.below hg' B0
  have HM := hide hM
  replace B0 := hide B0
  have hqD : ∀ W, (binOp .neq 33 (.agg #[.int .i64 o.ds, .int .i64 o.dq]) (.agg #[.int .i64 o.ds, .int .i64 o.dq])).run Try.prog W = .ok (.bool false) W := fun W => by rw [neqD, decide_eq_true rfl]; rfl
  have hqI := neqID o.it o.is
  have hqR := neqID o.rt o.rs
  obtain ⟨a0, a1, a2, a3, a4, a5, a6, a7, a8, a9, a10⟩ := cells_op HA
  obtain ⟨b0, b1, b2, b3, b4, b5, b6, b7, b8, b9, b10⟩ := cells_op HB
  have al := HA.lt
  have bl := HB.lt
  replace HA := hide HA
  replace HB := hide HB
  clear hd hd' hg hg' hL hM
  go_enter Try.func25, Try.ntmps25
  go_wp2_with fail
  refine (unhide HV).mono ?_
  rintro r W1 ⟨rfl, n1, rfl⟩
  clear HV hX hqD hqI hqR a0 a1 a2 a3 a4 a5 a6 a7 a8 a10 b0 b1 b2 b3 b4 b5 b6 b7 b8 b10
  go_wp2
  go_loopw [5] (fun jv wr => ∃ j n : Nat, j ≤ M ∧ jv = .int .i64 (j : Nat) ∧ wr = X.drewN n) (fun jv _ => M - (RowKit.intOf jv).toNat)
  case atStart => exact ⟨0, n1, by omega, rfl, rfl⟩
  case round =>
    obtain ⟨j, nd2, hj, rfl, rfl⟩ := hrel
    by_cases hlt2 : j < M
    · have hlt' : j < o.gone.length := by rw [unhide HM]; exact hlt2
      obtain ⟨b, off, rfl, q0, c0, c1, c2⟩ := RR.at (unhide HG) (List.getElem?_eq_getElem hlt')
      obtain ⟨b', off', rfl, q1, d0, d1, d2⟩ := RR.at (unhide HG') (List.getElem?_eq_getElem hlt')
      have i2 : (j : Int) < (M : Int) := by omega
      have hnq := neqR o.gone[j] o.gone[j]
      rw [decide_eq_true rfl] at hnq
      generalize o.gone[j] = e at *
      obtain ⟨⟨t, s⟩, c⟩ := e
      (try simp only at *)
      go_wp2
      go_quiet (fail)
      go_wp2
      go_roundw
      case rel => exact ⟨j + 1, _, by omega, by go_num, rfl⟩
      case measure => simp [RowKit.intOf]; omega
    · have i2 : ¬ (j : Int) < (M : Int) := by omega
      go_wp2
      go_ret
      exact ⟨rfl, bdrew (unhide B0) _⟩

theorem rl_at {P : Nat → Prop} {W : World} {v : Value} {os : List Opn} (h : RL P W v os) {i : Nat} {o : Opn} (hi : os[i]? = some o) : ∃ a n c b off ad cd ag cg, v = .slice a n c ∧ n = os.length ∧ a = some ⟨b, off, none⟩ ∧ b < W.heap.size ∧ (∀ q x, (encO (o, .slice ad o.deps.length cd, .slice ag o.gone.length cg))[q]? = some x → W.cell? ⟨b, off + i * 11 + q, none⟩ = some x) ∧ RI W (.slice ad o.deps.length cd) o.deps ∧ RR W (.slice ag o.gone.length cg) o.gone ∧ o.deps.length ≤ 1000000 ∧ o.gone.length ≤ 1000000 := by
  obtain ⟨ops, ho, hre, _, rfl⟩ := h
  obtain ⟨a, c, rfl⟩ := owns_form ho
  rw [List.getElem?_map] at hi
  obtain ⟨e, he, rfl⟩ := Option.map_eq_some_iff.1 hi
  obtain ⟨b, off, rfl, hb, hc⟩ := RO.at (RC.of_owns ho) he
  have hoe := hre e (List.mem_of_getElem? he)
  obtain ⟨o, vd, vg⟩ := e
  obtain ⟨ad, cd, hvd⟩ := OwD.form hoe.d
  obtain ⟨ag, cg, hvg⟩ := OwR.form hoe.g
  simp only at hvd hvg
  subst hvd hvg
  exact ⟨_, _, _, b, off, ad, cd, ag, cg, rfl, by rw [List.length_map], rfl, hb, hc, hoe.d.row, RC.of_owns hoe.g, hoe.s1, hoe.s2⟩
theorem rl_form {P : Nat → Prop} {W : World} {v : Value} {os : List Opn} (h : RL P W v os) : ∃ a c, v = .slice a os.length c := by
  obtain ⟨ops, ho, hre, _, rfl⟩ := h
  obtain ⟨a, c, rfl⟩ := owns_form ho
  exact ⟨a, c, by rw [List.length_map]⟩

set_option maxRecDepth 100000 in
set_option maxHeartbeats 8000000 in
theorem ops_in {P P' : Nat → Prop} {w : World} (v u : Value) (os : List Opn) (hr : RL P w v os) (hr' : RL P' w u os) (hn : os.length ≤ 1000000) :
    Calls Try.prog 12 #[v, u] w fun e W => e = .returned (.bool true) ∧ Below w.heap.size w W := by
  obtain ⟨a, c, rfl⟩ := rl_form hr
  obtain ⟨a', c', rfl⟩ := rl_form hr'
  have HR := hide hr
  have HR' := hide hr'
  obtain ⟨L, hL⟩ : ∃ L, os.length = L := ⟨_, rfl⟩
  rw [hL] at hn HR HR' ⊢
  have HL := hide hL
  clear hr hr' hL
  go_enter Try.func12, Try.ntmps12
  go_wp2
  go_loopw [5] (fun iv wr => ∃ i : Nat, iv = .int .i64 (i : Nat) ∧ i ≤ L ∧ Hid (Below w.heap.size w wr)) (fun iv _ => L - (RowKit.intOf iv).toNat)
  case atStart => exact ⟨0, rfl, by omega, hide (Below.refl _ _)⟩
  case round =>
    obtain ⟨i, rfl, hi, HB⟩ := hrel
    by_cases hlt : i < L
    · have hlt' : (i : Int) < (L : Int) := by omega
      have hls : i < os.length := by rw [unhide HL]; exact hlt
      obtain ⟨o, hx⟩ : ∃ o, os[i]? = some o := ⟨_, List.getElem?_eq_getElem hls⟩
      obtain ⟨_, _, _, b0, off, ad, cd, ag, cg, e1, e2, e3, hb0, hc, rd, rg, s1, s2⟩ := rl_at ((unhide HR).below (unhide HB)) hx
      obtain ⟨_, _, _, b1, off', ad', cd', ag', cg', e1', e2', e3', hb1, hc', rd', rg', _, _⟩ := rl_at ((unhide HR').below (unhide HB)) hx
      simp only [Value.slice.injEq] at e1 e1'
      rw [← e1.1] at e3
      rw [← e1'.1] at e3'
      subst e3 e3'
      clear e1 e1' e2 e2'
      have p0 := hc 0 _ rfl
      have p1 := hc 1 _ rfl
      have p2 := hc 2 _ rfl
      have p3 := hc 3 _ rfl
      have p4 := hc 4 _ rfl
      have p5 := hc 5 _ rfl
      have p6 := hc 6 _ rfl
      have p7 := hc 7 _ rfl
      have p8 := hc 8 _ rfl
      have p9 := hc 9 _ rfl
      have p10 := hc 10 _ rfl
      have q0 := hc' 0 _ rfl
      have q1 := hc' 1 _ rfl
      have q2 := hc' 2 _ rfl
      have q3 := hc' 3 _ rfl
      have q4 := hc' 4 _ rfl
      have q5 := hc' 5 _ rfl
      have q6 := hc' 6 _ rfl
      have q7 := hc' 7 _ rfl
      have q8 := hc' 8 _ rfl
      have q9 := hc' 9 _ rfl
      have q10 := hc' 10 _ rfl
      simp only [Nat.add_zero] at p0 p1 p2 p3 p4 p5 p6 p7 p8 p9 p10 q0 q1 q2 q3 q4 q5 q6 q7 q8 q9 q10
      have HS := hide (fun (W : World) (hb : Hid (Below wr.heap.size wr W)) => lsame_in o _ _ _ _ W (rd.below (unhide hb)) (RC.below rg (unhide hb)) (rd'.below (unhide hb)) (RC.below rg' (unhide hb)) s1 s2)
      unfold opA at HS
      clear hc hc' rd rg rd' rg' hx
      go_wp2_with fail
      go_region_held3 (fun w' => w'.cell? ⟨b0, off + i * 11, none⟩ = some (.int .i64 o.ds) ∧ w'.cell? ⟨b0, off + i * 11 + 1, none⟩ = some (.int .i64 o.dq) ∧ w'.cell? ⟨b0, off + i * 11 + 2, none⟩ = some (.slice ad o.deps.length cd) ∧ w'.cell? ⟨b0, off + i * 11 + 3, none⟩ = some (.int .i64 o.kind) ∧ w'.cell? ⟨b0, off + i * 11 + 4, none⟩ = some (.int .i64 o.it) ∧ w'.cell? ⟨b0, off + i * 11 + 5, none⟩ = some (.int .i64 o.is) ∧ w'.cell? ⟨b0, off + i * 11 + 6, none⟩ = some (.int .i64 o.rt) ∧ w'.cell? ⟨b0, off + i * 11 + 7, none⟩ = some (.int .i64 o.rs) ∧ w'.cell? ⟨b0, off + i * 11 + 8, none⟩ = some (.string o.text) ∧ w'.cell? ⟨b0, off + i * 11 + 9, none⟩ = some (.slice ag o.gone.length cg) ∧ w'.cell? ⟨b0, off + i * 11 + 10, none⟩ = some (.int .i64 o.site) ∧ w'.cell? ⟨b1, off' + i * 11, none⟩ = some (.int .i64 o.ds) ∧ w'.cell? ⟨b1, off' + i * 11 + 1, none⟩ = some (.int .i64 o.dq) ∧ w'.cell? ⟨b1, off' + i * 11 + 2, none⟩ = some (.slice ad' o.deps.length cd') ∧ w'.cell? ⟨b1, off' + i * 11 + 3, none⟩ = some (.int .i64 o.kind) ∧ w'.cell? ⟨b1, off' + i * 11 + 4, none⟩ = some (.int .i64 o.it) ∧ w'.cell? ⟨b1, off' + i * 11 + 5, none⟩ = some (.int .i64 o.is) ∧ w'.cell? ⟨b1, off' + i * 11 + 6, none⟩ = some (.int .i64 o.rt) ∧ w'.cell? ⟨b1, off' + i * 11 + 7, none⟩ = some (.int .i64 o.rs) ∧ w'.cell? ⟨b1, off' + i * 11 + 8, none⟩ = some (.string o.text) ∧ w'.cell? ⟨b1, off' + i * 11 + 9, none⟩ = some (.slice ag' o.gone.length cg') ∧ w'.cell? ⟨b1, off' + i * 11 + 10, none⟩ = some (.int .i64 o.site) ∧ Hid (Below wr.heap.size wr w'))
        (first
          | (exact ⟨p0, p1, p2, p3, p4, p5, p6, p7, p8, p9, p10, q0, q1, q2, q3, q4, q5, q6, q7, q8, q9, q10, hide (Below.refl _ _).drew⟩)
          | (go_split_ands
             exact ⟨cell_below (by assumption) hb, cell_below (by assumption) hb, cell_below (by assumption) hb, cell_below (by assumption) hb, cell_below (by assumption) hb, cell_below (by assumption) hb, cell_below (by assumption) hb, cell_below (by assumption) hb, cell_below (by assumption) hb, cell_below (by assumption) hb, cell_below (by assumption) hb, cell_below (by assumption) hb, cell_below (by assumption) hb, cell_below (by assumption) hb, cell_below (by assumption) hb, cell_below (by assumption) hb, cell_below (by assumption) hb, cell_below (by assumption) hb, cell_below (by assumption) hb, cell_below (by assumption) hb, cell_below (by assumption) hb, cell_below (by assumption) hb, hide (bnext (unhide (by assumption)) hb)⟩)
          | go_keep)
        (first
          | (go_split_ands; go_at_call 25; refine (unhide HS _ (by assumption)).mono ?_; rintro e w' ⟨rfl, hb⟩))
      go_split_ands
      have HB2 := hide (bnext (unhide HB) (unhide (by assumption : Hid (Below wr.heap.size wr _))))
      go_wp2
      go_roundw
      case measure => simp [RowKit.intOf]; omega
      case rel => exact ⟨i + 1, by go_num, by omega, HB2⟩
    · have hlt' : ¬ (i : Int) < (L : Int) := by omega
      go_wp2
      go_ret
      exact ⟨rfl, unhide HB⟩

end Go.Proofs.Ytehmbbnmjiojgaa
