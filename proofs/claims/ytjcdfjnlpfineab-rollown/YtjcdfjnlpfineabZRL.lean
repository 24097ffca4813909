/-
  The law's do and same; what the document fixes.
-/
import Derived.Test.YtjcdfjnlpfineabZRK
set_option linter.unusedSimpArgs false
set_option linter.unusedVariables false
namespace Go.Proofs.Ytjcdfjnlpfineab
open Go.RowKit Go.Lib
variable {w W W' : World} {b b' : Nat} {s s' : St}

/-- a call -/
structure Stp where
  lv : Bool
  site : Int
def doS (s : St) (x : Stp) : St := if x.lv then lvS s x.site else joS s x.site
def doB (s : St) (x : Stp) : Bool := if x.lv then lvB s x.site else joB s x.site
theorem Gd.doS (h : Gd s) (x : Stp) : Gd (doS s x) := by
  unfold Go.Proofs.Ytjcdfjnlpfineab.doS
  split
  · exact h.lv _
  · exact h.jo _
set_option maxRecDepth 100000 in
set_option maxHeartbeats 2000000 in
theorem do_in (h : RB w b s) (hg : Gd s) (x : Stp) : Calls Try.prog 6 #[.pointer (some ⟨b, 0, none⟩), .agg #[.bool x.lv, .int .i64 x.site]] w fun e W => e = .returned (.bool (doB s x)) ∧ RB W b (doS s x) ∧ Kp (fun i => i = b) w W := by
  obtain ⟨lv, site⟩ := x
  obtain ⟨X, hX⟩ : ∃ X, w.alloc (.cells #[.bool lv, .int .i64 site] 28) = X := ⟨_, rfl⟩
  have bX : Below w.heap.size w X := by rw [← hX]; exact ballc (Below.refl _ _) _
  have xX : Bx X w.heap.size 28 #[.bool lv, .int .i64 site] := by rw [← hX]; exact Bx.new _ _ _
  have c0 : X.cell? ⟨w.heap.size, 0, none⟩ = some (.bool lv) := xX.cell 0 _ rfl
  have c1 : X.cell? ⟨w.heap.size, 1, none⟩ = some (.int .i64 site) := xX.cell 1 _ rfl
  have lX := xX.lt
  have HB := hide bX
  unfold doB doS
  cases lv with
  | true =>
    simp only [if_true]
    have H1 := hide (Leave_in (h.below bX) hg site)
    generalize lvB s site = R at *
    generalize lvS s site = S' at *
    clear h hg bX xX
    go_enter Try.func6, Try.ntmps6
    go_wp2_with fail
    refine (unhide H1).mono ?_
    rintro e W1 ⟨rfl, r1, k1⟩
    have r1' := hide r1
    have k1' := hide ((Kp.of_below (unhide HB)).trans k1 (fun i hi => .inl hi))
    clear r1 k1
    go_wp2
    go_ret
    exact ⟨rfl, unhide r1', unhide k1'⟩
  | false =>
    simp only [Bool.false_eq_true, if_false]
    have H1 := hide (Join_in (h.below bX) hg site)
    generalize joB s site = R at *
    generalize joS s site = S' at *
    clear h hg bX xX
    go_enter Try.func6, Try.ntmps6
    go_wp2_with fail
    refine (unhide H1).mono ?_
    rintro e W1 ⟨rfl, r1, k1⟩
    have r1' := hide r1
    have k1' := hide ((Kp.of_below (unhide HB)).trans k1 (fun i hi => .inl hi))
    clear r1 k1
    go_wp2
    go_ret
    exact ⟨rfl, unhide r1', unhide k1'⟩

theorem lsW_small (m : Wd) : (lsW m).length ≤ 1000000 := by have := lsW_len m; omega
/-- two lists that were told are held against each other -/
theorem told_ints {m m' : Wd} {a a' : Option Addr} {c c' : Nat} (o : RN W (.slice a (lsW m).length c) (lsW m)) (o' : RN W (.slice a' (lsW m').length c') (lsW m')) : Calls Try.prog 10 #[.slice a (lsW m).length c, .slice a' (lsW m').length c'] W fun e W' => e = .returned (.bool (decide (lsW m = lsW m'))) ∧ Below W.heap.size W W' := ints_in _ _ _ _ W o o' (lsW_small m) (lsW_small m')
/-- a Roll in new memory -/
structure KR (w W : World) (b : Nat) (s : St) : Prop where
  rb : RB W b s
  gd : Gd s
  lo : w.heap.size ≤ b
  bel : Below w.heap.size w W
theorem KR.below (h : KR w W b s) (hb : Below W.heap.size W W') : KR w W' b s := ⟨h.rb.below hb, h.gd, h.lo, bnext h.bel hb⟩
theorem KR.join (h : KR w W b s) (x : Int) : Calls Try.prog 11 #[.pointer (some ⟨b, 0, none⟩), .int .i64 x] W fun e W' => e = .returned (.bool (joB s x)) ∧ KR w W' b (joS s x) := (Join_in h.rb h.gd x).mono fun e W' ⟨h1, h2, h3⟩ => ⟨h1, h2, h.gd.jo x, h.lo, h3.below h.bel (fun i e => by have := h.lo; omega)⟩
theorem KR.leave (h : KR w W b s) (x : Int) : Calls Try.prog 12 #[.pointer (some ⟨b, 0, none⟩), .int .i64 x] W fun e W' => e = .returned (.bool (lvB s x)) ∧ KR w W' b (lvS s x) := (Leave_in h.rb h.gd x).mono fun e W' ⟨h1, h2, h3⟩ => ⟨h1, h2, h.gd.lv x, h.lo, h3.below h.bel (fun i e => by have := h.lo; omega)⟩
theorem KR.do (h : KR w W b s) (x : Stp) : Calls Try.prog 6 #[.pointer (some ⟨b, 0, none⟩), .agg #[.bool x.lv, .int .i64 x.site]] W fun e W' => e = .returned (.bool (doB s x)) ∧ KR w W' b (doS s x) := (do_in h.rb h.gd x).mono fun e W' ⟨h1, h2, h3⟩ => ⟨h1, h2, h.gd.doS x, h.lo, h3.below h.bel (fun i e => by have := h.lo; omega)⟩
theorem KR.new (w : World) : Calls Try.prog 5 #[] w fun e W => e = .returned (.pointer (some ⟨w.heap.size, 0, none⟩)) ∧ KR w W w.heap.size nilS := (New_in w).mono fun e W' ⟨h1, h2, h3⟩ => ⟨h1, h2, Gd.nil, Nat.le_refl _, h3⟩

end Go.Proofs.Ytjcdfjnlpfineab
