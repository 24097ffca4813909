/-
  A copy: size, byteAt, bytes.
-/
import Derived.Test.YteomalmflebkhaaZNE
set_option linter.unusedSimpArgs false
set_option linter.unusedVariables false
namespace Go.Proofs.Yteomalmflebkhaa
open Go.RowKit Go.Lib

variable {P N : Nat → Prop} {w W W' : World} {b p f : Nat} {c : Cp} {s : Stn} {vc vs : Value} {frm to sent : Int} {cl : List Int}
theorem dat_bad (h : c.bad = true) : c.dat = c.sp := by unfold Cp.dat; rw [if_pos h]
theorem dat_ok (h : c.bad = false) : c.dat = c.cl := by unfold Cp.dat; rw [if_neg (by rw [h]; decide)]
set_option maxRecDepth 100000 in
theorem size_in (h : PR P w c p f vc vs) : Calls Try.prog 93 #[.pointer (some ⟨p, 0, none⟩)] w fun e W => e = .returned (.int .i64 (c.dat.length : Nat)) ∧ w = W := by
  have p0 := h.bp.cell 0 (.pointer (some ⟨f, 0, none⟩)) rfl
  have p1 := h.bp.cell 1 (.bool c.bad) rfl
  have p2 := h.bp.cell 2 vs rfl
  have f3 := h.fb.bf.cell 3 vc rfl
  obtain ⟨a1, k1, rfl⟩ := h.fb.rc.form
  obtain ⟨a2, k2, rfl⟩ := h.rs.form
  clear h
  cases hb : c.bad with
  | true =>
    rw [dat_bad hb]
    rw [hb] at p1
    clear hb
    generalize c.sp.length = n2 at *
    generalize c.cl.length = n1 at *
    go_enter Try.func93, Try.ntmps93
    go_wp2
    go_ret
    exact ⟨rfl, rfl⟩
  | false =>
    rw [dat_ok hb]
    rw [hb] at p1
    clear hb
    generalize c.sp.length = n2 at *
    generalize c.cl.length = n1 at *
    go_enter Try.func93, Try.ntmps93
    go_wp2
    go_ret
    exact ⟨rfl, rfl⟩
set_option maxRecDepth 100000 in
theorem byteAt_in (h : PR P w c p f vc vs) {i : Nat} {x : Int} (hi : c.dat[i]? = some x) (hl : c.dat.length ≤ 1000000) : Calls Try.prog 96 #[.pointer (some ⟨p, 0, none⟩), .int .i64 (i : Nat)] w fun e W => e = .returned (.int .u8 x) ∧ w = W := by
  have p0 := h.bp.cell 0 (.pointer (some ⟨f, 0, none⟩)) rfl
  have p1 := h.bp.cell 1 (.bool c.bad) rfl
  have p2 := h.bp.cell 2 vs rfl
  have f3 := h.fb.bf.cell 3 vc rfl
  obtain ⟨a1, k1, rfl⟩ := h.fb.rc.form
  obtain ⟨a2, k2, rfl⟩ := h.rs.form
  have r1 := h.fb.rc.row
  have r2 := h.rs.row
  clear h
  cases hb : c.bad with
  | true =>
    rw [dat_bad hb] at hi hl
    rw [hb] at p1
    obtain ⟨g, off, rfl, _, hc⟩ := RB.at r2 hi
    have hlt := (List.getElem?_eq_some_iff.1 hi).1
    have hlt' : (i : Int) < ((c.sp.length : Nat) : Int) := by omega
    clear hb r1 r2 hi
    generalize c.sp.length = n2 at *
    generalize c.cl.length = n1 at *
    go_enter Try.func96, Try.ntmps96
    go_wp2
    go_ret
    exact ⟨rfl, rfl⟩
  | false =>
    rw [dat_ok hb] at hi hl
    rw [hb] at p1
    obtain ⟨g, off, rfl, _, hc⟩ := RB.at r1 hi
    have hlt := (List.getElem?_eq_some_iff.1 hi).1
    have hlt' : (i : Int) < ((c.cl.length : Nat) : Int) := by omega
    clear hb r1 r2 hi
    generalize c.sp.length = n2 at *
    generalize c.cl.length = n1 at *
    go_enter Try.func96, Try.ntmps96
    go_wp2
    go_ret
    exact ⟨rfl, rfl⟩
set_option maxRecDepth 100000 in
theorem bytes_in (h : PR P w c p f vc vs) (h1 : c.cl.length ≤ 1000000) (h2 : c.sp.length ≤ 1000000) : Calls Try.prog 54 #[.pointer (some ⟨p, 0, none⟩)] w (NewB w 5 c.dat) := by
  have p0 := h.bp.cell 0 (.pointer (some ⟨f, 0, none⟩)) rfl
  have p1 := h.bp.cell 1 (.bool c.bad) rfl
  have p2 := h.bp.cell 2 vs rfl
  have f3 := h.fb.bf.cell 3 vc rfl
  have HP := hide (plain_in _ _ w h.fb.rc.row h1)
  have HC := hide (Clone_in _ _ w h.rs.row h2)
  obtain ⟨a1, k1, rfl⟩ := h.fb.rc.form
  obtain ⟨a2, k2, rfl⟩ := h.rs.form
  clear h h1 h2
  unfold NewB at *
  cases hb : c.bad with
  | true =>
    rw [dat_bad hb]
    rw [hb] at p1
    clear hb HP
    obtain ⟨n2, hn2⟩ : ∃ n, c.sp.length = n := ⟨_, rfl⟩
    rw [hn2] at p2 HC ⊢
    generalize c.cl.length = n1 at *
    go_enter Try.func54, Try.ntmps54
    go_wp2_with fail
    refine (unhide HC).mono ?_
    rintro e W1 ⟨a, k, rfl, hq⟩
    replace hq := hide hq
    go_wp2
    go_ret
    exact ⟨_, _, rfl, unhide hq⟩
  | false =>
    rw [dat_ok hb]
    rw [hb] at p1
    clear hb HC
    obtain ⟨n1, hn1⟩ : ∃ n, c.cl.length = n := ⟨_, rfl⟩
    rw [hn1] at f3 HP ⊢
    generalize c.sp.length = n2 at *
    go_enter Try.func54, Try.ntmps54
    go_wp2_with fail
    refine (unhide HP).mono ?_
    rintro e W1 ⟨a, k, rfl, hq⟩
    replace hq := hide hq
    go_wp2
    go_ret
    exact ⟨_, _, rfl, unhide hq⟩

end Go.Proofs.Yteomalmflebkhaa
