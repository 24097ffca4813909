/-
  Rows of bytes compared.
-/
import Derived.Test.YtkffonoifbaifaaGreatZFB
set_option linter.unusedSimpArgs false
set_option linter.unusedVariables false
namespace Go.Proofs.YtkffonoifbaifaaGreat
open Go.RowKit Go.Lib

theorem neqB (x y : Nat) : ((x : Int) == (y : Int)) = decide (x = y) := by
  rw [Bool.eq_iff_iff]
  simp
  omega

set_option maxRecDepth 100000 in
set_option maxHeartbeats 4000000 in
theorem bytes_in (l m : List Nat) (v u : Value) (w : World) (hv : RB w v l) (hu : RB w u m) (hl : l.length ≤ 140737488355328) (hm : m.length ≤ 140737488355328) :
    Calls Tryz.prog 7 #[v, u] w fun e W => e = .returned (.bool (decide (l = m))) ∧ ∃ n, W = w.drewN n := by
  obtain ⟨a, c, rfl⟩ := RC.form hv
  obtain ⟨a', c', rfl⟩ := RC.form hu
  by_cases hne : l.length = m.length
  · have Hv := hide hv
    have Hu := hide hu
    obtain ⟨L, hL⟩ : ∃ L, l.length = L := ⟨_, rfl⟩
    rw [← hne] at hm ⊢
    have HM := hide (hne.symm.trans hL)
    rw [hL] at hl hm ⊢
    have HL := hide hL
    obtain ⟨D, hD⟩ : ∃ D, decide (l = m) = D := ⟨_, rfl⟩
    rw [hD]
    replace hD := hide hD
    clear hv hu hL hne
    go_enter Tryz.func7, Tryz.ntmps7
    go_wp2
    go_loopw [5] (fun iv wr => ∃ i n : Nat, i ≤ L ∧ iv = .int .i64 (i : Nat) ∧ Hid (l.take i = m.take i) ∧ wr = w.drewN n) (fun iv _ => L - (RowKit.intOf iv).toNat)
    case atStart => exact ⟨0, 0, by omega, rfl, hide rfl, rfl⟩
    case round =>
      obtain ⟨i, nd, hi, rfl, htk, rfl⟩ := hrel
      by_cases hlt : i < L
      · have hlt' : i < l.length := by rw [unhide HL]; exact hlt
        have hlt'' : i < m.length := by rw [unhide HM]; exact hlt
        have hA := unhide Hv
        have hB := unhide Hu
        rw [unhide HL] at hA
        rw [unhide HM] at hB
        obtain ⟨b, off, rfl, b0, c0⟩ := RB.at hA (List.getElem?_eq_getElem hlt')
        obtain ⟨b', off', rfl, b1, d0⟩ := RB.at hB (List.getElem?_eq_getElem hlt'')
        have i1 : (i : Int) < (L : Int) := by omega
        clear hA hB Hv Hu
        have hnq := neqB l[i] m[i]
        by_cases he : l[i] = m[i]
        · have hde : decide (l[i] = m[i]) = true := decide_eq_true he
          rw [hde] at hnq
          have htk' : l.take (i + 1) = m.take (i + 1) := by
            rw [List.take_add_one, List.take_add_one, unhide htk, List.getElem?_eq_getElem hlt', List.getElem?_eq_getElem hlt'', he]
          have Htk' := hide htk'
          clear he hde htk'
          generalize l[i] = e at *
          generalize m[i] = e' at *
          have _t := hlt
          (try simp only at *)
          go_wp2
          go_quiet (fail)
          go_wp2
          go_roundw
          case rel => exact ⟨i + 1, _, by omega, by go_num, hide (unhide Htk'), rfl⟩
          case measure => simp [RowKit.intOf]; omega
        · have hde : decide (l[i] = m[i]) = false := decide_eq_false he
          rw [hde] at hnq
          have Hfin := hide (show D = false by
            rw [← unhide hD, decide_eq_false_iff_not]
            intro e
            subst e
            exact he rfl)
          clear he hde
          generalize l[i] = e at *
          generalize m[i] = e' at *
          have _t := hlt
          (try simp only at *)
          go_wp2
          go_quiet (fail)
          go_wp2
          go_ret
          exact ⟨by rw [unhide Hfin]; rfl, nd + nq, World.drewN_drewN _ _ _⟩
      · have Hfin := hide (show D = true by
          have h := unhide htk
          rw [List.take_of_length_le (by rw [unhide HL]; omega), List.take_of_length_le (by rw [unhide HM]; omega)] at h
          rw [← unhide hD]
          exact decide_eq_true h)
        have i1 : ¬ (i : Int) < (L : Int) := by omega
        go_wp2
        go_ret
        exact ⟨by rw [unhide Hfin]; rfl, nd, rfl⟩
  · have hd : decide (l = m) = false := by rw [decide_eq_false_iff_not]; intro e; exact hne (by rw [e])
    rw [hd]
    have hne' : ((l.length : Int) == (m.length : Int)) = false := by rw [beq_eq_false_iff_ne]; omega
    clear hd hv hu hne
    generalize l.length = L at *
    generalize m.length = M at *
    go_enter Tryz.func7, Tryz.ntmps7
    go_wp2
    go_ret
    exact ⟨rfl, 0, rfl⟩

theorem neqR (x y : (Int × Int) × Int) (w : World) : (binOp .neq 92 (.agg #[.int .i64 x.1.1, .int .i64 x.1.2, .int .i64 x.2]) (.agg #[.int .i64 y.1.1, .int .i64 y.1.2, .int .i64 y.2])).run Tryz.prog w = .ok (.bool (!decide (x = y))) w := by
  obtain ⟨⟨t, s⟩, c⟩ := x
  obtain ⟨⟨t', s'⟩, c'⟩ := y
  simp only
  by_cases h1 : t = t'
  · subst h1
    by_cases h2 : s = s'
    · subst h2
      by_cases h3 : c = c'
      · subst h3
        simp [go_sem]
      · have hd : decide ((((t, s), c) : (Int × Int) × Int) = ((t, s), c')) = false := by rw [decide_eq_false_iff_not]; intro e; exact h3 (by simpa using e)
        rw [hd]
        simp [go_sem, h3]
    · have hd : decide ((((t, s), c) : (Int × Int) × Int) = ((t, s'), c')) = false := by rw [decide_eq_false_iff_not]; intro e; simp at e; exact h2 e.1
      rw [hd]
      simp [go_sem, h2]
  · have hd : decide ((((t, s), c) : (Int × Int) × Int) = ((t', s'), c')) = false := by rw [decide_eq_false_iff_not]; intro e; simp at e; exact h1 e.1.1
    rw [hd]
    simp [go_sem, h1]

end Go.Proofs.YtkffonoifbaifaaGreat
