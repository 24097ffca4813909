/-
  Two changes, held against each other.
-/
import Derived.Test.YtlbgfcbhpmhhpabZE5
import Derived.Test.YtlbgfcbhpmhhpabZRt2
import Derived.Laws.StructEq
set_option linter.unusedSimpArgs false
set_option linter.unusedVariables false
namespace Go.Proofs.Ytlbgfcbhpmhhpab
open Go.RowKit Go.Lib

theorem toList_ne {t t' : ByteArray} (h : t ≠ t') : (t.toList == t'.toList) = false := by
  rw [beq_eq_false_iff_ne]
  exact fun e => h (toList_inj e)

theorem neqE (e e' : Ed) (w : World) : (binOp .neq 31 (.agg #[.int .i64 e.1, .int .i64 e.2.1, .string e.2.2]) (.agg #[.int .i64 e'.1, .int .i64 e'.2.1, .string e'.2.2])).run Try.prog w = .ok (.bool (!decide (e = e'))) w := by
  obtain ⟨k, d, t⟩ := e
  obtain ⟨k', d', t'⟩ := e'
  simp only
  by_cases h1 : k = k'
  · subst h1
    by_cases h2 : d = d'
    · subst h2
      by_cases h3 : t = t'
      · subst h3
        simp [go_sem]
      · have hf := toList_ne h3
        have hd : decide (((k, d, t) : Ed) = (k, d, t')) = false := by rw [decide_eq_false_iff_not]; intro e; exact h3 (by simpa using e)
        rw [hd]
        simp [go_sem, hf]
    · have hd : decide (((k, d, t) : Ed) = (k, d', t')) = false := by rw [decide_eq_false_iff_not]; intro e; exact h2 (by simp at e; exact e.1)
      rw [hd]
      simp [go_sem, h2]
  · have hd : decide (((k, d, t) : Ed) = (k', d', t')) = false := by rw [decide_eq_false_iff_not]; intro e; exact h1 (by simp at e; exact e.1)
    rw [hd]
    simp [go_sem, h1]

theorem ne_len {l m : List Ed} (h : l.length ≠ m.length) : decide (l = m) = false := by
  rw [decide_eq_false_iff_not]; intro e; exact h (by rw [e])

set_option maxRecDepth 100000 in
set_option maxHeartbeats 4000000 in
theorem eqE_in (l m : List Ed) (v u : Value) (w : World) (hv : RE w v l) (hu : RE w u m) (hl : l.length ≤ 1000000000) (hm : m.length ≤ 1000000000) :
    Calls Try.prog 7 #[v, u] w fun e W => e = .returned (.bool (decide (l = m))) ∧ ∃ n, W = w.drewN n := by
  by_cases hne : l.length = m.length
  · rcases hv with ⟨rfl, a, cap, rfl⟩ | ⟨b, off, cap, rfl, hc⟩
    · obtain rfl : m = [] := List.eq_nil_of_length_eq_zero (by rw [← hne]; rfl)
      obtain ⟨a', cap', rfl⟩ := hu.form
      have hd : decide (([] : List Ed) = []) = true := by simp
      rw [hd]
      clear hd hu
      go_enter Try.func7, Try.ntmps7
      go_wp2
      go_loopw [5] (fun iv wr => iv = .int .i64 0 ∧ wr = w) (fun _ _ => 0)
      case atStart => exact ⟨rfl, rfl⟩
      case round =>
        obtain ⟨rfl, rfl⟩ := hrel
        go_wp2
        go_ret
        exact ⟨rfl, 0, rfl⟩
    · rcases hu with ⟨rfl, a', cap', rfl⟩ | ⟨b', off', cap', rfl, hc'⟩
      · obtain rfl : l = [] := List.eq_nil_of_length_eq_zero (by rw [hne]; rfl)
        have hd : decide (([] : List Ed) = []) = true := by simp
        rw [hd]
        clear hd hc
        go_enter Try.func7, Try.ntmps7
        go_wp2
        go_loopw [5] (fun iv wr => iv = .int .i64 0 ∧ wr = w) (fun _ _ => 0)
        case atStart => exact ⟨rfl, rfl⟩
        case round =>
          obtain ⟨rfl, rfl⟩ := hrel
          go_wp2
          go_ret
          exact ⟨rfl, 0, rfl⟩
      · have Hc := hide hc
        have Hc' := hide hc'
        obtain ⟨L, hL⟩ : ∃ L, l.length = L := ⟨_, rfl⟩
        rw [← hne] at hm ⊢
        have HM := hide (hne.symm.trans hL)
        rw [hL] at hl hm ⊢
        have HL := hide hL
        clear hc hc' hL hne
        go_enter Try.func7, Try.ntmps7
        go_wp2
        go_loopw [5] (fun iv wr => ∃ i n : Nat, i ≤ L ∧ iv = .int .i64 (i : Nat) ∧ Hid (l.take i = m.take i) ∧ wr = w.drewN n) (fun iv _ => L - (RowKit.intOf iv).toNat)
        case atStart => exact ⟨0, 0, by omega, rfl, hide rfl, rfl⟩
        case round =>
          obtain ⟨i, nd, hi, rfl, htk, rfl⟩ := hrel
          by_cases hlt : i < L
          · have hlt' : i < l.length := by rw [unhide HL]; exact hlt
            have hlt'' : i < m.length := by rw [unhide HM]; exact hlt
            obtain ⟨c0, c1, c2⟩ := unhide Hc i _ (List.getElem?_eq_getElem hlt')
            obtain ⟨d0, d1, d2⟩ := unhide Hc' i _ (List.getElem?_eq_getElem hlt'')
            have b0 := World.block_lt_of_cell? _ _ c0
            have b1 := World.block_lt_of_cell? _ _ d0
            simp only at b0 b1
            have i1 : (i : Int) < (L : Int) := by omega
            have hnq := neqE l[i] m[i]
            by_cases he : l[i] = m[i]
            · have hde : decide (l[i] = m[i]) = true := decide_eq_true he
              rw [hde] at hnq
              have htk' : l.take (i + 1) = m.take (i + 1) := by
                rw [List.take_add_one, List.take_add_one, unhide htk, List.getElem?_eq_getElem hlt', List.getElem?_eq_getElem hlt'', he]
              have Htk' := hide htk'
              clear he hde htk'
              generalize l[i] = e at *
              generalize m[i] = e' at *
              obtain ⟨k, d, t⟩ := e
              obtain ⟨k', d', t'⟩ := e'
              simp only at *
              go_wp2
              go_quiet (fail)
              go_wp2
              go_roundw
              case rel => exact ⟨i + 1, _, by omega, by go_num, hide (unhide Htk'), rfl⟩
              case measure => simp [RowKit.intOf]; omega
            · have hde : decide (l[i] = m[i]) = false := decide_eq_false he
              rw [hde] at hnq
              have hfin : decide (l = m) = false := by
                rw [decide_eq_false_iff_not]
                intro e
                subst e
                exact he rfl
              have Hfin := hide hfin
              clear he hde hfin
              generalize l[i] = e at *
              generalize m[i] = e' at *
              obtain ⟨k, d, t⟩ := e
              obtain ⟨k', d', t'⟩ := e'
              simp only at *
              go_wp2
              go_quiet (fail)
              go_wp2
              go_ret
              exact ⟨by rw [unhide Hfin]; rfl, nd + nq, World.drewN_drewN _ _ _⟩
          · have hfin : decide (l = m) = true := by
              have h := unhide htk
              rw [List.take_of_length_le (by rw [unhide HL]; omega), List.take_of_length_le (by rw [unhide HM]; omega)] at h
              exact decide_eq_true h
            have Hfin := hide hfin
            clear hfin
            go_wp2
            go_ret
            exact ⟨by rw [unhide Hfin]; rfl, _, rfl⟩
  · rw [ne_len hne]
    obtain ⟨a, cap, rfl⟩ := hv.form
    obtain ⟨a', cap', rfl⟩ := hu.form
    have hb : (((l.length : Nat) : Int) != ((m.length : Nat) : Int)) = true := by rw [bne_iff_ne]; omega
    generalize l.length = L at *
    generalize m.length = M at *
    clear hv hu hne
    go_enter Try.func7, Try.ntmps7
    go_wp2
    go_ret
    exact ⟨rfl, 0, rfl⟩

end Go.Proofs.Ytlbgfcbhpmhhpab
