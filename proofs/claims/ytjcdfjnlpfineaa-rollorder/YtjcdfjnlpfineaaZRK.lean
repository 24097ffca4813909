/-
  The law's own: ints, do, same; rolls in new memory; what the document fixes.
-/
import Derived.Test.YtjcdfjnlpfineaaZRH
set_option linter.unusedSimpArgs false
set_option linter.unusedVariables false
namespace Go.Proofs.Ytjcdfjnlpfineaa
open Go.RowKit Go.Lib

set_option maxRecDepth 100000 in
set_option maxHeartbeats 2000000 in
theorem ints_in (u v : Value) (l m : List Int) (w : World) (hu : RN w u l) (hv : RN w v m) (hl : l.length ≤ 1000000) (hm : m.length ≤ 1000000) : Calls Try.prog 20 #[u, v] w fun e W => e = .returned (.bool (decide (l = m))) ∧ Below w.heap.size w W := by
  obtain ⟨a, c, rfl⟩ := hu.form
  obtain ⟨a', c', rfl⟩ := hv.form
  by_cases hne : l.length = m.length
  · obtain ⟨D, hD⟩ : ∃ D, decide (l = m) = D := ⟨_, rfl⟩
    rw [hD]
    replace hD := hide hD
    obtain ⟨n, hn⟩ : ∃ n, l.length = n := ⟨_, rfl⟩
    have hn' : m.length = n := by omega
    have HL := hide hn
    have HM := hide hn'
    have HU := hide hu
    have HV := hide hv
    rw [hn, hn']
    rw [hn] at hl
    clear hn hn' hne hm hu hv
    go_enter Try.func20, Try.ntmps20
    go_wp2
    go_loopw [5] (fun iv wr => ∃ i : Nat, i ≤ n ∧ iv = .int .i64 (i : Nat) ∧ Hid (l.take i = m.take i ∧ Below w.heap.size w wr)) (fun iv _ => n - (RowKit.intOf iv).toNat)
    case atStart => exact ⟨0, Nat.zero_le _, rfl, hide ⟨by simp, Below.refl _ _⟩⟩
    case round =>
      obtain ⟨i, hi, rfl, HI⟩ := hrel
      obtain ⟨htk, hb⟩ := unhide HI
      by_cases hlt : i < n
      · have hlt' : (i : Int) < (n : Int) := by omega
        have hi1 : i < l.length := by rw [unhide HL]; exact hlt
        have hi2 : i < m.length := by rw [unhide HM]; exact hlt
        have ru := (unhide HU).below hb
        have rv := (unhide HV).below hb
        rw [show (Value.slice a l.length c) = .slice a n c by rw [unhide HL]] at ru
        rw [show (Value.slice a' m.length c') = .slice a' n c' by rw [unhide HM]] at rv
        obtain ⟨b1, o1, rfl, _, k1⟩ := RN.at ru (List.getElem?_eq_getElem hi1)
        obtain ⟨b2, o2, rfl, _, k2⟩ := RN.at rv (List.getElem?_eq_getElem hi2)
        by_cases he : l[i] = m[i]
        · have hnq : (l[i] != m[i]) = false := by simpa using he
          have htk' : l.take (i + 1) = m.take (i + 1) := by
            rw [List.take_add_one, List.take_add_one, htk, List.getElem?_eq_getElem hi1, List.getElem?_eq_getElem hi2, he]
          have Htk' := hide htk'
          clear he htk' htk hb ru rv
          generalize l[i] = e at *
          generalize m[i] = e' at *
          go_wp2
          go_quiet (fail)
          go_wp2
          go_roundw
          case rel => exact ⟨i + 1, by omega, by go_num, hide ⟨unhide Htk', bdrew (unhide HI).2 _⟩⟩
          case measure => show n - ((i : Int) + 1).toNat < n - ((i : Nat) : Int).toNat; omega
        · have hnq : (l[i] != m[i]) = true := by simpa using he
          have Hfin := hide (show D = false by
            rw [← unhide hD, decide_eq_false_iff_not]
            intro e
            subst e
            exact he rfl)
          clear he htk hb ru rv
          generalize l[i] = e at *
          generalize m[i] = e' at *
          go_wp2
          go_quiet (fail)
          go_wp2
          go_ret
          exact ⟨by rw [unhide Hfin]; rfl, bdrew (unhide HI).2 _⟩
      · have Hfin := hide (show D = true by
          rw [List.take_of_length_le (by rw [unhide HL]; omega), List.take_of_length_le (by rw [unhide HM]; omega)] at htk
          rw [← unhide hD]
          exact decide_eq_true htk)
        have i1 : ¬ (i : Int) < (n : Int) := by omega
        clear htk hb
        go_wp2
        go_ret
        exact ⟨by rw [unhide Hfin]; rfl, (unhide HI).2⟩
  · have hd : decide (l = m) = false := by rw [decide_eq_false_iff_not]; intro e; exact hne (by rw [e])
    rw [hd]
    have hne' : ((l.length : Int) != (m.length : Int)) = true := by simp; omega
    clear hd hu hv hne
    generalize l.length = L at *
    generalize m.length = M at *
    go_enter Try.func20, Try.ntmps20
    go_wp2
    go_ret
    exact ⟨rfl, Below.refl _ _⟩

theorem RN.new (W : World) (l : List Int) : RN (W.alloc (.cells (nC l).toArray 3)) (.slice (some ⟨W.heap.size, 0, none⟩) l.length l.length) l := by
  have hb := Bx.new W 3 (nC l).toArray
  exact .inr ⟨W.heap.size, 0, l.length, rfl, Nat.le_refl _, hb.lt, fun j x hx => by rw [Nat.zero_add]; exact hb.cell j x (by rw [← hx]; simp)⟩

end Go.Proofs.Ytjcdfjnlpfineaa
