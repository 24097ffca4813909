/-
  The document's own Weight.
-/
import Derived.Test.YtlbgfcbhpmhhpaaZH1
import Derived.Test.YtlbgfcbhpmhhpaaZRefUse
set_option linter.unusedSimpArgs false
set_option linter.unusedVariables false
namespace Go.Proofs.Ytlbgfcbhpmhhpaa
open Go.RowKit Go.Lib

theorem wtL_top : ∀ l : List Ed, wtL 9223372036854775807 l = 9223372036854775807
  | [] => rfl
  | e :: l => by
    show wtL (addI (addI 9223372036854775807 (max e.2.1 0)) (((allL e.2.2).length : Nat) : Int)) l = _
    have e1 : addI (addI 9223372036854775807 (max e.2.1 0)) (((allL e.2.2).length : Nat) : Int) = 9223372036854775807 := by unfold addI; omega
    rw [e1]
    exact wtL_top l

set_option maxRecDepth 100000 in
set_option maxHeartbeats 4000000 in
theorem refWeight_in (l : List Ed) (v : Value) (w : World) (h : RE w v l) (hl : l.length ≤ 1000000000) (hok : ∀ e ∈ l, EdOk e) :
    Calls Try.prog 19 #[v] w fun e W => e = .returned (.int .i64 (wtL 0 l)) ∧ Below w.heap.size w W := by
  rcases h with ⟨rfl, a, cap, rfl⟩ | ⟨b, off, cap, rfl, hc⟩
  · go_enter Try.func19, Try.ntmps19
    go_wp2
    go_loopw [3, 4] (fun nv iv wr => nv = .int .i64 0 ∧ iv = .int .i64 0 ∧ wr = w) (fun _ _ _ => 0)
    case atStart => exact ⟨rfl, rfl, rfl⟩
    case round =>
      obtain ⟨rfl, rfl, rfl⟩ := hrel
      go_wp2
      go_ret
      exact ⟨rfl, Below.refl _ _⟩
  · have Hc := hide hc
    have Hok := hide hok
    obtain ⟨L, hL⟩ : ∃ L, l.length = L := ⟨_, rfl⟩
    rw [hL] at hl ⊢
    have HL := hide hL
    clear hc hok hL
    go_enter Try.func19, Try.ntmps19
    go_wp2
    go_loopw [3, 4] (fun nv iv wr => ∃ (i : Nat) (n : Int), i ≤ L ∧ iv = .int .i64 (i : Nat) ∧ nv = .int .i64 n ∧ 0 ≤ n ∧ n ≤ 9223372036854775807 ∧ Hid (wtL n (l.drop i) = wtL 0 l) ∧ Below w.heap.size w wr) (fun _ iv _ => L - (RowKit.intOf iv).toNat)
    case atStart => exact ⟨0, 0, by omega, rfl, rfl, by omega, by omega, hide rfl, Below.refl _ _⟩
    case round =>
      obtain ⟨i, n, hi, rfl, rfl, hn0, hn1, hw, hB⟩ := hrel
      have hsz := hB.size
      by_cases hlt : i < L
      · have hlt' : i < l.length := by rw [unhide HL]; exact hlt
        obtain ⟨c0, c1, c2⟩ := unhide Hc i _ (List.getElem?_eq_getElem hlt')
        have hstep : wtL n (l.drop i) = wtL (addI (addI n (max l[i].2.1 0)) ((allL l[i].2.2).length : Nat)) (l.drop (i + 1)) := by rw [List.drop_eq_getElem_cons hlt']; rfl
        have hek := unhide Hok _ (List.getElem_mem hlt')
        obtain ⟨⟨k, d, t⟩, he⟩ : ∃ e, l[i] = e := ⟨_, rfl⟩
        rw [he] at c0 c1 c2 hstep hek
        simp only at c0 c1 c2 hstep
        obtain ⟨hk1, hk2, hk3, hk4, hk5⟩ := hek
        simp only at hk1 hk2 hk3 hk4 hk5
        have c1' := cell_below c1 hB
        have c2' := cell_below c2 hB
        have b0' := World.block_lt_of_cell? _ _ c1'
        simp only at b0'
        have i1 : (i : Int) < (L : Int) := by omega
        have hcl := allL_length t
        obtain ⟨T, hT⟩ : ∃ T, (allL t).length = T := ⟨_, rfl⟩
        have hcnt := fun W => hide (refCount_in t (by omega) W)
        simp only [hT] at hcnt
        rw [hT] at hstep hcl
        rw [unhide hw] at hstep
        have Hstep := hide hstep
        have C1 := hide c1
        clear c0 c1 c2 hstep he hT hw
        go_wp2_with fail
        refine (unhide (hcnt _)).mono ?_
        rintro e W2 ⟨rfl, hB2⟩
        have hBn := hB.trans (hB2.mono hsz)
        have c1'' := cell_below (unhide C1) hBn
        have b0'' := World.block_lt_of_cell? _ _ c1''
        simp only at b0''
        obtain ⟨m, hm⟩ : ∃ m, max d 0 = m := ⟨_, rfl⟩
        have hm0 : 0 ≤ m ∧ m ≤ 9223372036854775807 := by omega
        clear hB2 c1' c2' b0'
        by_cases h1 : 9223372036854775807 - n < m
        · have hfin : wtL 0 l = 9223372036854775807 := by
            rw [unhide Hstep, hm]
            have e1 : addI (addI n m) ((T : Nat) : Int) = 9223372036854775807 := by unfold addI; omega
            rw [e1]; exact wtL_top _
          have Hfin := hide hfin
          clear hfin
          go_wp2
          all_goals first | (exfalso; omega) | (go_ret; exact ⟨by rw [unhide Hfin]; rfl, hBn⟩)
        · by_cases h2 : 9223372036854775807 - n - m < (T : Int)
          · have hfin : wtL 0 l = 9223372036854775807 := by
              rw [unhide Hstep, hm]
              have e1 : addI (addI n m) ((T : Nat) : Int) = 9223372036854775807 := by unfold addI; omega
              rw [e1]; exact wtL_top _
            have Hfin := hide hfin
            clear hfin
            go_wp2
            all_goals first | (exfalso; omega) | (go_ret; exact ⟨by rw [unhide Hfin]; rfl, hBn⟩)
          · have hst : wtL (n + m + (T : Int)) (l.drop (i + 1)) = wtL 0 l := by
              rw [unhide Hstep, hm]
              congr 1
              unfold addI; omega
            have Hst := hide hst
            clear hst
            go_wp2
            all_goals first
              | (exfalso; omega)
              | exact ⟨⟨i + 1, n + m + (T : Int), by omega, by go_num, rfl, by omega, by omega, hide (unhide Hst), hBn⟩, by simp [RowKit.intOf]; omega⟩
      · have hd : l.drop i = [] := List.drop_eq_nil_of_le (by rw [unhide HL]; omega)
        have hr : n = wtL 0 l := by
          have := unhide hw
          rw [hd] at this
          exact this
        have Hr := hide hr
        clear hd hr
        go_wp2
        go_ret
        exact ⟨by rw [← unhide Hr]; rfl, hB⟩

end Go.Proofs.Ytlbgfcbhpmhhpaa
