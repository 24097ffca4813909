/-
  check and split.
-/
import Derived.Test.YtlbgfcbhpmhhpabZE1
import Derived.Test.YtlbgfcbhpmhhpabZXMake
import Derived.Test.YtlbgfcbhpmhhpabZCut
set_option linter.unusedSimpArgs false
set_option linter.unusedVariables false
namespace Go.Proofs.Ytlbgfcbhpmhhpab
open Go.RowKit Go.Lib

def chkL : Int → List Ed → Int
  | _, [] => 0
  | n, e :: l => if e.1 < 0 ∨ e.2.1 < 0 then 1 else if goodB e.2.2 = false then 2 else if n - e.1 < e.2.1 then 3 else chkL (n - (e.1 + e.2.1)) l
/-- why a change cannot be applied; 0: it can -/
def chk (s : ByteArray) (l : List Ed) : Int := if goodB s = false then 2 else chkL ((allL s).length : Nat) l

theorem goodB_dec (s : ByteArray) : goodB s = !decide (0 ≤ firstBad s (allL s)) := by
  unfold goodB
  by_cases h : 0 ≤ firstBad s (allL s)
  · simp [h]
  · simp [h]; omega

set_option maxRecDepth 100000 in
set_option maxHeartbeats 4000000 in
theorem check_in (s : ByteArray) (l : List Ed) (v : Value) (w : World) (h : RE w v l) (hs : s.size ≤ 1000000000) (hl : l.length ≤ 1000000000) (hok : ∀ e ∈ l, EdOk e) :
    Calls Try.prog 15 #[.string s, v] w fun e W => e = .returned (.int .i64 (chk s l)) ∧ Below w.heap.size w W := by
  have hb1 := fun W => hide (badAt_in s (by omega) W)
  have hc1 := fun W => hide (count_in s (by omega) W)
  have hl1 := allL_length s
  unfold chk
  cases hg : goodB s with
  | false =>
    have hf := goodB_false hg
    rw [if_pos rfl]
    generalize firstBad s (allL s) = F at hb1 hf
    have hfd : decide ((0 : Int) ≤ F) = true := decide_eq_true hf
    clear hg hc1
    obtain ⟨a, cap, rfl⟩ := h.form
    clear h
    go_enter Try.func15, Try.ntmps15
    go_wp2_with (go_at_call 10; refine (unhide (hb1 _)).mono ?_; rintro e W1 ⟨rfl, hB1⟩)
    go_ret
    exact ⟨rfl, hB1⟩
  | true =>
    have hf := goodB_true hg
    rw [if_neg (by decide)]
    generalize firstBad s (allL s) = F at hb1 hf
    have hfd : decide ((0 : Int) ≤ F) = false := decide_eq_false hf
    generalize (allL s).length = S at *
    clear hg
    rcases h with ⟨rfl, a, cap, rfl⟩ | ⟨b, off, cap, rfl, hc⟩
    · go_enter Try.func15, Try.ntmps15
      go_wp2_with fail
      refine (unhide (hb1 _)).mono ?_
      rintro e W1 ⟨rfl, hB1⟩
      go_wp2_with fail
      refine (unhide (hc1 _)).mono ?_
      rintro e W2 ⟨rfl, hB2⟩
      have hB : Below w.heap.size w W2 := hB1.trans (hB2.mono hB1.size)
      go_wp2
      go_loopw [15] (fun iv wr => iv = .int .i64 0 ∧ wr = W2) (fun _ _ => 0)
      case atStart => exact ⟨rfl, rfl⟩
      case round =>
        obtain ⟨rfl, rfl⟩ := hrel
        go_wp2
        go_ret
        exact ⟨rfl, hB⟩
    · have Hc := hide hc
      have Hok := hide hok
      obtain ⟨L, hL⟩ : ∃ L, l.length = L := ⟨_, rfl⟩
      rw [hL] at hl ⊢
      have HL := hide hL
      clear hc hok hL
      go_enter Try.func15, Try.ntmps15
      go_wp2_with fail
      refine (unhide (hb1 _)).mono ?_
      rintro e W1 ⟨rfl, hB1⟩
      go_wp2_with fail
      refine (unhide (hc1 _)).mono ?_
      rintro e W2 ⟨rfl, hB2⟩
      have hB0 : Below w.heap.size w W2 := hB1.trans (hB2.mono hB1.size)
      clear hb1 hc1
      go_wp2
      go_loopw [5, 15] (fun nv iv wr => ∃ (i : Nat) (n : Int), i ≤ L ∧ iv = .int .i64 (i : Nat) ∧ nv = .int .i64 n ∧ 0 ≤ n ∧ n ≤ (S : Int) ∧ Hid (chkL n (l.drop i) = chkL (S : Nat) l) ∧ Below w.heap.size w wr) (fun _ iv _ => L - (RowKit.intOf iv).toNat)
      case atStart => exact ⟨0, (S : Nat), by omega, rfl, rfl, by omega, by omega, hide rfl, hB0⟩
      case round =>
        obtain ⟨i, n, hi, rfl, rfl, hn0, hn1, hw, hB⟩ := hrel
        have hsz := hB.size
        by_cases hlt : i < L
        · have hlt' : i < l.length := by rw [unhide HL]; exact hlt
          obtain ⟨c0, c1, c2⟩ := unhide Hc i _ (List.getElem?_eq_getElem hlt')
          have b0 := World.block_lt_of_cell? _ _ c0
          simp only at b0
          have hstep : chkL n (l.drop i) = (if l[i].1 < 0 ∨ l[i].2.1 < 0 then 1 else if goodB l[i].2.2 = false then 2 else if n - l[i].1 < l[i].2.1 then 3 else chkL (n - (l[i].1 + l[i].2.1)) (l.drop (i + 1))) := by rw [List.drop_eq_getElem_cons hlt']; rfl
          have hek := unhide Hok _ (List.getElem_mem hlt')
          obtain ⟨⟨k, d, t⟩, he⟩ : ∃ e, l[i] = e := ⟨_, rfl⟩
          rw [he] at c0 c1 c2 hstep hek
          simp only at c0 c1 c2 hstep
          obtain ⟨hk1, hk2, hk3, hk4, hk5⟩ := hek
          simp only at hk1 hk2 hk3 hk4 hk5
          have c0' := cell_below c0 hB
          have c1' := cell_below c1 hB
          have c2' := cell_below c2 hB
          have b0' : b < wr.heap.size := by omega
          have i1 : (i : Int) < (L : Int) := by omega
          have hbt := fun W => hide (badAt_in t (by omega) W)
          rw [unhide hw] at hstep
          rw [goodB_dec] at hstep
          clear c0 c1 c2 he
          generalize firstBad t (allL t) = FT at *
          by_cases hk : k < 0
          · rw [if_pos (.inl hk)] at hstep
            have Hst := hide hstep
            clear hstep
            have hkd : decide (k < 0) = true := decide_eq_true hk
            go_wp2
            go_ret
            exact ⟨by rw [unhide Hst]; rfl, hB.alloc hsz _⟩
          · have hkd : decide (k < 0) = false := decide_eq_false hk
            by_cases hd : d < 0
            · rw [if_pos (.inr hd)] at hstep
              have Hst := hide hstep
              clear hstep
              have hdd : decide (d < 0) = true := decide_eq_true hd
              go_wp2
              go_ret
              exact ⟨by rw [unhide Hst]; rfl, hB.alloc hsz _⟩
            · have hdd : decide (d < 0) = false := decide_eq_false hd
              rw [if_neg (by omega)] at hstep
              by_cases hft : 0 ≤ FT
              · have hfd : decide (0 ≤ FT) = true := decide_eq_true hft
                rw [hfd, if_pos (by decide)] at hstep
                have Hst := hide hstep
                clear hstep
                go_wp2_with fail
                refine (unhide (hbt _)).mono ?_
                rintro e W3 ⟨rfl, hB3⟩
                go_wp2
                go_ret
                exact ⟨by rw [unhide Hst]; rfl, (hB.alloc hsz _).trans (hB3.mono (by simp; omega))⟩
              · have hfd : decide (0 ≤ FT) = false := decide_eq_false hft
                rw [hfd, if_neg (by decide)] at hstep
                have Hst := hide hstep
                clear hstep
                go_wp2_with fail
                refine (unhide (hbt _)).mono ?_
                rintro e W3 ⟨rfl, hB3⟩
                have hbx := ((Box3.new wr (.int .i64 k) (.int .i64 d) (.string t)).below hB3)
                obtain ⟨x0, x1, x2⟩ := hbx.facts
                have hxl := hbx.lt
                have hBn : Below w.heap.size w W3 := (hB.alloc hsz _).trans (hB3.mono (by simp; omega))
                by_cases hx : n - k < d
                · have hst := unhide Hst
                  rw [if_pos hx] at hst
                  have Hst2 := hide hst
                  clear hst Hst
                  have hxd : decide (n - k < d) = true := decide_eq_true hx
                  clear hB3 hbx
                  go_wp2
                  go_ret
                  exact ⟨by rw [unhide Hst2]; rfl, hBn⟩
                · have hst := unhide Hst
                  rw [if_neg hx] at hst
                  have hxd : decide (n - k < d) = false := decide_eq_false hx
                  have Hst2 := hide hst
                  clear hst Hst hB3 hbx
                  go_wp2
                  go_roundw
                  case rel => exact ⟨i + 1, n - (k + d), by omega, by go_num, rfl, by omega, by omega, hide (unhide Hst2).symm, hBn⟩
                  case measure => simp [RowKit.intOf]; omega
        · have hd : l.drop i = [] := List.drop_eq_nil_of_le (by rw [unhide HL]; omega)
          have hr : (0 : Int) = chkL (S : Nat) l := by
            have := unhide hw
            rw [hd] at this
            exact this
          have Hr := hide hr
          clear hd hr
          go_wp2
          go_ret
          exact ⟨by rw [← unhide Hr]; rfl, hB⟩

theorem cutR_size (s : ByteArray) (n : Int) : (cutR s n).size ≤ s.size := by
  unfold cutR
  split
  · simp [ByteArray.size_extract]
  · exact Nat.zero_le _
theorem cutL_size (s : ByteArray) (n : Int) : (cutL s n).size ≤ s.size := by
  unfold cutL
  split
  · simp [ByteArray.size_extract]; omega
  · exact Nat.le_refl _

set_option maxRecDepth 100000 in
set_option maxHeartbeats 4000000 in
theorem split_in (s : ByteArray) (k d : Int) (t : ByteArray) (w : World) (hs : s.size ≤ 1000000000) (hok : EdOk (k, d, t)) :
    Calls Try.prog 16 #[.string s, .agg #[.int .i64 k, .int .i64 d, .string t]] w fun e W => e = .returned (.tuple #[.string (cutL s k), .string (cutL (cutR s k) d), .string (cutR (cutR s k) d)]) ∧ Below w.heap.size w W := by
  obtain ⟨hk1, hk2, hk3, hk4, hk5⟩ := hok
  simp only at hk1 hk2 hk3 hk4 hk5
  have hz := cutR_size s k
  have h1 := fun W => hide (cut_in s k (by omega) hk1 hk2 W)
  have h2 := fun W => hide (cut_in (cutR s k) d (by omega) hk3 hk4 W)
  generalize cutL s k = A at *
  generalize cutR s k = B at *
  generalize cutL B d = C at *
  generalize cutR B d = D at *
  go_enter Try.func16, Try.ntmps16
  go_wp2_with fail
  refine (unhide (h1 _)).mono ?_
  rintro e W1 ⟨rfl, hB1⟩
  have hbx := ((Box3.new w (.int .i64 k) (.int .i64 d) (.string t)).below hB1)
  obtain ⟨x0, x1, x2⟩ := hbx.facts
  have hxl := hbx.lt
  have hB : Below w.heap.size w W1 := ((Below.refl _ w).alloc (Nat.le_refl _) _).trans (hB1.mono (by simp))
  clear hB1 hbx
  go_wp2_with fail
  refine (unhide (h2 _)).mono ?_
  rintro e W2 ⟨rfl, hB2⟩
  go_wp2
  go_ret3
  exact ⟨rfl, hB.trans (hB2.mono hB.size)⟩

end Go.Proofs.Ytlbgfcbhpmhhpab
