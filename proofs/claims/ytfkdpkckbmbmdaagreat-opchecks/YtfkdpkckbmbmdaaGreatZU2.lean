/-
  The document's own: Check, Get, Has, Sum, Covers.
-/
import Derived.Test.YtfkdpkckbmbmdaaGreatZU1
set_option linter.unusedSimpArgs false
set_option linter.unusedVariables false
namespace Go.Proofs.YtfkdpkckbmbmdaaGreat
open Go.RowKit Go.Lib

set_option maxRecDepth 100000 in
set_option maxHeartbeats 2000000 in
theorem refCheck_in (v : Value) (l : List (Int × Int)) (w : World) (h : RI w v l) (hl : l.length ≤ 140737488355328) :
    Calls Tryz.prog 41 #[v] w fun e W => e = .returned (.int .i64 (chk l)) ∧ Below w.heap.size w W := by
  obtain ⟨a, c, rfl⟩ := h.form
  have H := hide h
  clear h
  obtain ⟨n, hn⟩ : ∃ n, l.length = n := ⟨_, rfl⟩
  rw [hn] at hl H ⊢
  have Hn := hide hn
  clear hn
  obtain ⟨E, hE⟩ : ∃ E, chk l = E := ⟨_, rfl⟩
  rw [hE]
  have HE := hide hE
  clear hE
  go_enter Tryz.func41, Tryz.ntmps41
  go_wp2
  go_loopw [3] (fun iv wr => ∃ (ah : Int) (i m : Nat), iv = .int .i64 (i : Nat) ∧ i ≤ n ∧ Hid (chkF ah (l.drop i) = E) ∧ Hid ((i = 0 ∧ ah = 0) ∨ ∃ j y, i = j + 1 ∧ l[j]? = some y ∧ ah = y.1) ∧ wr = w.drewN m) (fun iv _ => n - (intOf iv).toNat)
  case atStart => exact ⟨0, 0, 0, rfl, by omega, hide (unhide HE), hide (.inl ⟨rfl, rfl⟩), rfl⟩
  case round =>
    obtain ⟨ah, i, m, rfl, hin, HC, HP, rfl⟩ := hrel
    by_cases hlt : i < n
    · have hlt' : (i : Int) < (n : Int) := by omega
      obtain ⟨x, hx⟩ : ∃ x, l[i]? = some x := ⟨_, List.getElem?_eq_getElem (by have := unhide Hn; omega)⟩
      have hbelow : Below w.heap.size w (w.drewN m) := bdrew (Below.refl _ _) m
      obtain ⟨b, off, rfl, hb, q0, q1⟩ := (unhide H).at hx
      rw [drop_at hx] at HC
      have HX := hide hx
      clear hx
      obtain ⟨x0, x1⟩ := x
      simp only at q0 q1
      by_cases h1 : x0 < 1
      · have he : Hid (E = 1) := by rw [← unhide HC, chkF, if_pos (by simp only; omega)]; exact rfl
        go_wp2
        go_ret
        exact ⟨by rw [unhide he]; rfl, hbelow⟩
      by_cases h2 : 16 < x0
      · have he : Hid (E = 1) := by rw [← unhide HC, chkF, if_pos (by simp only; omega)]; exact rfl
        go_wp2
        go_ret
        exact ⟨by rw [unhide he]; rfl, hbelow⟩
      by_cases h3 : x1 < 1
      · have he : Hid (E = 6) := by rw [← unhide HC, chkF, if_neg (by simp only; omega), if_pos (by simp only; omega)]; exact rfl
        go_wp2
        go_ret
        exact ⟨by rw [unhide he]; rfl, hbelow⟩
      by_cases h4 : 2147483647 < x1
      · have he : Hid (E = 6) := by rw [← unhide HC, chkF, if_neg (by simp only; omega), if_pos (by simp only; omega)]; exact rfl
        go_wp2
        go_ret
        exact ⟨by rw [unhide he]; rfl, hbelow⟩
      by_cases hi0 : i = 0
      · have ha : ah = 0 := by
          rcases unhide HP with ⟨_, e⟩ | ⟨j, y, e, _⟩
          · exact e
          · omega
        have HC2 : Hid (chkF x0 (l.drop (i + 1)) = E) := by rw [← unhide HC, chkF, if_neg (by simp only; omega), if_neg (by simp only; omega), if_neg (by simp only; omega)]; exact rfl
        have hd : decide (0 < i) = false := by simp; omega
        clear HP ha hi0
        go_wp2
        go_quiet (fail)
        go_wp2
        go_roundw
        case measure => show n - ((i : Int) + 1).toNat < n - ((i : Nat) : Int).toNat; omega
        case rel => exact ⟨x0, i + 1, _, by go_num, by omega, HC2, hide (.inr ⟨i, _, rfl, unhide HX, rfl⟩), rfl⟩
      · obtain ⟨j, rfl⟩ : ∃ j, i = j + 1 := ⟨i - 1, by omega⟩
        obtain ⟨y, hy, ha⟩ : ∃ y, l[j]? = some y ∧ ah = y.1 := by
          rcases unhide HP with ⟨e, _⟩ | ⟨j', y, e, hy, ha⟩
          · omega
          · obtain rfl : j' = j := by omega
            exact ⟨y, hy, ha⟩
        obtain ⟨b', off', eb, _, p0, _⟩ := (unhide H).at hy
        simp only [Option.some.injEq, Addr.mk.injEq, and_true] at eb
        obtain ⟨rfl, rfl⟩ := eb
        obtain ⟨y0, y1⟩ := y
        simp only at p0 ha
        subst ha
        have hj1 : (j : Int) < (n : Int) := by omega
        have hj2 : (0 : Int) < (j : Int) + 1 := by omega
        have hw1 : wrap64 ((j : Int) + 1 - 1) = (j : Int) := by rw [show (j : Int) + 1 - 1 = (j : Int) by omega]; exact IntWalk.wrap64_in _ (by omega)
        have hw2 : IntKind.i64.wrap ((j : Int) + 1 - 1) = (j : Int) := by rw [show (j : Int) + 1 - 1 = (j : Int) by omega]; exact IntWalk.i64_in _ (by omega)
        push_cast at *
        clear hy HP
        by_cases ho : x0 ≤ ah
        · have he : Hid (E = 9) := by rw [← unhide HC, chkF, if_neg (by simp only; omega), if_neg (by simp only; omega), if_pos ho]; exact rfl
          go_wp2
          go_quiet (fail)
          go_wp2
          go_ret
          exact ⟨by rw [unhide he]; rfl, bdrew hbelow _⟩
        · have HC2 : Hid (chkF x0 (l.drop (j + 1 + 1)) = E) := by rw [← unhide HC, chkF, if_neg (by simp only; omega), if_neg (by simp only; omega), if_neg ho]; exact rfl
          have ho' : decide (x0 ≤ ah) = false := by simpa using ho
          go_wp2
          go_quiet (fail)
          go_wp2
          go_roundw
          case measure => show n - ((j : Int) + 1 + 1).toNat < n - ((j : Int) + 1).toNat; omega
          case rel => exact ⟨x0, j + 1 + 1, _, by go_num, by omega, HC2, hide (.inr ⟨j + 1, _, rfl, unhide HX, rfl⟩), rfl⟩
    · have hlt' : ¬ (i : Int) < (n : Int) := by omega
      have he : Hid (E = 0) := by
        rw [← unhide HC, List.drop_eq_nil_of_le (by have := unhide Hn; omega), chkF]; exact rfl
      go_wp2
      go_ret
      exact ⟨by rw [unhide he]; rfl, bdrew (Below.refl _ _) _⟩

set_option maxRecDepth 100000 in
theorem refGet_in (v : Value) (l : List (Int × Int)) (site : Int) (w : World) (h : RI w v l) (hl : l.length ≤ 140737488355328) :
    Calls Tryz.prog 42 #[v, .int .i64 site] w fun e W => e = .returned (.int .i64 (getV l site)) ∧ Below w.heap.size w W := by
  have HR := hide (Says_in v l w h hl)
  obtain ⟨a, c, rfl⟩ := h.form
  clear h
  unfold getV
  by_cases h1 : site < 1
  · rw [if_neg (by omega)]
    go_enter Tryz.func42, Tryz.ntmps42
    go_wp2
    go_ret
    exact ⟨rfl, Below.refl _ _⟩
  by_cases h2 : 16 < site
  · rw [if_neg (by omega)]
    go_enter Tryz.func42, Tryz.ntmps42
    go_wp2
    go_ret
    exact ⟨rfl, Below.refl _ _⟩
  · rw [if_pos (by omega)]
    generalize sy l = s at *
    obtain ⟨k, rfl⟩ : ∃ k : Nat, site = (k : Int) := ⟨site.toNat, by omega⟩
    have hi := fun W => index17r s k (by omega) W
    rw [Int.toNat_natCast]
    go_enter Tryz.func42, Tryz.ntmps42
    go_wp2_with (go_at_call 62; refine (unhide HR).mono ?_; rintro e W1 ⟨rfl, hb⟩; replace hb := hide hb)
    go_ret
    exact ⟨rfl, unhide hb⟩

end Go.Proofs.YtfkdpkckbmbmdaaGreat
