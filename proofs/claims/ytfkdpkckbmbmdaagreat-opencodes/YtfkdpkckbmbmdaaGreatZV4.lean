/-
  Check, Get, Has, Covers, Merge, Least, Sum, Add.
-/
import Derived.Test.YtfkdpkckbmbmdaaGreatZV3
set_option linter.unusedSimpArgs false
set_option linter.unusedVariables false
namespace Go.Proofs.YtfkdpkckbmbmdaaGreat
open Go.RowKit Go.Lib

theorem drop_at {α : Type} {l : List α} {i : Nat} {x : α} (h : l[i]? = some x) : l.drop i = x :: l.drop (i + 1) := by
  have hil := (List.getElem?_eq_some_iff.1 h).1
  rw [List.drop_eq_getElem_cons hil]
  congr 1
  rw [List.getElem?_eq_getElem hil] at h
  simpa using h

set_option maxRecDepth 100000 in
set_option maxHeartbeats 1000000 in
theorem Check_in (v : Value) (l : List (Int × Int)) (w : World) (h : RI w v l) (hl : l.length ≤ 140737488355328) :
    Calls Tryz.prog 59 #[v] w fun e W => e = .returned (.int .i64 (chk l)) ∧ Below w.heap.size w W := by
  obtain ⟨a, c, rfl⟩ := h.form
  have H := hide h
  clear h
  obtain ⟨n, hn⟩ : ∃ n, l.length = n := ⟨_, rfl⟩
  rw [hn] at hl H ⊢
  have Hn := hide hn
  clear hn
  obtain ⟨E, hE⟩ : ∃ E, chk l = E := ⟨_, rfl⟩
  rw [hE]
  have HE := hide hE
  clear hE
  go_enter Tryz.func59, Tryz.ntmps59
  go_wp2
  go_loopw [3, 8] (fun av iv wr => ∃ (ah : Int) (i : Nat), av = .int .i64 ah ∧ iv = .int .i64 (i : Nat) ∧ i ≤ n ∧ Hid (chkF ah (l.drop i) = E) ∧ Hid (Below w.heap.size w wr)) (fun _ iv _ => n - (intOf iv).toNat)
  case atStart => exact ⟨0, 0, rfl, rfl, by omega, hide (unhide HE), hide (Below.refl _ _)⟩
  case round =>
    obtain ⟨ah, i, rfl, rfl, hin, HC, HK⟩ := hrel
    by_cases hlt : i < n
    · have hlt' : (i : Int) < (n : Int) := by omega
      obtain ⟨x, hx⟩ : ∃ x, l[i]? = some x := ⟨_, List.getElem?_eq_getElem (by have := unhide Hn; omega)⟩
      obtain ⟨b, off, rfl, hb, q0, q1⟩ := (RI.below (unhide H) (unhide HK)).at hx
      rw [drop_at hx] at HC
      clear hx
      obtain ⟨x0, x1⟩ := x
      have HT := hide (fun W => isSite_in x0 W)
      have HQ := hide (fun W => isSeq_in x1 W)
      simp only at q0 q1
      by_cases hT : isT x0 = true
      · have kT : 1 ≤ x0 ∧ x0 ≤ 16 := by unfold isT at hT; simpa using hT
        rw [hT] at HT
        by_cases hQ : isQ x1 = true
        · have kQ : 1 ≤ x1 ∧ x1 ≤ 2147483647 := by unfold isQ at hQ; simpa using hQ
          rw [hQ] at HQ
          by_cases ho : x0 ≤ ah
          · have he : Hid (E = 9) := by
              rw [← unhide HC, chkF, if_neg (by simpa using kT), if_neg (by simpa using kQ), if_pos ho]; exact rfl
            clear kT kQ hT hQ
            go_wp2_with (first | (go_at_call 74; refine (unhide HT _).mono ?_; rintro e W1 ⟨rfl, rfl⟩) | (go_at_call 75; refine (unhide HQ _).mono ?_; rintro e W1 ⟨rfl, rfl⟩))
            go_ret
            exact ⟨by rw [unhide he]; rfl, ballc (unhide HK) _⟩
          · have HC2 : Hid (chkF x0 (l.drop (i + 1)) = E) := by
              rw [← unhide HC, chkF, if_neg (by simpa using kT), if_neg (by simpa using kQ), if_neg ho]; exact rfl
            clear kT kQ hT hQ
            go_wp2_with (first | (go_at_call 74; refine (unhide HT _).mono ?_; rintro e W1 ⟨rfl, rfl⟩) | (go_at_call 75; refine (unhide HQ _).mono ?_; rintro e W1 ⟨rfl, rfl⟩))
            go_roundw
            case measure => show n - ((i : Int) + 1).toNat < n - ((i : Nat) : Int).toNat; omega
            case rel => exact ⟨x0, i + 1, rfl, by go_num, by omega, HC2, hide (ballc (unhide HK) _)⟩
        · have kQ : ¬ (1 ≤ x1 ∧ x1 ≤ 2147483647) := by unfold isQ at hQ; simpa using hQ
          rw [show isQ x1 = false by simpa using hQ] at HQ
          have he : Hid (E = 6) := by
            rw [← unhide HC, chkF, if_neg (by simpa using kT), if_pos (by simpa using kQ)]; exact rfl
          clear kT kQ hT hQ
          go_wp2_with (first | (go_at_call 74; refine (unhide HT _).mono ?_; rintro e W1 ⟨rfl, rfl⟩) | (go_at_call 75; refine (unhide HQ _).mono ?_; rintro e W1 ⟨rfl, rfl⟩))
          go_ret
          exact ⟨by rw [unhide he]; rfl, ballc (unhide HK) _⟩
      · have kT : ¬ (1 ≤ x0 ∧ x0 ≤ 16) := by unfold isT at hT; simpa using hT
        rw [show isT x0 = false by simpa using hT] at HT
        have he : Hid (E = 1) := by
          rw [← unhide HC, chkF, if_pos (by simpa using kT)]; exact rfl
        clear kT hT
        go_wp2_with (first | (go_at_call 74; refine (unhide HT _).mono ?_; rintro e W1 ⟨rfl, rfl⟩) | (go_at_call 75; refine (unhide HQ _).mono ?_; rintro e W1 ⟨rfl, rfl⟩))
        go_ret
        exact ⟨by rw [unhide he]; rfl, ballc (unhide HK) _⟩
    · have hlt' : ¬ (i : Int) < (n : Int) := by omega
      have he : Hid (E = 0) := by
        rw [← unhide HC, List.drop_eq_nil_of_le (by have := unhide Hn; omega), chkF]; exact rfl
      go_wp2
      go_ret
      exact ⟨by rw [unhide he]; rfl, unhide HK⟩

set_option maxRecDepth 100000 in
theorem Get_in (v : Value) (l : List (Int × Int)) (site : Int) (w : World) (h : RI w v l) (hl : l.length ≤ 140737488355328) :
    Calls Tryz.prog 60 #[v, .int .i64 site] w fun e W => e = .returned (.int .i64 (getV l site)) ∧ Below w.heap.size w W := by
  have HR := hide (read_in v l w h hl)
  obtain ⟨a, c, rfl⟩ := h.form
  have HT := hide (isSite_in site w)
  unfold getV
  by_cases hT : isT site = true
  · have kT : 1 ≤ site ∧ site ≤ 16 := by unfold isT at hT; simpa using hT
    rw [hT] at HT
    rw [if_pos kT]
    generalize sy l = s at *
    obtain ⟨k, rfl⟩ : ∃ k : Nat, site = (k : Int) := ⟨site.toNat, by omega⟩
    have hi := fun W => index17 s k (by omega) W
    rw [Int.toNat_natCast]
    clear hT kT h
    go_enter Tryz.func60, Tryz.ntmps60
    go_wp2_with (first | (go_at_call 74; refine (unhide HT).mono ?_; rintro e W1 ⟨rfl, rfl⟩) | (go_at_call 68; refine (unhide HR).mono ?_; rintro e W1 ⟨rfl, hb⟩; replace hb := hide hb))
    go_ret
    exact ⟨rfl, unhide hb⟩
  · have kT : ¬ (1 ≤ site ∧ site ≤ 16) := by unfold isT at hT; simpa using hT
    rw [show isT site = false by simpa using hT] at HT
    rw [if_neg kT]
    clear hT kT h HR
    go_enter Tryz.func60, Tryz.ntmps60
    go_wp2_with (go_at_call 74; refine (unhide HT).mono ?_; rintro e W1 ⟨rfl, rfl⟩)
    go_ret
    exact ⟨rfl, Below.refl _ _⟩

end Go.Proofs.YtfkdpkckbmbmdaaGreat
