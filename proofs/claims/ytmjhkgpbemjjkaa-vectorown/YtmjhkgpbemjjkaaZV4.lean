/-
  Check, Get, Has, Covers, Merge, Least, Sum, Add.
-/
import Derived.Test.YtmjhkgpbemjjkaaZV3
set_option linter.unusedSimpArgs false
set_option linter.unusedVariables false
namespace Go.Proofs.Ytmjhkgpbemjjkaa
open Go.RowKit Go.Lib

theorem drop_at {α : Type} {l : List α} {i : Nat} {x : α} (h : l[i]? = some x) : l.drop i = x :: l.drop (i + 1) := by
  have hil := (List.getElem?_eq_some_iff.1 h).1
  rw [List.drop_eq_getElem_cons hil]
  congr 1
  rw [List.getElem?_eq_getElem hil] at h
  simpa using h

set_option maxRecDepth 100000 in
set_option maxHeartbeats 1000000 in
theorem Check_in (v : Value) (l : List (Int × Int)) (w : World) (h : RI w v l) (hl : l.length ≤ 140737488355328) :
    Calls Try.prog 13 #[v] w fun e W => e = .returned (.int .i64 (chk l)) ∧ Below w.heap.size w W := by
  obtain ⟨a, c, rfl⟩ := h.form
  have H := hide h
  clear h
  obtain ⟨n, hn⟩ : ∃ n, l.length = n := ⟨_, rfl⟩
  rw [hn] at hl H ⊢
  have Hn := hide hn
  clear hn
  obtain ⟨E, hE⟩ : ∃ E, chk l = E := ⟨_, rfl⟩
  rw [hE]
  have HE := hide hE
  clear hE
  go_enter Try.func13, Try.ntmps13
  go_wp2
  go_loopw [3, 8] (fun av iv wr => ∃ (ah : Int) (i : Nat), av = .int .i64 ah ∧ iv = .int .i64 (i : Nat) ∧ i ≤ n ∧ Hid (chkF ah (l.drop i) = E) ∧ Hid (Below w.heap.size w wr)) (fun _ iv _ => n - (intOf iv).toNat)
  case atStart => exact ⟨0, 0, rfl, rfl, by omega, hide (unhide HE), hide (Below.refl _ _)⟩
  case round =>
    obtain ⟨ah, i, rfl, rfl, hin, HC, HK⟩ := hrel
    by_cases hlt : i < n
    · have hlt' : (i : Int) < (n : Int) := by omega
      obtain ⟨x, hx⟩ : ∃ x, l[i]? = some x := ⟨_, List.getElem?_eq_getElem (by have := unhide Hn; omega)⟩
      obtain ⟨b, off, rfl, hb, q0, q1⟩ := (RI.below (unhide H) (unhide HK)).at hx
      rw [drop_at hx] at HC
      clear hx
      obtain ⟨x0, x1⟩ := x
      have HT := hide (fun W => isSite_in x0 W)
      have HQ := hide (fun W => isSeq_in x1 W)
      simp only at q0 q1
      by_cases hT : isT x0 = true
      · have kT : 1 ≤ x0 ∧ x0 ≤ 16 := by unfold isT at hT; simpa using hT
        rw [hT] at HT
        by_cases hQ : isQ x1 = true
        · have kQ : 1 ≤ x1 ∧ x1 ≤ 2147483647 := by unfold isQ at hQ; simpa using hQ
          rw [hQ] at HQ
          by_cases ho : x0 ≤ ah
          · have he : Hid (E = 9) := by
              rw [← unhide HC, chkF, if_neg (by simpa using kT), if_neg (by simpa using kQ), if_pos ho]; exact rfl
            clear kT kQ hT hQ
            go_wp2_with (first | (go_at_call 46; refine (unhide HT _).mono ?_; rintro e W1 ⟨rfl, rfl⟩) | (go_at_call 50; refine (unhide HQ _).mono ?_; rintro e W1 ⟨rfl, rfl⟩))
            go_ret
            exact ⟨by rw [unhide he]; rfl, ballc (unhide HK) _⟩
          · have HC2 : Hid (chkF x0 (l.drop (i + 1)) = E) := by
              rw [← unhide HC, chkF, if_neg (by simpa using kT), if_neg (by simpa using kQ), if_neg ho]; exact rfl
            clear kT kQ hT hQ
            go_wp2_with (first | (go_at_call 46; refine (unhide HT _).mono ?_; rintro e W1 ⟨rfl, rfl⟩) | (go_at_call 50; refine (unhide HQ _).mono ?_; rintro e W1 ⟨rfl, rfl⟩))
            go_roundw
            case measure => show n - ((i : Int) + 1).toNat < n - ((i : Nat) : Int).toNat; omega
            case rel => exact ⟨x0, i + 1, rfl, by go_num, by omega, HC2, hide (ballc (unhide HK) _)⟩
        · have kQ : ¬ (1 ≤ x1 ∧ x1 ≤ 2147483647) := by unfold isQ at hQ; simpa using hQ
          rw [show isQ x1 = false by simpa using hQ] at HQ
          have he : Hid (E = 6) := by
            rw [← unhide HC, chkF, if_neg (by simpa using kT), if_pos (by simpa using kQ)]; exact rfl
          clear kT kQ hT hQ
          go_wp2_with (first | (go_at_call 46; refine (unhide HT _).mono ?_; rintro e W1 ⟨rfl, rfl⟩) | (go_at_call 50; refine (unhide HQ _).mono ?_; rintro e W1 ⟨rfl, rfl⟩))
          go_ret
          exact ⟨by rw [unhide he]; rfl, ballc (unhide HK) _⟩
      · have kT : ¬ (1 ≤ x0 ∧ x0 ≤ 16) := by unfold isT at hT; simpa using hT
        rw [show isT x0 = false by simpa using hT] at HT
        have he : Hid (E = 1) := by
          rw [← unhide HC, chkF, if_pos (by simpa using kT)]; exact rfl
        clear kT hT
        go_wp2_with (first | (go_at_call 46; refine (unhide HT _).mono ?_; rintro e W1 ⟨rfl, rfl⟩) | (go_at_call 50; refine (unhide HQ _).mono ?_; rintro e W1 ⟨rfl, rfl⟩))
        go_ret
        exact ⟨by rw [unhide he]; rfl, ballc (unhide HK) _⟩
    · have hlt' : ¬ (i : Int) < (n : Int) := by omega
      have he : Hid (E = 0) := by
        rw [← unhide HC, List.drop_eq_nil_of_le (by have := unhide Hn; omega), chkF]; exact rfl
      go_wp2
      go_ret
      exact ⟨by rw [unhide he]; rfl, unhide HK⟩

set_option maxRecDepth 100000 in
theorem Get_in (v : Value) (l : List (Int × Int)) (site : Int) (w : World) (h : RI w v l) (hl : l.length ≤ 140737488355328) :
    Calls Try.prog 15 #[v, .int .i64 site] w fun e W => e = .returned (.int .i64 (getV l site)) ∧ Below w.heap.size w W := by
  have HR := hide (read_in v l w h hl)
  obtain ⟨a, c, rfl⟩ := h.form
  have HT := hide (isSite_in site w)
  unfold getV
  by_cases hT : isT site = true
  · have kT : 1 ≤ site ∧ site ≤ 16 := by unfold isT at hT; simpa using hT
    rw [hT] at HT
    rw [if_pos kT]
    generalize sy l = s at *
    obtain ⟨k, rfl⟩ : ∃ k : Nat, site = (k : Int) := ⟨site.toNat, by omega⟩
    have hi := fun W => index17 s k (by omega) W
    rw [Int.toNat_natCast]
    clear hT kT h
    go_enter Try.func15, Try.ntmps15
    go_wp2_with (first | (go_at_call 46; refine (unhide HT).mono ?_; rintro e W1 ⟨rfl, rfl⟩) | (go_at_call 45; refine (unhide HR).mono ?_; rintro e W1 ⟨rfl, hb⟩; replace hb := hide hb))
    go_ret
    exact ⟨rfl, unhide hb⟩
  · have kT : ¬ (1 ≤ site ∧ site ≤ 16) := by unfold isT at hT; simpa using hT
    rw [show isT site = false by simpa using hT] at HT
    rw [if_neg kT]
    clear hT kT h HR
    go_enter Try.func15, Try.ntmps15
    go_wp2_with (go_at_call 46; refine (unhide HT).mono ?_; rintro e W1 ⟨rfl, rfl⟩)
    go_ret
    exact ⟨rfl, Below.refl _ _⟩

set_option maxRecDepth 100000 in
theorem Covers_in (v u : Value) (l m : List (Int × Int)) (w : World) (h : RI w v l) (k : RI w u m) (hl : l.length ≤ 140737488355328) (hm : m.length ≤ 140737488355328) :
    Calls Try.prog 22 #[v, u] w fun e W => e = .returned (.bool (cov (sy l) (sy m))) ∧ Below w.heap.size w W := by
  have HC := hide (choosegreater_in v u l m w h k hl hm)
  have hq := fun W => eqA (mrg (sy l) (sy m)) (sy l) W
  have e : ((List.range 17).all fun i => mrg (sy l) (sy m) i == sy l i) = cov (sy l) (sy m) := by
    unfold cov mrg
    congr 1
    funext i
    rw [Bool.eq_iff_iff]
    simp
    omega
  rw [e] at hq
  clear e
  obtain ⟨a, c, rfl⟩ := h.form
  obtain ⟨a2, c2, rfl⟩ := k.form
  have H := hide h
  clear h k
  generalize cov (sy l) (sy m) = R at *
  obtain ⟨s, hs⟩ : ∃ s, sy l = s := ⟨_, rfl⟩
  rw [hs] at hq HC
  replace hs := hide hs
  go_enter Try.func22, Try.ntmps22
  go_wp2_with fail
  refine (unhide HC).mono ?_
  rintro e W1 ⟨rfl, hb1⟩
  have HR := hide (read_in _ l W1 ((unhide H).below hb1) hl)
  rw [unhide hs] at HR
  replace hb1 := hide hb1
  go_wp2_with fail
  refine (unhide HR).mono ?_
  rintro e W2 ⟨rfl, hb2⟩
  replace hb2 := hide hb2
  go_wp2
  go_ret
  exact ⟨rfl, bnext (unhide hb1) (unhide hb2)⟩

set_option maxRecDepth 100000 in
theorem Merge_in (v u : Value) (l m : List (Int × Int)) (w : World) (h : RI w v l) (k : RI w u m) (hl : l.length ≤ 140737488355328) (hm : m.length ≤ 140737488355328) :
    Calls Try.prog 24 #[v, u] w fun e W => ∃ v', e = .returned v' ∧ OwD W w.heap.size v' (vec (mrg (sy l) (sy m))) ∧ Below w.heap.size w W := by
  have HC := hide (choosegreater_in v u l m w h k hl hm)
  obtain ⟨a, c, rfl⟩ := h.form
  obtain ⟨a2, c2, rfl⟩ := k.form
  clear h k
  generalize mrg (sy l) (sy m) = s at *
  have HV := hide (fun W => vector_in s W)
  go_enter Try.func24, Try.ntmps24
  go_wp2_with fail
  refine (unhide HC).mono ?_
  rintro e W1 ⟨rfl, hb1⟩
  replace hb1 := hide hb1
  go_wp2_with fail
  refine (unhide HV _).mono ?_
  rintro e W2 ⟨v', rfl, ho, hb2⟩
  obtain ⟨av, cv, rfl⟩ := ho.form
  have HO := hide (show OwD W2 w.heap.size _ _ from ho.base (unhide hb1).size)
  replace hb2 := hide hb2
  clear ho
  go_wp2
  go_ret
  exact ⟨_, rfl, unhide HO, bnext (unhide hb1) (unhide hb2)⟩
set_option maxRecDepth 100000 in
theorem Least_in (v u : Value) (l m : List (Int × Int)) (w : World) (h : RI w v l) (k : RI w u m) (hl : l.length ≤ 140737488355328) (hm : m.length ≤ 140737488355328) :
    Calls Try.prog 26 #[v, u] w fun e W => ∃ v', e = .returned v' ∧ OwD W w.heap.size v' (vec (lst (sy l) (sy m))) ∧ Below w.heap.size w W := by
  have HC := hide (chooselesser_in v u l m w h k hl hm)
  obtain ⟨a, c, rfl⟩ := h.form
  obtain ⟨a2, c2, rfl⟩ := k.form
  clear h k
  generalize lst (sy l) (sy m) = s at *
  have HV := hide (fun W => vector_in s W)
  go_enter Try.func26, Try.ntmps26
  go_wp2_with fail
  refine (unhide HC).mono ?_
  rintro e W1 ⟨rfl, hb1⟩
  replace hb1 := hide hb1
  go_wp2_with fail
  refine (unhide HV _).mono ?_
  rintro e W2 ⟨v', rfl, ho, hb2⟩
  obtain ⟨av, cv, rfl⟩ := ho.form
  have HO := hide (show OwD W2 w.heap.size _ _ from ho.base (unhide hb1).size)
  replace hb2 := hide hb2
  clear ho
  go_wp2
  go_ret
  exact ⟨_, rfl, unhide HO, bnext (unhide hb1) (unhide hb2)⟩

set_option maxRecDepth 100000 in
theorem Sum_in (v : Value) (l : List (Int × Int)) (w : World) (h : RI w v l) (hl : l.length ≤ 140737488355328) :
    Calls Try.prog 19 #[v] w fun e W => e = .returned (.int .i64 (sum (sy l))) ∧ Below w.heap.size w W := by
  have HR := hide (read_in v l w h hl)
  have HG := hide (sy_good l)
  obtain ⟨a, c, rfl⟩ := h.form
  generalize sy l = s at *
  clear h
  go_enter Try.func19, Try.ntmps19
  go_wp2_with (go_at_call 45; refine (unhide HR).mono ?_; rintro e W1 ⟨rfl, hb⟩; replace hb := hide hb)
  go_loopw [3, 8] (fun sv iv wr => ∃ (k : Nat), sv = .int .i64 (sumN s k) ∧ iv = .int .i64 (k : Nat) ∧ k ≤ 17 ∧ wr = W1) (fun _ iv _ => 17 - (intOf iv).toNat)
  case atStart => exact ⟨0, rfl, rfl, by omega, rfl⟩
  case round =>
    obtain ⟨k, rfl, rfl, hk, rfl⟩ := hrel
    by_cases hlt : k < 17
    · have hlt' : (k : Int) < 17 := by omega
      have hi := fun W => index17 s k hlt W
      have h1 := sumN_in (unhide HG) k
      have h2 := (unhide HG).lo k
      have h3 := (unhide HG).hi k
      have h4 : wrap64 (sumN s k + s k) = sumN s k + s k := IntWalk.wrap64_in _ (by omega)
      have h5 : IntKind.i64.wrap (sumN s k + s k) = sumN s k + s k := IntWalk.i64_in _ (by omega)
      have h6 := hide (show sumN s (k + 1) = sumN s k + s k from rfl)
      generalize sumN s k = X at *
      generalize s k = Y at *
      go_wp2
      go_roundw
      case measure => show 17 - ((k : Int) + 1).toNat < 17 - ((k : Nat) : Int).toNat; omega
      case rel => exact ⟨k + 1, by rw [unhide h6], by go_num, by omega, by trivial⟩
    · have hlt' : ¬ (k : Int) < 17 := by omega
      obtain rfl : k = 17 := by omega
      go_wp2
      go_ret
      exact ⟨rfl, unhide hb⟩

end Go.Proofs.Ytmjhkgpbemjjkaa
