/-
  number, Take: a vector is taken.
-/
import Derived.Test.YtkffonoifbaifaaGreatZV6
set_option linter.unusedSimpArgs false
set_option linter.unusedVariables false
namespace Go.Proofs.YtkffonoifbaifaaGreat
open Go.RowKit Go.Lib

/-- a number that must be least to most: it and the error, and what is left then -/
def tkN (st : List Nat × Int) (least most : Int) : (Nat × Int) × (List Nat × Int) :=
  if (rNum st.1 st.2).2.2 ≠ 0 then ((0, (rNum st.1 st.2).2.2), (rNum st.1 st.2).2) else if ((rNum st.1 st.2).1 : Int) < least ∨ most < ((rNum st.1 st.2).1 : Int) then ((0, 6), (rNum st.1 st.2).2) else (((rNum st.1 st.2).1, 0), (rNum st.1 st.2).2)

theorem tkN_ok {st : List Nat × Int} {least most : Int} (h : (tkN st least most).1.2 = 0) : least ≤ ((tkN st least most).1.1 : Int) ∧ ((tkN st least most).1.1 : Int) ≤ most := by
  unfold tkN at h ⊢
  split at h
  · rename_i h1; exact absurd h h1
  · rename_i h1
    split at h
    · simp at h
    · rename_i h2
      rw [if_neg h1, if_neg h2]
      show least ≤ ((rNum st.1 st.2).1 : Int) ∧ ((rNum st.1 st.2).1 : Int) ≤ most
      omega

theorem tkN_ways (st : List Nat × Int) (least most : Int) : ((rNum st.1 st.2).2.2 ≠ 0 ∧ tkN st least most = ((0, (rNum st.1 st.2).2.2), (rNum st.1 st.2).2)) ∨ ((rNum st.1 st.2).2.2 = 0 ∧ ((rNum st.1 st.2).1 : Int) < least ∧ tkN st least most = ((0, 6), (rNum st.1 st.2).2)) ∨ ((rNum st.1 st.2).2.2 = 0 ∧ ¬ ((rNum st.1 st.2).1 : Int) < least ∧ most < ((rNum st.1 st.2).1 : Int) ∧ tkN st least most = ((0, 6), (rNum st.1 st.2).2)) ∨ ((rNum st.1 st.2).2.2 = 0 ∧ ¬ ((rNum st.1 st.2).1 : Int) < least ∧ ¬ most < ((rNum st.1 st.2).1 : Int) ∧ tkN st least most = (((rNum st.1 st.2).1, 0), (rNum st.1 st.2).2)) := by
  unfold tkN
  generalize rNum st.1 st.2 = q
  obtain ⟨a, b, e⟩ := q
  by_cases h1 : e = 0
  · subst h1
    by_cases h2 : (a : Int) < least
    · exact .inr (.inl ⟨rfl, h2, by rw [if_neg (by simp), if_pos (.inl h2)]⟩)
    · by_cases h3 : most < (a : Int)
      · exact .inr (.inr (.inl ⟨rfl, h2, h3, by rw [if_neg (by simp), if_pos (.inr h3)]⟩))
      · exact .inr (.inr (.inr ⟨rfl, h2, h3, by rw [if_neg (by simp), if_neg (by simp only; omega)]⟩))
  · exact .inl ⟨h1, by rw [if_pos h1]⟩

set_option maxRecDepth 100000 in
set_option maxHeartbeats 1000000 in
theorem number_in {w : World} {p : Nat} {v : Value} {st : List Nat × Int} (least most : Int) (h : Rd w p v st.1 st.2) :
    Calls Tryz.prog 83 #[.pointer (some ⟨p, 0, none⟩), .int .i64 least, .int .i64 most] w fun r W => r = .returned (.tuple #[.int .i64 ((tkN st least most).1.1 : Nat), .int .i64 (tkN st least most).1.2]) ∧ ∃ v', Rd W p v' (tkN st least most).2.1 (tkN st least most).2.2 ∧ Kp (fun i => i = p) w W ∧ v'.ownBlock = v.ownBlock := by
  have HN := hide (rNumber_in h)
  clear h
  rcases tkN_ways st least most with ⟨h1, e⟩ | ⟨h1, h2, e⟩ | ⟨h1, h2, h3, e⟩ | ⟨h1, h2, h3, e⟩
  all_goals
    rw [e]
    clear e
    generalize rNum st.1 st.2 = q at *
    obtain ⟨a, l, e⟩ := q
    simp only at h1
    simp only at HN
    try simp only at h2
    try simp only at h3
    go_enter Tryz.func83, Tryz.ntmps83
    go_wp2_with fail
    refine (unhide HN).mono ?_
    rintro r W1 ⟨rfl, v1, h3', hk, ho⟩
    have HE := hide (rErr_in h3')
    replace h3' := hide h3'
    replace hk := hide hk
    replace ho := hide ho
  · have he : (e == 0) = false := by simpa using h1
    go_wp2_with (go_at_call 62; refine (unhide HE).mono ?_; rintro r W ⟨rfl, rfl⟩)
    refine bodyPost_ret (results_tmp2 rfl _ _ _) rfl ?_
    exact ⟨rfl, v1, unhide h3', unhide hk, unhide ho⟩
  all_goals
    subst h1
    go_wp2_with (go_at_call 62; refine (unhide HE).mono ?_; rintro r W ⟨rfl, rfl⟩)
    refine bodyPost_ret (results_tmp2 rfl _ _ _) rfl ?_
    exact ⟨rfl, v1, unhide h3', unhide hk, unhide ho⟩

set_option maxRecDepth 100000 in
theorem number_nil (w : World) (least most : Int) : Calls Tryz.prog 83 #[.pointer none, .int .i64 least, .int .i64 most] w fun r W => r = .returned (.tuple #[.int .i64 0, .int .i64 1]) ∧ w = W := by
  have HN := hide (rNumber_nil w)
  have HE := hide (rErr_nil w)
  go_enter Tryz.func83, Tryz.ntmps83
  go_wp2_with (first | (go_at_call 61; refine (unhide HN).mono ?_; rintro r W ⟨rfl, rfl⟩) | (go_at_call 62; refine (unhide HE).mono ?_; rintro r W ⟨rfl, rfl⟩))
  refine bodyPost_ret (results_tmp2 rfl _ _ _) rfl ?_
  exact ⟨rfl, rfl⟩
set_option maxRecDepth 100000 in
theorem Take_nil (w : World) : Calls Tryz.prog 63 #[.pointer none] w fun r W => r = .returned (.tuple #[.slice none 0 0, .int .i64 1]) ∧ w = W := by
  have HN := hide (number_nil w 0 16)
  go_enter Tryz.func63, Tryz.ntmps63
  go_wp2_with (go_at_call 83; refine (unhide HN).mono ?_; rintro r W ⟨rfl, rfl⟩)
  refine bodyPost_ret (results_tmp2 rfl _ _ _) rfl ?_
  exact ⟨rfl, rfl⟩

/-- so many Dots more, behind those of acc: the Dots, or the error; and what is left then -/
def tkL : Nat → Int → List (Int × Int) → List Nat × Int → (List (Int × Int) × Int) × (List Nat × Int)
  | 0, _, acc, st => ((acc, 0), st)
  | n + 1, site, acc, st => if (tkN st (site + 1) 16).1.2 ≠ 0 then (([], (tkN st (site + 1) 16).1.2), (tkN st (site + 1) 16).2) else if (tkN (tkN st (site + 1) 16).2 1 2147483647).1.2 ≠ 0 then (([], (tkN (tkN st (site + 1) 16).2 1 2147483647).1.2), (tkN (tkN st (site + 1) 16).2 1 2147483647).2) else tkL n ((tkN st (site + 1) 16).1.1 : Nat) (acc ++ [(((tkN st (site + 1) 16).1.1 : Int), ((tkN (tkN st (site + 1) 16).2 1 2147483647).1.1 : Int))]) (tkN (tkN st (site + 1) 16).2 1 2147483647).2
def takeV (st : List Nat × Int) : (List (Int × Int) × Int) × (List Nat × Int) := if (tkN st 0 16).1.2 ≠ 0 then (([], (tkN st 0 16).1.2), (tkN st 0 16).2) else tkL (tkN st 0 16).1.1 0 [] (tkN st 0 16).2

theorem vecN_stop {s : Nat → Int} {j : Nat} (h : ∀ i, j ≤ i → s i = 0) : ∀ k, vecN s (j + k) = vecN s j
  | 0 => rfl
  | k + 1 => by rw [← Nat.add_assoc, vecN_neg (by rw [h (j + k) (by omega)]; omega), vecN_stop h k]
theorem vecN_below {s : Nat → Int} {j : Nat} {x : Int} : ∀ k, k ≤ j → vecN (put1 s j x) k = vecN s k
  | 0, _ => rfl
  | k + 1, h => by rw [vecN_step, vecN_step, vecN_below k (by omega), put1_other _ _ _ _ (by omega)]
theorem vec_snoc {s : Nat → Int} {j : Nat} {x : Int} (hj : j < 17) (hx : 0 < x) (h : ∀ i, j ≤ i → s i = 0) : vec (put1 s j x) = vec s ++ [((j : Int), x)] := by
  have h1 : vec (put1 s j x) = vecN (put1 s j x) (j + 1) := by
    have := vecN_stop (s := put1 s j x) (j := j + 1) (fun i hi => by rw [put1_other _ _ _ _ (by omega)]; exact h i (by omega)) (17 - (j + 1))
    rw [show j + 1 + (17 - (j + 1)) = 17 by omega] at this
    exact this
  have h2 : vec s = vecN s j := by
    have := vecN_stop (s := s) (j := j) h (17 - j)
    rw [show j + (17 - j) = 17 by omega] at this
    exact this
  rw [h1, h2, vecN_pos (by rw [put1_self]; exact hx), put1_self, vecN_below j (by omega)]

/-- Dots that were taken so far: the last one's site -/
structure TkI (acc : List (Int × Int)) (site : Int) : Prop where
  same : vec (sy acc) = acc
  zero : ∀ i : Nat, site < (i : Int) → sy acc i = 0
  lo : 0 ≤ site
  hi : site ≤ 16
theorem TkI.none : TkI [] 0 := ⟨rfl, fun _ _ => rfl, by omega, by omega⟩
theorem TkI.sy_next {acc : List (Int × Int)} {site : Int} (h : TkI acc site) {a b : Nat} (h1 : site + 1 ≤ (a : Int)) (h2 : (a : Int) ≤ 16) (h3 : 1 ≤ (b : Int)) (h4 : (b : Int) ≤ 2147483647) : sy (acc ++ [((a : Int), (b : Int))]) = put1 (sy acc) a b := by
  have := h.lo
  rw [sy_snoc, syF, if_pos ((okD_iff _).2 ⟨⟨by show (1 : Int) ≤ (a : Int); omega, h2⟩, h3, h4⟩)]
  show put1 (sy acc) (a : Int).toNat (max (sy acc (a : Int).toNat) (b : Int)) = _
  rw [Int.toNat_natCast, h.zero a (by omega), show max (0 : Int) (b : Int) = (b : Int) by omega]
theorem TkI.next {acc : List (Int × Int)} {site : Int} (h : TkI acc site) {a b : Nat} (h1 : site + 1 ≤ (a : Int)) (h2 : (a : Int) ≤ 16) (h3 : 1 ≤ (b : Int)) (h4 : (b : Int) ≤ 2147483647) : TkI (acc ++ [((a : Int), (b : Int))]) a := by
  have e := h.sy_next h1 h2 h3 h4
  have := h.lo
  refine ⟨?_, fun i hi => ?_, by omega, h2⟩
  · rw [e, vec_snoc (by omega) (by omega) (fun i hi => h.zero i (by omega)), h.same]
  · rw [e, put1_other _ _ _ _ (by omega)]; exact h.zero i (by omega)

theorem tkL_bad1 {n : Nat} {site : Int} {acc : List (Int × Int)} {st st2 : List Nat × Int} {a : Nat} {ea : Int} (h : tkN st (site + 1) 16 = ((a, ea), st2)) (he : ea ≠ 0) : tkL (n + 1) site acc st = (([], ea), st2) := by rw [tkL, h, if_pos he]
theorem tkL_bad2 {n : Nat} {site : Int} {acc : List (Int × Int)} {st st2 st3 : List Nat × Int} {a b : Nat} {eb : Int} (h : tkN st (site + 1) 16 = ((a, 0), st2)) (h2 : tkN st2 1 2147483647 = ((b, eb), st3)) (he : eb ≠ 0) : tkL (n + 1) site acc st = (([], eb), st3) := by rw [tkL, h, if_neg (by simp)]; simp only; rw [h2, if_pos he]
theorem tkL_good {n : Nat} {site : Int} {acc : List (Int × Int)} {st st2 st3 : List Nat × Int} {a b : Nat} (h : tkN st (site + 1) 16 = ((a, 0), st2)) (h2 : tkN st2 1 2147483647 = ((b, 0), st3)) : tkL (n + 1) site acc st = tkL n (a : Nat) (acc ++ [((a : Int), (b : Int))]) st3 := by rw [tkL, h, if_neg (by simp)]; simp only; rw [h2, if_neg (by simp)]

theorem tkN_ne {st : List Nat × Int} {least most : Int} (h : (tkN st least most).1.2 = 0) : st.1 ≠ [] := by
  intro e
  have h1 : (rNum st.1 st.2).2.2 ≠ 0 := by
    rw [e]
    unfold rNum rn0
    by_cases h2 : st.2 = 0
    · rw [if_neg (by simpa using h2)]
      show (tn []).1 ≠ 0
      simp [tn, tnL]
    · rw [if_pos h2]
      exact h2
  unfold tkN at h
  rw [if_pos h1] at h
  exact h1 h
theorem Rd.own_lt {W : World} {p : Nat} {v : Value} {l : List Nat} {e : Int} (h : Rd W p v l e) (hl : l ≠ []) : ∀ j, v.ownBlock = some j → j < W.heap.size := by
  intro j hj
  rcases h.row with ⟨h0, _⟩ | ⟨b, off, cap, rfl, _, hb, _⟩
  · exact absurd (List.eq_nil_of_length_eq_zero h0) hl
  · simp [Value.ownBlock] at hj
    omega

set_option maxRecDepth 100000 in
set_option maxHeartbeats 2000000 in
theorem Take_in {w : World} {p : Nat} {v : Value} {st : List Nat × Int} (h : Rd w p v st.1 st.2) :
    Calls Tryz.prog 63 #[.pointer (some ⟨p, 0, none⟩)] w fun r W => ∃ u, r = .returned (.tuple #[u, .int .i64 (takeV st).1.2]) ∧ OwD W w.heap.size u (takeV st).1.1 ∧ ∃ v', Rd W p v' (takeV st).2.1 (takeV st).2.2 ∧ Kp (fun i => i = p) w W ∧ v'.ownBlock = v.ownBlock := by
  have HN := hide (number_in 0 16 h)
  have hp := h.box.lt
  have HVL := hide (fun (h0 : (tkN st 0 16).1.2 = 0) j (hj : v.ownBlock = some j) => h.own_lt (tkN_ne h0) j hj)
  obtain ⟨R, hR⟩ : ∃ R, takeV st = R := ⟨_, rfl⟩
  rw [hR]
  unfold takeV at hR
  have HOK := hide (fun h => tkN_ok (st := st) (least := 0) (most := 16) h)
  clear h
  generalize tkN st 0 16 = A at *
  obtain ⟨⟨n, e⟩, st1⟩ := A
  simp only at HN hR HOK HVL
  by_cases he : e = 0
  · subst he
    rw [if_neg (by simp)] at hR
    have hn := unhide HOK rfl
    have HRx := hide hR
    clear HOK hR
    go_enter Tryz.func63, Tryz.ntmps63
    go_wp2_with fail
    refine (unhide HN).mono ?_
    rintro r W1 ⟨rfl, v1, hrd, hkp, hown⟩
    have hpw : p < W1.heap.size := hrd.box.lt
    have hws := hkp.size
    have HRD := hide (hrd.below (ballc (Below.refl _ _) (.cells (arr (fun _ => 0)) 98)))
    have HKP := hide (hkp.trans (M := fun _ => False) (Kp.of_below (ballc (Below.refl _ W1) (.cells (arr (fun _ => 0)) 98))) (fun _ h => h.elim))
    have HB := hide (Bx.new W1 98 (arr (fun _ => 0)))
    have HOW := hide hown
    obtain ⟨q, hq⟩ : ∃ q, W1.heap.size = q := ⟨_, rfl⟩
    obtain ⟨X, hX⟩ : ∃ X, W1.alloc (.cells #[.int .i64 0, .int .i64 0, .int .i64 0, .int .i64 0, .int .i64 0, .int .i64 0, .int .i64 0, .int .i64 0, .int .i64 0, .int .i64 0, .int .i64 0, .int .i64 0, .int .i64 0, .int .i64 0, .int .i64 0, .int .i64 0, .int .i64 0] 98) = X := ⟨_, rfl⟩
    have HRD' : Hid (Rd X p v1 st1.1 st1.2) := by rw [← hX]; exact unhide HRD
    have HKP' : Hid (Kp (fun i => i = p) w X) := by rw [← hX]; exact unhide HKP
    have HB' : Hid (Bx X q 98 (arr (fun _ => 0))) := by rw [← hX, ← hq]; exact unhide HB
    rw [hq] at hpw hws
    clear HN hrd hkp hown HRD HKP HB
    go_wp2
    clear hX hq
    go_loopw [7, 17] (fun sv iv wr => ∃ (site : Int) (i : Nat) (acc : List (Int × Int)) (v2 : Value) (s2 : List Nat × Int), sv = .int .i64 site ∧ iv = .int .i64 (i : Nat) ∧ i ≤ n ∧ Hid (tkL (n - i) site acc s2 = R) ∧ Hid (TkI acc site) ∧ Hid (Rd wr p v2 s2.1 s2.2) ∧ Hid (Kp (fun i => i = p) w wr) ∧ Hid (v2.ownBlock = v.ownBlock) ∧ Hid (Bx wr q 98 (arr (sy acc)))) (fun _ iv _ => n - (Lib.intOf iv).toNat)
    case atStart => exact ⟨0, 0, [], v1, st1, rfl, rfl, by omega, hide (unhide HRx), hide TkI.none, HRD', HKP', HOW, HB'⟩
    case round =>
      clear HRD' HKP' HB' HOW HRx
      obtain ⟨site, i, acc, v2, s2, rfl, rfl, hin, HT, HI, HR, HK, HO, HB⟩ := hrel
      have hs0 := (unhide HI).lo
      have hs1 := (unhide HI).hi
      by_cases hlt : i < n
      · have hlt' : (i : Int) < (n : Int) := by omega
        have hni : n - i = (n - (i + 1)) + 1 := by omega
        rw [hni] at HT
        have HN := hide (number_in (site + 1) 16 (unhide HR))
        obtain ⟨A, hA⟩ : ∃ A, tkN s2 (site + 1) 16 = A := ⟨_, rfl⟩
        have HOK := hide (fun h => tkN_ok (st := s2) (least := site + 1) (most := 16) h)
        rw [hA] at HN HOK
        obtain ⟨⟨a, ea⟩, s3⟩ := A
        simp only at HN HOK
        have HA := hide hA
        clear hA
        by_cases hea : ea = 0
        · subst hea
          obtain ⟨ha1, ha2⟩ := unhide HOK rfl
          clear HOK
          go_wp2_with fail
          refine (unhide HN).mono ?_
          rintro r W3 ⟨rfl, v3, hrd, hkp, hown⟩
          have HB3 := hide ((unhide HB).kp hkp (by show ¬ q = p; omega))
          have HR3 := hide hrd
          have HK3 := hide ((unhide HK).trans hkp (fun i h => .inl h))
          have HO3 := hide (hown.trans (unhide HO))
          clear HN hrd hkp hown HR HK HB HO
          have HN := hide (number_in 1 2147483647 (unhide HR3))
          obtain ⟨B, hB⟩ : ∃ B, tkN s3 1 2147483647 = B := ⟨_, rfl⟩
          have HOK := hide (fun h => tkN_ok (st := s3) (least := 1) (most := 2147483647) h)
          rw [hB] at HN HOK
          obtain ⟨⟨b, eb⟩, s4⟩ := B
          simp only at HN HOK
          have HBB := hide hB
          clear hB
          go_wp2_with fail
          refine (unhide HN).mono ?_
          rintro r W4 ⟨rfl, v4, hrd, hkp, hown⟩
          have HB4 := hide ((unhide HB3).kp hkp (by show ¬ q = p; omega))
          have HR4 := hide hrd
          have HK4 := hide ((unhide HK3).trans hkp (fun i h => .inl h))
          have HO4 := hide (hown.trans (unhide HO3))
          clear HN hrd hkp hown HR3 HK3 HB3 HO3
          have ha3 : a < 17 := by omega
          have ha3' : (a : Int) < 17 := by omega
          have cA := (unhide HB4).cell a _ (arr_get _ a ha3)
          have fA := (unhide HB4).frozen a
          have HB5 := (unhide HB4).set a (.int .i64 (b : Int))
          rw [arr_set _ _ _ ha3] at HB5
          replace HB5 := hide HB5
          have k5 : Kp (fun i => i = q) W4 (W4.setCell ⟨q, a, none⟩ (.int .i64 (b : Int))) := Kp.set _ _ _ rfl
          have HR5 := hide ((unhide HR4).kp k5 (by show ¬ p = q; omega) (fun j hj e => by
            rw [unhide HO4] at hj
            have := unhide HVL (by trivial) j hj
            omega))
          have HK5 := hide ((unhide HK4).trans k5 (fun j hj => .inr (by rw [hj]; omega)))
          clear k5
          by_cases heb : eb = 0
          · subst heb
            obtain ⟨hb1, hb2⟩ := unhide HOK rfl
            have HT2 : Hid (tkL (n - (i + 1)) (a : Nat) (acc ++ [((a : Int), (b : Int))]) s4 = R) := by rw [← unhide HT, tkL_good (unhide HA) (unhide HBB)]; exact rfl
            have HI2 := hide ((unhide HI).next ha1 ha2 hb1 hb2)
            have HB6 : Hid (Bx (W4.setCell ⟨q, a, none⟩ (.int .i64 (b : Int))) q 98 (arr (sy (acc ++ [((a : Int), (b : Int))])))) := by rw [(unhide HI).sy_next ha1 ha2 hb1 hb2]; exact unhide HB5
            go_wp2
            go_roundw
            case measure => show n - ((i : Int) + 1).toNat < n - ((i : Nat) : Int).toNat; omega
            case rel => exact ⟨a, i + 1, _, v4, s4, rfl, by go_num, by omega, HT2, HI2, HR5, HK5, HO4, HB6⟩
          · have heb' : (eb == 0) = false := by simpa using heb
            have HT2 : Hid (R = (([], eb), s4)) := by rw [← unhide HT, tkL_bad2 (unhide HA) (unhide HBB) heb]; exact rfl
            go_wp2
            refine bodyPost_ret (results_tmp2 rfl _ _ _) rfl ?_
            rw [unhide HT2]
            exact ⟨_, rfl, World.ownsRow_nil _ _ _ _, v4, unhide HR5, unhide HK5, unhide HO4⟩
        · have hea' : (ea == 0) = false := by simpa using hea
          have HT2 : Hid (R = (([], ea), s3)) := by rw [← unhide HT, tkL_bad1 (unhide HA) hea]; exact rfl
          go_wp2_with fail
          refine (unhide HN).mono ?_
          rintro r W3 ⟨rfl, v3, hrd, hkp, hown⟩
          have HR3 := hide hrd
          have HK3 := hide ((unhide HK).trans hkp (fun i h => .inl h))
          have HO3 := hide (hown.trans (unhide HO))
          clear HN hrd hkp hown
          go_wp2
          refine bodyPost_ret (results_tmp2 rfl _ _ _) rfl ?_
          rw [unhide HT2]
          exact ⟨_, rfl, World.ownsRow_nil _ _ _ _, v3, unhide HR3, unhide HK3, unhide HO3⟩
      · have hlt' : ¬ (i : Int) < (n : Int) := by omega
        have HT2 : Hid (R = ((acc, 0), s2)) := by rw [← unhide HT, show n - i = 0 by omega, tkL]; exact rfl
        have HV := hide (vector_in (sy acc) wr)
        rw [(unhide HI).same] at HV
        go_wp2_with (first | refine wpl_load17 und17 info17 rfl _ rfl rfl (unhide HB) ?_ | (go_at_call 56; refine (unhide HV).mono ?_; rintro e W5 ⟨u, rfl, ho, hb⟩; obtain ⟨av, cv, rfl⟩ := ho.form; replace ho := hide ho; replace hb := hide hb))
        refine bodyPost_ret (results_tmp2 rfl _ _ _) rfl ?_
        rw [unhide HT2]
        exact ⟨_, rfl, (unhide ho).base (unhide HK).size, v2, (unhide HR).below (unhide hb), (unhide HK).trans (M := fun _ => False) (Kp.of_below (unhide hb)) (fun _ h => h.elim), unhide HO⟩
  · rw [if_pos he] at hR
    subst hR
    have he' : (e == 0) = false := by simpa using he
    clear HOK
    go_enter Tryz.func63, Tryz.ntmps63
    go_wp2_with fail
    refine (unhide HN).mono ?_
    rintro r W1 ⟨rfl, v1, hrd, hkp, hown⟩
    replace hrd := hide hrd
    replace hkp := hide hkp
    replace hown := hide hown
    go_wp2
    refine bodyPost_ret (results_tmp2 rfl _ _ _) rfl ?_
    exact ⟨_, rfl, World.ownsRow_nil _ _ _ _, v1, unhide hrd, unhide hkp, unhide hown⟩

end Go.Proofs.YtkffonoifbaifaaGreat
