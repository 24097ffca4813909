/-
  The document's own Roll in memory: New, site, Has, Known, Epoch, turn, Join, Leave.
-/
import Derived.Test.YtjcdfjnlpfineaaZRL
set_option linter.unusedSimpArgs false
set_option linter.unusedVariables false
namespace Go.Proofs.Ytjcdfjnlpfineaa
open Go.RowKit Go.Lib

def cellR (s : St) (i : Nat) : Value := if i < 17 then .bool (s.j.getLsbD i) else if i < 34 then .bool (s.l.getLsbD (i - 17)) else .int .i64 s.e
/-- its cells: In, Out, Changes -/
def arr35 (s : St) : Array Value := ((List.range 35).map (cellR s)).toArray
theorem arr35_size (s : St) : (arr35 s).size = 35 := by simp [arr35]
theorem arr35_get (s : St) (k : Nat) (h : k < 35) : (arr35 s)[k]? = some (cellR s k) := by
  unfold arr35
  rw [List.getElem?_toArray, List.getElem?_map, List.getElem?_range h]
  rfl
theorem arr35_j (s : St) (k : Nat) (h : k < 17) : (arr35 s)[k]? = some (.bool (s.j.getLsbD k)) := by rw [arr35_get s k (by omega)]; unfold cellR; rw [if_pos h]
theorem arr35_l (s : St) (k : Nat) (h : k < 17) : (arr35 s)[17 + k]? = some (.bool (s.l.getLsbD k)) := by rw [arr35_get s _ (by omega)]; unfold cellR; rw [if_neg (by omega), if_pos (by omega), show 17 + k - 17 = k by omega]
theorem arr35_e (s : St) : (arr35 s)[34]? = some (.int .i64 s.e) := by rw [arr35_get s _ (by omega)]; rfl
theorem arr35_set (s s' : St) (k : Nat) (x : Value) (hk : k < 35) (h : cellR s' k = x) (ho : ∀ j, j < 35 → j ≠ k → cellR s' j = cellR s j) : (arr35 s).setIfInBounds k x = arr35 s' := by
  apply Array.ext_getElem?
  intro j
  rw [Array.getElem?_setIfInBounds, arr35_size]
  by_cases hj : k = j
  · subst hj; rw [if_pos rfl, if_pos hk, arr35_get s' _ hk, h]
  · rw [if_neg hj]
    by_cases h5 : j < 35
    · rw [arr35_get s j h5, arr35_get s' j h5, ho j h5 (Ne.symm hj)]
    · rw [Array.getElem?_eq_none (by rw [arr35_size]; omega), Array.getElem?_eq_none (by rw [arr35_size]; omega)]
theorem arr35_sj (s : St) {x : Int} (h : siteB x = true) : (arr35 s).setIfInBounds x.toNat (.bool true) = arr35 ⟨s.j ||| bitW x, s.l, s.e⟩ := by
  have hx := siteB_iff.1 h
  refine arr35_set _ _ _ _ (by omega) ?_ (fun j hj hn => ?_)
  · unfold cellR; rw [if_pos (by omega)]; show Value.bool ((s.j ||| bitW x).getLsbD x.toNat) = _; rw [or_at, h]; simp
  · unfold cellR
    by_cases h1 : j < 17
    · rw [if_pos h1, if_pos h1]; show Value.bool ((s.j ||| bitW x).getLsbD j) = _; rw [or_at]; simp [hn]
    · rw [if_neg h1, if_neg h1]
theorem arr35_sl (s : St) {x : Int} (h : siteB x = true) : (arr35 s).setIfInBounds (17 + x.toNat) (.bool true) = arr35 ⟨s.j, s.l ||| bitW x, s.e⟩ := by
  have hx := siteB_iff.1 h
  refine arr35_set _ _ _ _ (by omega) ?_ (fun j hj hn => ?_)
  · unfold cellR; rw [if_neg (by omega), if_pos (by omega)]; show Value.bool ((s.l ||| bitW x).getLsbD (17 + x.toNat - 17)) = _; rw [show 17 + x.toNat - 17 = x.toNat by omega, or_at, h]; simp
  · unfold cellR
    by_cases h1 : j < 17
    · rw [if_pos h1, if_pos h1]
    · rw [if_neg h1, if_neg h1]
      by_cases h2 : j < 34
      · rw [if_pos h2, if_pos h2]; show Value.bool ((s.l ||| bitW x).getLsbD (j - 17)) = _; rw [or_at]
        have : j - 17 ≠ x.toNat := by omega
        simp [this]
      · rw [if_neg h2, if_neg h2]
theorem arr35_se (s : St) (e : Int) : (arr35 s).setIfInBounds 34 (.int .i64 e) = arr35 ⟨s.j, s.l, e⟩ := by
  refine arr35_set _ _ _ _ (by omega) rfl (fun j hj hn => ?_)
  unfold cellR
  by_cases h1 : j < 17
  · rw [if_pos h1, if_pos h1]
  · rw [if_neg h1, if_neg h1, if_pos (by omega), if_pos (by omega)]

/-- the document's Roll in memory -/
def DB (W : World) (r : Nat) (s : St) : Prop := Bx W r 53 (arr35 s)
variable {w W W' : World} {r : Nat} {s : St}
theorem DB.below (h : DB W r s) (hb : Below W.heap.size W W') : DB W' r s := Bx.below h hb
theorem DB.kp {N : Nat → Prop} (h : DB W r s) (k : Kp N W W') (hn : ¬ N r) : DB W' r s := Bx.kp h k hn
theorem DB.j (h : DB W r s) (k : Nat) (hk : k < 17) : W.cell? ⟨r, k, none⟩ = some (.bool (s.j.getLsbD k)) := Bx.cell h k _ (arr35_j s k hk)
theorem DB.l (h : DB W r s) (k : Nat) (hk : k < 17) : W.cell? ⟨r, 17 + k, none⟩ = some (.bool (s.l.getLsbD k)) := Bx.cell h _ _ (arr35_l s k hk)
theorem DB.e (h : DB W r s) : W.cell? ⟨r, 34, none⟩ = some (.int .i64 s.e) := Bx.cell h _ _ (arr35_e s)
theorem DB.nil (w : World) (e : Int) : DB (w.alloc (.cells (arr35 ⟨0#32, 0#32, e⟩) 53)) w.heap.size ⟨0#32, 0#32, e⟩ := Bx.new _ _ _
theorem arr35_zero (e : Int) : arr35 ⟨0#32, 0#32, e⟩ = #[.bool false, .bool false, .bool false, .bool false, .bool false, .bool false, .bool false, .bool false, .bool false, .bool false, .bool false, .bool false, .bool false, .bool false, .bool false, .bool false, .bool false, .bool false, .bool false, .bool false, .bool false, .bool false, .bool false, .bool false, .bool false, .bool false, .bool false, .bool false, .bool false, .bool false, .bool false, .bool false, .bool false, .bool false, .int .i64 e] := by
  simp [arr35, cellR, List.range, List.range.loop]

theorem rNew_in (w : World) : Calls Try.prog 11 #[] w fun e W => e = .returned (.pointer (some ⟨w.heap.size, 0, none⟩)) ∧ DB W w.heap.size nilS ∧ Below w.heap.size w W := by
  have hb := DB.nil w 0
  have bb := ballc (Below.refl w.heap.size w) (.cells (arr35 ⟨0#32, 0#32, 0⟩) 53)
  rw [arr35_zero] at hb bb
  obtain ⟨X, hX⟩ : ∃ X, w.alloc (.cells #[.bool false, .bool false, .bool false, .bool false, .bool false, .bool false, .bool false, .bool false, .bool false, .bool false, .bool false, .bool false, .bool false, .bool false, .bool false, .bool false, .bool false, .bool false, .bool false, .bool false, .bool false, .bool false, .bool false, .bool false, .bool false, .bool false, .bool false, .bool false, .bool false, .bool false, .bool false, .bool false, .bool false, .bool false, .int .i64 0] 53) = X := ⟨_, rfl⟩
  rw [hX] at hb bb
  have HB := hide hb
  have HC := hide bb
  clear hb bb
  go_enter Try.func11, Try.ntmps11
  go_wp2
  go_ret
  exact ⟨rfl, unhide HB, unhide HC⟩

set_option maxRecDepth 100000 in
theorem site_in (x : Int) (w : World) : Calls Try.prog 39 #[.int .i64 x] w fun e W => e = .returned (.bool (siteB x)) ∧ w = W := by
  obtain ⟨R, hR⟩ : ∃ R, siteB x = R := ⟨_, rfl⟩
  rw [hR]
  unfold siteB at hR
  by_cases h1 : 1 ≤ x
  · by_cases h2 : x ≤ 16
    · obtain rfl : true = R := by rw [← hR]; simp [h1, h2]
      clear hR
      go_enter Try.func39, Try.ntmps39
      go_wp2
      go_ret
      exact ⟨rfl, rfl⟩
    · obtain rfl : false = R := by rw [← hR]; simp [h1, h2]
      clear hR
      go_enter Try.func39, Try.ntmps39
      go_wp2
      go_ret
      exact ⟨rfl, rfl⟩
  · obtain rfl : false = R := by rw [← hR]; simp [h1]
    clear hR
    go_enter Try.func39, Try.ntmps39
    go_wp2
    go_ret
    exact ⟨rfl, rfl⟩

set_option maxRecDepth 100000 in
set_option maxHeartbeats 2000000 in
theorem rHas_in (h : DB w r s) (x : Int) : Calls Try.prog 15 #[.pointer (some ⟨r, 0, none⟩), .int .i64 x] w fun e W => e = .returned (.bool (hasB s x)) ∧ w = W := by
  have HS := hide (fun W => site_in x W)
  unfold hasB
  cases hs : siteB x with
  | false =>
    rw [hs] at HS
    simp only [Bool.false_and]
    clear h
    go_enter Try.func15, Try.ntmps15
    go_wp2_with fail
    refine (unhide HS _).mono ?_
    rintro e W1 ⟨rfl, rfl⟩
    go_wp2
    go_ret
    exact ⟨rfl, rfl⟩
  | true =>
    rw [hs] at HS
    have hx := siteB_iff.1 hs
    obtain ⟨k, rfl⟩ : ∃ k : Nat, x = (k : Int) := ⟨x.toNat, by omega⟩
    have cj := h.j k (by omega)
    have cl := h.l k (by omega)
    have hk1 : 1 ≤ k := by omega
    have hk2 : k ≤ 16 := by omega
    rw [Bool.true_and, Int.toNat_natCast]
    clear h hs hx
    generalize s.j.getLsbD k = p at *
    generalize s.l.getLsbD k = q at *
    cases p with
    | false =>
      go_enter Try.func15, Try.ntmps15
      go_wp2_with fail
      refine (unhide HS _).mono ?_
      rintro e W1 ⟨rfl, rfl⟩
      go_wp2
      go_ret
      exact ⟨rfl, rfl⟩
    | true =>
      go_enter Try.func15, Try.ntmps15
      go_wp2_with fail
      refine (unhide HS _).mono ?_
      rintro e W1 ⟨rfl, rfl⟩
      go_wp2
      go_ret
      exact ⟨rfl, rfl⟩
set_option maxRecDepth 100000 in
set_option maxHeartbeats 2000000 in
theorem rKnown_in (h : DB w r s) (x : Int) : Calls Try.prog 17 #[.pointer (some ⟨r, 0, none⟩), .int .i64 x] w fun e W => e = .returned (.bool (knwB s x)) ∧ w = W := by
  have HS := hide (fun W => site_in x W)
  unfold knwB
  cases hs : siteB x with
  | false =>
    rw [hs] at HS
    simp only [Bool.false_and]
    clear h
    go_enter Try.func17, Try.ntmps17
    go_wp2_with fail
    refine (unhide HS _).mono ?_
    rintro e W1 ⟨rfl, rfl⟩
    go_wp2
    go_ret
    exact ⟨rfl, rfl⟩
  | true =>
    rw [hs] at HS
    have hx := siteB_iff.1 hs
    obtain ⟨k, rfl⟩ : ∃ k : Nat, x = (k : Int) := ⟨x.toNat, by omega⟩
    have cj := h.j k (by omega)
    have cl := h.l k (by omega)
    have hk1 : 1 ≤ k := by omega
    have hk2 : k ≤ 16 := by omega
    rw [Bool.true_and, Int.toNat_natCast]
    clear h hs hx
    generalize s.j.getLsbD k = p at *
    generalize s.l.getLsbD k = q at *
    cases p with
    | false =>
      go_enter Try.func17, Try.ntmps17
      go_wp2_with fail
      refine (unhide HS _).mono ?_
      rintro e W1 ⟨rfl, rfl⟩
      go_wp2
      go_ret
      exact ⟨rfl, rfl⟩
    | true =>
      go_enter Try.func17, Try.ntmps17
      go_wp2_with fail
      refine (unhide HS _).mono ?_
      rintro e W1 ⟨rfl, rfl⟩
      go_wp2
      go_ret
      exact ⟨rfl, rfl⟩
theorem rEpoch_in (h : DB w r s) : Calls Try.prog 36 #[.pointer (some ⟨r, 0, none⟩)] w fun e W => e = .returned (.int .i64 s.e) ∧ w = W := by
  have c := h.e
  clear h
  go_enter Try.func36, Try.ntmps36
  go_wp2
  go_ret
  exact ⟨rfl, rfl⟩
set_option maxRecDepth 100000 in
set_option maxHeartbeats 2000000 in
theorem rturn_in (h : DB w r s) (hl : 0 ≤ s.e ∧ s.e ≤ 48) (x : Int) (was : Bool) : Calls Try.prog 45 #[.pointer (some ⟨r, 0, none⟩), .int .i64 x, .bool was] w fun e W => e = .returned (.bool (hasB s x != was)) ∧ DB W r ⟨s.j, s.l, if (hasB s x != was) then s.e + 1 else s.e⟩ ∧ Kp (fun i => i = r) w W := by
  have HS := hide (rHas_in h x)
  have hwr : IntKind.i64.wrap (s.e + 1) = s.e + 1 := by simp only [IntKind.wrap_i64]; omega
  have c := h.e
  have f := Bx.frozen h 34
  have l := Bx.lt h
  have H := hide h
  generalize hasB s x = p at *
  clear h
  by_cases hp : p = was
  · subst hp
    have hpp : (p == p) = true := by simp
    have hqq : (p != p) = false := by simp
    rw [hqq]
    go_enter Try.func45, Try.ntmps45
    go_wp2_with fail
    refine (unhide HS).mono ?_
    rintro e W1 ⟨rfl, rfl⟩
    go_wp2
    go_ret
    exact ⟨rfl, unhide H, Kp.refl _ _⟩
  · have hpp : (p == was) = false := by simpa using hp
    have hqq : (p != was) = true := by simpa using hp
    have X : Hid (DB (w.setCell ⟨r, 34, none⟩ (.int .i64 (s.e + 1))) r ⟨s.j, s.l, s.e + 1⟩) := by
      have := Bx.set (unhide H) 34 (.int .i64 (s.e + 1))
      rw [arr35_se] at this
      exact this
    rw [hqq, if_pos rfl]
    clear H hp
    go_enter Try.func45, Try.ntmps45
    go_wp2_with fail
    refine (unhide HS).mono ?_
    rintro e W1 ⟨rfl, rfl⟩
    go_wp2
    go_ret
    exact ⟨rfl, unhide X, Kp.set (N := fun i => i = r) _ ⟨r, 34, none⟩ _ rfl⟩
theorem jo_turn (s : St) (x : Int) : joS s x = ⟨s.j ||| bitW x, s.l, if (hasB (⟨s.j ||| bitW x, s.l, s.e⟩ : St) x != hasB s x) then s.e + 1 else s.e⟩ := by
  have h := jo_has s x
  have e : hasB (joS s x) x = hasB (⟨s.j ||| bitW x, s.l, s.e⟩ : St) x := rfl
  rw [e] at h
  rw [← h]
  unfold joS stp joB stB
  by_cases q : memW (s.j ||| bitW x) s.l = s.m
  · rw [if_pos q, decide_eq_true q]; rfl
  · rw [if_neg q, decide_eq_false q]; rfl
theorem lv_turn (s : St) (x : Int) : lvS s x = ⟨s.j, s.l ||| bitW x, if (hasB (⟨s.j, s.l ||| bitW x, s.e⟩ : St) x != hasB s x) then s.e + 1 else s.e⟩ := by
  have h := lv_has s x
  have e : hasB (lvS s x) x = hasB (⟨s.j, s.l ||| bitW x, s.e⟩ : St) x := rfl
  rw [e] at h
  rw [← h]
  unfold lvS stp lvB stB
  by_cases q : memW s.j (s.l ||| bitW x) = s.m
  · rw [if_pos q, decide_eq_true q]; rfl
  · rw [if_neg q, decide_eq_false q]; rfl
set_option maxRecDepth 100000 in
set_option maxHeartbeats 2000000 in
theorem rJoin_in (h : DB w r s) (hg : Gd s) (x : Int) : Calls Try.prog 32 #[.pointer (some ⟨r, 0, none⟩), .int .i64 x] w fun e W => e = .returned (.bool (joB s x)) ∧ DB W r (joS s x) ∧ Kp (fun i => i = r) w W := by
  have HS := hide (fun W => site_in x W)
  cases hs : siteB x with
  | false =>
    rw [hs] at HS
    rw [(jo_no hs).1, (jo_no hs).2]
    have H := hide h
    clear h
    go_enter Try.func32, Try.ntmps32
    go_wp2_with fail
    refine (unhide HS _).mono ?_
    rintro e W1 ⟨rfl, rfl⟩
    go_wp2
    go_ret
    exact ⟨rfl, unhide H, Kp.refl _ _⟩
  | true =>
    rw [hs] at HS
    have hx := siteB_iff.1 hs
    have X : Hid (DB (w.setCell ⟨r, x.toNat, none⟩ (.bool true)) r ⟨s.j ||| bitW x, s.l, s.e⟩) := by
      have := Bx.set h x.toNat (.bool true)
      rw [arr35_sj s hs] at this
      exact this
    have HT := hide (rturn_in (unhide X) ⟨hg.ge, hg.le⟩ x (hasB s x))
    have e2 := jo_has s x
    rw [show hasB (joS s x) x = hasB (⟨s.j ||| bitW x, s.l, s.e⟩ : St) x from rfl] at e2
    simp only at HT
    rw [← jo_turn s x, ← e2] at HT
    have HH := hide (rHas_in h x)
    obtain ⟨k, rfl⟩ : ∃ k : Nat, x = (k : Int) := ⟨x.toNat, by omega⟩
    rw [Int.toNat_natCast] at HT X
    have hk1 : 1 ≤ k := by omega
    have hk2 : k ≤ 16 := by omega
    have cj := h.j k (by omega)
    have fj := Bx.frozen h k
    have lj := Bx.lt h
    clear h hg hs hx e2 X
    generalize joS s (k : Int) = T at *
    generalize joB s (k : Int) = R at *
    generalize hasB s (k : Int) = P at *
    go_enter Try.func32, Try.ntmps32
    go_wp2_with fail
    refine (unhide HS _).mono ?_
    rintro e W1 ⟨rfl, rfl⟩
    go_wp2_with fail
    refine (unhide HH).mono ?_
    rintro e W1 ⟨rfl, rfl⟩
    go_wp2_with fail
    refine (unhide HT).mono ?_
    rintro e W1 ⟨rfl, d1, k1⟩
    have D1 := hide d1
    have K1 := hide ((Kp.set (N := fun i => i = r) w ⟨r, k, none⟩ (.bool true) rfl).trans k1 (fun i hi => .inl hi))
    clear d1 k1 HT HH HS
    go_wp2
    go_ret
    exact ⟨rfl, unhide D1, unhide K1⟩
set_option maxRecDepth 100000 in
set_option maxHeartbeats 2000000 in
theorem rLeave_in (h : DB w r s) (hg : Gd s) (x : Int) : Calls Try.prog 31 #[.pointer (some ⟨r, 0, none⟩), .int .i64 x] w fun e W => e = .returned (.bool (lvB s x)) ∧ DB W r (lvS s x) ∧ Kp (fun i => i = r) w W := by
  have HS := hide (fun W => site_in x W)
  cases hs : siteB x with
  | false =>
    rw [hs] at HS
    rw [(lv_no hs).1, (lv_no hs).2]
    have H := hide h
    clear h
    go_enter Try.func31, Try.ntmps31
    go_wp2_with fail
    refine (unhide HS _).mono ?_
    rintro e W1 ⟨rfl, rfl⟩
    go_wp2
    go_ret
    exact ⟨rfl, unhide H, Kp.refl _ _⟩
  | true =>
    rw [hs] at HS
    have hx := siteB_iff.1 hs
    have X : Hid (DB (w.setCell ⟨r, 17 + x.toNat, none⟩ (.bool true)) r ⟨s.j, s.l ||| bitW x, s.e⟩) := by
      have := Bx.set h (17 + x.toNat) (.bool true)
      rw [arr35_sl s hs] at this
      exact this
    have HT := hide (rturn_in (unhide X) ⟨hg.ge, hg.le⟩ x (hasB s x))
    have e2 := lv_has s x
    rw [show hasB (lvS s x) x = hasB (⟨s.j, s.l ||| bitW x, s.e⟩ : St) x from rfl] at e2
    simp only at HT
    rw [← lv_turn s x, ← e2] at HT
    have HH := hide (rHas_in h x)
    obtain ⟨k, rfl⟩ : ∃ k : Nat, x = (k : Int) := ⟨x.toNat, by omega⟩
    rw [Int.toNat_natCast] at HT X
    have hk1 : 1 ≤ k := by omega
    have hk2 : k ≤ 16 := by omega
    have cj := h.l k (by omega)
    have fj := Bx.frozen h (17 + k)
    have lj := Bx.lt h
    clear h hg hs hx e2 X
    generalize lvS s (k : Int) = T at *
    generalize lvB s (k : Int) = R at *
    generalize hasB s (k : Int) = P at *
    go_enter Try.func31, Try.ntmps31
    go_wp2_with fail
    refine (unhide HS _).mono ?_
    rintro e W1 ⟨rfl, rfl⟩
    go_wp2_with fail
    refine (unhide HH).mono ?_
    rintro e W1 ⟨rfl, rfl⟩
    go_wp2_with fail
    refine (unhide HT).mono ?_
    rintro e W1 ⟨rfl, d1, k1⟩
    have D1 := hide d1
    have K1 := hide ((Kp.set (N := fun i => i = r) w ⟨r, 17 + k, none⟩ (.bool true) rfl).trans k1 (fun i hi => .inl hi))
    clear d1 k1 HT HH HS
    go_wp2
    go_ret
    exact ⟨rfl, unhide D1, unhide K1⟩

end Go.Proofs.Ytjcdfjnlpfineaa
