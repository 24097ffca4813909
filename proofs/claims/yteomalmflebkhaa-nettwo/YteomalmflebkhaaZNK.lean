/-
  What may become of a copy: changes, fits, spoil.
-/
import Derived.Test.YteomalmflebkhaaZNG
import Derived.Test.YteomalmflebkhaaZQW
set_option linter.unusedSimpArgs false
set_option linter.unusedVariables false
namespace Go.Proofs.Yteomalmflebkhaa
open Go.RowKit Go.Lib

variable {P N : Nat → Prop} {w W W' : World} {b p f m : Nat} {c : Cp} {s : Stn} {mo : Option Nat} {pb : Int → Nat} {vc vs : Value} {frm to sent : Int} {cl : List Int}
def ptV (a : Int) (v : Value) : Value := .agg #[.int .i64 a, v]
theorem PR.below (h : PR P W c p f vc vs) (hb : Below W.heap.size W W') : PR P W' c p f vc vs := h.kp (N := fun _ => False) (Kp.of_below hb) (fun _ e => e.elim)
/-- what is the same so far -/
theorem chg_next {d y : List Int} {a i : Nat} (h : (d.drop a).take i = y.take i) {u v : Int} (hu : d[a + i]? = some u) (hv : y[i]? = some v) (e : u = v) : (d.drop a).take (i + 1) = y.take (i + 1) := by
  rw [List.take_add_one, List.take_add_one, h, hv, List.getElem?_drop, hu, e]
theorem chg_no {d y : List Int} {a i : Nat} {u v : Int} (hu : d[a + i]? = some u) (hv : y[i]? = some v) (e : u ≠ v) : chgB d (a : Nat) y = true := by
  unfold chgB
  rw [Bool.not_eq_true', decide_eq_false_iff_not, Int.toNat_natCast]
  intro h
  have hi := (List.getElem?_eq_some_iff.1 hv).1
  have h2 : ((d.drop a).take y.length)[i]? = some u := by rw [List.getElem?_take_of_lt hi, List.getElem?_drop, hu]
  rw [h, hv] at h2
  exact e (Option.some.inj h2).symm
set_option maxRecDepth 100000 in
set_option maxHeartbeats 2000000 in
theorem changes_in (h : PR P w c p f vc vs) (hl : c.dat.length ≤ 1000000) (a : Nat) (v : Value) (y : List Int) (hy : RB w v y) (hay : a + y.length ≤ c.dat.length) : Calls Try.prog 94 #[ptV (a : Nat) v, .pointer (some ⟨p, 0, none⟩)] w fun e W => e = .returned (.bool (chgB c.dat (a : Nat) y)) ∧ Below w.heap.size w W := by
  obtain ⟨av, cv, rfl⟩ := hy.form
  obtain ⟨R, hR⟩ : ∃ R, chgB c.dat (a : Nat) y = R := ⟨_, rfl⟩
  rw [hR]
  have HR := hide hR
  obtain ⟨n, hn⟩ : ∃ n, y.length = n := ⟨_, rfl⟩
  have Hn := hide hn
  rw [hn] at hay ⊢
  have HY := hide hy
  have HP := hide h
  obtain ⟨X0, hX0⟩ : ∃ X0, w.alloc (.cells #[.int .i64 (a : Nat), .slice av n cv] 93) = X0 := ⟨_, rfl⟩
  have B0 : Hid (Below w.heap.size w X0) := by rw [← hX0]; exact ballc (Below.refl _ _) _
  have bx : Bx X0 w.heap.size 93 #[.int .i64 (a : Nat), .slice av n cv] := by rw [← hX0]; exact Bx.new _ _ _
  have x0 := bx.cell 0 (.int .i64 (a : Nat)) rfl
  have x1 := bx.cell 1 (.slice av n cv) rfl
  unfold ptV
  clear hR hn hy h bx
  go_enter Try.func94, Try.ntmps94
  go_wp2
  go_step3
  go_wp2
  go_step3
  go_wp2
  go_loopw [5, 11] (fun cv' iv wr => ∃ i : Nat, i ≤ n ∧ cv' = .bool false ∧ iv = .int .i64 (i : Nat) ∧ wr = X0 ∧ Hid ((c.dat.drop a).take i = y.take i)) (fun _ iv _ => n - (RowKit.intOf iv).toNat)
  case atStart => exact ⟨0, Nat.zero_le _, rfl, rfl, rfl, hide (by simp)⟩
  case round =>
    obtain ⟨i, hi, rfl, rfl, hw, HE⟩ := hrel
    subst hw
    by_cases hlt : i < n
    · have hlt' : (i : Int) < (n : Int) := by omega
      have hi1 : i < y.length := by rw [unhide Hn]; exact hlt
      have hi2 : a + i < c.dat.length := by omega
      have hv := List.getElem?_eq_getElem hi1
      have hu := List.getElem?_eq_getElem hi2
      have ru := (unhide HY).below (unhide B0)
      rw [show (Value.slice av y.length cv) = .slice av n cv by rw [unhide Hn]] at ru
      obtain ⟨b1, o1, rfl, _, k1⟩ := RB.at ru hv
      have HB := hide (byteAt_in ((unhide HP).below (unhide B0)) hu hl)
      rw [Int.natCast_add] at HB
      have hw1 : (a : Int) + (i : Int) ≤ 9223372036854775807 := by omega
      have hw2 : -9223372036854775808 ≤ (a : Int) + (i : Int) := by omega
      by_cases he : c.dat[a + i] = y[i]
      · have hnq : (c.dat[a + i] != y[i]) = false := by simpa using he
        have HE2 := hide (chg_next (unhide HE) hu hv he)
        clear he hu hv ru HE
        generalize c.dat[a + i] = e1 at *
        generalize y[i] = e2 at *
        go_wp2_with fail
        refine (unhide HB).mono ?_
        rintro e W1 ⟨rfl, rfl⟩
        clear HB
        go_wp2
        go_roundw
        case rel => exact ⟨i + 1, by omega, rfl, by go_num, by first | trivial | rfl, HE2⟩
        case measure => show n - ((i : Int) + 1).toNat < n - ((i : Nat) : Int).toNat; omega
      · have hnq : (c.dat[a + i] != y[i]) = true := by simpa using he
        have HR2 := hide (chg_no hu hv he)
        clear he hu hv ru HE
        generalize c.dat[a + i] = e1 at *
        generalize y[i] = e2 at *
        go_wp2_with fail
        refine (unhide HB).mono ?_
        rintro e W1 ⟨rfl, rfl⟩
        clear HB
        go_wp2
        rw [Exit.noGoto_ret]
        go_ret
        exact ⟨by rw [← unhide HR, unhide HR2]; rfl, unhide B0⟩
    · obtain rfl : i = n := by omega
      have hlt' : ¬ (i : Int) < (i : Int) := by omega
      have hRf : Hid (R = false) := by
        rw [← unhide HR]
        unfold chgB
        rw [Bool.not_eq_false', decide_eq_true_iff, Int.toNat_natCast, unhide Hn, unhide HE, List.take_of_length_le (by rw [unhide Hn]; exact Nat.le_refl _)]
        exact rfl
      clear HE
      go_wp2
      go_ret
      exact ⟨by rw [unhide hRf]; rfl, unhide B0⟩

set_option maxRecDepth 100000 in
theorem spoil_in {u0 u1 u2 : Value} (h : Bx w p 90 #[u0, u1, u2]) (a : Option Addr) (n k : Nat) : Calls Try.prog 44 #[.pointer (some ⟨p, 0, none⟩), .slice a n k] w fun e W => e = .returned (.tuple #[]) ∧ Bx W p 90 #[u0, .bool true, .slice a n k] ∧ Kp (fun i => i = p) w W := by
  have c1 := h.cell 1 u1 rfl
  have f1 := h.frozen 1
  have k1 := Kp.set (N := fun i => i = p) w ⟨p, 1, none⟩ (.bool true) rfl
  have h1 : Bx (w.setCell ⟨p, 1, none⟩ (.bool true)) p 90 #[u0, .bool true, u2] := by simpa using h.set 1 (.bool true)
  obtain ⟨X, hX⟩ : ∃ X, w.setCell ⟨p, 1, none⟩ (.bool true) = X := ⟨_, rfl⟩
  rw [hX] at k1 h1
  have c2 := h1.cell 2 u2 rfl
  have f2 := h1.frozen 2
  obtain ⟨Y, hY⟩ : ∃ Y, X.setCell ⟨p, 2, none⟩ (.slice a n k) = Y := ⟨_, rfl⟩
  have h2 : Hid (Bx Y p 90 #[u0, .bool true, .slice a n k]) := hide (by rw [← hY]; simpa using h1.set 2 (.slice a n k))
  have k2 : Kp (fun i => i = p) X Y := by rw [← hY]; exact Kp.set (N := fun i => i = p) X ⟨p, 2, none⟩ (.slice a n k) rfl
  have k3 := hide (k1.trans k2 (fun i hi => .inl hi))
  have hlt := h.lt
  have hlt1 := h1.lt
  clear h h1 k1 k2
  go_enter Try.func44, Try.ntmps44
  go_wp2
  refine bodyPost_end (results_none rfl _ _ _) rfl ?_
  exact ⟨rfl, unhide h2, unhide k3⟩
set_option maxRecDepth 100000 in
theorem fitC_in (h : PR P w c p f vc vs) (hl : c.dat.length ≤ 1000000) (n : Int) : Calls Try.prog 97 #[.int .i64 n, .pointer (some ⟨p, 0, none⟩)] w fun e W => e = .returned (.bool (fitC c n)) ∧ w = W := by
  have HS := hide (size_in h)
  unfold fitC
  clear h
  generalize c.dat.length = m at *
  by_cases h0 : 0 ≤ n
  · by_cases h1 : n < (m : Int)
    · rw [decide_eq_true ⟨h0, h1⟩]
      go_enter Try.func97, Try.ntmps97
      go_wp2_with fail
      refine (unhide HS).mono ?_
      rintro e W1 ⟨rfl, rfl⟩
      clear HS
      go_wp2
      go_ret
      exact ⟨rfl, rfl⟩
    · rw [decide_eq_false (fun e => h1 e.2)]
      have h1' : decide (n < (m : Int)) = false := decide_eq_false h1
      go_enter Try.func97, Try.ntmps97
      go_wp2_with fail
      refine (unhide HS).mono ?_
      rintro e W1 ⟨rfl, rfl⟩
      clear HS
      go_wp2
      go_ret
      exact ⟨by simp [h1'], rfl⟩
  · rw [decide_eq_false (fun e => h0 e.1)]
    clear HS
    go_enter Try.func97, Try.ntmps97
    go_wp2
    go_ret
    exact ⟨rfl, rfl⟩
set_option maxRecDepth 100000 in
set_option maxHeartbeats 2000000 in
theorem fitA_in (h : PR P w c p f vc vs) (hl : c.dat.length ≤ 1000000) (a : Int) (v : Value) (y : List Int) (hy : RB w v y) (hyl : y.length ≤ 9223372036854775807) : Calls Try.prog 95 #[ptV a v, .pointer (some ⟨p, 0, none⟩)] w fun e W => e = .returned (.bool (fitA c a y)) ∧ Below w.heap.size w W := by
  obtain ⟨av, cv, rfl⟩ := hy.form
  obtain ⟨n, hn⟩ : ∃ n, y.length = n := ⟨_, rfl⟩
  obtain ⟨X0, hX0⟩ : ∃ X0, w.alloc (.cells #[.int .i64 a, .slice av n cv] 93) = X0 := ⟨_, rfl⟩
  have b0 : Below w.heap.size w X0 := by rw [← hX0]; exact ballc (Below.refl _ _) _
  have B0 := hide b0
  have bx : Bx X0 w.heap.size 93 #[.int .i64 a, .slice av n cv] := by rw [← hX0]; exact Bx.new _ _ _
  have x0 := bx.cell 0 (.int .i64 a) rfl
  have x1 := bx.cell 1 (.slice av n cv) rfl
  obtain ⟨R, hR⟩ : ∃ R, fitA c a y = R := ⟨_, rfl⟩
  have HR := hide hR
  rw [hR]
  unfold fitA at hR
  rw [hn] at hR hyl ⊢
  unfold ptV
  by_cases h1 : 1 ≤ n ∧ n ≤ 4
  · have h1a : ¬ (n : Int) < 1 := by omega
    have h1b : ¬ (4 : Int) < (n : Int) := by omega
    by_cases h2 : 0 ≤ a ∧ a ≤ (c.dat.length : Int) - n
    · have hRc : Hid (R = chgB c.dat a y) := hide (by rw [← hR, decide_eq_true ⟨h1.1, h1.2, h2.1, h2.2⟩, Bool.true_and])
      obtain ⟨k, rfl⟩ : ∃ k : Nat, a = (k : Nat) := ⟨a.toNat, by omega⟩
      have HC : Hid (∀ X, Below X0.heap.size X0 X → Calls Try.prog 94 #[.agg #[.int .i64 (k : Nat), .slice av n cv], .pointer (some ⟨p, 0, none⟩)] X fun e W => e = .returned (.bool R) ∧ Below X.heap.size X W) := fun X hX => by
        have := changes_in ((h.below b0).below hX) hl k (.slice av y.length cv) y ((hy.below b0).below hX) (by omega)
        rw [hn, ← unhide hRc] at this
        exact this
      have q0 : ∀ p : BelowOf X0, p.w.cell? ⟨w.heap.size, 0, none⟩ = some (.int .i64 (k : Nat)) := fun p => cell_below x0 p.h
      have q1 : ∀ p : BelowOf X0, p.w.cell? ⟨w.heap.size, 1, none⟩ = some (.slice av n cv) := fun p => cell_below x1 p.h
      have HS := hide (fun q : BelowOf X0 => (size_in ((h.below b0).below q.h)).mono (fun e W (hh : _ ∧ _) => (show e = .returned (.int .i64 (c.dat.length : Nat)) ∧ Below q.w.heap.size q.w W from ⟨hh.1, by rw [← hh.2]; exact Below.refl _ _⟩)))
      have mixed : Try.prog.follows .mixedOrders = true := by kernel_rfl
      have hne := BelowOf.ne X0
      have hd0 : decide ((k : Int) < 0) = false := decide_eq_false (by omega)
      have hd1 : decide ((c.dat.length : Int) - (n : Int) < (k : Int)) = false := decide_eq_false (by omega)
      have hw1 : (c.dat.length : Int) - (n : Int) ≤ 9223372036854775807 := by omega
      have hw2 : -9223372036854775808 ≤ (c.dat.length : Int) - (n : Int) := by omega
      clear h hy hR h1 h2 bx b0
      generalize c.dat.length = m at *
      go_enter Try.func95, Try.ntmps95
      go_wp2_with fail
      refine wp_region_quiet_below mixed (by kernel_rfl) ?_
      repeat (any_goals (first | go_big_quiet_step ((go_at_call 93; exact below_of (unhide HS _))) | quiet_step ((go_at_call 93; exact below_of (unhide HS _)))))
      all_goals (refine wpQuiet_nil ?_; intro _ hw'; obtain ⟨q, hw''⟩ := hw'; subst hw'')
      all_goals (
        have HC1 := hide (unhide HC q.w q.h)
        have y0 := q0 q
        have y1 := q1 q
        have HB9 := hide (bnext (unhide B0) q.h)
        clear HC HS q0 q1
        go_wp2_with fail
        refine (unhide HC1).mono ?_
        rintro e W1 ⟨rfl, hb⟩
        have HB := hide (bnext (unhide HB9) hb)
        clear hb HC1
        go_wp2
        go_ret
        exact ⟨rfl, unhide HB⟩)
    · have hRc : Hid (R = false) := hide (by rw [← hR, decide_eq_false (fun e => h2 ⟨e.2.2.1, e.2.2.2⟩), Bool.false_and])
      by_cases h3 : a < 0
      · clear h hy hR h1 h2 bx b0
        generalize c.dat.length = m at *
        go_enter Try.func95, Try.ntmps95
        go_wp2
        go_region
        go_wp2
        go_ret
        exact ⟨by rw [unhide hRc]; rfl, (unhide B0).drew⟩
      · have h4 : (c.dat.length : Int) - (n : Int) < a := by omega
        have q0 : ∀ p : BelowOf X0, p.w.cell? ⟨w.heap.size, 0, none⟩ = some (.int .i64 a) := fun p => cell_below x0 p.h
        have q1 : ∀ p : BelowOf X0, p.w.cell? ⟨w.heap.size, 1, none⟩ = some (.slice av n cv) := fun p => cell_below x1 p.h
        have HS := hide (fun q : BelowOf X0 => (size_in ((h.below b0).below q.h)).mono (fun e W (hh : _ ∧ _) => (show e = .returned (.int .i64 (c.dat.length : Nat)) ∧ Below q.w.heap.size q.w W from ⟨hh.1, by rw [← hh.2]; exact Below.refl _ _⟩)))
        have mixed : Try.prog.follows .mixedOrders = true := by kernel_rfl
        have hne := BelowOf.ne X0
        have hd0 : decide (a < 0) = false := decide_eq_false h3
        have hd1 : decide ((c.dat.length : Int) - (n : Int) < a) = true := decide_eq_true h4
        have hw1 : (c.dat.length : Int) - (n : Int) ≤ 9223372036854775807 := by omega
        have hw2 : -9223372036854775808 ≤ (c.dat.length : Int) - (n : Int) := by omega
        clear h hy hR h1 h2 bx b0
        generalize c.dat.length = m at *
        go_enter Try.func95, Try.ntmps95
        go_wp2_with fail
        refine wp_region_quiet_below mixed (by kernel_rfl) ?_
        repeat (any_goals (first | go_big_quiet_step ((go_at_call 93; exact below_of (unhide HS _))) | quiet_step ((go_at_call 93; exact below_of (unhide HS _)))))
        all_goals (refine wpQuiet_nil ?_; intro _ hw'; obtain ⟨q, hw''⟩ := hw'; subst hw'')
        all_goals (
          have HB9 := hide (bnext (unhide B0) q.h)
          clear HS q0 q1
          go_wp2
          go_ret
          exact ⟨by rw [unhide hRc]; rfl, unhide HB9⟩)
  · have hRc : Hid (R = false) := hide (by rw [← hR, decide_eq_false (fun e => h1 ⟨e.1, e.2.1⟩), Bool.false_and])
    by_cases h2 : n < 1
    · have h2' : (n : Int) < 1 := by omega
      clear h hy hR h1 h2 bx b0
      go_enter Try.func95, Try.ntmps95
      go_wp2
      go_ret
      exact ⟨by rw [unhide hRc]; rfl, unhide B0⟩
    · have h2' : ¬ (n : Int) < 1 := by omega
      have h3' : (4 : Int) < (n : Int) := by omega
      clear h hy hR h1 h2 bx b0
      go_enter Try.func95, Try.ntmps95
      go_wp2
      go_ret
      exact ⟨by rw [unhide hRc]; rfl, unhide B0⟩

end Go.Proofs.Yteomalmflebkhaa
