/-
  Load.
-/
import Derived.Test.YtjcdfjnlpfineaaZRG
set_option linter.unusedSimpArgs false
set_option linter.unusedVariables false
namespace Go.Proofs.Ytjcdfjnlpfineaa
open Go.RowKit Go.Lib Go.Shelf

def in64 (n : Int) : Prop := -9223372036854775808 ≤ n ∧ n ≤ 9223372036854775807
def formB (J L : Wd) (e : Int) : Bool := decide (0 ≤ e - (cnt (memW J L) : Nat) ∧ (e - (cnt (memW J L) : Nat)) % 2 = 0 ∧ e - (cnt (memW J L) : Nat) ≤ 2 * (cnt (J &&& L) : Nat))
theorem form_gd {J L : Wd} {e : Int} (hj : OkW J) (hl : OkW L) (h : formB J L e = true) : Gd ⟨J, L, e⟩ := by
  unfold formB at h
  rw [decide_eq_true_eq] at h
  obtain ⟨h1, h2, h3⟩ := h
  refine ⟨hj, hl, ((e - (cnt (memW J L) : Nat)) / 2).toNat, ?_, ?_⟩
  · show _ ≤ cnt (J &&& L); omega
  · show e = ((cnt (memW J L) : Nat) : Int) + _
    omega
theorem gd_form {s : St} (h : Gd s) : formB s.j s.l s.e = true ∧ 0 ≤ s.e := by
  obtain ⟨k, hk, e⟩ := h.ep
  unfold formB
  unfold St.m at e
  rw [decide_eq_true_eq]
  refine ⟨⟨by omega, by omega, by omega⟩, by omega⟩
/-- the error that Load answers -/
def errL (jl ll : List Int) (e : Int) : Int := match fillW 0#32 jl, fillW 0#32 ll with
  | some J, some L => if e < 0 then 1 else if formB J L e then 0 else 6
  | _, _ => 1
/-- what Load answers: a Roll of block b, or none -/
def LoadA (W : World) (b : Nat) (jl ll : List Int) (e : Int) (p : Value) : Prop :=
  (errL jl ll e ≠ 0 ∧ p = .pointer none) ∨ (errL jl ll e = 0 ∧ p = .pointer (some ⟨b, 0, none⟩) ∧ ∃ J L, fillW 0#32 jl = some J ∧ fillW 0#32 ll = some L ∧ Gd ⟨J, L, e⟩ ∧ RB W b ⟨J, L, e⟩)
theorem okAnd {J L : Wd} (h : OkW J) : OkW (J &&& L) := fun i hi => by
  rw [BitVec.getLsbD_and, Bool.and_eq_true] at hi
  exact h i hi.1

set_option maxRecDepth 100000 in
set_option maxHeartbeats 8000000 in
theorem Load_in {w : World} {vj vl : Value} {jl ll : List Int} (hj : RN w vj jl) (hl : RN w vl ll) (hnj : jl.length ≤ 1000000) (hnl : ll.length ≤ 1000000) (e : Int) (he : in64 e) :
    Calls Try.prog 18 #[vj, vl, .int .i64 e] w fun r W => ∃ p, r = .returned (.tuple #[p, .int .i64 (errL jl ll e)]) ∧ LoadA W w.heap.size jl ll e p ∧ Below w.heap.size w W := by
  obtain ⟨aj, cj, rfl⟩ := hj.form
  obtain ⟨al, cl, rfl⟩ := hl.form
  obtain ⟨X, hX⟩ : ∃ X, w.alloc (.cells #[.int .u32 0, .int .u32 0, .int .i64 e] 44) = X := ⟨_, rfl⟩
  have bX : Below w.heap.size w X := by rw [← hX]; exact ballc (Below.refl _ _) _
  have xX : Bx X w.heap.size 44 #[.int .u32 0, .int .u32 0, .int .i64 e] := by rw [← hX]; exact Bx.new _ _ _
  have H1 := hide (fill_in (k := 0) (m := 0#32) bX xX (Nat.le_refl _) rfl hj hnj)
  have H2 := hide (fun W (m1 : Wd) (hb : Below w.heap.size w W) (hx : Bx W w.heap.size 44 #[.int .u32 (uI m1), .int .u32 0, .int .i64 e]) => fill_in (k := 1) (m := 0#32) hb hx (Nat.le_refl _) rfl hl hnl)
  have HX := hide bX
  have lX := xX.lt
  unfold in64 at he
  obtain ⟨E, hE⟩ : ∃ E, errL jl ll e = E := ⟨_, rfl⟩
  unfold LoadA
  rw [hE]
  unfold errL at hE
  clear hj hl bX xX
  generalize jl.length = nj at *
  generalize ll.length = nl at *
  cases eJ : fillW 0#32 jl with
  | none =>
    rw [eJ] at H1 hE
    simp only at hE
    subst hE
    clear H2
    go_enter Try.func18, Try.ntmps18
    go_wp2_with fail
    refine (unhide H1).mono ?_
    rintro r W1 ⟨rfl, m1, x1, -, k1⟩
    have B1 := hide (k1.below (unhide HX) (fun i hi => by omega))
    clear x1 k1 H1
    go_wp2
    refine bodyPost_ret (results_tmp2 rfl _ _ _) rfl ?_
    exact ⟨_, rfl, .inl ⟨by omega, rfl⟩, unhide B1⟩
  | some J =>
    rw [eJ] at H1 hE
    have okj := fill_ok eJ
    cases eL : fillW 0#32 ll with
    | none =>
      rw [eL] at H2 hE
      simp only at hE
      subst hE
      go_enter Try.func18, Try.ntmps18
      go_wp2_with fail
      refine (unhide H1).mono ?_
      rintro r W1 ⟨rfl, m1, x1, -, k1⟩
      have b1 := k1.below (unhide HX) (fun i hi => by omega)
      have H2' := hide (unhide H2 W1 m1 b1 x1)
      have B1 := hide b1
      have l1 := x1.lt
      clear x1 k1 H1 b1 H2
      go_wp2_with fail
      refine (unhide H2').mono ?_
      rintro r W2 ⟨rfl, m2, x2, -, k2⟩
      have B2 := hide (k2.below (unhide B1) (fun i hi => by omega))
      clear x2 k2 H2'
      go_wp2
      refine bodyPost_ret (results_tmp2 rfl _ _ _) rfl ?_
      exact ⟨_, rfl, .inl ⟨by omega, rfl⟩, unhide B2⟩
    | some L =>
      rw [eL] at H2 hE
      have okl := fill_ok eL
      simp only at hE
      by_cases he0 : e < 0
      · rw [if_pos he0] at hE
        subst hE
        go_enter Try.func18, Try.ntmps18
        go_wp2_with fail
        refine (unhide H1).mono ?_
        rintro r W1 ⟨rfl, m1, x1, -, k1⟩
        have b1 := k1.below (unhide HX) (fun i hi => by omega)
        have H2' := hide (unhide H2 W1 m1 b1 x1)
        have B1 := hide b1
        have l1 := x1.lt
        clear x1 k1 H1 b1 H2
        go_wp2_with fail
        refine (unhide H2').mono ?_
        rintro r W2 ⟨rfl, m2, x2, -, k2⟩
        have B2 := hide (k2.below (unhide B1) (fun i hi => by omega))
        clear x2 k2 H2'
        go_wp2
        refine bodyPost_ret (results_tmp2 rfl _ _ _) rfl ?_
        exact ⟨_, rfl, .inl ⟨by omega, rfl⟩, unhide B2⟩
      · rw [if_neg he0] at hE
        have hg : Hid (formB J L e = true → Gd ⟨J, L, e⟩) := form_gd okj okl
        have H3 := hide (fun W (h : RB W w.heap.size ⟨J, L, e⟩) => members_in h)
        have okm : OkW (memW J L) := fun i hi => by rw [memW_at, Bool.and_eq_true] at hi; exact okj i hi.1
        have H4 := hide (fun W => ones_in (memW J L) okm W)
        have H5 := hide (fun W => ones_in (J &&& L) (okAnd okj) W)
        have hand := u_and J L
        have c1 := cnt_le (memW J L)
        have c2 := cnt_le (J &&& L)
        unfold formB at hE hg
        unfold St.m at H3
        simp only at H3
        generalize cnt (memW J L) = n1 at *
        generalize cnt (J &&& L) = n2 at *
        clear okm okj okl
        have mixed : Try.prog.follows .mixedOrders = true := by kernel_rfl
        obtain ⟨g, hg0⟩ : ∃ g, e - (n1 : Int) = g := ⟨_, rfl⟩
        rw [hg0] at hE hg
        by_cases g0 : g < 0
        · have hf : ¬ (0 ≤ g ∧ g % 2 = 0 ∧ g ≤ 2 * (n2 : Int)) := fun h => by omega
          rw [decide_eq_false hf] at hE
          simp only [Bool.false_eq_true, if_false] at hE
          subst hE
          clear hf
          go_enter Try.func18, Try.ntmps18
          go_wp2_with fail
          refine (unhide H1).mono ?_
          rintro r W1 ⟨rfl, m1, x1, y1, k1⟩
          obtain rfl := y1 J rfl
          have b1 := k1.below (unhide HX) (fun i hi => by omega)
          have H2' := hide (unhide H2 W1 m1 b1 x1)
          have B1 := hide b1
          have l1 := x1.lt
          clear x1 k1 H1 b1 H2 y1
          go_wp2_with fail
          refine (unhide H2').mono ?_
          rintro r W2 ⟨rfl, m2, x2, y2, k2⟩
          obtain rfl := y2 L rfl
          have b2 := k2.below (unhide B1) (fun i hi => by omega)
          have r2 : RB W2 w.heap.size ⟨m1, m2, e⟩ := x2
          have H3' := hide (unhide H3 W2 r2)
          have R2 := hide r2
          have B2 := hide b2
          have l2 := x2.lt
          clear x2 k2 H2' b2 y2 r2 H3 B1
          go_wp2_with fail
          refine (unhide H3').mono ?_
          rintro r W3 ⟨rfl, b3⟩
          have R3 := hide ((unhide R2).below b3)
          have B3 := hide (bnext (unhide B2) b3)
          clear b3 H3' R2 B2
          go_wp2_with fail
          refine (unhide H4 W3).mono ?_
          rintro r W4 ⟨rfl, b4⟩
          have r4 := (unhide R3).below b4
          have c40 := r4.c0
          have c41 := r4.c1
          have l4 := Bx.lt r4
          have B4 := hide (bnext (unhide B3) b4)
          have R4 := hide r4
          have k0 : ∀ p : BelowOf W4, p.w.cell? ⟨w.heap.size, 0, none⟩ = some (.int .u32 (uI m1)) := fun p => cell_below r4.c0 p.h
          have k1 : ∀ p : BelowOf W4, p.w.cell? ⟨w.heap.size, 1, none⟩ = some (.int .u32 (uI m2)) := fun p => cell_below r4.c1 p.h
          have hne := BelowOf.ne W4
          clear b4 r4 R3 B3 H4 c40 c41
          go_wp2_with fail
          refine wp_region_quiet_below mixed (by kernel_rfl) ?_
          repeat (any_goals (first | go_big_quiet_step ((go_at_call 41; exact below_of (unhide H5 _))) | quiet_step ((go_at_call 41; exact below_of (unhide H5 _)))))
          all_goals (refine wpQuiet_nil ?_; intro _ hw'; obtain ⟨p, hw''⟩ := hw'; subst hw'')
          have BE := hide (bnext (unhide B4) p.h)
          have RE := hide ((unhide R4).below p.h)
          clear k0 k1 hne B4 R4
          go_wp2
          refine bodyPost_ret (results_tmp2 rfl _ _ _) rfl ?_
          exact ⟨_, rfl, .inl ⟨by omega, rfl⟩, unhide BE⟩
        · have gt : g.tmod 2 = g % 2 := Int.tmod_eq_emod_of_nonneg (by omega)
          have gd : g.tdiv 2 = g / 2 := Int.tdiv_eq_ediv_of_nonneg (by omega)
          by_cases g1 : g % 2 = 0
          · by_cases g2 : (n2 : Int) < g / 2
            · have hf : ¬ (0 ≤ g ∧ g % 2 = 0 ∧ g ≤ 2 * (n2 : Int)) := fun h => by omega
              rw [decide_eq_false hf] at hE
              simp only [Bool.false_eq_true, if_false] at hE
              subst hE
              clear hf
              go_enter Try.func18, Try.ntmps18
              go_wp2_with fail
              refine (unhide H1).mono ?_
              rintro r W1 ⟨rfl, m1, x1, y1, k1⟩
              obtain rfl := y1 J rfl
              have b1 := k1.below (unhide HX) (fun i hi => by omega)
              have H2' := hide (unhide H2 W1 m1 b1 x1)
              have B1 := hide b1
              have l1 := x1.lt
              clear x1 k1 H1 b1 H2 y1
              go_wp2_with fail
              refine (unhide H2').mono ?_
              rintro r W2 ⟨rfl, m2, x2, y2, k2⟩
              obtain rfl := y2 L rfl
              have b2 := k2.below (unhide B1) (fun i hi => by omega)
              have r2 : RB W2 w.heap.size ⟨m1, m2, e⟩ := x2
              have H3' := hide (unhide H3 W2 r2)
              have R2 := hide r2
              have B2 := hide b2
              have l2 := x2.lt
              clear x2 k2 H2' b2 y2 r2 H3 B1
              go_wp2_with fail
              refine (unhide H3').mono ?_
              rintro r W3 ⟨rfl, b3⟩
              have R3 := hide ((unhide R2).below b3)
              have B3 := hide (bnext (unhide B2) b3)
              clear b3 H3' R2 B2
              go_wp2_with fail
              refine (unhide H4 W3).mono ?_
              rintro r W4 ⟨rfl, b4⟩
              have r4 := (unhide R3).below b4
              have c40 := r4.c0
              have c41 := r4.c1
              have l4 := Bx.lt r4
              have B4 := hide (bnext (unhide B3) b4)
              have R4 := hide r4
              have k0 : ∀ p : BelowOf W4, p.w.cell? ⟨w.heap.size, 0, none⟩ = some (.int .u32 (uI m1)) := fun p => cell_below r4.c0 p.h
              have k1 : ∀ p : BelowOf W4, p.w.cell? ⟨w.heap.size, 1, none⟩ = some (.int .u32 (uI m2)) := fun p => cell_below r4.c1 p.h
              have hne := BelowOf.ne W4
              clear b4 r4 R3 B3 H4 c40 c41
              go_wp2_with fail
              refine wp_region_quiet_below mixed (by kernel_rfl) ?_
              repeat (any_goals (first | go_big_quiet_step ((go_at_call 41; exact below_of (unhide H5 _))) | quiet_step ((go_at_call 41; exact below_of (unhide H5 _)))))
              all_goals (refine wpQuiet_nil ?_; intro _ hw'; obtain ⟨p, hw''⟩ := hw'; subst hw'')
              have BE := hide (bnext (unhide B4) p.h)
              have RE := hide ((unhide R4).below p.h)
              clear k0 k1 hne B4 R4
              go_wp2
              refine bodyPost_ret (results_tmp2 rfl _ _ _) rfl ?_
              exact ⟨_, rfl, .inl ⟨by omega, rfl⟩, unhide BE⟩
            · have hf : 0 ≤ g ∧ g % 2 = 0 ∧ g ≤ 2 * (n2 : Int) := by omega
              rw [decide_eq_true hf] at hE hg
              simp only [if_true] at hE
              subst hE
              replace hg : Hid (True → Gd ⟨J, L, e⟩) := fun _ => unhide hg rfl
              clear hf
              go_enter Try.func18, Try.ntmps18
              go_wp2_with fail
              refine (unhide H1).mono ?_
              rintro r W1 ⟨rfl, m1, x1, y1, k1⟩
              obtain rfl := y1 J rfl
              have b1 := k1.below (unhide HX) (fun i hi => by omega)
              have H2' := hide (unhide H2 W1 m1 b1 x1)
              have B1 := hide b1
              have l1 := x1.lt
              clear x1 k1 H1 b1 H2 y1
              go_wp2_with fail
              refine (unhide H2').mono ?_
              rintro r W2 ⟨rfl, m2, x2, y2, k2⟩
              obtain rfl := y2 L rfl
              have b2 := k2.below (unhide B1) (fun i hi => by omega)
              have r2 : RB W2 w.heap.size ⟨m1, m2, e⟩ := x2
              have H3' := hide (unhide H3 W2 r2)
              have R2 := hide r2
              have B2 := hide b2
              have l2 := x2.lt
              clear x2 k2 H2' b2 y2 r2 H3 B1
              go_wp2_with fail
              refine (unhide H3').mono ?_
              rintro r W3 ⟨rfl, b3⟩
              have R3 := hide ((unhide R2).below b3)
              have B3 := hide (bnext (unhide B2) b3)
              clear b3 H3' R2 B2
              go_wp2_with fail
              refine (unhide H4 W3).mono ?_
              rintro r W4 ⟨rfl, b4⟩
              have r4 := (unhide R3).below b4
              have c40 := r4.c0
              have c41 := r4.c1
              have l4 := Bx.lt r4
              have B4 := hide (bnext (unhide B3) b4)
              have R4 := hide r4
              have k0 : ∀ p : BelowOf W4, p.w.cell? ⟨w.heap.size, 0, none⟩ = some (.int .u32 (uI m1)) := fun p => cell_below r4.c0 p.h
              have k1 : ∀ p : BelowOf W4, p.w.cell? ⟨w.heap.size, 1, none⟩ = some (.int .u32 (uI m2)) := fun p => cell_below r4.c1 p.h
              have hne := BelowOf.ne W4
              clear b4 r4 R3 B3 H4 c40 c41
              go_wp2_with fail
              refine wp_region_quiet_below mixed (by kernel_rfl) ?_
              repeat (any_goals (first | go_big_quiet_step ((go_at_call 41; exact below_of (unhide H5 _))) | quiet_step ((go_at_call 41; exact below_of (unhide H5 _)))))
              all_goals (refine wpQuiet_nil ?_; intro _ hw'; obtain ⟨p, hw''⟩ := hw'; subst hw'')
              have BE := hide (bnext (unhide B4) p.h)
              have RE := hide ((unhide R4).below p.h)
              clear k0 k1 hne B4 R4
              go_wp2
              refine bodyPost_ret (results_tmp2 rfl _ _ _) rfl ?_
              exact ⟨_, rfl, .inr ⟨trivial, rfl, m1, m2, rfl, rfl, unhide hg trivial, unhide RE⟩, unhide BE⟩
          · have hf : ¬ (0 ≤ g ∧ g % 2 = 0 ∧ g ≤ 2 * (n2 : Int)) := fun h => g1 h.2.1
            rw [decide_eq_false hf] at hE
            simp only [Bool.false_eq_true, if_false] at hE
            subst hE
            clear hf
            go_enter Try.func18, Try.ntmps18
            go_wp2_with fail
            refine (unhide H1).mono ?_
            rintro r W1 ⟨rfl, m1, x1, y1, k1⟩
            obtain rfl := y1 J rfl
            have b1 := k1.below (unhide HX) (fun i hi => by omega)
            have H2' := hide (unhide H2 W1 m1 b1 x1)
            have B1 := hide b1
            have l1 := x1.lt
            clear x1 k1 H1 b1 H2 y1
            go_wp2_with fail
            refine (unhide H2').mono ?_
            rintro r W2 ⟨rfl, m2, x2, y2, k2⟩
            obtain rfl := y2 L rfl
            have b2 := k2.below (unhide B1) (fun i hi => by omega)
            have r2 : RB W2 w.heap.size ⟨m1, m2, e⟩ := x2
            have H3' := hide (unhide H3 W2 r2)
            have R2 := hide r2
            have B2 := hide b2
            have l2 := x2.lt
            clear x2 k2 H2' b2 y2 r2 H3 B1
            go_wp2_with fail
            refine (unhide H3').mono ?_
            rintro r W3 ⟨rfl, b3⟩
            have R3 := hide ((unhide R2).below b3)
            have B3 := hide (bnext (unhide B2) b3)
            clear b3 H3' R2 B2
            go_wp2_with fail
            refine (unhide H4 W3).mono ?_
            rintro r W4 ⟨rfl, b4⟩
            have r4 := (unhide R3).below b4
            have c40 := r4.c0
            have c41 := r4.c1
            have l4 := Bx.lt r4
            have B4 := hide (bnext (unhide B3) b4)
            have R4 := hide r4
            have k0 : ∀ p : BelowOf W4, p.w.cell? ⟨w.heap.size, 0, none⟩ = some (.int .u32 (uI m1)) := fun p => cell_below r4.c0 p.h
            have k1 : ∀ p : BelowOf W4, p.w.cell? ⟨w.heap.size, 1, none⟩ = some (.int .u32 (uI m2)) := fun p => cell_below r4.c1 p.h
            have hne := BelowOf.ne W4
            clear b4 r4 R3 B3 H4 c40 c41
            go_wp2_with fail
            refine wp_region_quiet_below mixed (by kernel_rfl) ?_
            repeat (any_goals (first | go_big_quiet_step ((go_at_call 41; exact below_of (unhide H5 _))) | quiet_step ((go_at_call 41; exact below_of (unhide H5 _)))))
            all_goals (refine wpQuiet_nil ?_; intro _ hw'; obtain ⟨p, hw''⟩ := hw'; subst hw'')
            have BE := hide (bnext (unhide B4) p.h)
            have RE := hide ((unhide R4).below p.h)
            clear k0 k1 hne B4 R4
            go_wp2
            refine bodyPost_ret (results_tmp2 rfl _ _ _) rfl ?_
            exact ⟨_, rfl, .inl ⟨by omega, rfl⟩, unhide BE⟩

end Go.Proofs.Ytjcdfjnlpfineaa
