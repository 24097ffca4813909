/-
  Known; turn, Join, Leave.
-/
import Derived.Test.YtjcdfjnlpfineaaZRB
import Derived.Test.YtjcdfjnlpfineaaZQW
import Derived.Deep.RegionWith
set_option linter.unusedSimpArgs false
set_option linter.unusedVariables false
namespace Go.Proofs.Ytjcdfjnlpfineaa
open Go.RowKit Go.Lib
variable {w W W' : World} {b : Nat} {s : St}

set_option maxRecDepth 100000 in
set_option maxHeartbeats 2000000 in
theorem Known_in (h : RB w b s) (x : Int) : Calls Try.prog 16 #[.pointer (some ⟨b, 0, none⟩), .int .i64 x] w fun e W => e = .returned (.bool (knwB s x)) ∧ Below w.heap.size w W := by
  have H2 : Hid (∀ W : World, Calls Try.prog 38 #[.int .i64 x] W fun e W' => e = .returned (.int .u32 (uI (bitW x))) ∧ Below W.heap.size W W') := fun W => (bit_in x W).mono fun e W' ⟨h1, h2⟩ => ⟨h1, by rw [h2]; exact Below.refl _ _⟩
  have hb := u_and (s.j ||| s.l) (bitW x)
  have ho := u_or s.j s.l
  have he := knw_eq s x
  have mixed : Try.prog.follows .mixedOrders = true := by kernel_rfl
  have hne := BelowOf.ne w
  have k0 : ∀ p : BelowOf w, p.w.cell? ⟨b, 0, none⟩ = some (.int .u32 (uI s.j)) := fun p => cell_below h.c0 p.h
  have k1 : ∀ p : BelowOf w, p.w.cell? ⟨b, 1, none⟩ = some (.int .u32 (uI s.l)) := fun p => cell_below h.c1 p.h
  generalize knwB s x = R at *
  generalize uI ((s.j ||| s.l) &&& bitW x) = q at *
  generalize uI (s.j ||| s.l) = m at *
  generalize uI s.j = j at *
  generalize uI s.l = l at *
  generalize uI (bitW x) = y at *
  clear h
  go_enter Try.func16, Try.ntmps16
  go_wp2_with fail
  refine wp_region_quiet_below mixed (by kernel_rfl) ?_
  repeat (any_goals (first | go_big_quiet_step ((go_at_call 38; exact below_of (unhide H2 _))) | quiet_step ((go_at_call 38; exact below_of (unhide H2 _)))))
  all_goals (refine wpQuiet_nil ?_; intro _ hw'; obtain ⟨p, hw''⟩ := hw'; subst hw'')
  have HE := hide p.h
  go_wp2
  go_ret
  exact ⟨rfl, unhide HE⟩

set_option maxRecDepth 100000 in
set_option maxHeartbeats 2000000 in
theorem turnJ_in (h : RB w b s) (hg : Gd s) (x : Int) : Calls Try.prog 43 #[.pointer (some ⟨b, 0, none⟩), .pointer (some ⟨b, 0, none⟩), .int .i64 x] w fun e W => e = .returned (.bool (joB s x)) ∧ RB W b (joS s x) ∧ Kp (fun i => i = b) w W := by
  have H1 := hide (members_in h)
  have H2 := hide (fun W => bit_in x W)
  have HM := hide (fun W (hW : RB W b ⟨s.j ||| bitW x, s.l, s.e⟩) => members_in hW)
  have H0 := hide h
  have ho := u_or s.j (bitW x)
  have hle := hg.le
  have hge := hg.ge
  have hlt := Bx.lt h
  have hwr : IntKind.i64.wrap (s.e + 1) = s.e + 1 := by simp only [IntKind.wrap_i64]; omega
  obtain ⟨R, hR⟩ : ∃ R, joB s x = R := ⟨_, rfl⟩
  obtain ⟨S', hS⟩ : ∃ S', joS s x = S' := ⟨_, rfl⟩
  rw [hR, hS]
  unfold joB stB at hR
  unfold joS stp at hS
  unfold St.m at HM
  clear h hg
  go_enter Try.func43, Try.ntmps43
  go_wp2_with fail
  refine (unhide H1).mono ?_
  rintro e W1 ⟨rfl, b1⟩
  have h1 := (unhide H0).below b1
  have c0 := h1.c0
  have f0 := Bx.frozen h1 0
  have l1 := Bx.lt h1
  have K1 : Hid (Kp (fun i => i = b) w W1) := Kp.of_below b1
  have H1' := hide h1
  clear b1 H1 h1
  go_wp2_with fail
  go_region_with (go_at_call 38; refine (unhide H2 _).mono ?_; rintro e W9 ⟨rfl, rfl⟩)
  all_goals (
    obtain ⟨V, hV⟩ : ∃ V, (W1.setCell ⟨b, 0, none⟩ (.int .u32 (uI (s.j ||| bitW x)))).drew = V := ⟨_, rfl⟩
    have r2 : RB V b ⟨s.j ||| bitW x, s.l, s.e⟩ := by
      rw [← hV]
      exact Bx.below (Bx.set (unhide H1') 0 _) (Below.refl _ _).drew
    have k2 : Kp (fun i => i = b) W1 V := by
      rw [← hV]
      exact (Kp.set (N := fun i => i = b) _ ⟨b, 0, none⟩ _ rfl).drew
    have HQ := hide (unhide HM V r2)
    have HR2 := hide r2
    have HK2 := hide ((unhide K1).trans k2 (fun i hi => .inl hi))
    clear r2 k2 HM K1 H1' H0
    by_cases hq : memW (s.j ||| bitW x) s.l = s.m
    · have hq' : (uI (memW (s.j ||| bitW x) s.l) == uI s.m) = true := by rw [hq]; simp
      rw [decide_eq_true hq] at hR
      rw [if_pos hq] at hS
      subst hR hS
      clear hq
      go_wp2_with fail
      refine (unhide HQ).mono ?_
      rintro e W3 ⟨rfl, b3⟩
      have r3 := hide ((unhide HR2).below b3)
      have k3 := hide ((unhide HK2).trans (Kp.of_below (N := fun _ => False) b3) (fun i hi => hi.elim))
      clear HQ HR2 HK2 b3
      go_wp2
      go_ret
      exact ⟨rfl, unhide r3, unhide k3⟩
    · have hq' : (uI (memW (s.j ||| bitW x) s.l) == uI s.m) = false := by
        rw [beq_eq_false_iff_ne]; exact fun e => hq (uI_inj e)
      rw [decide_eq_false hq] at hR
      rw [if_neg hq] at hS
      subst hR hS
      clear hq
      go_wp2_with fail
      refine (unhide HQ).mono ?_
      rintro e W3 ⟨rfl, b3⟩
      have r3' := (unhide HR2).below b3
      have r3 := hide r3'
      have k3 := hide ((unhide HK2).trans (Kp.of_below (N := fun _ => False) b3) (fun i hi => hi.elim))
      have c2 : W3.cell? ⟨b, 2, none⟩ = some (.int .i64 s.e) := r3'.c2
      have f2 := Bx.frozen r3' 2
      have l3 := Bx.lt r3'
      clear HQ HR2 HK2 b3 r3'
      go_wp2
      go_ret
      exact ⟨rfl, Bx.set (unhide r3) 2 _, (unhide k3).trans (Kp.set (N := fun i => i = b) _ ⟨b, 2, none⟩ _ rfl) (fun i hi => .inl hi)⟩)

set_option maxRecDepth 100000 in
set_option maxHeartbeats 2000000 in
theorem turnL_in (h : RB w b s) (hg : Gd s) (x : Int) : Calls Try.prog 43 #[.pointer (some ⟨b, 0, none⟩), .pointer (some ⟨b, 1, none⟩), .int .i64 x] w fun e W => e = .returned (.bool (lvB s x)) ∧ RB W b (lvS s x) ∧ Kp (fun i => i = b) w W := by
  have H1 := hide (members_in h)
  have H2 := hide (fun W => bit_in x W)
  have HM := hide (fun W (hW : RB W b ⟨s.j, s.l ||| bitW x, s.e⟩) => members_in hW)
  have H0 := hide h
  have ho := u_or s.l (bitW x)
  have hle := hg.le
  have hge := hg.ge
  have hlt := Bx.lt h
  have hwr : IntKind.i64.wrap (s.e + 1) = s.e + 1 := by simp only [IntKind.wrap_i64]; omega
  obtain ⟨R, hR⟩ : ∃ R, lvB s x = R := ⟨_, rfl⟩
  obtain ⟨S', hS⟩ : ∃ S', lvS s x = S' := ⟨_, rfl⟩
  rw [hR, hS]
  unfold lvB stB at hR
  unfold lvS stp at hS
  unfold St.m at HM
  clear h hg
  go_enter Try.func43, Try.ntmps43
  go_wp2_with fail
  refine (unhide H1).mono ?_
  rintro e W1 ⟨rfl, b1⟩
  have h1 := (unhide H0).below b1
  have c0 := h1.c1
  have f0 := Bx.frozen h1 1
  have l1 := Bx.lt h1
  have K1 : Hid (Kp (fun i => i = b) w W1) := Kp.of_below b1
  have H1' := hide h1
  clear b1 H1 h1
  go_wp2_with fail
  go_region_with (go_at_call 38; refine (unhide H2 _).mono ?_; rintro e W9 ⟨rfl, rfl⟩)
  all_goals (
    obtain ⟨V, hV⟩ : ∃ V, (W1.setCell ⟨b, 1, none⟩ (.int .u32 (uI (s.l ||| bitW x)))).drew = V := ⟨_, rfl⟩
    have r2 : RB V b ⟨s.j, s.l ||| bitW x, s.e⟩ := by
      rw [← hV]
      exact Bx.below (Bx.set (unhide H1') 1 _) (Below.refl _ _).drew
    have k2 : Kp (fun i => i = b) W1 V := by
      rw [← hV]
      exact (Kp.set (N := fun i => i = b) _ ⟨b, 1, none⟩ _ rfl).drew
    have HQ := hide (unhide HM V r2)
    have HR2 := hide r2
    have HK2 := hide ((unhide K1).trans k2 (fun i hi => .inl hi))
    clear r2 k2 HM K1 H1' H0
    by_cases hq : memW s.j (s.l ||| bitW x) = s.m
    · have hq' : (uI (memW s.j (s.l ||| bitW x)) == uI s.m) = true := by rw [hq]; simp
      rw [decide_eq_true hq] at hR
      rw [if_pos hq] at hS
      subst hR hS
      clear hq
      go_wp2_with fail
      refine (unhide HQ).mono ?_
      rintro e W3 ⟨rfl, b3⟩
      have r3 := hide ((unhide HR2).below b3)
      have k3 := hide ((unhide HK2).trans (Kp.of_below (N := fun _ => False) b3) (fun i hi => hi.elim))
      clear HQ HR2 HK2 b3
      go_wp2
      go_ret
      exact ⟨rfl, unhide r3, unhide k3⟩
    · have hq' : (uI (memW s.j (s.l ||| bitW x)) == uI s.m) = false := by
        rw [beq_eq_false_iff_ne]; exact fun e => hq (uI_inj e)
      rw [decide_eq_false hq] at hR
      rw [if_neg hq] at hS
      subst hR hS
      clear hq
      go_wp2_with fail
      refine (unhide HQ).mono ?_
      rintro e W3 ⟨rfl, b3⟩
      have r3' := (unhide HR2).below b3
      have r3 := hide r3'
      have k3 := hide ((unhide HK2).trans (Kp.of_below (N := fun _ => False) b3) (fun i hi => hi.elim))
      have c2 : W3.cell? ⟨b, 2, none⟩ = some (.int .i64 s.e) := r3'.c2
      have f2 := Bx.frozen r3' 2
      have l3 := Bx.lt r3'
      clear HQ HR2 HK2 b3 r3'
      go_wp2
      go_ret
      exact ⟨rfl, Bx.set (unhide r3) 2 _, (unhide k3).trans (Kp.set (N := fun i => i = b) _ ⟨b, 2, none⟩ _ rfl) (fun i hi => .inl hi)⟩)

theorem Join_in (h : RB w b s) (hg : Gd s) (x : Int) : Calls Try.prog 21 #[.pointer (some ⟨b, 0, none⟩), .int .i64 x] w fun e W => e = .returned (.bool (joB s x)) ∧ RB W b (joS s x) ∧ Kp (fun i => i = b) w W := by
  have H1 := hide (turnJ_in h hg x)
  generalize joB s x = R at *
  generalize joS s x = S' at *
  clear h hg
  go_enter Try.func21, Try.ntmps21
  go_wp2_with fail
  refine (unhide H1).mono ?_
  rintro e W1 ⟨rfl, r1, k1⟩
  have r1' := hide r1
  have k1' := hide k1
  clear r1 k1
  go_wp2
  go_ret
  exact ⟨rfl, unhide r1', unhide k1'⟩
theorem Join_nil (x : Int) (w : World) : Calls Try.prog 21 #[.pointer none, .int .i64 x] w fun e W => e = .returned (.bool false) ∧ w = W := by
  go_enter Try.func21, Try.ntmps21
  go_wp2
  go_ret
  exact ⟨rfl, rfl⟩

theorem Leave_in (h : RB w b s) (hg : Gd s) (x : Int) : Calls Try.prog 22 #[.pointer (some ⟨b, 0, none⟩), .int .i64 x] w fun e W => e = .returned (.bool (lvB s x)) ∧ RB W b (lvS s x) ∧ Kp (fun i => i = b) w W := by
  have H1 := hide (turnL_in h hg x)
  generalize lvB s x = R at *
  generalize lvS s x = S' at *
  clear h hg
  go_enter Try.func22, Try.ntmps22
  go_wp2_with fail
  refine (unhide H1).mono ?_
  rintro e W1 ⟨rfl, r1, k1⟩
  have r1' := hide r1
  have k1' := hide k1
  clear r1 k1
  go_wp2
  go_ret
  exact ⟨rfl, unhide r1', unhide k1'⟩
theorem Leave_nil (x : Int) (w : World) : Calls Try.prog 22 #[.pointer none, .int .i64 x] w fun e W => e = .returned (.bool false) ∧ w = W := by
  go_enter Try.func22, Try.ntmps22
  go_wp2
  go_ret
  exact ⟨rfl, rfl⟩

end Go.Proofs.Ytjcdfjnlpfineaa
