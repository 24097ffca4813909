/-
  The program's Roll and the document's side by side: step, alike.
-/
import Derived.Test.YtjcdfjnlpfineaaZRW
set_option linter.unusedSimpArgs false
set_option linter.unusedVariables false
namespace Go.Proofs.Ytjcdfjnlpfineaa
open Go.RowKit Go.Lib
variable {w W W' : World} {b r b' r' : Nat} {s s' : St}

/-- both, and the call's own box, within step -/
structure S4 (X : World) (b r k : Nat) (x : Stp) (s1 s2 : St) (W : World) : Prop where
  rb : RB W b s1
  db : DB W r s2
  bx : Bx W k 30 #[.bool x.lv, .int .i64 x.site]
  kp : Kp (fun i => i = b ∨ i = r) X W
theorem S4.drew {X : World} {k : Nat} {x : Stp} {s1 s2 : St} (h : S4 X b r k x s1 s2 W) : S4 X b r k x s1 s2 W.drew := ⟨Bx.below h.rb (Below.refl _ _).drew, Bx.below h.db (Below.refl _ _).drew, h.bx.below (Below.refl _ _).drew, h.kp.drew⟩
theorem S4.pJoin {X : World} {k : Nat} {x : Stp} {s1 s2 : St} (h : S4 X b r k x s1 s2 W) (hg : Gd s1) (hn : b ≠ r) (hk : k ≠ b) : Calls Try.prog 21 #[.pointer (some ⟨b, 0, none⟩), .int .i64 x.site] W fun e W' => e = .returned (.bool (joB s1 x.site)) ∧ S4 X b r k x (joS s1 x.site) s2 W' := (Join_in h.rb hg x.site).mono fun e W' ⟨h1, h2, h3⟩ => ⟨h1, h2, h.db.kp h3 hn.symm, h.bx.kp h3 hk, h.kp.trans h3 (fun i hi => .inl (.inl hi))⟩
theorem S4.rJoin {X : World} {k : Nat} {x : Stp} {s1 s2 : St} (h : S4 X b r k x s1 s2 W) (hg : Gd s2) (hn : b ≠ r) (hk : k ≠ r) : Calls Try.prog 32 #[.pointer (some ⟨r, 0, none⟩), .int .i64 x.site] W fun e W' => e = .returned (.bool (joB s2 x.site)) ∧ S4 X b r k x s1 (joS s2 x.site) W' := (rJoin_in h.db hg x.site).mono fun e W' ⟨h1, h2, h3⟩ => ⟨h1, h.rb.kp h3 hn, h2, h.bx.kp h3 hk, h.kp.trans h3 (fun i hi => .inl (.inr hi))⟩
theorem S4.pLeave {X : World} {k : Nat} {x : Stp} {s1 s2 : St} (h : S4 X b r k x s1 s2 W) (hg : Gd s1) (hn : b ≠ r) (hk : k ≠ b) : Calls Try.prog 22 #[.pointer (some ⟨b, 0, none⟩), .int .i64 x.site] W fun e W' => e = .returned (.bool (lvB s1 x.site)) ∧ S4 X b r k x (lvS s1 x.site) s2 W' := (Leave_in h.rb hg x.site).mono fun e W' ⟨h1, h2, h3⟩ => ⟨h1, h2, h.db.kp h3 hn.symm, h.bx.kp h3 hk, h.kp.trans h3 (fun i hi => .inl (.inl hi))⟩
theorem S4.rLeave {X : World} {k : Nat} {x : Stp} {s1 s2 : St} (h : S4 X b r k x s1 s2 W) (hg : Gd s2) (hn : b ≠ r) (hk : k ≠ r) : Calls Try.prog 31 #[.pointer (some ⟨r, 0, none⟩), .int .i64 x.site] W fun e W' => e = .returned (.bool (lvB s2 x.site)) ∧ S4 X b r k x s1 (lvS s2 x.site) W' := (rLeave_in h.db hg x.site).mono fun e W' ⟨h1, h2, h3⟩ => ⟨h1, h.rb.kp h3 hn, h2, h.bx.kp h3 hk, h.kp.trans h3 (fun i hi => .inl (.inr hi))⟩

set_option maxRecDepth 100000 in
set_option maxHeartbeats 8000000 in
theorem step_in (h : RB w b s) (hd : DB w r s) (hg : Gd s) (hn : b ≠ r) (x : Stp) : Calls Try.prog 12 #[.pointer (some ⟨b, 0, none⟩), .pointer (some ⟨r, 0, none⟩), .agg #[.bool x.lv, .int .i64 x.site]] w fun e W => e = .returned (.bool true) ∧ RB W b (doS s x) ∧ DB W r (doS s x) ∧ Kp (fun i => i = b ∨ i = r) w W := by
  obtain ⟨X, hX⟩ : ∃ X, w.alloc (.cells #[.bool x.lv, .int .i64 x.site] 30) = X := ⟨_, rfl⟩
  have bX : Below w.heap.size w X := by rw [← hX]; exact ballc (Below.refl _ _) _
  have xX : Bx X w.heap.size 30 #[.bool x.lv, .int .i64 x.site] := by rw [← hX]; exact Bx.new _ _ _
  have kb : w.heap.size ≠ b := by have := Bx.lt h; omega
  have kr : w.heap.size ≠ r := by have := Bx.lt hd; omega
  have S0 := hide (show S4 X b r w.heap.size x s s X from ⟨h.below bX, hd.below bX, xX, Kp.refl _ _⟩)
  have HB := hide bX
  have c0 : X.cell? ⟨w.heap.size, 0, none⟩ = some (.bool x.lv) := xX.cell 0 _ rfl
  have c1 : X.cell? ⟨w.heap.size, 1, none⟩ = some (.int .i64 x.site) := xX.cell 1 _ rfl
  have lX := xX.lt
  obtain ⟨T, hT⟩ : ∃ T, doS s x = T := ⟨_, rfl⟩
  rw [hT]
  unfold doS at hT
  clear h hd bX xX
  cases hlv : x.lv with
  | true =>
    rw [hlv] at hT c0 hX
    simp only [if_true] at hT
    have HP := hide (fun W (h : S4 X b r w.heap.size x s s W) => h.pLeave hg hn kb)
    have HP2 := hide (fun W (h : S4 X b r w.heap.size x s (lvS s x.site) W) => h.pLeave hg hn kb)
    have HR := hide (fun W (h : S4 X b r w.heap.size x s s W) => h.rLeave hg hn kr)
    have HR2 := hide (fun W (h : S4 X b r w.heap.size x (lvS s x.site) s W) => h.rLeave hg hn kr)
    have HC : Hid (∀ (s1 s2 : St) (V : World), S4 X b r w.heap.size x s1 s2 V → V.cell? ⟨w.heap.size, 1, none⟩ = some (.int .i64 x.site) ∧ w.heap.size < V.heap.size) := fun s1 s2 V h => ⟨h.bx.cell 1 _ rfl, h.bx.lt⟩
    rw [hT] at HP HP2 HR HR2
    obtain ⟨D, hD⟩ : ∃ D, lvB s x.site = D := ⟨_, rfl⟩
    rw [hD] at HP HP2 HR HR2
    have hDD : (D == D) = true := by simp
    clear hT hD hlv
    generalize x.site = y at *
    go_enter Try.func12, Try.ntmps12
    go_wp2_with fail
    go_region_with (first
      | (go_at_call 22; first
          | (refine (unhide HP2 _ (unhide Sr)).mono ?_; rintro e Wp ⟨rfl, hp⟩; have cp := unhide HC _ _ _ hp; obtain ⟨cp1, cp2⟩ := cp; have Sp := hide hp; clear hp)
          | (refine (unhide HP _ (S4.drew (unhide S0))).mono ?_; rintro e Wp ⟨rfl, hp⟩; have cp := unhide HC _ _ _ hp; obtain ⟨cp1, cp2⟩ := cp; have Sp := hide hp; clear hp))
      | (go_at_call 31; first
          | (refine (unhide HR2 _ (unhide Sp)).mono ?_; rintro e Wr ⟨rfl, hp⟩; have cr := unhide HC _ _ _ hp; obtain ⟨cr1, cr2⟩ := cr; have Sr := hide hp; clear hp)
          | (refine (unhide HR _ (S4.drew (unhide S0))).mono ?_; rintro e Wr ⟨rfl, hp⟩; have cr := unhide HC _ _ _ hp; obtain ⟨cr1, cr2⟩ := cr; have Sr := hide hp; clear hp)))
    all_goals (
      go_wp2
      go_ret
      first
        | exact ⟨rfl, (unhide Sr).rb, (unhide Sr).db, (Kp.of_below (unhide HB)).trans (unhide Sr).kp (fun i hi => .inl hi)⟩
        | exact ⟨rfl, (unhide Sp).rb, (unhide Sp).db, (Kp.of_below (unhide HB)).trans (unhide Sp).kp (fun i hi => .inl hi)⟩)
  | false =>
    rw [hlv] at hT c0 hX
    simp only [Bool.false_eq_true, if_false] at hT
    have HP := hide (fun W (h : S4 X b r w.heap.size x s s W) => h.pJoin hg hn kb)
    have HP2 := hide (fun W (h : S4 X b r w.heap.size x s (joS s x.site) W) => h.pJoin hg hn kb)
    have HR := hide (fun W (h : S4 X b r w.heap.size x s s W) => h.rJoin hg hn kr)
    have HR2 := hide (fun W (h : S4 X b r w.heap.size x (joS s x.site) s W) => h.rJoin hg hn kr)
    have HC : Hid (∀ (s1 s2 : St) (V : World), S4 X b r w.heap.size x s1 s2 V → V.cell? ⟨w.heap.size, 1, none⟩ = some (.int .i64 x.site) ∧ w.heap.size < V.heap.size) := fun s1 s2 V h => ⟨h.bx.cell 1 _ rfl, h.bx.lt⟩
    rw [hT] at HP HP2 HR HR2
    obtain ⟨D, hD⟩ : ∃ D, joB s x.site = D := ⟨_, rfl⟩
    rw [hD] at HP HP2 HR HR2
    have hDD : (D == D) = true := by simp
    clear hT hD hlv
    generalize x.site = y at *
    go_enter Try.func12, Try.ntmps12
    go_wp2_with fail
    go_region_with (first
      | (go_at_call 21; first
          | (refine (unhide HP2 _ (unhide Sr)).mono ?_; rintro e Wp ⟨rfl, hp⟩; have cp := unhide HC _ _ _ hp; obtain ⟨cp1, cp2⟩ := cp; have Sp := hide hp; clear hp)
          | (refine (unhide HP _ (S4.drew (unhide S0))).mono ?_; rintro e Wp ⟨rfl, hp⟩; have cp := unhide HC _ _ _ hp; obtain ⟨cp1, cp2⟩ := cp; have Sp := hide hp; clear hp))
      | (go_at_call 32; first
          | (refine (unhide HR2 _ (unhide Sp)).mono ?_; rintro e Wr ⟨rfl, hp⟩; have cr := unhide HC _ _ _ hp; obtain ⟨cr1, cr2⟩ := cr; have Sr := hide hp; clear hp)
          | (refine (unhide HR _ (S4.drew (unhide S0))).mono ?_; rintro e Wr ⟨rfl, hp⟩; have cr := unhide HC _ _ _ hp; obtain ⟨cr1, cr2⟩ := cr; have Sr := hide hp; clear hp)))
    all_goals (
      go_wp2
      go_ret
      first
        | exact ⟨rfl, (unhide Sr).rb, (unhide Sr).db, (Kp.of_below (unhide HB)).trans (unhide Sr).kp (fun i hi => .inl hi)⟩
        | exact ⟨rfl, (unhide Sp).rb, (unhide Sp).db, (Kp.of_below (unhide HB)).trans (unhide Sp).kp (fun i hi => .inl hi)⟩)

end Go.Proofs.Ytjcdfjnlpfineaa
