/-
  A Roll in memory: bit, members, turn, Join, Leave, Has, Known, Epoch, New; of none.
-/
import Derived.Test.YtjcdfjnlpfineaaZRA
import Derived.Deep.RegionLaw
set_option linter.unusedSimpArgs false
set_option linter.unusedVariables false
namespace Go.Proofs.Ytjcdfjnlpfineaa
open Go.RowKit Go.Lib

/-- a Roll in memory -/
def RB (W : World) (b : Nat) (s : St) : Prop := Bx W b 44 #[.int .u32 (uI s.j), .int .u32 (uI s.l), .int .i64 s.e]
variable {w W W' : World} {b : Nat} {s : St}
theorem RB.c0 (h : RB W b s) : W.cell? ⟨b, 0, none⟩ = some (.int .u32 (uI s.j)) := Bx.cell h 0 _ rfl
theorem RB.c1 (h : RB W b s) : W.cell? ⟨b, 1, none⟩ = some (.int .u32 (uI s.l)) := Bx.cell h 1 _ rfl
theorem RB.c2 (h : RB W b s) : W.cell? ⟨b, 2, none⟩ = some (.int .i64 s.e) := Bx.cell h 2 _ rfl
theorem RB.below (h : RB W b s) (hb : Below W.heap.size W W') : RB W' b s := Bx.below h hb
theorem RB.kp {N : Nat → Prop} (h : RB W b s) (k : Kp N W W') (hn : ¬ N b) : RB W' b s := Bx.kp h k hn

set_option maxRecDepth 100000 in
theorem bit_in (x : Int) (w : World) : Calls Try.prog 38 #[.int .i64 x] w fun e W => e = .returned (.int .u32 (uI (bitW x))) ∧ w = W := by
  by_cases h : siteB x = true
  · have hb := siteB_iff.1 h
    have hs : (2 : Int) ^ x.toNat % 4294967296 = uI (bitW x) := by
      have h3 : (2 : Nat) ^ x.toNat < 2 ^ 32 := Nat.pow_lt_pow_right (by omega) (by omega)
      have e : uI (bitW x) = (2 : Int) ^ x.toNat := by
        unfold uI bitW
        rw [if_pos h, BitVec.toNat_twoPow, Nat.mod_eq_of_lt h3]
        simp
      have h4 : uI (bitW x) < 4294967296 := by unfold uI; have := (bitW x).isLt; omega
      have h5 : 0 ≤ uI (bitW x) := by unfold uI; omega
      rw [← e]
      exact Int.emod_eq_of_lt h5 h4
    obtain ⟨R, hR⟩ : ∃ R, uI (bitW x) = R := ⟨_, rfl⟩
    rw [hR] at hs ⊢
    obtain ⟨h1, h2⟩ := hb
    clear h hR
    go_enter Try.func38, Try.ntmps38
    go_wp2
    go_ret
    refine ⟨?_, rfl⟩
    show Ending.returned (Value.int .u32 (2 ^ x.toNat % 4294967296)) = _
    rw [hs]
  · have h' : siteB x = false := by simpa using h
    rw [bitW_no h', uI_zero]
    have hb : ¬ (1 ≤ x ∧ x ≤ 16) := fun e => h (siteB_iff.2 e)
    by_cases h1 : x < 1
    · clear h h' hb
      go_enter Try.func38, Try.ntmps38
      go_wp2
      go_ret
      exact ⟨rfl, rfl⟩
    · have h2 : 16 < x := by omega
      clear h h' hb
      go_enter Try.func38, Try.ntmps38
      go_wp2
      go_ret
      exact ⟨rfl, rfl⟩

set_option maxRecDepth 100000 in
theorem members_in (h : RB w b s) : Calls Try.prog 37 #[.pointer (some ⟨b, 0, none⟩)] w fun e W => e = .returned (.int .u32 (uI s.m)) ∧ Below w.heap.size w W := by
  have c0 := h.c0
  have c1 := h.c1
  have hb := u_andNot s.j s.l
  unfold St.m
  generalize uI s.j = j at *
  generalize uI s.l = l at *
  generalize uI (memW s.j s.l) = m at *
  clear h
  go_enter Try.func37, Try.ntmps37
  go_wp2
  go_quiet (fail)
  go_wp2
  go_ret
  exact ⟨rfl, bdrew (Below.refl _ _) _⟩

theorem New_in (w : World) : Calls Try.prog 10 #[] w fun e W => e = .returned (.pointer (some ⟨w.heap.size, 0, none⟩)) ∧ RB W w.heap.size nilS ∧ Below w.heap.size w W := by
  obtain ⟨X, hX⟩ : ∃ X, w.alloc (.cells #[.int .u32 0, .int .u32 0, .int .i64 0] 44) = X := ⟨_, rfl⟩
  have hb : RB X w.heap.size nilS := by rw [← hX]; exact Bx.new _ _ _
  have bb : Below w.heap.size w X := by rw [← hX]; exact ballc (Below.refl _ _) _
  have HB := hide hb
  have HC := hide bb
  clear hb bb
  go_enter Try.func10, Try.ntmps10
  go_wp2
  go_ret
  exact ⟨rfl, unhide HB, unhide HC⟩

theorem Epoch_in (h : RB w b s) : Calls Try.prog 26 #[.pointer (some ⟨b, 0, none⟩)] w fun e W => e = .returned (.int .i64 s.e) ∧ w = W := by
  have c2 := h.c2
  clear h
  go_enter Try.func26, Try.ntmps26
  go_wp2
  go_ret
  exact ⟨rfl, rfl⟩
theorem Epoch_nil (w : World) : Calls Try.prog 26 #[.pointer none] w fun e W => e = .returned (.int .i64 0) ∧ w = W := by
  go_enter Try.func26, Try.ntmps26
  go_wp2
  go_ret
  exact ⟨rfl, rfl⟩

set_option maxRecDepth 100000 in
set_option maxHeartbeats 2000000 in
theorem Has_in (h : RB w b s) (x : Int) : Calls Try.prog 14 #[.pointer (some ⟨b, 0, none⟩), .int .i64 x] w fun e W => e = .returned (.bool (hasB s x)) ∧ Below w.heap.size w W := by
  have H1 := hide (members_in h)
  have H2 := hide (fun W => bit_in x W)
  have hb := u_and s.m (bitW x)
  have he := has_eq s x
  generalize hasB s x = R at *
  generalize uI (s.m &&& bitW x) = q at *
  generalize uI s.m = m at *
  generalize uI (bitW x) = y at *
  clear h
  go_enter Try.func14, Try.ntmps14
  go_wp2_with fail
  refine (unhide H1).mono ?_
  rintro e W1 ⟨rfl, b1⟩
  have B1 := hide b1
  clear b1
  go_wp2_with fail
  refine (unhide H2 _).mono ?_
  rintro e W2 ⟨rfl, rfl⟩
  go_wp2
  go_ret
  exact ⟨rfl, unhide B1⟩
theorem Has_nil (x : Int) (w : World) : Calls Try.prog 14 #[.pointer none, .int .i64 x] w fun e W => e = .returned (.bool false) ∧ w = W := by
  go_enter Try.func14, Try.ntmps14
  go_wp2
  go_ret
  exact ⟨rfl, rfl⟩
theorem Known_nil (x : Int) (w : World) : Calls Try.prog 16 #[.pointer none, .int .i64 x] w fun e W => e = .returned (.bool false) ∧ Below w.heap.size w W := by
  go_enter Try.func16, Try.ntmps16
  go_wp2
  go_quiet (fail)
  go_wp2
  go_ret
  exact ⟨rfl, bdrew (Below.refl _ _) _⟩

end Go.Proofs.Ytjcdfjnlpfineaa
