/-
  The law's do.
-/
import Derived.Test.YteomalmflebkhaaZNV
import Derived.Test.YteomalmflebkhaaZNJ
import Derived.Test.YteomalmflebkhaaZNQ
set_option linter.unusedSimpArgs false
set_option linter.unusedVariables false
namespace Go.Proofs.Yteomalmflebkhaa
open Go.RowKit Go.Lib

variable {P N : Nat → Prop} {w W W' : World} {b p f m B : Nat} {c : Cp} {s : Stn} {v : Value}
def doS (s : Stn) (x : Stp) : Stn := if x.kind = 1 then sndS s x.frm x.to x.dat x.at_ else if x.kind = 2 then tkS s x.num else if x.kind = 3 then tkS s x.num else if x.kind = 4 then dblS s x.num else if x.kind = 5 then altS s x.num x.at_ x.dat else if x.kind = 6 then cutS s x.num x.at_ else s
def doN (s : Stn) (x : Stp) : Int := if x.kind = 1 then sndN s x.frm x.to x.at_ else if x.kind = 4 then dblN s x.num else 0
theorem TkA.cn {k : Int} {e : Ending} (h : TkA P w b s k e W) : NL (fun i => P i ∨ w.heap.size ≤ i) W b (tkS s k) ∧ Kp P w W := by obtain ⟨_, _, _, _, h, k⟩ := h; exact ⟨h.mono (fun i hi => .inl hi), k⟩
set_option maxRecDepth 100000 in
set_option maxHeartbeats 4000000 in
theorem do_1 (h : NL P w b s) (hP : ∀ i, P i → i < w.heap.size) (x : Stp) (hx : StW w x) (hxl : x.dat.length ≤ 1000000) (hk : x.kind = 1) : Calls Try.prog 24 #[.pointer (some ⟨b, 0, none⟩), .agg (stC x)] w (CN P w b (doS s x) (.int .i64 (doN s x))) := by
  rw [show doS s x = sndS s x.frm x.to x.dat x.at_ by unfold doS; rw [if_pos hk], show doN s x = sndN s x.frm x.to x.at_ by unfold doN; rw [if_pos hk]]
  have q1 : (x.kind == 1) = true := by simpa using hk
  clear hk
  have hxn := hx.num
  have hxr := hx.rd
  obtain ⟨av, cv, ev⟩ := hx.fd
  rw [ev] at hxr
  obtain ⟨X0, hX0⟩ : ∃ X0, w.alloc (.cells (stC x) 32) = X0 := ⟨_, rfl⟩
  have b0 : Below w.heap.size w X0 := by rw [← hX0]; exact ballc (Below.refl _ _) _
  have hz0 : X0.heap.size = w.heap.size + 1 := by rw [← hX0]; simp
  have bx : Bx X0 w.heap.size 32 (stC x) := by rw [← hX0]; exact Bx.new _ _ _
  have y0 := bx.cell 0 (.int .i64 x.kind) rfl
  have y1 := bx.cell 1 (.int .i64 x.num) rfl
  have y2 := bx.cell 2 (.int .i64 x.frm) rfl
  have y3 := bx.cell 3 (.int .i64 x.to) rfl
  have y4 := bx.cell 4 (.int .i64 x.at_) rfl
  have y5 := bx.cell 5 x.vd rfl
  have hP0 : ∀ i, P i → i < X0.heap.size := fun i hi => by have := hP i hi; omega
  have HC : Hid (Calls Try.prog 17 #[.pointer (some ⟨b, 0, none⟩), .int .i64 x.frm, .int .i64 x.to, .slice av x.dat.length cv, .int .i64 x.at_] X0 fun e W => e = .returned (two (sndN s x.frm x.to x.at_) (sndE s x.frm x.to x.at_)) ∧ NL (fun i => P i ∨ w.heap.size ≤ i) W b (sndS s x.frm x.to x.dat x.at_) ∧ Kp P w W) := by
    refine (Send_in (h.below b0) hP0 x.frm x.to x.at_ (.slice av x.dat.length cv) x.dat (hxr.below b0) hxl).mono ?_
    rintro e W ⟨rfl, hn, kk⟩
    exact ⟨rfl, hn.mono (fun i hi => by rcases hi with hi | hi; exact .inl hi; exact .inr (by omega)), (Kp.of_below b0).trans kk (fun i hi => .inl hi)⟩
  unfold stC at hX0
  unfold stC
  rw [ev] at hX0 y5 ⊢
  unfold two at HC
  generalize sndN s x.frm x.to x.at_ = r1 at *
  generalize sndS s x.frm x.to x.dat x.at_ = s' at *
  clear h hP hx hxr hxn b0 hz0 bx hP0 ev
  generalize x.dat.length = n at *
  go_enter Try.func24, Try.ntmps24
  go_wp2_with fail
  refine (unhide HC).mono ?_
  rintro e W1 ⟨rfl, hq⟩
  have HQ := hide hq
  clear hq HC
  go_wp2
  go_ret
  exact ⟨rfl, unhide HQ⟩
set_option maxRecDepth 100000 in
set_option maxHeartbeats 4000000 in
theorem do_2 (h : NL P w b s) (hP : ∀ i, P i → i < w.heap.size) (x : Stp) (hx : StW w x) (hxl : x.dat.length ≤ 1000000) (hk : x.kind = 2) : Calls Try.prog 24 #[.pointer (some ⟨b, 0, none⟩), .agg (stC x)] w (CN P w b (doS s x) (.int .i64 (doN s x))) := by
  rw [show doS s x = tkS s x.num by unfold doS; rw [if_neg (by omega), if_pos hk], show doN s x = 0 by unfold doN; rw [if_neg (by omega), if_neg (by omega)]]
  have q1 : (x.kind == 1) = false := by rw [hk]; rfl
  have q2 : (x.kind == 2) = true := by simpa using hk
  clear hk
  have hxn := hx.num
  have hxr := hx.rd
  obtain ⟨av, cv, ev⟩ := hx.fd
  rw [ev] at hxr
  obtain ⟨X0, hX0⟩ : ∃ X0, w.alloc (.cells (stC x) 32) = X0 := ⟨_, rfl⟩
  have b0 : Below w.heap.size w X0 := by rw [← hX0]; exact ballc (Below.refl _ _) _
  have hz0 : X0.heap.size = w.heap.size + 1 := by rw [← hX0]; simp
  have bx : Bx X0 w.heap.size 32 (stC x) := by rw [← hX0]; exact Bx.new _ _ _
  have y0 := bx.cell 0 (.int .i64 x.kind) rfl
  have y1 := bx.cell 1 (.int .i64 x.num) rfl
  have y2 := bx.cell 2 (.int .i64 x.frm) rfl
  have y3 := bx.cell 3 (.int .i64 x.to) rfl
  have y4 := bx.cell 4 (.int .i64 x.at_) rfl
  have y5 := bx.cell 5 x.vd rfl
  have hP0 : ∀ i, P i → i < X0.heap.size := fun i hi => by have := hP i hi; omega
  have HC : Hid (Calls Try.prog 18 #[.pointer (some ⟨b, 0, none⟩), .int .i64 x.num] X0 fun e W => ∃ u1 u2 u3 u4 u5 u6 u7, e = .returned (.tuple #[.agg #[u1, u2, u3, u4, u5, u6], u7]) ∧ NL (fun i => P i ∨ w.heap.size ≤ i) W b (tkS s x.num) ∧ Kp P w W) := by
    refine (Deliver_in (h.below b0) hP0 hxn).mono ?_
    rintro e W hT
    obtain ⟨hn, kk⟩ := hT.cn
    obtain ⟨a, n, rfl, _⟩ := hT
    exact ⟨_, _, _, _, _, _, _, rfl, hn.mono (fun i hi => by rcases hi with hi | hi; exact .inl hi; exact .inr (by omega)), (Kp.of_below b0).trans kk (fun i hi => .inl hi)⟩
  unfold stC at hX0
  unfold stC
  rw [ev] at hX0 y5 ⊢
  clear h hP hx hxr hxn b0 hz0 bx hP0 ev
  generalize x.dat.length = n at *
  go_enter Try.func24, Try.ntmps24
  go_wp2_with fail
  refine (unhide HC).mono ?_
  rintro e W1 ⟨u1, u2, u3, u4, u5, u6, u7, rfl, hq⟩
  have HQ := hide hq
  clear hq HC
  go_wp2
  go_ret
  exact ⟨rfl, unhide HQ⟩
set_option maxRecDepth 100000 in
set_option maxHeartbeats 4000000 in
theorem do_3 (h : NL P w b s) (hP : ∀ i, P i → i < w.heap.size) (x : Stp) (hx : StW w x) (hxl : x.dat.length ≤ 1000000) (hk : x.kind = 3) : Calls Try.prog 24 #[.pointer (some ⟨b, 0, none⟩), .agg (stC x)] w (CN P w b (doS s x) (.int .i64 (doN s x))) := by
  rw [show doS s x = tkS s x.num by unfold doS; rw [if_neg (by omega), if_neg (by omega), if_pos hk], show doN s x = 0 by unfold doN; rw [if_neg (by omega), if_neg (by omega)]]
  have q1 : (x.kind == 1) = false := by rw [hk]; rfl
  have q2 : (x.kind == 2) = false := by rw [hk]; rfl
  have q3 : (x.kind == 3) = true := by simpa using hk
  clear hk
  have hxn := hx.num
  have hxr := hx.rd
  obtain ⟨av, cv, ev⟩ := hx.fd
  rw [ev] at hxr
  obtain ⟨X0, hX0⟩ : ∃ X0, w.alloc (.cells (stC x) 32) = X0 := ⟨_, rfl⟩
  have b0 : Below w.heap.size w X0 := by rw [← hX0]; exact ballc (Below.refl _ _) _
  have hz0 : X0.heap.size = w.heap.size + 1 := by rw [← hX0]; simp
  have bx : Bx X0 w.heap.size 32 (stC x) := by rw [← hX0]; exact Bx.new _ _ _
  have y0 := bx.cell 0 (.int .i64 x.kind) rfl
  have y1 := bx.cell 1 (.int .i64 x.num) rfl
  have y2 := bx.cell 2 (.int .i64 x.frm) rfl
  have y3 := bx.cell 3 (.int .i64 x.to) rfl
  have y4 := bx.cell 4 (.int .i64 x.at_) rfl
  have y5 := bx.cell 5 x.vd rfl
  have hP0 : ∀ i, P i → i < X0.heap.size := fun i hi => by have := hP i hi; omega
  have HC : Hid (Calls Try.prog 19 #[.pointer (some ⟨b, 0, none⟩), .int .i64 x.num] X0 fun e W => ∃ u1 u2 u3 u4 u5 u6 u7, e = .returned (.tuple #[.agg #[u1, u2, u3, u4, u5, u6], u7]) ∧ NL (fun i => P i ∨ w.heap.size ≤ i) W b (tkS s x.num) ∧ Kp P w W) := by
    refine (Drop_in (h.below b0) hP0 hxn).mono ?_
    rintro e W hT
    obtain ⟨hn, kk⟩ := hT.cn
    obtain ⟨a, n, rfl, _⟩ := hT
    exact ⟨_, _, _, _, _, _, _, rfl, hn.mono (fun i hi => by rcases hi with hi | hi; exact .inl hi; exact .inr (by omega)), (Kp.of_below b0).trans kk (fun i hi => .inl hi)⟩
  unfold stC at hX0
  unfold stC
  rw [ev] at hX0 y5 ⊢
  clear h hP hx hxr hxn b0 hz0 bx hP0 ev
  generalize x.dat.length = n at *
  go_enter Try.func24, Try.ntmps24
  go_wp2_with fail
  refine (unhide HC).mono ?_
  rintro e W1 ⟨u1, u2, u3, u4, u5, u6, u7, rfl, hq⟩
  have HQ := hide hq
  clear hq HC
  go_wp2
  go_ret
  exact ⟨rfl, unhide HQ⟩
set_option maxRecDepth 100000 in
set_option maxHeartbeats 4000000 in
theorem do_4 (h : NL P w b s) (hP : ∀ i, P i → i < w.heap.size) (x : Stp) (hx : StW w x) (hxl : x.dat.length ≤ 1000000) (hk : x.kind = 4) : Calls Try.prog 24 #[.pointer (some ⟨b, 0, none⟩), .agg (stC x)] w (CN P w b (doS s x) (.int .i64 (doN s x))) := by
  rw [show doS s x = dblS s x.num by unfold doS; rw [if_neg (by omega), if_neg (by omega), if_neg (by omega), if_pos hk], show doN s x = dblN s x.num by unfold doN; rw [if_neg (by omega), if_pos hk]]
  have q1 : (x.kind == 1) = false := by rw [hk]; rfl
  have q2 : (x.kind == 2) = false := by rw [hk]; rfl
  have q3 : (x.kind == 3) = false := by rw [hk]; rfl
  have q4 : (x.kind == 4) = true := by simpa using hk
  clear hk
  have hxn := hx.num
  have hxr := hx.rd
  obtain ⟨av, cv, ev⟩ := hx.fd
  rw [ev] at hxr
  obtain ⟨X0, hX0⟩ : ∃ X0, w.alloc (.cells (stC x) 32) = X0 := ⟨_, rfl⟩
  have b0 : Below w.heap.size w X0 := by rw [← hX0]; exact ballc (Below.refl _ _) _
  have hz0 : X0.heap.size = w.heap.size + 1 := by rw [← hX0]; simp
  have bx : Bx X0 w.heap.size 32 (stC x) := by rw [← hX0]; exact Bx.new _ _ _
  have y0 := bx.cell 0 (.int .i64 x.kind) rfl
  have y1 := bx.cell 1 (.int .i64 x.num) rfl
  have y2 := bx.cell 2 (.int .i64 x.frm) rfl
  have y3 := bx.cell 3 (.int .i64 x.to) rfl
  have y4 := bx.cell 4 (.int .i64 x.at_) rfl
  have y5 := bx.cell 5 x.vd rfl
  have hP0 : ∀ i, P i → i < X0.heap.size := fun i hi => by have := hP i hi; omega
  have HC : Hid (Calls Try.prog 20 #[.pointer (some ⟨b, 0, none⟩), .int .i64 x.num] X0 fun e W => e = .returned (two (dblN s x.num) (dblE s x.num)) ∧ NL (fun i => P i ∨ w.heap.size ≤ i) W b (dblS s x.num) ∧ Kp P w W) := by
    refine (Double_in (h.below b0) hP0 hxn).mono ?_
    rintro e W ⟨rfl, hn, kk⟩
    exact ⟨rfl, hn.mono (fun i hi => by rcases hi with hi | hi; exact .inl hi; exact .inr (by omega)), (Kp.of_below b0).trans kk (fun i hi => .inl hi)⟩
  unfold stC at hX0
  unfold stC
  rw [ev] at hX0 y5 ⊢
  unfold two at HC
  generalize dblN s x.num = r1 at *
  generalize dblS s x.num = s' at *
  clear h hP hx hxr hxn b0 hz0 bx hP0 ev
  generalize x.dat.length = n at *
  go_enter Try.func24, Try.ntmps24
  go_wp2_with fail
  refine (unhide HC).mono ?_
  rintro e W1 ⟨rfl, hq⟩
  have HQ := hide hq
  clear hq HC
  go_wp2
  go_ret
  exact ⟨rfl, unhide HQ⟩
set_option maxRecDepth 100000 in
set_option maxHeartbeats 4000000 in
theorem do_5 (h : NL P w b s) (hP : ∀ i, P i → i < w.heap.size) (x : Stp) (hx : StW w x) (hxl : x.dat.length ≤ 1000000) (hk : x.kind = 5) : Calls Try.prog 24 #[.pointer (some ⟨b, 0, none⟩), .agg (stC x)] w (CN P w b (doS s x) (.int .i64 (doN s x))) := by
  rw [show doS s x = altS s x.num x.at_ x.dat by unfold doS; rw [if_neg (by omega), if_neg (by omega), if_neg (by omega), if_neg (by omega), if_pos hk], show doN s x = 0 by unfold doN; rw [if_neg (by omega), if_neg (by omega)]]
  have q1 : (x.kind == 1) = false := by rw [hk]; rfl
  have q2 : (x.kind == 2) = false := by rw [hk]; rfl
  have q3 : (x.kind == 3) = false := by rw [hk]; rfl
  have q4 : (x.kind == 4) = false := by rw [hk]; rfl
  have q5 : (x.kind == 5) = true := by simpa using hk
  clear hk
  have hxn := hx.num
  have hxr := hx.rd
  obtain ⟨av, cv, ev⟩ := hx.fd
  rw [ev] at hxr
  obtain ⟨X0, hX0⟩ : ∃ X0, w.alloc (.cells (stC x) 32) = X0 := ⟨_, rfl⟩
  have b0 : Below w.heap.size w X0 := by rw [← hX0]; exact ballc (Below.refl _ _) _
  have hz0 : X0.heap.size = w.heap.size + 1 := by rw [← hX0]; simp
  have bx : Bx X0 w.heap.size 32 (stC x) := by rw [← hX0]; exact Bx.new _ _ _
  have y0 := bx.cell 0 (.int .i64 x.kind) rfl
  have y1 := bx.cell 1 (.int .i64 x.num) rfl
  have y2 := bx.cell 2 (.int .i64 x.frm) rfl
  have y3 := bx.cell 3 (.int .i64 x.to) rfl
  have y4 := bx.cell 4 (.int .i64 x.at_) rfl
  have y5 := bx.cell 5 x.vd rfl
  have hP0 : ∀ i, P i → i < X0.heap.size := fun i hi => by have := hP i hi; omega
  have HC : Hid (Calls Try.prog 22 #[.pointer (some ⟨b, 0, none⟩), .int .i64 x.num, .int .i64 x.at_, .slice av x.dat.length cv] X0 fun e W => e = .returned (.int .i64 (altE s x.num x.at_ x.dat)) ∧ NL (fun i => P i ∨ w.heap.size ≤ i) W b (altS s x.num x.at_ x.dat) ∧ Kp P w W) := by
    refine (Alter_in (h.below b0) hP0 hxn x.at_ av cv x.dat (hxr.below b0) (by omega)).mono ?_
    rintro e W ⟨rfl, hn, kk⟩
    exact ⟨rfl, hn.mono (fun i hi => by rcases hi with hi | hi; exact .inl hi; exact .inr (by omega)), (Kp.of_below b0).trans kk (fun i hi => .inl hi)⟩
  unfold stC at hX0
  unfold stC
  rw [ev] at hX0 y5 ⊢
  clear h hP hx hxr hxn b0 hz0 bx hP0 ev
  generalize x.dat.length = n at *
  go_enter Try.func24, Try.ntmps24
  go_wp2_with fail
  refine (unhide HC).mono ?_
  rintro e W1 ⟨rfl, hq⟩
  have HQ := hide hq
  clear hq HC
  go_wp2
  go_ret
  exact ⟨rfl, unhide HQ⟩
set_option maxRecDepth 100000 in
set_option maxHeartbeats 4000000 in
theorem do_6 (h : NL P w b s) (hP : ∀ i, P i → i < w.heap.size) (x : Stp) (hx : StW w x) (hxl : x.dat.length ≤ 1000000) (hk : x.kind = 6) : Calls Try.prog 24 #[.pointer (some ⟨b, 0, none⟩), .agg (stC x)] w (CN P w b (doS s x) (.int .i64 (doN s x))) := by
  rw [show doS s x = cutS s x.num x.at_ by unfold doS; rw [if_neg (by omega), if_neg (by omega), if_neg (by omega), if_neg (by omega), if_neg (by omega), if_pos hk], show doN s x = 0 by unfold doN; rw [if_neg (by omega), if_neg (by omega)]]
  have q1 : (x.kind == 1) = false := by rw [hk]; rfl
  have q2 : (x.kind == 2) = false := by rw [hk]; rfl
  have q3 : (x.kind == 3) = false := by rw [hk]; rfl
  have q4 : (x.kind == 4) = false := by rw [hk]; rfl
  have q5 : (x.kind == 5) = false := by rw [hk]; rfl
  have q6 : (x.kind == 6) = true := by simpa using hk
  clear hk
  have hxn := hx.num
  have hxr := hx.rd
  obtain ⟨av, cv, ev⟩ := hx.fd
  rw [ev] at hxr
  obtain ⟨X0, hX0⟩ : ∃ X0, w.alloc (.cells (stC x) 32) = X0 := ⟨_, rfl⟩
  have b0 : Below w.heap.size w X0 := by rw [← hX0]; exact ballc (Below.refl _ _) _
  have hz0 : X0.heap.size = w.heap.size + 1 := by rw [← hX0]; simp
  have bx : Bx X0 w.heap.size 32 (stC x) := by rw [← hX0]; exact Bx.new _ _ _
  have y0 := bx.cell 0 (.int .i64 x.kind) rfl
  have y1 := bx.cell 1 (.int .i64 x.num) rfl
  have y2 := bx.cell 2 (.int .i64 x.frm) rfl
  have y3 := bx.cell 3 (.int .i64 x.to) rfl
  have y4 := bx.cell 4 (.int .i64 x.at_) rfl
  have y5 := bx.cell 5 x.vd rfl
  have hP0 : ∀ i, P i → i < X0.heap.size := fun i hi => by have := hP i hi; omega
  have HC : Hid (Calls Try.prog 23 #[.pointer (some ⟨b, 0, none⟩), .int .i64 x.num, .int .i64 x.at_] X0 fun e W => e = .returned (.int .i64 (cutE s x.num x.at_)) ∧ NL (fun i => P i ∨ w.heap.size ≤ i) W b (cutS s x.num x.at_) ∧ Kp P w W) := by
    refine (Cut_in (h.below b0) hP0 hxn x.at_).mono ?_
    rintro e W ⟨rfl, hn, kk⟩
    exact ⟨rfl, hn.mono (fun i hi => by rcases hi with hi | hi; exact .inl hi; exact .inr (by omega)), (Kp.of_below b0).trans kk (fun i hi => .inl hi)⟩
  unfold stC at hX0
  unfold stC
  rw [ev] at hX0 y5 ⊢
  clear h hP hx hxr hxn b0 hz0 bx hP0 ev
  generalize x.dat.length = n at *
  go_enter Try.func24, Try.ntmps24
  go_wp2_with fail
  refine (unhide HC).mono ?_
  rintro e W1 ⟨rfl, hq⟩
  have HQ := hide hq
  clear hq HC
  go_wp2
  go_ret
  exact ⟨rfl, unhide HQ⟩
set_option maxRecDepth 100000 in
set_option maxHeartbeats 4000000 in
theorem do_0 (h : NL P w b s) (hP : ∀ i, P i → i < w.heap.size) (x : Stp) (hx : StW w x) (hxl : x.dat.length ≤ 1000000) (hk1 : x.kind ≠ 1) (hk2 : x.kind ≠ 2) (hk3 : x.kind ≠ 3) (hk4 : x.kind ≠ 4) (hk5 : x.kind ≠ 5) (hk6 : x.kind ≠ 6)  : Calls Try.prog 24 #[.pointer (some ⟨b, 0, none⟩), .agg (stC x)] w (CN P w b (doS s x) (.int .i64 (doN s x))) := by
  rw [show doS s x = s by unfold doS; rw [if_neg hk1, if_neg hk2, if_neg hk3, if_neg hk4, if_neg hk5, if_neg hk6], show doN s x = 0 by unfold doN; rw [if_neg hk1, if_neg hk4]]
  have q1 : (x.kind == 1) = false := by rw [beq_eq_false_iff_ne]; exact hk1
  have q2 : (x.kind == 2) = false := by rw [beq_eq_false_iff_ne]; exact hk2
  have q3 : (x.kind == 3) = false := by rw [beq_eq_false_iff_ne]; exact hk3
  have q4 : (x.kind == 4) = false := by rw [beq_eq_false_iff_ne]; exact hk4
  have q5 : (x.kind == 5) = false := by rw [beq_eq_false_iff_ne]; exact hk5
  have q6 : (x.kind == 6) = false := by rw [beq_eq_false_iff_ne]; exact hk6
  clear hk1 hk2 hk3 hk4 hk5 hk6
  have hxn := hx.num
  have hxr := hx.rd
  obtain ⟨av, cv, ev⟩ := hx.fd
  rw [ev] at hxr
  obtain ⟨X0, hX0⟩ : ∃ X0, w.alloc (.cells (stC x) 32) = X0 := ⟨_, rfl⟩
  have b0 : Below w.heap.size w X0 := by rw [← hX0]; exact ballc (Below.refl _ _) _
  have hz0 : X0.heap.size = w.heap.size + 1 := by rw [← hX0]; simp
  have bx : Bx X0 w.heap.size 32 (stC x) := by rw [← hX0]; exact Bx.new _ _ _
  have y0 := bx.cell 0 (.int .i64 x.kind) rfl
  have y1 := bx.cell 1 (.int .i64 x.num) rfl
  have y2 := bx.cell 2 (.int .i64 x.frm) rfl
  have y3 := bx.cell 3 (.int .i64 x.to) rfl
  have y4 := bx.cell 4 (.int .i64 x.at_) rfl
  have y5 := bx.cell 5 x.vd rfl
  have hP0 : ∀ i, P i → i < X0.heap.size := fun i hi => by have := hP i hi; omega
  have FIN := hide (CN.same h (.int .i64 0) b0)
  unfold stC at hX0
  unfold stC
  rw [ev] at hX0 y5 ⊢
  clear h hP hx hxr hxn b0 hz0 bx hP0 ev
  generalize x.dat.length = n at *
  go_enter Try.func24, Try.ntmps24
  go_wp2
  go_ret
  exact unhide FIN
theorem do_in (h : NL P w b s) (hP : ∀ i, P i → i < w.heap.size) (x : Stp) (hx : StW w x) (hxl : x.dat.length ≤ 1000000) : Calls Try.prog 24 #[.pointer (some ⟨b, 0, none⟩), .agg (stC x)] w (CN P w b (doS s x) (.int .i64 (doN s x))) := by
  by_cases h1 : x.kind = 1
  · exact do_1 h hP x hx hxl h1
  by_cases h2 : x.kind = 2
  · exact do_2 h hP x hx hxl h2
  by_cases h3 : x.kind = 3
  · exact do_3 h hP x hx hxl h3
  by_cases h4 : x.kind = 4
  · exact do_4 h hP x hx hxl h4
  by_cases h5 : x.kind = 5
  · exact do_5 h hP x hx hxl h5
  by_cases h6 : x.kind = 6
  · exact do_6 h hP x hx hxl h6
  exact do_0 h hP x hx hxl h1 h2 h3 h4 h5 h6

end Go.Proofs.Yteomalmflebkhaa
