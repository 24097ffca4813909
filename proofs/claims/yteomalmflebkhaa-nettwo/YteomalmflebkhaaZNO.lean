/-
  ask: the copy that a change is meant for.
-/
import Derived.Test.YteomalmflebkhaaZNK
import Derived.Test.YteomalmflebkhaaZNI
set_option linter.unusedSimpArgs false
set_option linter.unusedVariables false
namespace Go.Proofs.Yteomalmflebkhaa
open Go.RowKit Go.Lib

variable {P N : Nat → Prop} {w W W' : World} {b p f m : Nat} {c : Cp} {s : Stn} {mo : Option Nat} {pb : Int → Nat} {vc vs : Value} {frm to sent : Int} {cl : List Int}
theorem meth_fc (n : Int) (w : World) : (method 248 97 (.int .i64 n) "hearsay/net.fits").run Try.prog w = .ok (97, .int .i64 n) w := by kernel_rfl
theorem meth_fa (a : Int) (v : Value) (w : World) : (method 248 93 (.agg #[.int .i64 a, v]) "hearsay/net.fits").run Try.prog w = .ok (95, .agg #[.int .i64 a, v]) w := by kernel_rfl
set_option maxRecDepth 100000 in
set_option maxHeartbeats 2000000 in
theorem askC_nil (k : Int) (n : Int) : Calls Try.prog 45 #[.pointer none, .int .i64 k, .int .i64 n] w fun e W => e = .returned (.tuple #[.pointer none, .int .i64 1]) ∧ Below w.heap.size w W := by
  have HF := hide (find_nil k w)
  go_enter Try.func45, Try.ntmps45
  go_wp2_with fail
  refine (unhide HF).mono ?_
  rintro e W1 ⟨rfl, rfl⟩
  go_wp2
  refine bodyPost_ret (results_tmp2 rfl _ _ _) rfl ?_
  exact ⟨rfl, Below.refl _ _⟩
set_option maxRecDepth 100000 in
set_option maxHeartbeats 2000000 in
theorem askC_none (h : NM P w b mo pb s) {k : Int} (hk : in64 k) (hf : fnd s.ls k = none) (n : Int) : Calls Try.prog 45 #[.pointer (some ⟨b, 0, none⟩), .int .i64 k, .int .i64 n] w fun e W => e = .returned (.tuple #[.pointer none, .int .i64 11]) ∧ Below w.heap.size w W := by
  have HF := hide (find_none (h.kp (N := fun _ => False) (Kp.of_below (Below.refl _ _)) (fun _ e => e.elim)) hk hf)
  clear h hf
  go_enter Try.func45, Try.ntmps45
  go_wp2_with fail
  refine (unhide HF).mono ?_
  rintro e W1 ⟨rfl, rfl⟩
  go_wp2
  refine bodyPost_ret (results_tmp2 rfl _ _ _) rfl ?_
  exact ⟨rfl, Below.refl _ _⟩
set_option maxRecDepth 100000 in
set_option maxHeartbeats 2000000 in
theorem askC_some (h : NM P w b mo pb s) {k : Int} (hk : in64 k) (hf : fnd s.ls k = some c) (n : Int) (er : Int) (he : cutE s k n = er) : Calls Try.prog 45 #[.pointer (some ⟨b, 0, none⟩), .int .i64 k, .int .i64 n] w fun e W => e = .returned (.tuple #[.pointer (if er = 0 then some ⟨pb k, 0, none⟩ else none), .int .i64 er]) ∧ Below w.heap.size w W := by
  have h0 := h.kp (N := fun _ => False) (Kp.of_below (Below.refl _ _)) (fun _ e => e.elim)
  have HF := hide (find_some h0 hk hf)
  obtain ⟨f, vc, vs, hp⟩ := h.pr c (fnd_mem hf)
  rw [fnd_num hf] at hp
  have HX := hide (fitC_in hp (h.gd.dat (fnd_mem hf)) n)
  have p1 := hp.bp.cell 1 (.bool c.bad) rfl
  have hE : cutE s k n = if fitC c n = true then (if c.bad = true then 12 else 0) else 1 := by unfold cutE; rw [hf]
  rw [he] at hE
  have mf := meth_fc
  generalize pb k = q at *
  clear he h hp hf hk h0
  cases hF : fitC c n with
  | false =>
    rw [hF] at HX hE
    simp only [Bool.false_eq_true, if_false] at hE
    subst hE
    show Calls _ _ _ _ fun e W => e = .returned (.tuple #[.pointer none, .int .i64 1]) ∧ Below w.heap.size w W
    clear hF
    go_enter Try.func45, Try.ntmps45
    go_wp2_with fail
    refine (unhide HF).mono ?_
    rintro e W1 ⟨rfl, rfl⟩
    clear HF
    go_wp2_with fail
    refine (unhide HX).mono ?_
    rintro e W2 ⟨rfl, rfl⟩
    clear HX
    go_wp2
    refine bodyPost_ret (results_tmp2 rfl _ _ _) rfl ?_
    exact ⟨rfl, Below.refl _ _⟩
  | true =>
    rw [hF] at HX hE
    simp only [if_true] at hE
    clear hF
    cases hB : c.bad with
    | true =>
      rw [hB] at p1 hE
      simp only [if_true] at hE
      subst hE
      show Calls _ _ _ _ fun e W => e = .returned (.tuple #[.pointer none, .int .i64 12]) ∧ Below w.heap.size w W
      clear hB
      go_enter Try.func45, Try.ntmps45
      go_wp2_with fail
      refine (unhide HF).mono ?_
      rintro e W1 ⟨rfl, rfl⟩
      clear HF
      go_wp2_with fail
      refine (unhide HX).mono ?_
      rintro e W2 ⟨rfl, rfl⟩
      clear HX
      go_wp2
      refine bodyPost_ret (results_tmp2 rfl _ _ _) rfl ?_
      exact ⟨rfl, Below.refl _ _⟩
    | false =>
      rw [hB] at p1 hE
      simp only [Bool.false_eq_true, if_false] at hE
      subst hE
      show Calls _ _ _ _ fun e W => e = .returned (.tuple #[.pointer (some ⟨q, 0, none⟩), .int .i64 0]) ∧ Below w.heap.size w W
      clear hB
      go_enter Try.func45, Try.ntmps45
      go_wp2_with fail
      refine (unhide HF).mono ?_
      rintro e W1 ⟨rfl, rfl⟩
      clear HF
      go_wp2_with fail
      refine (unhide HX).mono ?_
      rintro e W2 ⟨rfl, rfl⟩
      clear HX
      go_wp2
      refine bodyPost_ret (results_tmp2 rfl _ _ _) rfl ?_
      exact ⟨rfl, Below.refl _ _⟩
set_option maxRecDepth 100000 in
set_option maxHeartbeats 2000000 in
theorem askA_nil (k : Int) (a : Int) (av : Option Addr) (cv : Nat) (y : List Int) (hy : RB w (.slice av y.length cv) y) (hyl : y.length ≤ 9223372036854775807) : Calls Try.prog 42 #[.pointer none, .int .i64 k, ptV a (.slice av y.length cv)] w fun e W => e = .returned (.tuple #[.pointer none, .int .i64 1]) ∧ Below w.heap.size w W := by
  obtain ⟨X0, hX0⟩ : ∃ X0, w.alloc (.cells #[.int .i64 a, .slice av y.length cv] 93) = X0 := ⟨_, rfl⟩
  have b0 : Below w.heap.size w X0 := by rw [← hX0]; exact ballc (Below.refl _ _) _
  have B0 := hide b0
  have bx : Bx X0 w.heap.size 93 #[.int .i64 a, .slice av y.length cv] := by rw [← hX0]; exact Bx.new _ _ _
  have x0 := bx.cell 0 (.int .i64 a) rfl
  have x1 := bx.cell 1 (.slice av y.length cv) rfl
  have HF := hide (find_nil k X0)
  unfold ptV
  obtain ⟨n, hn⟩ : ∃ n, y.length = n := ⟨_, rfl⟩
  rw [hn] at hX0 bx x1 ⊢
  clear hn
  go_enter Try.func42, Try.ntmps42
  go_wp2_with fail
  refine (unhide HF).mono ?_
  rintro e W1 ⟨rfl, rfl⟩
  go_wp2
  refine bodyPost_ret (results_tmp2 rfl _ _ _) rfl ?_
  exact ⟨rfl, unhide B0⟩
set_option maxRecDepth 100000 in
set_option maxHeartbeats 2000000 in
theorem askA_none (h : NM P w b mo pb s) {k : Int} (hk : in64 k) (hf : fnd s.ls k = none) (a : Int) (av : Option Addr) (cv : Nat) (y : List Int) (hy : RB w (.slice av y.length cv) y) (hyl : y.length ≤ 9223372036854775807) : Calls Try.prog 42 #[.pointer (some ⟨b, 0, none⟩), .int .i64 k, ptV a (.slice av y.length cv)] w fun e W => e = .returned (.tuple #[.pointer none, .int .i64 11]) ∧ Below w.heap.size w W := by
  obtain ⟨X0, hX0⟩ : ∃ X0, w.alloc (.cells #[.int .i64 a, .slice av y.length cv] 93) = X0 := ⟨_, rfl⟩
  have b0 : Below w.heap.size w X0 := by rw [← hX0]; exact ballc (Below.refl _ _) _
  have B0 := hide b0
  have bx : Bx X0 w.heap.size 93 #[.int .i64 a, .slice av y.length cv] := by rw [← hX0]; exact Bx.new _ _ _
  have x0 := bx.cell 0 (.int .i64 a) rfl
  have x1 := bx.cell 1 (.slice av y.length cv) rfl
  have HF := hide (find_none (h.kp (N := fun _ => False) (Kp.of_below (b0)) (fun _ e => e.elim)) hk hf)
  unfold ptV
  obtain ⟨n, hn⟩ : ∃ n, y.length = n := ⟨_, rfl⟩
  rw [hn] at hX0 bx x1 ⊢
  clear hn
  clear h hf
  go_enter Try.func42, Try.ntmps42
  go_wp2_with fail
  refine (unhide HF).mono ?_
  rintro e W1 ⟨rfl, rfl⟩
  go_wp2
  refine bodyPost_ret (results_tmp2 rfl _ _ _) rfl ?_
  exact ⟨rfl, unhide B0⟩
set_option maxRecDepth 100000 in
set_option maxHeartbeats 2000000 in
theorem askA_some (h : NM P w b mo pb s) {k : Int} (hk : in64 k) (hf : fnd s.ls k = some c) (a : Int) (av : Option Addr) (cv : Nat) (y : List Int) (hy : RB w (.slice av y.length cv) y) (hyl : y.length ≤ 9223372036854775807) (er : Int) (he : altE s k a y = er) : Calls Try.prog 42 #[.pointer (some ⟨b, 0, none⟩), .int .i64 k, ptV a (.slice av y.length cv)] w fun e W => e = .returned (.tuple #[.pointer (if er = 0 then some ⟨pb k, 0, none⟩ else none), .int .i64 er]) ∧ Below w.heap.size w W := by
  obtain ⟨X0, hX0⟩ : ∃ X0, w.alloc (.cells #[.int .i64 a, .slice av y.length cv] 93) = X0 := ⟨_, rfl⟩
  have b0 : Below w.heap.size w X0 := by rw [← hX0]; exact ballc (Below.refl _ _) _
  have B0 := hide b0
  have bx : Bx X0 w.heap.size 93 #[.int .i64 a, .slice av y.length cv] := by rw [← hX0]; exact Bx.new _ _ _
  have x0 := bx.cell 0 (.int .i64 a) rfl
  have x1 := bx.cell 1 (.slice av y.length cv) rfl
  have h0 := h.kp (N := fun _ => False) (Kp.of_below (b0)) (fun _ e => e.elim)
  have HF := hide (find_some h0 hk hf)
  obtain ⟨f, vc, vs, hp⟩ := h.pr c (fnd_mem hf)
  rw [fnd_num hf] at hp
  have HX := hide (fitA_in (hp.below b0) (h.gd.dat (fnd_mem hf)) a (.slice av y.length cv) y (hy.below b0) hyl)
  have p1' := hp.bp.cell 1 (.bool c.bad) rfl
  have hE : altE s k a y = if fitA c a y = true then (if c.bad = true then 12 else 0) else 1 := by unfold altE; rw [hf]
  rw [he] at hE
  unfold ptV
  obtain ⟨n, hn⟩ : ∃ n, y.length = n := ⟨_, rfl⟩
  rw [hn] at hX0 bx x1 HX ⊢
  clear hn
  have mf := meth_fa
  generalize pb k = q at *
  clear he h hp hf hk h0 hy hyl bx b0
  cases hF : fitA c a y with
  | false =>
    rw [hF] at HX hE
    simp only [Bool.false_eq_true, if_false] at hE
    subst hE
    show Calls _ _ _ _ fun e W => e = .returned (.tuple #[.pointer none, .int .i64 1]) ∧ Below w.heap.size w W
    clear hF
    go_enter Try.func42, Try.ntmps42
    go_wp2_with fail
    refine (unhide HF).mono ?_
    rintro e W1 ⟨rfl, rfl⟩
    clear HF
    go_wp2_with fail
    refine (unhide HX).mono ?_
    rintro e W2 ⟨rfl, hb⟩
    have HB2 := hide (bnext (unhide B0) hb)
    have p1 := cell_below p1' (unhide HB2)
    clear hb p1'
    clear HX
    go_wp2
    refine bodyPost_ret (results_tmp2 rfl _ _ _) rfl ?_
    exact ⟨rfl, unhide HB2⟩
  | true =>
    rw [hF] at HX hE
    simp only [if_true] at hE
    clear hF
    cases hB : c.bad with
    | true =>
      rw [hB] at p1' hE
      simp only [if_true] at hE
      subst hE
      show Calls _ _ _ _ fun e W => e = .returned (.tuple #[.pointer none, .int .i64 12]) ∧ Below w.heap.size w W
      clear hB
      go_enter Try.func42, Try.ntmps42
      go_wp2_with fail
      refine (unhide HF).mono ?_
      rintro e W1 ⟨rfl, rfl⟩
      clear HF
      go_wp2_with fail
      refine (unhide HX).mono ?_
      rintro e W2 ⟨rfl, hb⟩
      have HB2 := hide (bnext (unhide B0) hb)
      have p1 := cell_below p1' (unhide HB2)
      clear hb p1'
      clear HX
      go_wp2
      refine bodyPost_ret (results_tmp2 rfl _ _ _) rfl ?_
      exact ⟨rfl, unhide HB2⟩
    | false =>
      rw [hB] at p1' hE
      simp only [Bool.false_eq_true, if_false] at hE
      subst hE
      show Calls _ _ _ _ fun e W => e = .returned (.tuple #[.pointer (some ⟨q, 0, none⟩), .int .i64 0]) ∧ Below w.heap.size w W
      clear hB
      go_enter Try.func42, Try.ntmps42
      go_wp2_with fail
      refine (unhide HF).mono ?_
      rintro e W1 ⟨rfl, rfl⟩
      clear HF
      go_wp2_with fail
      refine (unhide HX).mono ?_
      rintro e W2 ⟨rfl, hb⟩
      have HB2 := hide (bnext (unhide B0) hb)
      have p1 := cell_below p1' (unhide HB2)
      clear hb p1'
      clear HX
      go_wp2
      refine bodyPost_ret (results_tmp2 rfl _ _ _) rfl ?_
      exact ⟨rfl, unhide HB2⟩

end Go.Proofs.Yteomalmflebkhaa
