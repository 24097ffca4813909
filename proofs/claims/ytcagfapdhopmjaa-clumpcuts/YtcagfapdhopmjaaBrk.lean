/-
  What clump.Break answers, for every text and every number.
-/
import Derived.Test.YtcagfapdhopmjaaPtd
import Derived.Test.YtcagfapdhopmjaaReg
set_option linter.unusedSimpArgs false
set_option linter.unusedVariables false
namespace Go.Proofs.Ytcagfapdhopmjaa
open Go.RowKit Go.Lib

theorem wrap_small {z : Int} (h1 : -9223372036854775808 ≤ z) (h2 : z ≤ 9223372036854775807) : IntKind.i64.wrap z = z := by
  rw [IntKind.wrap_i64]; omega

/-- the classes of a part of a text, the last one first -/
theorem rc_seg {s : ByteArray} {b e : Nat} {L : List Nat} (hs : Sync s e) (he : e ≤ s.size) (hb : b ≤ e) (h : frm s b = L ++ frm s e) : rc (s.extract b e) = (L.map (C s)).reverse := by
  have h2 := allL_ext hs he hb
  rw [h] at h2
  have hL := List.append_cancel_right h2
  unfold rc
  rw [hL, List.map_reverse, List.map_map]
  refine congrArg List.reverse (List.map_congr_left (fun i hi => ?_))
  show cls (rn (s.extract b e) i : Nat) = cls (rn s (b + i) : Nat)
  rw [rn_ext hs he hi]

theorem isBr_out {s : ByteArray} {a : Int} (h : a < 0 ∨ (s.size : Int) < a) : isBr s a = false := by
  unfold isBr
  rw [decide_eq_false]
  rintro ⟨h1, h2⟩
  have := brL_le h2
  omega
theorem isBr_zero (s : ByteArray) : isBr s 0 = true := by
  obtain ⟨r, hr⟩ := brL_zero s
  unfold isBr
  rw [hr]; simp
theorem isBr_size (s : ByteArray) : isBr s (s.size : Int) = true := by
  rw [isBr_nat]; simp [brL_end]

/-- a place of the cut within a text, and the one ahead of it -/
theorem cut_split {s : ByteArray} {k : Nat} (h0 : 0 < k) (hk : k < s.size) (h : Sync s k) : ∃ pre j rest, allL s = pre ++ j :: k :: rest ∧ Sync s j ∧ j < s.size ∧ j + wd s j = k := by
  obtain ⟨A, rest, hA⟩ := List.append_of_mem (mem_allL.2 ⟨hk, h⟩)
  rcases List.eq_nil_or_concat A with rfl | ⟨pre, j, rfl⟩
  · obtain ⟨r, hr⟩ := allL_zero s (by omega)
    rw [hr] at hA
    simp at hA
    omega
  · rw [List.concat_eq_append, List.append_assoc] at hA
    have hj := mem_allL.1 (show j ∈ allL s by rw [hA]; simp)
    refine ⟨pre, j, rest, hA, hj.2, hj.1, ?_⟩
    have hf := (frm_split s pre 0 j (k :: rest) (by rw [← allL_frm]; exact hA)).2.2
    by_cases hlt : j + wd s j < s.size
    · rw [frm_step s _ hlt] at hf
      simp at hf
      exact hf.1.symm
    · rw [frm_end s _ hlt] at hf; cases hf

theorem brk_rc {s : ByteArray} {pre rest : List Nat} {j k : Nat} (h : allL s = pre ++ j :: k :: rest) (hj : Sync s j) (hjs : j < s.size) : isBr s (k : Int) = bk (rc (s.extract 0 j)) (C s j) (C s k) := by
  have hf := (frm_split s pre 0 j (k :: rest) (by rw [← allL_frm]; exact h)).2.1
  rw [rc_seg (L := pre) hj (by omega) (by omega) (by rw [← hf, ← allL_frm]; exact h), isBr_nat]
  have := mem_brL h
  cases hb : bk (pre.map (C s)).reverse (C s j) (C s k) with
  | true => rw [decide_eq_true (this.2 hb)]
  | false => rw [decide_eq_false (fun e => by rw [this.1 e] at hb; cases hb)]

set_option maxRecDepth 100000 in
set_option maxHeartbeats 2000000 in
theorem break_mid (s : ByteArray) (j : Nat) (b : Bool) (hs : s.size ≤ 140737488355328) (h0 : 0 < j + wd s j) (hk : j + wd s j < s.size) (hj : Sync s j) (hjs : j < s.size) (hin : inside s (j + wd s j) = false) (hb : b = bk (rc (s.extract 0 j)) (C s j) (C s (j + wd s j))) (w : World) :
    Calls Try.prog 14 #[.string s, .int .i64 ((j + wd s j : Nat) : Int)] w fun e W' => e = .returned (.bool b) ∧ Below w.heap.size w W' := by
  have hs0 : s.size ≤ maxLen := by unfold maxLen; omega
  have X1 := hide (lR_sync hj hjs)
  have X2 := hide (lN_sync hj hjs)
  have X3 := hide (lK_sync hj hjs)
  have Y1 : Hid (dR s ((j : Int) + (wd s j : Int)) = _) := hide (dR_in s _ hk)
  have Y2 : Hid (dN s ((j : Int) + (wd s j : Int)) = _) := hide (dN_in s _ hk)
  have Y3 : Hid (dK s ((j : Int) + (wd s j : Int)) = _) := hide (dK_in s _ hk)
  have r1 := rn_lt s j hjs
  have r2 := rn_lt s _ hk
  have hsz : (s.extract 0 j).size ≤ 140737488355328 := by rw [size_ext s 0 j (by omega)]; omega
  have q1 : ((j : Int) + (wd s j : Int) == 0) = false := by rw [beq_eq_false_iff_ne]; omega
  have q2 : ((j : Int) + (wd s j : Int) == (s.size : Int)) = false := by rw [beq_eq_false_iff_ne]; omega
  have q3 : ¬ ((j : Int) + (wd s j : Int) < 0) := by omega
  have q4 : ¬ ((s.size : Int) < (j : Int) + (wd s j : Int)) := by omega
  have Hwi := hide (within_in s (j + wd s j) hs h0 hk w)
  rw [hin] at Hwi
  have Hb := hide hb
  clear hb hin
  go_enter Try.func14, Try.ntmps14
  go_wp2_with (first | (go_at_call 32; refine (unhide Hwi).mono ?_; rintro e w' ⟨rfl, rfl⟩) | (go_at_call 33; refine (last_any _ _ _ hs0).mono ?_; rintro e w' ⟨rfl, rfl⟩; rw [unhide X1, unhide X2, unhide X3]) | (go_at_call 34; refine (decode_any _ _ _ hs0).mono ?_; rintro e w' ⟨rfl, rfl⟩; rw [unhide Y1, unhide Y2, unhide Y3]))
  refine wp_region_any (by kernel_rfl) ?_
  change wpAny _ _ _ _ _ _ _ (World.drew _)
  refine region_inv 56 (fun j => if j = 10 then 4 else 46 + j) [(0, .string s), (1, .int .i64 ((j : Int) + (wd s j : Int))), (5, .int .i32 (rn s j : Nat)), (6, .int .i64 (wd s j : Nat)), (8, .int .i32 (rn s (j + wd s j) : Nat))]
    (fun W => Below w'.heap.size w' W)
    (valsOf [isV (.string s), isV (.int .i64 ((j : Int) + (wd s j : Int))), isV (.int .i64 (wd s j : Nat)), isV (.int .i64 (j : Nat)), isV (.string (s.extract 0 j)), isV (.int .i32 (rn s j : Nat)), isV (.int .i64 (C s j)), isV (.int .i32 (rn s (j + wd s j) : Nat)), isV (.int .i64 (C s (j + wd s j))), isV (.bool b), isV (.bool b)])
    (fun w w' => Below w.heap.size w w') ?fit (fun w1 w2 h hG => h.trans (hG.mono h.size)) (valsOf_stable ?stable) [] ?gs ?gv ?steps ?fin _ _ ?sz rfl ?base ?start
  case fit => kernel_rfl
  case sz => rfl
  case gs => kernel_rfl
  case gv => intro p hp w v hv; cases hp
  case base => intro p hp; simp at hp; rcases hp with rfl | rfl | rfl | rfl | rfl <;> rfl
  case stable => exact Stables.all (by repeat (first | exact .nil | refine .same ?_))
  case start => exact (Below.refl _ _).drew
  case steps =>
    refine .cons (fun ρ w hρ hJ hb hd => step_move (.tmp 0) rfl ⟨Below.refl _ _, hb (0, _) (.head _)⟩) ?_
    refine .cons (fun ρ w hρ hJ hb hd => step_move (.tmp 1) rfl ⟨Below.refl _ _, hb (1, _) (.tail _ (.head _))⟩) ?_
    refine .cons (fun ρ w hρ hJ hb hd => step_move (.tmp 6) rfl ⟨Below.refl _ _, hb (6, _) (.tail _ (.tail _ (.tail _ (.head _))))⟩) ?_
    refine .cons (fun ρ w hρ hJ hb hd => ?_) ?_
    · have d1 : ρ (.tmp 47) = .int .i64 ((j : Int) + (wd s j : Int)) := hd 0 _ rfl rfl
      have d2 : ρ (.tmp 48) = .int .i64 (wd s j : Nat) := hd 1 _ rfl rfl
      refine step_val (v := .int .i64 (j : Nat)) (w' := w) ?_ ⟨Below.refl _ _, rfl⟩
      simp [go_sem, execOp, d1, d2]
      exact wrap_small (by omega) (by omega)
    refine .cons (fun ρ w hρ hJ hb hd => ?_) ?_
    · have d1 : ρ (.tmp 46) = .string s := hd 0 _ rfl rfl
      have d2 : ρ (.tmp 49) = .int .i64 (j : Nat) := hd 1 _ rfl rfl
      have i1 : (j : Int) ≤ (s.size : Int) := by omega
      refine step_val (v := .string (s.extract 0 j)) (w' := w) ?_ ⟨Below.refl _ _, rfl⟩
      simp [go_sem, execOp, d1, d2, i1]
    refine .cons (fun ρ w hρ hJ hb hd => step_move (.tmp 5) rfl ⟨Below.refl _ _, hb (5, _) (.tail _ (.tail _ (.head _)))⟩) ?_
    refine .cons (fun ρ w hρ hJ hb hd => ?_) ?_
    · have d1 : ρ (.tmp 51) = .int .i32 (rn s j : Nat) := hd 0 _ rfl rfl
      refine step_func 10 _ _ #[.int .i32 (rn s j : Nat)] hρ rfl (enters_of Try.func10 (by kernel_rfl) rfl) (by simp [d1]) ?_
      refine (class_in _ (by omega) (by omega) _).mono ?_
      rintro e w2 ⟨rfl, hB⟩
      exact ⟨_, rfl, hB, rfl⟩
    refine .cons (fun ρ w hρ hJ hb hd => step_move (.tmp 8) rfl ⟨Below.refl _ _, hb (8, _) (.tail _ (.tail _ (.tail _ (.tail _ (.head _)))))⟩) ?_
    refine .cons (fun ρ w hρ hJ hb hd => ?_) ?_
    · have d1 : ρ (.tmp 53) = .int .i32 (rn s (j + wd s j) : Nat) := hd 0 _ rfl rfl
      refine step_func 10 _ _ #[.int .i32 (rn s (j + wd s j) : Nat)] hρ rfl (enters_of Try.func10 (by kernel_rfl) rfl) (by simp [d1]) ?_
      refine (class_in _ (by omega) (by omega) _).mono ?_
      rintro e w2 ⟨rfl, hB⟩
      exact ⟨_, rfl, hB, rfl⟩
    refine .cons (fun ρ w hρ hJ hb hd => ?_) ?_
    · have d1 : ρ (.tmp 50) = .string (s.extract 0 j) := hd 0 _ rfl rfl
      have d2 : ρ (.tmp 52) = .int .i64 (C s j) := hd 1 _ rfl rfl
      have d3 : ρ (.tmp 54) = .int .i64 (C s (j + wd s j)) := hd 2 _ rfl rfl
      refine step_func 35 _ _ #[.string (s.extract 0 j), .int .i64 (C s j), .int .i64 (C s (j + wd s j))] hρ rfl (enters_of Try.func35 (by kernel_rfl) rfl) (by simp [d1, d2, d3]) ?_
      refine (parted_in _ _ _ hsz _).mono ?_
      rintro e w2 ⟨rfl, hB⟩
      exact ⟨_, rfl, hB, by rw [unhide Hb]; rfl⟩
    refine .cons (fun ρ w hρ hJ hb hd => step_assign (.tmp 55) rfl ⟨Below.refl _ _, hd 0 _ rfl rfl⟩) (.nil _)
  case fin =>
    intro a W h1 h2 hJ hv
    have h10 : a.eval (.tmp 4) = .bool b := hv 10 (by decide)
    clear hv
    go_wp2
    refine bodyPost_ret (v := .bool b) ?_ h2 ⟨rfl, hJ⟩
    have h4s := eval_some (a := a) (t := 4) (by omega)
    rw [h10] at h4s
    simp [results, Try.f14, h4s]

set_option maxHeartbeats 1000000 in
/-- clump.Break, at every text and every number. -/
theorem break_in (s : ByteArray) (a : Int) (hs : s.size ≤ 140737488355328) (w : World) :
    Calls Try.prog 14 #[.string s, .int .i64 a] w fun e W' => e = .returned (.bool (isBr s a)) ∧ Below w.heap.size w W' := by
  by_cases h0 : a = 0
  · subst h0
    have hb := hide (isBr_zero s)
    go_enter Try.func14, Try.ntmps14
    go_wp2
    go_ret
    exact ⟨by rw [unhide hb]; rfl, Below.refl _ _⟩
  by_cases h1 : a = (s.size : Int)
  · subst h1
    have hb := hide (isBr_size s)
    have q1 : ((s.size : Int) == 0) = false := by rw [beq_eq_false_iff_ne]; exact h0
    clear h0
    go_enter Try.func14, Try.ntmps14
    go_wp2
    go_ret
    exact ⟨by rw [unhide hb]; rfl, Below.refl _ _⟩
  by_cases h2 : a < 0
  · have hb := hide (isBr_out (s := s) (.inl h2))
    have q1 : (a == 0) = false := by rw [beq_eq_false_iff_ne]; exact h0
    have q2 : (a == (s.size : Int)) = false := by rw [beq_eq_false_iff_ne]; exact h1
    clear h0 h1
    go_enter Try.func14, Try.ntmps14
    go_wp2
    go_ret
    exact ⟨by rw [unhide hb]; rfl, Below.refl _ _⟩
  by_cases h3 : (s.size : Int) < a
  · have hb := hide (isBr_out (s := s) (.inr h3))
    have q1 : (a == 0) = false := by rw [beq_eq_false_iff_ne]; exact h0
    have q2 : (a == (s.size : Int)) = false := by rw [beq_eq_false_iff_ne]; exact h1
    clear h0 h1
    go_enter Try.func14, Try.ntmps14
    go_wp2
    go_ret
    exact ⟨by rw [unhide hb]; rfl, Below.refl _ _⟩
  obtain ⟨k, rfl⟩ := Int.eq_ofNat_of_zero_le (show 0 ≤ a by omega)
  have hk : k < s.size := by omega
  have hk0 : 0 < k := by omega
  cases hin : inside s k with
  | true =>
    have hb : Hid (isBr s (k : Int) = false) := hide (by
      rw [isBr_nat, decide_eq_false]
      intro h
      rcases brL_places h with e | e | e
      · omega
      · omega
      · rw [(inside_sync hk).2 (mem_allL.1 e).2] at hin; cases hin)
    have q1 : ((k : Int) == 0) = false := by rw [beq_eq_false_iff_ne]; exact h0
    have q2 : ((k : Int) == (s.size : Int)) = false := by rw [beq_eq_false_iff_ne]; exact h1
    have Hw := hide (within_in s k hs hk0 hk w)
    rw [hin] at Hw
    clear h0 h1 hin
    go_enter Try.func14, Try.ntmps14
    go_wp2_with (go_at_call 32; refine (unhide Hw).mono ?_; rintro e w' ⟨rfl, rfl⟩)
    go_ret
    exact ⟨by rw [unhide hb]; rfl, Below.refl _ _⟩
  | false =>
    obtain ⟨pre, j, rest, hA, hj, hjs, rfl⟩ := cut_split hk0 hk ((inside_sync hk).1 hin)
    exact break_mid s j _ hs hk0 hk hj hjs hin (brk_rc hA hj hjs) w

end Go.Proofs.Ytcagfapdhopmjaa
