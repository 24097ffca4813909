/-
  What the document fixes.
-/
import Derived.Test.YtehmbbnmjiojgaaZLK1
set_option linter.unusedSimpArgs false
set_option linter.unusedVariables false
namespace Go.Proofs.Ytehmbbnmjiojgaa
open Go.RowKit Go.Lib

def kO1 : Opn := ⟨1, 6, [(1, 5)], 4, 0, 0, 0, 0, ⟨#[]⟩, [], 0⟩
def kO2 : Opn := ⟨1, 8, [(1, 7)], 4, 0, 0, 0, 0, ⟨#[]⟩, [], 0⟩
def kO3 : Opn := ⟨0, 0, [], 0, 0, 0, 0, 0, ⟨#[]⟩, [], 0⟩
theorem in64_lit (n : Int) (h : -9223372036854775808 ≤ n ∧ n ≤ 9223372036854775807) : in64 n := h
theorem z64 : in64 0 := ⟨by omega, by omega⟩
theorem kIn {ds dq k : Int} {d : List (Int × Int)} (h1 : in64 ds) (h2 : in64 dq) (h3 : in64 k) (hd : d.length ≤ 140737488355328) : InO ⟨ds, dq, d, k, 0, 0, 0, 0, ⟨#[]⟩, [], 0⟩ :=
  ⟨h1, h2, h3, z64, z64, z64, z64, z64, hd, by show (⟨#[]⟩ : ByteArray).size ≤ _; decide, fun r hr => (by cases hr), by simp⟩
theorem kc0 : chk [(1, 5)] = 0 := by kernel_rfl
theorem ka1 : addE [(1, 5)] kO1 = 0 := by kernel_rfl
theorem kv1 : (addV [(1, 5)] (kO1.ds, kO1.dq)).1 = [(1, 6)] := by kernel_rfl
theorem ka2 : addE [(1, 6)] kO2 = 9 := by kernel_rfl
theorem ka3 : addE [(1, 6)] kO3 = 10 := by kernel_rfl
theorem kb1 : bynd [(1, 5)] [kO1] = [kO1] := by kernel_rfl
theorem ke1 : cutE [(1, 6)] [(1, 6)] = 0 := by kernel_rfl
theorem kg1 : prL [(1, 6)] true [kO1] = [kO1] := by kernel_rfl
theorem kl1 : prL [(1, 6)] false [kO1] = [] := by kernel_rfl
theorem km1 : vec (mrg (sy [(1, 5)]) (sy [(1, 6)])) = [(1, 6)] := by kernel_rfl

theorem lit1 (W : World) (x y : Int) : RI (W.alloc (.cells #[.int .i64 x, .int .i64 y] 33)) (.slice (some ⟨W.heap.size, 0, none⟩) 1 1) [(x, y)] := RC.lit W 33 #[.int .i64 x, .int .i64 y] 1

set_option maxRecDepth 100000 in
set_option maxHeartbeats 8000000 in
theorem known_in (w : World) : Calls Try.prog 5 #[] w fun e W => e = .returned (.bool true) ∧ Below w.heap.size w W := by
  have H1 := hide (New_in _ [(1, 5)] _ (lit1 w 1 5) (by simp))
  unfold NewA at H1
  rw [kc0] at H1
  go_enter Try.func5, Try.ntmps5
  go_wp2_with fail
  refine (unhide H1).mono ?_
  rintro r W1 (⟨h, _⟩ | ⟨_, b, rfl, hL, hb1⟩)
  · exact absurd rfl h
  have S1 := hide (KS.new hL hb1 (ballc (Below.refl w.heap.size w) (.cells #[.int .i64 1, .int .i64 5] 33)))
  clear hL hb1 H1
  -- Add
  have b2 := ballc (Below.refl W1.heap.size W1) (.cells #[.int .i64 1, .int .i64 5] 33)
  have H2 := hide (KAdd_in ((unhide S1).below b2) (by simp) kO1 (some ⟨W1.heap.size, 0, none⟩) none 1 0 (lit1 W1 1 5) (.inl ⟨rfl, _, _, rfl⟩) (kIn ⟨by omega, by omega⟩ ⟨by omega, by omega⟩ ⟨by omega, by omega⟩ (by simp)) (by simp [kO1]) (by simp [kO1]) (by show (⟨#[]⟩ : ByteArray).size ≤ _; decide))
  rw [ka1, if_pos rfl, if_pos rfl, kv1] at H2
  simp only [kO1, opA, List.length_cons, List.length_nil, Nat.zero_add, List.nil_append] at H2
  clear b2 S1
  go_wp2_with fail
  refine (unhide H2).mono ?_
  rintro r W2 ⟨rfl, hS2⟩
  have S2 := hide hS2
  clear H2 hS2
  -- Add, too early
  have b3 := ballc (Below.refl W2.heap.size W2) (.cells #[.int .i64 1, .int .i64 7] 33)
  have H3 := hide (KAdd_in ((unhide S2).below b3) (by simp) kO2 (some ⟨W2.heap.size, 0, none⟩) none 1 0 (lit1 W2 1 7) (.inl ⟨rfl, _, _, rfl⟩) (kIn ⟨by omega, by omega⟩ ⟨by omega, by omega⟩ ⟨by omega, by omega⟩ (by simp)) (by simp [kO2]) (by simp [kO2]) (by show (⟨#[]⟩ : ByteArray).size ≤ _; decide))
  rw [ka2, if_neg (by decide), if_neg (by decide)] at H3
  simp only [kO2, opA, List.length_cons, List.length_nil, Nat.zero_add] at H3
  clear b3 S2
  go_wp2_with fail
  refine (unhide H3).mono ?_
  rintro r W3 ⟨rfl, hS3⟩
  have S3 := hide hS3
  clear H3 hS3
  have H4 := hide (KAdd_in (unhide S3) (by simp) kO3 none none 0 0 (.inl ⟨rfl, _, _, rfl⟩) (.inl ⟨rfl, _, _, rfl⟩) (kIn ⟨by omega, by omega⟩ ⟨by omega, by omega⟩ ⟨by omega, by omega⟩ (by simp)) (by simp [kO3]) (by simp [kO3]) (by show (⟨#[]⟩ : ByteArray).size ≤ _; decide))
  rw [ka3, if_neg (by decide), if_neg (by decide)] at H4
  simp only [kO3, opA, List.length_nil] at H4
  clear S3
  go_wp2_with fail
  refine (unhide H4).mono ?_
  rintro r W4 ⟨rfl, hS4⟩
  have S4 := hide hS4
  clear H4 hS4
  -- Lacks
  have b5 := ballc (Below.refl W4.heap.size W4) (.cells #[.int .i64 1, .int .i64 5] 33)
  have S4' := hide ((unhide S4).below b5)
  have H5 := hide (KLacks_in (unhide S4') (by simp) _ _ _ [(1, 5)] (lit1 W4 1 5) (by simp))
  rw [show bynd [(1, 5)] [(⟨1, 6, [(1, 5)], 4, 0, 0, 0, 0, ⟨#[]⟩, [], 0⟩ : Opn)] = [kO1] from kb1] at H5
  simp only [List.length_cons, List.length_nil, Nat.zero_add] at H5
  clear b5 S4
  go_wp2_with fail
  refine (unhide H5).mono ?_
  rintro r W5 ⟨rfl, hb5⟩
  have S5 := hide ((unhide S4').below hb5)
  clear H5 hb5 S4'
  -- Cut
  have b6 := ballc (Below.refl W5.heap.size W5) (.cells #[.int .i64 1, .int .i64 6] 33)
  have H6 := hide (KCut_in (unhide S5) b6 (by simp) _ [(1, 6)] (lit1 W5 1 6) (by simp) (fun k hk => .inr (by have := hk.2; simp [Value.ownBlock] at this; omega)))
  rw [ke1, if_pos rfl, if_pos rfl, if_pos rfl, show prL [(1, 6)] true [(⟨1, 6, [(1, 5)], 4, 0, 0, 0, 0, ⟨#[]⟩, [], 0⟩ : Opn)] = [kO1] from kg1, show prL [(1, 6)] false [(⟨1, 6, [(1, 5)], 4, 0, 0, 0, 0, ⟨#[]⟩, [], 0⟩ : Opn)] = [] from kl1, km1] at H6
  clear b6 S5
  go_wp2_with fail
  refine (unhide H6).mono ?_
  rintro r W6 ⟨v6, P6, rfl, hrl, hS6⟩
  obtain ⟨ops6, ho6, -, -, he6⟩ := hrl
  obtain ⟨a6, c6, rfl⟩ := owns_form ho6
  have hl6 : ops6.length = 1 := by have := congrArg List.length he6; simpa using this
  rw [hl6]
  have S6 := hide hS6
  obtain ⟨P, hL6, -, -⟩ := hS6
  have HLn := hide (Len_in hL6)
  have HBs := hide (Base_in hL6)
  clear H6 ho6 he6 hl6 hL6
  go_wp2_with fail
  refine (unhide HLn).mono ?_
  rintro r W7 ⟨rfl, rfl⟩
  go_wp2_with fail
  refine (unhide HBs).mono ?_
  rintro r W8 ⟨v8, rfl, ho8, hb8⟩
  have al := ballc (Below.refl W8.heap.size W8) (.cells #[.int .i64 1, .int .i64 6] 33)
  have HV := hide (vectors_in [(1, 6)] [(1, 6)] v8 _ _ (ho8.row.below al) (lit1 W8 1 6) (by simp) (by simp))
  rw [decide_eq_true rfl] at HV
  obtain ⟨a8, c8, rfl⟩ := OwD.form ho8
  have HB := hide (bnext (bnext (unhide S6).bel hb8) al)
  clear HLn HBs ho8 hb8 al
  go_wp2_with fail
  refine (unhide HV).mono ?_
  rintro r W9 ⟨rfl, nd, rfl⟩
  go_wp2
  go_ret
  exact ⟨rfl, bdrew (unhide HB) nd⟩

end Go.Proofs.Ytehmbbnmjiojgaa
