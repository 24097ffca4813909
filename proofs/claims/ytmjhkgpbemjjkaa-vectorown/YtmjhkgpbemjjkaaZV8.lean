/-
  What the document fixes.
-/
import Derived.Test.YtmjhkgpbemjjkaaZV7
import Derived.Test.YtmjhkgpbemjjkaaZEQ
set_option linter.unusedSimpArgs false
set_option linter.unusedVariables false
namespace Go.Proofs.Ytmjhkgpbemjjkaa
open Go.RowKit Go.Lib

theorem RC.lit (W : World) (t : TypeId) (cs : Array Value) (n : Nat) : RC (W.alloc (.cells cs t)) (.slice (some ⟨W.heap.size, 0, none⟩) n n) n cs.toList :=
  .inr ⟨W.heap.size, 0, n, rfl, Nat.le_refl _, by simp, fun j x hx => (Bx.new W t cs).cell (0 + j) x (by rw [Nat.zero_add]; simpa using hx)⟩
theorem Wr.new (W : World) : Wr (W.alloc (.cells #[.slice none 0 0, .int .i64 0] 43)) W.heap.size (.slice none 0 0) [] 0 := ⟨Bx.new _ _ _, World.ownsRow_nil _ _ _ _⟩

def kA : List (Int × Int) := [(1, 5), (3, 2)]
def kB : List (Int × Int) := [(2, 1), (3, 4)]
def kC : List (Int × Int) := [(3, 2), (1, 5)]
theorem k_add : addV kA (2, 1) = ([(1, 5), (2, 1), (3, 2)], 0) := by decide
theorem k_add2 : addV kA (1, 5) = ([], 9) := by decide
theorem k_put : putV ([], 0) (vec (sy kC)) = ([2, 1, 5, 3, 2], 0) := by decide
theorem k_take : takeV ([2, 1, 5, 3, 2], 0) = ((kA, 0), ([], 0)) := by decide
theorem k_chk : chk kA = 0 := by decide
theorem k_get : getV kA 3 = 2 := by decide
theorem k_has : hasV kA (1, 5) = true := by decide
theorem k_cov : cov (sy kA) (sy kB) = false := by decide
theorem k_mrg : vec (mrg (sy kA) (sy kB)) = [(1, 5), (2, 1), (3, 4)] := by decide
theorem k_lst : vec (lst (sy kA) (sy kB)) = [(3, 2)] := by decide
theorem k_sum : sum (sy kA) = 7 := by decide

set_option maxRecDepth 100000 in
set_option maxHeartbeats 4000000 in
theorem known_in (w : World) : Calls Try.prog 9 #[] w fun e W => e = .returned (.bool true) ∧ Below w.heap.size w W := by
  obtain ⟨X, hX⟩ : ∃ X, (w.alloc (.cells #[.int .i64 1, .int .i64 5, .int .i64 3, .int .i64 2] 25)).alloc (.cells #[.int .i64 2, .int .i64 1, .int .i64 3, .int .i64 4] 25) = X := ⟨_, rfl⟩
  have HA : RI X (.slice (some ⟨w.heap.size, 0, none⟩) 2 2) kA := by
    rw [← hX]
    exact RC.below (RC.lit w 25 #[.int .i64 1, .int .i64 5, .int .i64 3, .int .i64 2] 2) (ballc (Below.refl _ _) _)
  have HB : RI X (.slice (some ⟨w.heap.size + 1, 0, none⟩) 2 2) kB := by
    rw [← hX]
    have := RC.lit (w.alloc (.cells #[.int .i64 1, .int .i64 5, .int .i64 3, .int .i64 2] 25)) 25 #[.int .i64 2, .int .i64 1, .int .i64 3, .int .i64 4] 2
    rw [show (w.alloc (.cells #[.int .i64 1, .int .i64 5, .int .i64 3, .int .i64 2] 25)).heap.size = w.heap.size + 1 by simp] at this
    exact this
  have hXs : X.heap.size = w.heap.size + 2 := by rw [← hX]; simp
  have BX : Below w.heap.size w X := by rw [← hX]; exact ballc (ballc (Below.refl _ _) _) _
  have lA : kA.length ≤ 140737488355328 := by decide
  have lB : kB.length ≤ 140737488355328 := by decide
  have C1 := hide (Add_in _ kA 2 1 X HA lA (by omega))
  rw [k_add] at C1
  replace HA := hide HA
  replace HB := hide HB
  replace BX := hide BX
  go_enter Try.func9, Try.ntmps9
  go_wp2_with fail
  refine (unhide C1).mono ?_
  rintro e W1 ⟨v1, rfl, ho1, hb1⟩
  obtain ⟨a1, c1, rfl⟩ := ho1.form
  simp only [List.length_cons, List.length_nil]
  replace HA := hide ((unhide HA).below hb1)
  replace HB := hide ((unhide HB).below hb1)
  replace BX := hide (bnext (unhide BX) hb1)
  have hs1 : w.heap.size + 2 ≤ W1.heap.size := by have := hb1.size; omega
  have C2 := hide (Add_in _ kA 1 5 W1 (unhide HA) lA (by omega))
  rw [k_add2] at C2
  clear C1 ho1 hb1 hX hXs
  go_wp2_with fail
  refine (unhide C2).mono ?_
  rintro e W2 ⟨v2, rfl, ho2, hb2⟩
  obtain ⟨a2, c2, rfl⟩ := ho2.form
  replace HA := hide ((unhide HA).below hb2)
  replace HB := hide ((unhide HB).below hb2)
  replace BX := hide (bnext (unhide BX) hb2)
  have hs2 : w.heap.size + 2 ≤ W2.heap.size := by have := hb2.size; omega
  clear C2 ho2 hb2
  obtain ⟨Y, hY⟩ : ∃ Y, (W2.alloc (.cells #[.slice none 0 0, .int .i64 0] 43)).alloc (.cells #[.int .i64 3, .int .i64 2, .int .i64 1, .int .i64 5] 25) = Y := ⟨_, rfl⟩
  have b2 : Below W2.heap.size W2 Y := by rw [← hY]; exact ballc (ballc (Below.refl _ _) _) _
  have HW : Wr Y W2.heap.size (.slice none 0 0) [] 0 := by rw [← hY]; exact (Wr.new W2).below (ballc (Below.refl _ _) _)
  have HC : RI Y (.slice (some ⟨W2.heap.size + 1, 0, none⟩) 2 2) kC := by
    rw [← hY]
    have := RC.lit (W2.alloc (.cells #[.slice none 0 0, .int .i64 0] 43)) 25 #[.int .i64 3, .int .i64 2, .int .i64 1, .int .i64 5] 2
    rw [show (W2.alloc (.cells #[.slice none 0 0, .int .i64 0] 43)).heap.size = W2.heap.size + 1 by simp] at this
    exact this
  replace HA := hide ((unhide HA).below b2)
  replace HB := hide ((unhide HB).below b2)
  replace BX := hide (bnext (unhide BX) b2)
  have C3 := hide (Put_in kC HW HC (by decide) (by decide))
  rw [k_put] at C3
  clear HW HC b2
  go_wp2_with fail
  refine (unhide C3).mono ?_
  rintro e W3 ⟨rfl, vw, hw3, hk3, ho3⟩
  have hn3 : ∀ i, wOwn W2.heap.size (.slice none 0 0) i → i = W2.heap.size := fun i hi => by
    rcases hi with h | h
    · exact h
    · cases h
  replace HA : Hid (RI W3 _ kA) := RC.kp (unhide HA) hk3 (fun i hi e => by have := hn3 i e; simp [Value.ownBlock] at hi; omega)
  replace HB : Hid (RI W3 _ kB) := RC.kp (unhide HB) hk3 (fun i hi e => by have := hn3 i e; simp [Value.ownBlock] at hi; omega)
  replace BX := hide (hk3.below (unhide BX) (fun i hi => by have := hn3 i hi; omega))
  have HW := hide hw3
  clear C3 hw3 hk3 ho3 hn3 hY
  obtain ⟨Z, hZ⟩ : ∃ Z, W3.alloc (.cells #[.int .u8 2, .int .u8 1, .int .u8 5, .int .u8 3, .int .u8 2] 5) = Z := ⟨_, rfl⟩
  have b3 : Below W3.heap.size W3 Z := by rw [← hZ]; exact ballc (Below.refl _ _) _
  have HD : RC Z (.slice (some ⟨W3.heap.size, 0, none⟩) 5 5) ([2, 1, 5, 3, 2] : List Nat).length (bC [2, 1, 5, 3, 2]) := by rw [← hZ]; exact RC.lit W3 5 #[.int .u8 2, .int .u8 1, .int .u8 5, .int .u8 3, .int .u8 2] 5
  replace HA := hide ((unhide HA).below b3)
  replace HB := hide ((unhide HB).below b3)
  replace HW := hide ((unhide HW).below b3)
  replace BX := hide (bnext (unhide BX) b3)
  have C4 := hide (rRead_in Z _ [2, 1, 5, 3, 2] HD (by decide) (by decide))
  clear HD b3
  go_wp2_with fail
  refine (unhide C4).mono ?_
  rintro e W4 ⟨p4, v4, rfl, hr4, hb4, hp4, hv4⟩
  have C5 := hide (Take_in (st := ([2, 1, 5, 3, 2], 0)) hr4)
  rw [k_take] at C5
  have hb4' := hide hb4
  clear C4 hr4 hb4 hZ
  go_wp2_with fail
  refine (unhide C5).mono ?_
  rintro e W5 ⟨v5, rfl, ho5, v5', hr5, hk5, hv5⟩
  have hb5 : Below Z.heap.size Z W5 := hk5.below (unhide hb4') (fun i hi => by omega)
  obtain ⟨a5, c5, rfl⟩ := ho5.form
  have HD : Hid (RI W5 _ kA) := ho5.row
  replace HA := hide ((unhide HA).below hb5)
  replace HB := hide ((unhide HB).below hb5)
  replace HW := hide ((unhide HW).below hb5)
  replace BX := hide (bnext (unhide BX) hb5)
  clear C5 ho5 hr5 hk5 hv5 hv4 hb4'
  have hkl : kA.length = 2 := rfl
  simp only [hkl] at HD ⊢
  clear hkl
  have K := hide (Check_in _ kA W5 (unhide HA) lA)
  rw [k_chk] at K
  go_wp2_with fail
  refine (unhide K).mono ?_
  rintro e W6 ⟨rfl, hb⟩
  replace HA := hide ((unhide HA).below hb)
  replace HB := hide ((unhide HB).below hb)
  replace HW := hide ((unhide HW).below hb)
  replace HD := hide ((unhide HD).below hb)
  replace BX := hide (bnext (unhide BX) hb)
  clear K hb
  have K := hide (Get_in _ kA 3 W6 (unhide HA) lA)
  rw [k_get] at K
  go_wp2_with fail
  refine (unhide K).mono ?_
  rintro e W7 ⟨rfl, hb⟩
  replace HA := hide ((unhide HA).below hb)
  replace HB := hide ((unhide HB).below hb)
  replace HW := hide ((unhide HW).below hb)
  replace HD := hide ((unhide HD).below hb)
  replace BX := hide (bnext (unhide BX) hb)
  clear K hb
  have K := hide (Has_in _ kA 1 5 W7 (unhide HA) lA)
  rw [k_has] at K
  go_wp2_with fail
  refine (unhide K).mono ?_
  rintro e W8 ⟨rfl, hb⟩
  replace HA := hide ((unhide HA).below hb)
  replace HB := hide ((unhide HB).below hb)
  replace HW := hide ((unhide HW).below hb)
  replace HD := hide ((unhide HD).below hb)
  replace BX := hide (bnext (unhide BX) hb)
  clear K hb
  have K := hide (Covers_in _ _ kA kB W8 (unhide HA) (unhide HB) lA lB)
  rw [k_cov] at K
  go_wp2_with fail
  refine (unhide K).mono ?_
  rintro e W9 ⟨rfl, hb⟩
  replace HA := hide ((unhide HA).below hb)
  replace HB := hide ((unhide HB).below hb)
  replace HW := hide ((unhide HW).below hb)
  replace HD := hide ((unhide HD).below hb)
  replace BX := hide (bnext (unhide BX) hb)
  clear K hb
  have K := hide (Merge_in _ _ kA kB W9 (unhide HA) (unhide HB) lA lB)
  rw [k_mrg] at K
  go_wp2_with fail
  refine (unhide K).mono ?_
  rintro e W10 ⟨v9, rfl, ho9, hb⟩
  obtain ⟨a9, c9, rfl⟩ := ho9.form
  simp only [List.length_cons, List.length_nil]
  replace HA := hide ((unhide HA).below hb)
  replace HB := hide ((unhide HB).below hb)
  replace HW := hide ((unhide HW).below hb)
  replace HD := hide ((unhide HD).below hb)
  replace BX := hide (bnext (unhide BX) hb)
  clear K hb
  obtain ⟨Q, hQ⟩ : ∃ Q, W10.alloc (.cells #[.int .i64 1, .int .i64 5, .int .i64 2, .int .i64 1, .int .i64 3, .int .i64 4] 25) = Q := ⟨_, rfl⟩
  have hb : Below W10.heap.size W10 Q := by rw [← hQ]; exact ballc (Below.refl _ _) _
  have HE : RI Q (.slice (some ⟨W10.heap.size, 0, none⟩) 3 3) [(1, 5), (2, 1), (3, 4)] := by rw [← hQ]; exact RC.lit W10 25 #[.int .i64 1, .int .i64 5, .int .i64 2, .int .i64 1, .int .i64 3, .int .i64 4] 3
  have K := hide (Same_in [(1, 5), (2, 1), (3, 4)] [(1, 5), (2, 1), (3, 4)] _ _ Q (ho9.row.below hb) HE (by decide) (by decide))
  have hdd : decide (([(1, 5), (2, 1), (3, 4)] : List (Int × Int)) = [(1, 5), (2, 1), (3, 4)]) = true := by decide
  rw [hdd] at K
  simp only [List.length_cons, List.length_nil] at K
  replace HA := hide ((unhide HA).below hb)
  replace HB := hide ((unhide HB).below hb)
  replace HW := hide ((unhide HW).below hb)
  replace HD := hide ((unhide HD).below hb)
  replace BX := hide (bnext (unhide BX) hb)
  clear hb ho9 HE hdd
  go_wp2_with fail
  refine (unhide K).mono ?_
  rintro e W11 ⟨rfl, k9, hk9⟩
  have hb : Below Q.heap.size Q W11 := by rw [hk9]; exact bdrew (Below.refl _ _) k9
  replace HA := hide ((unhide HA).below hb)
  replace HB := hide ((unhide HB).below hb)
  replace HW := hide ((unhide HW).below hb)
  replace HD := hide ((unhide HD).below hb)
  replace BX := hide (bnext (unhide BX) hb)
  clear K hb hk9 hQ
  have K := hide (Least_in _ _ kA kB W11 (unhide HA) (unhide HB) lA lB)
  rw [k_lst] at K
  go_wp2_with fail
  refine (unhide K).mono ?_
  rintro e W12 ⟨v9, rfl, ho9, hb⟩
  obtain ⟨a9, c9, rfl⟩ := ho9.form
  simp only [List.length_cons, List.length_nil]
  replace HA := hide ((unhide HA).below hb)
  replace HB := hide ((unhide HB).below hb)
  replace HW := hide ((unhide HW).below hb)
  replace HD := hide ((unhide HD).below hb)
  replace BX := hide (bnext (unhide BX) hb)
  clear K hb
  obtain ⟨Q, hQ⟩ : ∃ Q, W12.alloc (.cells #[.int .i64 3, .int .i64 2] 25) = Q := ⟨_, rfl⟩
  have hb : Below W12.heap.size W12 Q := by rw [← hQ]; exact ballc (Below.refl _ _) _
  have HE : RI Q (.slice (some ⟨W12.heap.size, 0, none⟩) 1 1) [(3, 2)] := by rw [← hQ]; exact RC.lit W12 25 #[.int .i64 3, .int .i64 2] 1
  have K := hide (Same_in [(3, 2)] [(3, 2)] _ _ Q (ho9.row.below hb) HE (by decide) (by decide))
  have hdd : decide (([(3, 2)] : List (Int × Int)) = [(3, 2)]) = true := by decide
  rw [hdd] at K
  simp only [List.length_cons, List.length_nil] at K
  replace HA := hide ((unhide HA).below hb)
  replace HB := hide ((unhide HB).below hb)
  replace HW := hide ((unhide HW).below hb)
  replace HD := hide ((unhide HD).below hb)
  replace BX := hide (bnext (unhide BX) hb)
  clear hb ho9 HE hdd
  go_wp2_with fail
  refine (unhide K).mono ?_
  rintro e W13 ⟨rfl, k9, hk9⟩
  have hb : Below Q.heap.size Q W13 := by rw [hk9]; exact bdrew (Below.refl _ _) k9
  replace HA := hide ((unhide HA).below hb)
  replace HB := hide ((unhide HB).below hb)
  replace HW := hide ((unhide HW).below hb)
  replace HD := hide ((unhide HD).below hb)
  replace BX := hide (bnext (unhide BX) hb)
  clear K hb hk9 hQ
  have K := hide (Sum_in _ kA W13 (unhide HA) lA)
  rw [k_sum] at K
  go_wp2_with fail
  refine (unhide K).mono ?_
  rintro e W14 ⟨rfl, hb⟩
  replace HA := hide ((unhide HA).below hb)
  replace HB := hide ((unhide HB).below hb)
  replace HW := hide ((unhide HW).below hb)
  replace HD := hide ((unhide HD).below hb)
  replace BX := hide (bnext (unhide BX) hb)
  clear K hb
  have K := hide (wData_in (unhide HW) (by decide))
  go_wp2_with fail
  refine (unhide K).mono ?_
  rintro e W15 ⟨v9, rfl, ho9, hb⟩
  obtain ⟨a9, c9, rfl⟩ := owns_form ho9
  simp only [List.length_cons, List.length_nil]
  replace HA := hide ((unhide HA).below hb)
  replace HB := hide ((unhide HB).below hb)
  replace HW := hide ((unhide HW).below hb)
  replace HD := hide ((unhide HD).below hb)
  replace BX := hide (bnext (unhide BX) hb)
  clear K hb
  obtain ⟨Q, hQ⟩ : ∃ Q, W15.alloc (.cells #[.int .u8 2, .int .u8 1, .int .u8 5, .int .u8 3, .int .u8 2] 5) = Q := ⟨_, rfl⟩
  have hb : Below W15.heap.size W15 Q := by rw [← hQ]; exact ballc (Below.refl _ _) _
  have HE : RB Q (.slice (some ⟨W15.heap.size, 0, none⟩) 5 5) [2, 1, 5, 3, 2] := by rw [← hQ]; exact RC.lit W15 5 #[.int .u8 2, .int .u8 1, .int .u8 5, .int .u8 3, .int .u8 2] 5
  have K := hide (bytes_in [2, 1, 5, 3, 2] [2, 1, 5, 3, 2] _ _ Q (RC.below (RC.of_owns ho9) hb) HE (by decide) (by decide))
  have hdd : decide (([2, 1, 5, 3, 2] : List Nat) = [2, 1, 5, 3, 2]) = true := by decide
  rw [hdd] at K
  simp only [List.length_cons, List.length_nil] at K
  replace HA := hide ((unhide HA).below hb)
  replace HB := hide ((unhide HB).below hb)
  replace HW := hide ((unhide HW).below hb)
  replace HD := hide ((unhide HD).below hb)
  replace BX := hide (bnext (unhide BX) hb)
  clear hb ho9 HE hdd
  go_wp2_with fail
  refine (unhide K).mono ?_
  rintro e W16 ⟨rfl, k9, hk9⟩
  have hb : Below Q.heap.size Q W16 := by rw [hk9]; exact bdrew (Below.refl _ _) k9
  replace HA := hide ((unhide HA).below hb)
  replace HB := hide ((unhide HB).below hb)
  replace HW := hide ((unhide HW).below hb)
  replace HD := hide ((unhide HD).below hb)
  replace BX := hide (bnext (unhide BX) hb)
  clear K hb hk9 hQ
  have K := hide (Same_in kA kA _ _ W16 (unhide HD) (unhide HA) (by decide) (by decide))
  have hdd : decide (kA = kA) = true := by decide
  rw [hdd] at K
  clear hdd
  go_wp2_with fail
  refine (unhide K).mono ?_
  rintro e W17 ⟨rfl, k9, hk9⟩
  have hb : Below W16.heap.size W16 W17 := by rw [hk9]; exact bdrew (Below.refl _ _) k9
  replace BX := hide (bnext (unhide BX) hb)
  clear K hb hk9
  go_wp2
  go_ret
  exact ⟨rfl, unhide BX⟩

end Go.Proofs.Ytmjhkgpbemjjkaa
