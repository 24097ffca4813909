/-
  The document's own table.
-/
import Derived.Test.YtlbgfcbhpmhhpaaZE7
import Derived.BigRegion
set_option linter.unusedSimpArgs false
set_option linter.unusedVariables false
namespace Go.Proofs.Ytlbgfcbhpmhhpaa
open Go.RowKit Go.Lib

/-- what of the one row is worked out -/
def Lt (C : Array Value) (X Y : List Int) (N M I J : Nat) : Prop :=
  ∀ i j : Nat, i ≤ N → j ≤ M → (I ≤ i ∨ (i + 1 = I ∧ J ≤ j)) → C[i * (M + 1) + j]? = some (.int .i64 (td X Y i j : Nat))
theorem idx_inj {M i j I J : Nat} (h : i * (M + 1) + j = I * (M + 1) + J) (hj : j ≤ M) (hJ : J ≤ M) : i = I ∧ j = J := by
  have e1 : (j + i * (M + 1)) / (M + 1) = i := by rw [Nat.add_mul_div_right _ _ (by omega), Nat.div_eq_of_lt (by omega)]; omega
  have e2 : (J + I * (M + 1)) / (M + 1) = I := by rw [Nat.add_mul_div_right _ _ (by omega), Nat.div_eq_of_lt (by omega)]; omega
  have e : i = I := by rw [← e1, ← e2, Nat.add_comm j, Nat.add_comm J, h]
  subst e
  exact ⟨rfl, by omega⟩
theorem idx_lt {N M i j : Nat} (hi : i ≤ N) (hj : j ≤ M) : i * (M + 1) + j < (N + 1) * (M + 1) := by
  have := Nat.mul_le_mul_right (M + 1) hi
  rw [Nat.add_mul]
  omega
theorem Lt.store {C : Array Value} {X Y : List Int} {N M I J : Nat} (h : Lt C X Y N M (I + 1) (J + 1)) (hs : C.size = (N + 1) * (M + 1)) (hI : I ≤ N) (hJ : J ≤ M) : Lt (C.setIfInBounds (I * (M + 1) + J) (.int .i64 (td X Y I J : Nat))) X Y N M (I + 1) J := by
  intro i j hi hj hc
  rw [Array.getElem?_setIfInBounds]
  by_cases e : I * (M + 1) + J = i * (M + 1) + j
  · obtain ⟨rfl, rfl⟩ := idx_inj e hJ hj
    rw [if_pos rfl, if_pos (by rw [hs]; exact idx_lt hi hj)]
  · rw [if_neg e]
    refine h i j hi hj ?_
    rcases hc with hc | ⟨h1, h2⟩
    · exact .inl hc
    · refine .inr ⟨h1, ?_⟩
      rcases Nat.lt_or_ge J j with h3 | h3
      · omega
      · exfalso
        apply e
        rw [show i = I by omega, show j = J by omega]
theorem Lt.done {C : Array Value} {X Y : List Int} {N M I : Nat} (h : Lt C X Y N M (I + 1) 0) : Lt C X Y N M I (M + 1) := fun i j hi hj hc => h i j hi hj (by omega)

/-- the table, as it is handed back -/
def TabR (W : World) (X Y : List Int) (N M G : Nat) : Prop := ∀ i j : Nat, i ≤ N → j ≤ M → W.cell? ⟨G, i * (M + 1) + j, none⟩ = some (.int .i64 (td X Y i j : Nat))

set_option maxRecDepth 100000 in
set_option maxHeartbeats 8000000 in
theorem left_in (w : World) (X Y : List Int) (N M : Nat) (a b : Option Addr) (ca cb : Nat) (ra : RS w (.slice a N ca) X) (rb : RS w (.slice b M cb) Y) (nx : X.length = N) (ny : Y.length = M) (hn : N ≤ 400) (hm : M ≤ 400) :
    Calls Try.prog 30 #[.slice a N ca, .slice b M cb] w fun e W => e = .returned (.slice (some ⟨w.heap.size, 0, none⟩) ((N + 1) * (M + 1)) ((N + 1) * (M + 1))) ∧ TabR W X Y N M w.heap.size ∧ Below w.heap.size w W := by
  obtain ⟨S, hS⟩ : ∃ S, (N + 1) * (M + 1) = S := ⟨_, rfl⟩
  have hS1 : S ≤ 160801 := by rw [← hS]; exact Nat.mul_le_mul (show N + 1 ≤ 401 by omega) (show M + 1 ≤ 401 by omega)
  obtain ⟨Z, hZ, mk⟩ := mkN S (by omega)
  have pS : ((N : Int) + 1) * ((M : Int) + 1) = (S : Nat) := by rw [← hS]; simp
  rw [hS]
  have HS := hide hS
  have Hra := hide ra
  have Hrb := hide rb
  have Hnx := hide nx
  have Hny := hide ny
  have HZ := hide hZ
  clear ra rb nx ny hS hZ
  have hrow0 : (w.alloc (.cells Z 3)).heap[w.heap.size]? = some (.cells Z 3 (0, 0)) := World.alloc_heap_new w _
  have hB0 : Below w.heap.size w (w.alloc (.cells Z 3)) := (Below.refl _ w).alloc (Nat.le_refl _) _
  have Hrow0 := hide hrow0
  clear hrow0
  go_enter Try.func30, Try.ntmps30
  go_wp2
  go_loopw [7] (fun iv wr => ∃ (I : Nat) (C : Array Value), I ≤ N + 1 ∧ iv = .int .i64 ((I : Int) - 1) ∧ wr.heap[w.heap.size]? = some (.cells C 3 (0, 0)) ∧ C.size = S ∧ Lt C X Y N M I (M + 1) ∧ Below w.heap.size w wr) (fun iv _ => ((RowKit.intOf iv) + 1).toNat)
  case atStart => exact ⟨N + 1, Z, Nat.le_refl _, by simp, unhide Hrow0, unhide HZ, fun i j hi hj hc => by omega, hB0⟩
  case round =>
    obtain ⟨I, C, hI, rfl, hrow, hC, hLt, hB⟩ := hrel
    cases I with
    | zero =>
      have hT : TabR wr X Y N M w.heap.size := fun i j hi hj => by rw [cell_of hrow]; exact hLt i j hi hj (.inl (Nat.zero_le _))
      have HT := hide hT
      clear hT hLt
      go_wp2
      go_ret
      exact ⟨rfl, unhide HT, hB⟩
    | succ I =>
      have e0 : ((I + 1 : Nat) : Int) - 1 = (I : Int) := by omega
      rw [e0]
      have Hrow := hide hrow
      have HLt := hide hLt
      have HC := hide hC
      clear e0 hrow hLt hC
      go_wp2
      go_loopw [8] (fun jv wr => ∃ (J : Nat) (C : Array Value), J ≤ M + 1 ∧ jv = .int .i64 ((J : Int) - 1) ∧ wr.heap[w.heap.size]? = some (.cells C 3 (0, 0)) ∧ C.size = S ∧ Lt C X Y N M (I + 1) J ∧ Below w.heap.size w wr) (fun jv _ => ((RowKit.intOf jv) + 1).toNat)
      case atStart => exact ⟨M + 1, C, Nat.le_refl _, by simp, unhide Hrow, unhide HC, unhide HLt, hB⟩
      case round =>
        obtain ⟨J, C', hJ, rfl, hrow, hC, hLt, hB⟩ := hrel
        cases J with
        | zero =>
          have hL' := hide hLt.done
          clear hLt
          go_wp2
          go_roundw
          case rel => exact ⟨I, C', by omega, by simp, hrow, hC, unhide hL', hB⟩
          case measure => simp [RowKit.intOf]
        | succ J =>
          have e0 : ((J + 1 : Nat) : Int) - 1 = (J : Int) := by omega
          rw [e0]
          clear e0
          obtain ⟨Q, hQ⟩ : ∃ Q, I * (M + 1) = Q := ⟨_, rfl⟩
          have p1 : (I : Int) * ((M : Int) + 1) = (Q : Nat) := by rw [← hQ]; simp
          have p2 : ((I : Int) + 1) * ((M : Int) + 1) = ((Q : Nat) : Int) + ((M : Int) + 1) := by rw [← p1, Int.add_mul]; simp
          have hQS : Q + J < S := by rw [← hQ, ← unhide HS]; exact idx_lt (by omega) (by omega)
          have hst := hLt.store (by rw [hC]; exact (unhide HS).symm) (by omega) (by omega)
          rw [hQ] at hst
          have hcell : wr.cell? ⟨w.heap.size, Q + J, none⟩ = some (C'[Q + J]'(by omega)) := by rw [cell_of hrow]; simp
          have hfz : wr.frozen? ⟨w.heap.size, Q + J, none⟩ = false := frozen_of hrow
          have hgz := (Array.getElem?_eq_some_iff.1 hrow).1
          have f1 : ((Q : Nat) : Int) + ((J : Nat) : Int) < ((S : Nat) : Int) := by omega
          have f2 : (((Q : Nat) : Int) + ((J : Nat) : Int)).toNat = Q + J := by omega
          generalize C'[Q + J]'(by omega) = old at *
          obtain ⟨D, hD⟩ : ∃ D, td X Y I J = D := ⟨_, rfl⟩
          rw [hD] at hst
          have Hst := hide hst
          have Hcs : (C'.setIfInBounds (Q + J) (.int .i64 (D : Nat))).size = S := by simp [hC]
          have Hrw := hide (heap_set (Q + J) (.int .i64 (D : Nat)) hrow)
          have hBs := hB.setCell (p := ⟨w.heap.size, Q + J, none⟩) (Nat.le_refl _) (.int .i64 (D : Nat))
          have hNX : (X.length : Int) = (N : Int) := by rw [unhide Hnx]
          have hNY : (Y.length : Int) = (M : Int) := by rw [unhide Hny]
          by_cases hIN : I = N
          · have k1 : ((I : Int) == (N : Int)) = true := by rw [beq_iff_eq]; omega
            have ht := td_end (x := X) (y := Y) (i := I) (j := J) (by rw [unhide Hnx]; omega) (by rw [unhide Hny]; omega) (.inl (by rw [unhide Hnx]; exact hIN))
            rw [hD, hNX, hNY] at ht
            have hv : (M : Int) - (J : Int) = (D : Nat) := by omega
            clear hst hLt hrow hC hD ht hNX hNY hIN
            go_wp2
            go_roundw
            case rel => exact ⟨J, _, by omega, rfl, unhide Hrw, Hcs, unhide Hst, hBs⟩
            case measure => simp [RowKit.intOf]
          · have k1 : ((I : Int) == (N : Int)) = false := by rw [beq_eq_false_iff_ne]; omega
            by_cases hJM : J = M
            · have k2 : ((J : Int) == (M : Int)) = true := by rw [beq_iff_eq]; omega
              have ht := td_end (x := X) (y := Y) (i := I) (j := J) (by rw [unhide Hnx]; omega) (by rw [unhide Hny]; omega) (.inr (by rw [unhide Hny]; exact hJM))
              rw [hD, hNX, hNY] at ht
              have hv : (N : Int) - (I : Int) = (D : Nat) := by omega
              clear hst hLt hrow hC hD ht hNX hNY hIN hJM
              go_wp2
              go_roundw
              case rel => exact ⟨J, _, by omega, rfl, unhide Hrw, Hcs, unhide Hst, hBs⟩
              case measure => simp [RowKit.intOf]
            · have k2 : ((J : Int) == (M : Int)) = false := by rw [beq_eq_false_iff_ne]; omega
              have iX : I < X.length := by rw [unhide Hnx]; omega
              have jY : J < Y.length := by rw [unhide Hny]; omega
              have ra' := RS.below hB (unhide Hra)
              have rb' := RS.below hB (unhide Hrb)
              obtain ⟨ba, oa, rfl, x1⟩ := ra'.at iX
              obtain ⟨bb, ob, rfl, y1⟩ := rb'.at jY
              have hba := World.block_lt_of_cell? _ _ x1
              have hbb := World.block_lt_of_cell? _ _ y1
              simp only at hba hbb
              have g1 : (I : Int) < (N : Int) := by omega
              have g2 : (J : Int) < (M : Int) := by omega
              have ts := td_same (x := X) (y := Y) (i := I) (j := J) iX jY
              have tn := td_ne (x := X) (y := Y) (i := I) (j := J) iX jY
              have b1 := td_le X Y (I + 1) (J + 1)
              have b2 := td_le X Y (I + 1) J
              have b3 := td_le X Y I (J + 1)
              have q1 := hLt (I + 1) (J + 1) (by omega) (by omega) (.inl (by omega))
              have q2 := hLt (I + 1) J (by omega) (by omega) (.inl (by omega))
              have q3 := hLt I (J + 1) (by omega) (by omega) (.inr ⟨rfl, by omega⟩)
              have r1 := idx_lt (N := N) (M := M) (i := I + 1) (j := J + 1) (by omega) (by omega)
              rw [unhide HS, Nat.add_mul, hQ] at r1
              rw [← cell_of hrow, Nat.add_mul, hQ] at q1 q2
              rw [← cell_of hrow, hQ] at q3
              rw [show Q + 1 * (M + 1) + (J + 1) = Q + M + 1 + J + 1 by omega] at q1
              rw [show Q + 1 * (M + 1) + J = Q + M + 1 + J by omega] at q2
              rw [show Q + (J + 1) = Q + J + 1 by omega] at q3
              have u1 : (((Q : Nat) : Int) + ((M : Int) + 1) + (J : Int) + 1).toNat = Q + M + 1 + J + 1 := by omega
              have u2 : (((Q : Nat) : Int) + ((M : Int) + 1) + (J : Int)).toNat = Q + M + 1 + J := by omega
              have u3 : (((Q : Nat) : Int) + (J : Int) + 1).toNat = Q + J + 1 := by omega
              have u4 : ((Q : Nat) : Int) + ((M : Int) + 1) + (J : Int) + 1 < ((S : Nat) : Int) := by omega
              have u5 : ((Q : Nat) : Int) + ((M : Int) + 1) + (J : Int) < ((S : Nat) : Int) := by omega
              have u6 : ((Q : Nat) : Int) + (J : Int) + 1 < ((S : Nat) : Int) := by omega
              have u7 : (0 : Int) ≤ ((Q : Nat) : Int) + ((M : Int) + 1) + (J : Int) + 1 := by omega
              have u8 : (0 : Int) ≤ ((Q : Nat) : Int) + ((M : Int) + 1) + (J : Int) := by omega
              have u9 : (0 : Int) ≤ ((Q : Nat) : Int) + (J : Int) + 1 := by omega
              rw [hD] at ts tn
              generalize X[I] = x at *
              generalize Y[J] = y at *
              generalize td X Y (I + 1) (J + 1) = T1 at *
              generalize td X Y (I + 1) J = T2 at *
              generalize td X Y I (J + 1) = T3 at *
              have b1' : T1 ≤ 800 := by omega
              have b2' : T2 ≤ 800 := by omega
              have b3' : T3 ≤ 800 := by omega
              clear b1 b2 b3 r1 hst hLt hrow hC hD hNX hNY iX jY ra' rb' hQ hIN hJM
              by_cases hxy : x = y
              · have k3 : (x == y) = true := by rw [beq_iff_eq]; exact hxy
                have hTD := ts hxy
                clear ts tn hxy
                subst hTD
                go_wp2
                go_quiet (fail)
                go_wp2
                go_roundw
                case rel => exact ⟨J, _, by omega, rfl, unhide Hrw, Hcs, unhide Hst, ⟨hBs.os, hBs.tape, hBs.output, hBs.size, hBs.block⟩⟩
                case measure => simp [RowKit.intOf]
              · have k3 : (x == y) = false := by rw [beq_eq_false_iff_ne]; exact hxy
                have hTD := hide (tn hxy)
                clear ts tn hxy
                go_wp2
                go_quiet (fail)
                go_wp2
                go_region
                have hv : 1 + min (T2 : Int) (T3 : Int) = ((D : Nat) : Int) := by have := unhide hTD; omega
                rw [hv]
                clear hv hTD
                go_wp2
                go_roundw
                case rel => exact ⟨J, _, by omega, rfl, unhide Hrw, Hcs, unhide Hst, ⟨hBs.os, hBs.tape, hBs.output, hBs.size, hBs.block⟩⟩
                case measure => simp [RowKit.intOf]

end Go.Proofs.Ytlbgfcbhpmhhpaa
