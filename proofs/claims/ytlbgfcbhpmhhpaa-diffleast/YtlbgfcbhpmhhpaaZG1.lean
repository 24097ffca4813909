/-
  The longest row that stands in both.
-/
import Derived.Test.YtlbgfcbhpmhhpaaZDS
import Derived.Laws.OwnMore
set_option linter.unusedSimpArgs false
set_option linter.unusedVariables false
namespace Go.Proofs.Ytlbgfcbhpmhhpaa
open Go.RowKit Go.Lib

theorem mkN0 (N : Nat) (hN : N ≤ 1000001) : ∃ Z : Array Value, Z.size = N ∧ (∀ j, j < N → Z[j]? = some (.int .i64 0)) ∧ ∀ w : World, (Instr.makeSlice 56 (.int .i64 (N : Nat)) (.int .i64 (N : Nat))).run Try.prog w = .ok (.slice (some ⟨w.heap.size, 0, none⟩) N N) (w.alloc (.cells Z 3)) := by
  obtain ⟨i, hi, hz, hs, hb⟩ := infoN
  refine ⟨madeCells (Value.int .i64 0).cells (N * 1), by rw [size_madeCells]; omega, fun j hj => ?_, fun w => ?_⟩
  · have e : (madeCells (Value.int .i64 0).cells (N * 1)).toList = List.replicate (N * 1) (Value.int .i64 0) := toList_madeCells_one _ _
    rw [← Array.getElem?_toList, e, List.getElem?_replicate, if_pos (by omega)]
  · have := run_makeSlice (P := Try.prog) w 56 3 i _ Try.underlying56 hi hz .i64 .i64 (N : Int) (N : Int) (by omega) (Int.le_refl _) (by rw [hs]; omega) (by rw [hb]; omega) (by omega)
    rw [hs, Int.toNat_natCast] at this
    exact this

/-- a row of the longest ones, up to J -/
def Lg (C : Array Value) (X Y : List Int) (i J : Nat) : Prop := ∀ j, j ≤ J → ∃ v : Nat, C[j]? = some (.int .i64 (v : Nat)) ∧ 2 * v + pf X Y i j = i + j
theorem Lg.set {C : Array Value} {X Y : List Int} {i J : Nat} (h : Lg C X Y i J) (hs : J + 1 < C.size) (v : Nat) (hv : 2 * v + pf X Y i (J + 1) = i + (J + 1)) : Lg (C.setIfInBounds (J + 1) (.int .i64 (v : Nat))) X Y i (J + 1) := by
  intro j hj
  rw [Array.getElem?_setIfInBounds]
  by_cases e : J + 1 = j
  · subst e; exact ⟨v, by rw [if_pos rfl, if_pos hs], hv⟩
  · rw [if_neg e]; exact h j (by omega)

/-- both rows lie there -/
structure Lw (w W : World) (X Y : List Int) (M g g' i J : Nat) (C C' : Array Value) : Prop where
  bel : Below w.heap.size w W
  hg : w.heap.size ≤ g
  hg' : w.heap.size ≤ g'
  hne : g ≠ g'
  r1 : W.heap[g]? = some (.cells C 3 (0, 0))
  r2 : W.heap[g']? = some (.cells C' 3 (0, 0))
  s1 : C.size = M + 1
  s2 : C'.size = M + 1
  l1 : Lg C X Y i M
  l2 : Lg C' X Y (i + 1) J

theorem Lw.put {w W : World} {X Y : List Int} {M g g' i J : Nat} {C C' : Array Value} (h : Lw w W X Y M g g' i J C C') (hJ : J < M) (v : Nat) (hv : 2 * v + pf X Y (i + 1) (J + 1) = (i + 1) + (J + 1)) :
    Lw w (W.setCell ⟨g', J + 1, none⟩ (.int .i64 (v : Nat))) X Y M g g' i (J + 1) C (C'.setIfInBounds (J + 1) (.int .i64 (v : Nat))) :=
  ⟨h.bel.setCell (p := ⟨g', J + 1, none⟩) h.hg' _, h.hg, h.hg', h.hne, by rw [Below.heap_setCell _ _ _ _ h.hne]; exact h.r1, heap_set _ _ h.r2, h.s1, by simp [h.s2], h.l1, h.l2.set (by rw [h.s2]; omega) v hv⟩
theorem Lw.drew {w W : World} {X Y : List Int} {M g g' i J : Nat} {C C' : Array Value} (h : Lw w W X Y M g g' i J C C') (n : Nat) : Lw w (W.drewN n) X Y M g g' i J C C' :=
  ⟨⟨h.bel.os, h.bel.tape, h.bel.output, h.bel.size, h.bel.block⟩, h.hg, h.hg', h.hne, h.r1, h.r2, h.s1, h.s2, h.l1, h.l2⟩

set_option maxRecDepth 100000 in
set_option maxHeartbeats 8000000 in
theorem longest_in (w : World) (X Y : List Int) (N M : Nat) (a b : Option Addr) (ca cb : Nat) (ra : RS w (.slice a N ca) X) (rb : RS w (.slice b M cb) Y) (nx : X.length = N) (ny : Y.length = M) (hn : N ≤ 400) (hm : M ≤ 400) :
    Calls Try.prog 22 #[.slice a N ca, .slice b M cb] w fun e W => ∃ v : Nat, e = .returned (.int .i64 (v : Nat)) ∧ 2 * v + lev X Y = N + M ∧ Below w.heap.size w W := by
  obtain ⟨Z, hZ, hZ0, mk⟩ := mkN0 (M + 1) (by omega)
  have e2 : ((M + 1 : Nat) : Int) = (M : Int) + 1 := by omega
  simp only [e2] at mk
  clear e2
  have hall := pf_all X Y
  rw [nx, ny] at hall
  have hLg0 : Lg Z X Y 0 M := fun j hj => ⟨0, hZ0 j (by omega), by have := pf_zero X Y j (by omega); omega⟩
  have hLg1 : ∀ i, i ≤ N → Lg Z X Y i 0 := by
    intro i hi j hj
    have e : j = 0 := by omega
    have h0 := pf_zero' X Y i (by omega)
    exact ⟨0, hZ0 j (by omega), by rw [e, h0]; omega⟩
  have HLg0 := hide hLg0
  have HLg1 := hide hLg1
  have HZ := hide hZ
  have Hra := hide ra
  have Hrb := hide rb
  have Hnx := hide nx
  have Hny := hide ny
  have Hall := hide hall
  have hrow0 := hide (World.alloc_heap_new w (.cells Z 3))
  have hB0 : Below w.heap.size w (w.alloc (.cells Z 3)) := (Below.refl _ w).alloc (Nat.le_refl _) _
  clear hZ hZ0 hLg0 hLg1 ra rb nx ny hall
  go_enter Try.func22, Try.ntmps22
  go_wp2
  go_loopw [5, 6] (fun sv iv wr => ∃ (i g : Nat) (C : Array Value), i ≤ N ∧ iv = .int .i64 (i : Nat) ∧ sv = .slice (some ⟨g, 0, none⟩) (M + 1) (M + 1) ∧ w.heap.size ≤ g ∧ wr.heap[g]? = some (.cells C 3 (0, 0)) ∧ C.size = M + 1 ∧ Lg C X Y i M ∧ Below w.heap.size w wr) (fun _ iv _ => N - (RowKit.intOf iv).toNat)
  case atStart => exact ⟨0, w.heap.size, Z, by omega, rfl, rfl, Nat.le_refl _, unhide hrow0, unhide HZ, unhide HLg0, hB0⟩
  case round =>
    obtain ⟨i, g, C, hi, rfl, rfl, hg, hrow, hC, hL, hB⟩ := hrel
    have hgz := (Array.getElem?_eq_some_iff.1 hrow).1
    by_cases hlt : i < N
    · have Hrow := hide hrow
      have HL := hide hL
      have HC := hide hC
      clear hrow hL hC
      go_wp2
      have hlw : Lw w (wr.alloc (.cells Z 3)) X Y M g wr.heap.size i 0 C Z :=
        ⟨hB.alloc hB.size _, hg, hB.size, by omega, (((Below.refl _ wr).alloc (Nat.le_refl _) _).block g hgz).trans (unhide Hrow), World.alloc_heap_new wr _, unhide HC, unhide HZ, unhide HL, unhide HLg1 (i + 1) (by omega)⟩
      obtain ⟨g', hg'⟩ : ∃ g', wr.heap.size = g' := ⟨_, rfl⟩
      obtain ⟨W1, hW1⟩ : ∃ W1, wr.alloc (.cells Z 3) = W1 := ⟨_, rfl⟩
      rw [hW1] at hlw ⊢
      rw [hg'] at hlw ⊢
      have Hlw := hide hlw
      clear hlw hW1 hg' Hrow HL HC
      go_loopw [8] (fun jv wr => ∃ (j : Nat) (C' : Array Value), j ≤ M ∧ jv = .int .i64 (j : Nat) ∧ Lw w wr X Y M g g' i j C C') (fun jv _ => M - (RowKit.intOf jv).toNat)
      case atStart => exact ⟨0, Z, by omega, rfl, unhide Hlw⟩
      case round =>
        obtain ⟨j, C', hj, rfl, hlw⟩ := hrel
        have Hlw2 := hide hlw
        by_cases hjt : j < M
        · obtain ⟨v1, c1, e1⟩ := hlw.l1 j (by omega)
          obtain ⟨v2, c2, e2⟩ := hlw.l1 (j + 1) (by omega)
          obtain ⟨v3, c3, e3⟩ := hlw.l2 j (by omega)
          rw [← cell_of hlw.r1] at c1 c2
          rw [← cell_of hlw.r2] at c3
          have c4 : wr.cell? ⟨g', j + 1, none⟩ = some (C'[j + 1]'(by rw [hlw.s2]; omega)) := by rw [cell_of hlw.r2]; simp
          have f4 : wr.frozen? ⟨g', j + 1, none⟩ = false := frozen_of hlw.r2
          have z1 := (Array.getElem?_eq_some_iff.1 hlw.r1).1
          have z2 := (Array.getElem?_eq_some_iff.1 hlw.r2).1
          have iX : i < X.length := by rw [unhide Hnx]; omega
          have jY : j < Y.length := by rw [unhide Hny]; omega
          have ra' := RS.below hlw.bel (unhide Hra)
          have rb' := RS.below hlw.bel (unhide Hrb)
          obtain ⟨ba, oa, rfl, x1⟩ := ra'.at iX
          obtain ⟨bb, ob, rfl, y1⟩ := rb'.at jY
          have hba := World.block_lt_of_cell? _ _ x1
          have hbb := World.block_lt_of_cell? _ _ y1
          simp only at hba hbb
          have ps := pf_same (x := X) (y := Y) (i := i) (j := j) iX jY
          have pn := pf_ne (x := X) (y := Y) (i := i) (j := j) iX jY
          have g1 : (i : Int) < (N : Int) := by omega
          have g2 : (j : Int) < (M : Int) := by omega
          have g3 : (j : Int) < ((M + 1 : Nat) : Int) := by omega
          have g4 : (j : Int) + 1 < ((M + 1 : Nat) : Int) := by omega
          have g5 : ((j : Int) + 1).toNat = j + 1 := by omega
          have b1 : v1 ≤ 800 := by omega
          have b2 : v2 ≤ 801 := by omega
          have b3 : v3 ≤ 801 := by omega
          generalize C'[j + 1]'(by rw [hlw.s2]; omega) = old at *
          generalize X[i] = x at *
          generalize Y[j] = y at *
          have E1 := hide e1
          have E2 := hide e2
          have E3 := hide e3
          have PS := hide ps
          have PN := hide pn
          clear hlw ra' rb' iX jY e1 e2 e3 ps pn
          by_cases hxy : x = y
          · have k3 : (x == y) = true := by rw [beq_iff_eq]; exact hxy
            have hv : 2 * (v1 + 1) + pf X Y (i + 1) (j + 1) = (i + 1) + (j + 1) := by have := unhide PS hxy; have := unhide E1; omega
            have hput := fun n => hide (((unhide Hlw2).drew n).put hjt (v1 + 1) hv)
            clear hv hxy
            go_wp2
            go_quiet (fail)
            go_wp2
            go_roundw
            case rel => exact ⟨j + 1, _, by omega, by go_num, by have := unhide (hput nq); simpa using this⟩
            case measure => simp [RowKit.intOf]; omega
          · have k3 : (x == y) = false := by rw [beq_eq_false_iff_ne]; exact hxy
            have hpn := unhide PN hxy
            by_cases hgt : v3 < v2
            · have k4 : decide ((v3 : Int) < (v2 : Int)) = true := by rw [decide_eq_true_iff]; omega
              have k4' : decide (v3 < v2) = true := by rw [decide_eq_true_iff]; omega
              have hv : 2 * v2 + pf X Y (i + 1) (j + 1) = (i + 1) + (j + 1) := by have := unhide E2; have := unhide E3; omega
              have hput := fun n => hide (((unhide Hlw2).drew n).put hjt v2 hv)
              clear hv hxy hpn hgt
              go_wp2
              go_quiet (fail)
              go_wp2
              go_quiet (fail)
              go_wp2
              go_roundw
              case rel => exact ⟨j + 1, _, by omega, by go_num, unhide (hput _)⟩
              case measure => simp [RowKit.intOf]; omega
            · have k4 : decide ((v3 : Int) < (v2 : Int)) = false := by rw [decide_eq_false_iff_not]; omega
              have k4' : decide (v3 < v2) = false := by rw [decide_eq_false_iff_not]; omega
              have hv : 2 * v3 + pf X Y (i + 1) (j + 1) = (i + 1) + (j + 1) := by have := unhide E2; have := unhide E3; omega
              have hput := fun n => hide (((unhide Hlw2).drew n).put hjt v3 hv)
              clear hv hxy hpn hgt
              go_wp2
              go_quiet (fail)
              go_wp2
              go_quiet (fail)
              go_wp2
              go_roundw
              case rel => exact ⟨j + 1, _, by omega, by go_num, unhide (hput _)⟩
              case measure => simp [RowKit.intOf]; omega
        · obtain rfl : j = M := by omega
          clear hlw
          go_wp2
          go_roundw
          case rel => exact ⟨i + 1, g', C', by omega, by go_num, rfl, (unhide Hlw2).hg', (unhide Hlw2).r2, (unhide Hlw2).s2, (unhide Hlw2).l2, (unhide Hlw2).bel⟩
          case measure => simp [RowKit.intOf]; omega
    · obtain ⟨v, c, e⟩ := hL M (Nat.le_refl _)
      rw [← cell_of hrow] at c
      have hiN : i = N := by omega
      rw [hiN, unhide Hall] at e
      have E := hide e
      have g3 : (M : Int) < ((M + 1 : Nat) : Int) := by omega
      clear hL hrow e hiN
      go_wp2
      go_ret
      exact ⟨v, rfl, unhide E, hB⟩

end Go.Proofs.Ytlbgfcbhpmhhpaa
