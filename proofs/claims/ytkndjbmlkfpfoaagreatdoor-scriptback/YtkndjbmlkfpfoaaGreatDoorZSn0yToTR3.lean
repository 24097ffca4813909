/-
  The scanner's frame, its open slots as one function, and what holds at each label.
-/
import Derived.Test.YtkndjbmlkfpfoaaGreatDoorZGj
import Derived.Test.YtkndjbmlkfpfoaaGreatDoorZSp
import Derived.Test.YtkndjbmlkfpfoaaGreatDoorZKn
import Derived.Test.YtkndjbmlkfpfoaaGreatDoorZSqK
import Derived.WalkMore
import Derived.Test.YtkndjbmlkfpfoaaGreatDoorZTR0
import Derived.Test.YtkndjbmlkfpfoaaGreatDoorZTR1
import Derived.RegionIn
import Derived.BigRegionIn
import Derived.Test.YtkndjbmlkfpfoaaGreatDoorZSrToSr2

set_option linter.unusedSimpArgs false
set_option linter.unusedVariables false
set_option maxRecDepth 100000
namespace Go.Proofs.YtkndjbmlkfpfoaaGreatDoor
open Go.RowKit Go.Lib
namespace Sny

def slotV (yv : Value) (Bs B i line n : Nat) (u : Nat → Value) (j : Nat) : Value := if j = 0 then yv else if j = 1 then Value.pointer (some ⟨Bs, 0, none⟩) else if j = 3 then Value.pointer (some ⟨B, 0, none⟩) else if j = 5 then Value.int .i64 (i : Int) else if j = 7 then Value.int .i64 (line : Int) else if j = 8 then Value.int .i64 (n : Int) else u j
def fr (yv : Value) (Bs B i line n : Nat) (u : Nat → Value) : Act := { tmps := ((List.range 97).map (slotV yv Bs B i line n u)).toArray, defers := [] }
theorem fr_lit (yv : Value) (Bs B i line n : Nat) (u : Nat → Value) : fr yv Bs B i line n u = { tmps := List.toArray ((yv) :: (Value.pointer (some ⟨Bs, 0, none⟩)) :: u 2 :: (Value.pointer (some ⟨B, 0, none⟩)) :: u 4 :: (Value.int .i64 (i : Int)) :: u 6 :: (Value.int .i64 (line : Int)) :: (Value.int .i64 (n : Int)) :: u 9 :: u 10 :: u 11 :: u 12 :: u 13 :: u 14 :: u 15 :: u 16 :: u 17 :: u 18 :: u 19 :: u 20 :: u 21 :: u 22 :: u 23 :: u 24 :: u 25 :: u 26 :: u 27 :: u 28 :: u 29 :: u 30 :: u 31 :: u 32 :: u 33 :: u 34 :: u 35 :: u 36 :: u 37 :: u 38 :: u 39 :: u 40 :: u 41 :: u 42 :: u 43 :: u 44 :: u 45 :: u 46 :: u 47 :: u 48 :: u 49 :: u 50 :: u 51 :: u 52 :: u 53 :: u 54 :: u 55 :: u 56 :: u 57 :: u 58 :: u 59 :: u 60 :: u 61 :: u 62 :: u 63 :: u 64 :: u 65 :: u 66 :: u 67 :: u 68 :: u 69 :: u 70 :: u 71 :: u 72 :: u 73 :: u 74 :: u 75 :: u 76 :: u 77 :: u 78 :: u 79 :: u 80 :: u 81 :: u 82 :: u 83 :: u 84 :: u 85 :: u 86 :: u 87 :: u 88 :: u 89 :: u 90 :: u 91 :: u 92 :: u 93 :: u 94 :: u 95 :: u 96 :: []), defers := [] } := by kernel_rfl

theorem fr_of (yv : Value) (Bs B i line n : Nat) (a : Act) (hd : a.defers = []) (hs : a.tmps.size = 97)
    (h0 : a.tmps[0]? = some (yv))
    (h1 : a.tmps[1]? = some (Value.pointer (some ⟨Bs, 0, none⟩)))
    (h3 : a.tmps[3]? = some (Value.pointer (some ⟨B, 0, none⟩)))
    (h5 : a.tmps[5]? = some (Value.int .i64 (i : Int)))
    (h7 : a.tmps[7]? = some (Value.int .i64 (line : Int)))
    (h8 : a.tmps[8]? = some (Value.int .i64 (n : Int)))
    : a = fr yv Bs B i line n (fun j => a.tmps.getD j undef) := by
  obtain ⟨t, d⟩ := a
  simp only at *
  subst hd
  unfold fr
  congr 1
  apply Array.ext_getElem?
  intro j
  by_cases hj : j < 97
  · have e1 : t[j]? = some (t.getD j undef) := by
      have h' : j < t.size := by omega
      simp [h']
    have e2 : (((List.range 97).map (slotV yv Bs B i line n (fun j => t.getD j undef))).toArray)[j]? = some (slotV yv Bs B i line n (fun j => t.getD j undef) j) := by simp [hj]
    rw [e2]
    unfold slotV
    by_cases q0 : j = 0
    · rw [if_pos q0, q0]; exact h0
    rw [if_neg q0]
    by_cases q1 : j = 1
    · rw [if_pos q1, q1]; exact h1
    rw [if_neg q1]
    by_cases q3 : j = 3
    · rw [if_pos q3, q3]; exact h3
    rw [if_neg q3]
    by_cases q5 : j = 5
    · rw [if_pos q5, q5]; exact h5
    rw [if_neg q5]
    by_cases q7 : j = 7
    · rw [if_pos q7, q7]; exact h7
    rw [if_neg q7]
    by_cases q8 : j = 8
    · rw [if_pos q8, q8]; exact h8
    rw [if_neg q8]
    exact e1
  · rw [Array.getElem?_eq_none (by omega), Array.getElem?_eq_none (by simp; omega)]

def wdC (x : Wd) (line : Nat) : Array Value := #[.int .i64 (x.k : Int), .string x.t, .int .i64 x.n, .int .i64 (x.a : Int), .int .i64 (line : Int)]
/-- what holds at every label: what was handed on, and what is left -/
def SnI (J : List It → World → Prop) (s : ByteArray) (B i line n : Nat) (w' : World) : Prop :=
  i ≤ s.size ∧ n ≤ i ∧ line ≤ i + 1 ∧ (∃ pre, pre ++ scA s i line (decide (0 < n)) = scL s ∧ J pre w') ∧ Box5 w' B ∧ B < w'.heap.size

def At (J : List It → World → Prop) (s : ByteArray) (B : Nat) (l i line n : Nat) (u : Nat → Value) (w' : World) : Prop :=
  SnI J s B i line n w' ∧
  match l with
  | 0 => i < s.size → isLn (by_ s i) = true
  | 1 => True
  | 2 => i < s.size ∧ isLn (by_ s i) = false ∧ isBl (by_ s i) = false ∧ by_ s i = 35
  | 3 => i < s.size ∧ by_ s i = 34
  | _ => (i < s.size ∧ isLn (by_ s i) = false ∧ isBl (by_ s i) = false ∧ by_ s i ≠ 35) ∧ u 4 = .int .i64 ((wdAt s i).e : Int) ∧ u 6 = .int .i64 ((wdAt s i).nx : Int) ∧ w'.heap[B]? = some (.cells (wdC (wdAt s i) 0) 73 (0, 0))

def SnJ (yv : Value) (Bs B : Nat) (J : List It → World → Prop) (s : ByteArray) (l : Nat) (a' : Act) (w' : World) : Prop :=
  ∃ i line n u, a' = fr yv Bs B i line n u ∧ Hid (At J s B l i line n u w')

def SnM (s : ByteArray) (l : Nat) (a' : Act) : Nat := 8 * (s.size - (Lib.intOf (a'.tmps.getD 5 undef)).toNat) + (if l = 1 then 4 else if l = 0 then 1 else if l = 3 then 3 else 2)
theorem SnM_fr (s : ByteArray) (l : Nat) (yv : Value) (Bs B i line n : Nat) (u : Nat → Value) : SnM s l (fr yv Bs B i line n u) = 8 * (s.size - i) + (if l = 1 then 4 else if l = 0 then 1 else if l = 3 then 3 else 2) := by
  unfold SnM
  rw [show (fr yv Bs B i line n u).tmps.getD 5 undef = .int .i64 (i : Int) from rfl]
  simp [Lib.intOf]

theorem jump {yv : Value} {Bs B i line n M l : Nat} {J : List It → World → Prop} {s : ByteArray} {Q : Exit → Act → World → Prop} (a : Act) (w : World) (hl : l < 5) (hd : a.defers = []) (hs : a.tmps.size = 97)
    (h0 : a.tmps[0]? = some (yv)) (h1 : a.tmps[1]? = some (Value.pointer (some ⟨Bs, 0, none⟩))) (h3 : a.tmps[3]? = some (Value.pointer (some ⟨B, 0, none⟩))) (h5 : a.tmps[5]? = some (Value.int .i64 (i : Int))) (h7 : a.tmps[7]? = some (Value.int .i64 (line : Int))) (h8 : a.tmps[8]? = some (Value.int .i64 (n : Int)))
    (H : At J s B l i line n (fun j => a.tmps.getD j undef) w) (hm : 8 * (s.size - i) + (if l = 1 then 4 else if l = 0 then 1 else if l = 3 then 3 else 2) < M) :
    Jumps (· < 5) (fun l' a' w' => SnJ yv Bs B J s l' a' w' ∧ SnM s l' a' < M) Q (.goto l) a w := by
  have e := fr_of yv Bs B i line n a hd hs h0 h1 h3 h5 h7 h8
  refine ⟨hl, ⟨i, line, n, _, e, hide H⟩, ?_⟩
  rw [e, SnM_fr]
  exact hm

/-- five labels; three of them are fallen into -/
theorem scope_five2 {P : Program} {a : Act} {w : World} {Q : Exit → Act → World → Prop} {c q0 q1 r2 r3 q4 : Code} (J : Nat → Act → World → Prop) (μ : Nat → Act → World → Nat)
    (h0 : findLabel c 0 = some (Code.seq .skip q0)) (h1 : findLabel c 1 = some (Code.seq .skip q1)) (h2 : findLabel c 2 = some r2) (h3 : findLabel c 3 = some r3) (h4 : findLabel c 4 = some (Code.seq .skip q4))
    (p0 : (∀ a w M, J 0 a w → μ 0 a w ≤ M → q0.wp P (Jumps (· < 5) (fun l' a' w' => J l' a' w' ∧ μ l' a' w' < M) Q) a w))
    (p4 : (∀ a w M, J 4 a w → μ 4 a w ≤ M → q4.wp P (Jumps (· < 5) (fun l' a' w' => J l' a' w' ∧ μ l' a' w' < M) Q) a w))
    (p1 : (∀ a w M, J 1 a w → μ 1 a w ≤ M → q1.wp P (Jumps (· < 5) (fun l' a' w' => J l' a' w' ∧ μ l' a' w' < M) Q) a w))
    (p2 : (∀ a w M, J 0 a w → μ 0 a w ≤ M → q0.wp P (Jumps (· < 5) (fun l' a' w' => J l' a' w' ∧ μ l' a' w' < M) Q) a w) → (∀ a w M, J 2 a w → μ 2 a w ≤ M → r2.wp P (Jumps (· < 5) (fun l' a' w' => J l' a' w' ∧ μ l' a' w' < M) Q) a w))
    (p3 : (∀ a w M, J 4 a w → μ 4 a w ≤ M → q4.wp P (Jumps (· < 5) (fun l' a' w' => J l' a' w' ∧ μ l' a' w' < M) Q) a w) → (∀ a w M, J 3 a w → μ 3 a w ≤ M → r3.wp P (Jumps (· < 5) (fun l' a' w' => J l' a' w' ∧ μ l' a' w' < M) Q) a w))
    (first : (∀ a w M, J 1 a w → μ 1 a w ≤ M → q1.wp P (Jumps (· < 5) (fun l' a' w' => J l' a' w' ∧ μ l' a' w' < M) Q) a w) → c.wp P (Jumps (· < 5) J Q) a w) : (Code.scope c).wp P Q a w :=
  scope_five J μ h0 h1 h2 h3 h4 (first p1) (fun a w h => wp_seq (wp_skip (p0 a w _ h (Nat.le_refl _)))) (fun a w h => wp_seq (wp_skip (p1 a w _ h (Nat.le_refl _)))) (fun a w h => p2 p0 a w _ h (Nat.le_refl _)) (fun a w h => p3 p4 a w _ h (Nat.le_refl _)) (fun a w h => wp_seq (wp_skip (p4 a w _ h (Nat.le_refl _))))

theorem drop_measure {P : Program} {J : Nat → Act → World → Prop} {μ : Nat → Act → World → Nat} {M : Nat} {Q : Exit → Act → World → Prop} {c : Code} {a : Act} {w : World} (h : c.wp P (Jumps (· < 5) (fun l' a' w' => J l' a' w' ∧ μ l' a' w' < M) Q) a w) : c.wp P (Jumps (· < 5) J Q) a w := by
  intro b k cs
  obtain ⟨e, a', w', hq, harr⟩ := h b k cs
  refine ⟨e, a', w', ?_, harr⟩
  cases e with
  | goto l => exact ⟨hq.1, hq.2.1⟩
  | normal => exact hq
  | exit id => exact hq
  | ret => exact hq
  | panic ch => exact hq
  | outgrown => exact hq

/-- five cells are written -/
theorem five_set {W : World} {b : Nat} (h : Box5 W b) (v0 v1 v2 v3 v4 : Value) : (((((W.setCell ⟨b, 0, none⟩ v0).setCell ⟨b, 1, none⟩ v1).setCell ⟨b, 2, none⟩ v2).setCell ⟨b, 3, none⟩ v3).setCell ⟨b, 4, none⟩ v4).heap[b]? = some (.cells #[v0, v1, v2, v3, v4] 73 (0, 0)) := by
  obtain ⟨c0, c1, c2, c3, c4, hc⟩ := h
  have e0 := heap_setCell_same W b 0 _ _ v0 hc
  have e1 := heap_setCell_same _ b 1 _ _ v1 e0
  have e2 := heap_setCell_same _ b 2 _ _ v2 e1
  have e3 := heap_setCell_same _ b 3 _ _ v3 e2
  have e4 := heap_setCell_same _ b 4 _ _ v4 e3
  rw [e4]
  rfl
end Sny
end Go.Proofs.YtkndjbmlkfpfoaaGreatDoor

/-
  The scanner's closure.
-/
set_option linter.unusedSimpArgs false
set_option linter.unusedVariables false
set_option maxRecDepth 100000
namespace Go.Proofs.YtkndjbmlkfpfoaaGreatDoor
open Go.RowKit Go.Lib
namespace Sny

theorem gr_set (W : World) (b k : Nat) (v : Value) : W.grownBy (W.setCell ⟨b, k, none⟩ v) (some b) := ⟨rfl, rfl, rfl, by simp, fun i hi hn => Below.heap_setCell _ _ _ _ (fun e => hn (by rw [e]))⟩
theorem gr_trans {X Y Z : World} {b : Nat} (h : X.grownBy Y (some b)) (k : Y.grownBy Z (some b)) : X.grownBy Z (some b) :=
  ⟨k.os.trans h.os, k.tape.trans h.tape, k.output.trans h.output, Nat.le_trans h.size k.size, fun i hi hn => (k.block i (Nat.lt_of_lt_of_le hi h.size) hn).trans (h.block i hi hn)⟩
theorem gr_below {X Y : World} {b : Nat} (h : Below X.heap.size X Y) : X.grownBy Y (some b) := ⟨h.os, h.tape, h.output, h.size, fun i hi _ => h.block i hi⟩
theorem gr_five {X Y : World} {b : Nat} (h : Below X.heap.size X Y) (v0 v1 v2 v3 v4 : Value) : X.grownBy (((((Y.setCell ⟨b, 0, none⟩ v0).setCell ⟨b, 1, none⟩ v1).setCell ⟨b, 2, none⟩ v2).setCell ⟨b, 3, none⟩ v3).setCell ⟨b, 4, none⟩ v4) (some b) :=
  gr_trans (gr_trans (gr_trans (gr_trans (gr_trans (gr_below h) (gr_set _ _ _ _)) (gr_set _ _ _ _)) (gr_set _ _ _ _)) (gr_set _ _ _ _)) (gr_set _ _ _ _)

set_option maxHeartbeats 8000000 in
theorem scan_yl (l0 : Nat) (Bs : Nat) (s : ByteArray) (hs : s.size ≤ 1000000000) (J Jx : List It → World → Prop) (W : World)
    (hK : ∀ pre W1, J pre W1 → W1.cell? ⟨Bs, 0, none⟩ = some (.string s) ∧ Lw W1)
    (hJ : ∀ pre W1 W2, J pre W1 → W1.grownBy W2 (some W.heap.size) → J pre W2)
    (hY : ∀ pre x rest W1, pre ++ x :: rest = scL s → W.heap.size < W1.heap.size → J pre W1 → YieldL l0 x.args W1 fun b W' => (if b then J (pre ++ [x]) W' else Jx (pre ++ [x]) W') ∧ W1.heap.size ≤ W'.heap.size ∧ W'.heap[W.heap.size]? = W1.heap[W.heap.size]?)
    (h0 : J [] W) :
    Calls Tryz.prog 54 #[.func (.yield l0) #[] #[], .pointer (some ⟨Bs, 0, none⟩)] W fun e W' => e = .returned (.tuple #[]) ∧ (J (scL s) W' ∨ ∃ pre rest, pre ++ rest = scL s ∧ Jx pre W') := by
  have HK := hide hK
  have HJ := hide hJ
  have HY := hide hY
  have H0 := hide h0
  clear hK hJ hY h0
  go_enter Tryz.func54, Tryz.ntmps54
  go_wp2
  refine scope_five2 (SnJ (.func (.yield l0) #[] #[]) Bs W.heap.size J s) (fun l a' _ => SnM s l a') rfl rfl rfl rfl rfl ?p0 ?p4 ?p1 ?p2 ?p3 ?first
  case first =>
    intro P1
    refine drop_measure (μ := fun l a' _ => SnM s l a') (M := 8 * s.size + 4) ?_
    go_wp2
    go_step3
    simp only [Exit.then]
    rename_i hKx
    refine hKx _ _ (P1 _ _ (8 * s.size + 4) ?hj ?hm)
    case hj => exact ⟨0, 1, 0, _, fr_of (.func (.yield l0) #[] #[]) Bs W.heap.size 0 1 0 _ rfl rfl rfl rfl rfl rfl rfl rfl, hide ⟨⟨by omega, by omega, by omega, ⟨[], rfl, unhide HJ _ _ _ (unhide H0) (World.grownBy_alloc _ _ _)⟩, Box5.new _ _ _ _ _ _, by simp⟩, trivial⟩⟩
    case hm =>
      show SnM s 1 _ ≤ _
      simp [SnM, Lib.intOf]
  case p0 =>
    rintro a' w' M ⟨i, line, n, u, rfl, H⟩ hM
    simp only [SnM_fr] at hM
    rw [fr_lit]
    obtain ⟨⟨hi, hn, hl, ⟨pre, hp, hJp⟩, hbx, hB⟩, hend⟩ := unhide H
    have hend' : i < s.size → isLn (by_ s i) = true := hend
    have hbh := fun h W => hide (behindLine_in s hs i h W)
    have hbb := bhL_bounds s i
    by_cases h0 : 0 < n
    · have d0 : (0 : Int) < (n : Int) := by omega
      have hp1 : pre ++ endI i line :: (if i < s.size then scA s (bhL s i) (line + 1) false else []) = scL s := by
        rw [← hp]
        by_cases hz : i < s.size
        · rw [scA_line hz (hend' hz), if_pos hz]; simp [h0]
        · rw [scA_end hz, if_neg hz]; simp [h0]
      have hy := hide (unhide HY pre (endI i line) _ w' hp1 hB hJp)
      unfold It.args endI Wd.v wV at hy
      have Hp := hide hp1
      obtain ⟨y0, y1, y2, y3, y4, hy5⟩ := hbx
      have HE4 := hide hy5
      clear hp hp1 hJp H hend hend' h0 hy5
      go_upto_region 16 with fail
      refine (wpIn_wide (n := 6)).1 ?_
      obtain ⟨fnY, tmpsY, assignY, bodyY, hyr, hR⟩ := unhide hy 5
      have hyr2 : (Instr.yield l0 #[Value.agg #[.int .i64 4, .string ⟨#[]⟩, .int .i64 0, .int .i64 (i : Int), .int .i64 (line : Int)], .int .i64 0]).run Tryz.prog w' = _ := hyr
      have HRR := hide hR
      clear hR hyr
      gi_wp2
      refine (unhide HRR).mono ?_
      rintro e V2 ⟨b, rfl, hb, zb, hkeep⟩
      have Hk := hide (hkeep.trans (unhide HE4))
      clear hkeep
      cases b with
      | false =>
        have Hb := hide hb
        clear hb
        gi_wp2
        go_wp2
        simp only [Jumps]
        refine bodyPost_ret (results_none rfl _ _ _) rfl ?_
        exact ⟨rfl, .inr ⟨pre ++ [endI i line], _, by rw [← unhide Hp, List.append_assoc]; rfl, unhide Hb⟩⟩
      | true =>
        have hcs := (unhide HK _ V2 hb).1
        have Hb := hide hb
        clear hb
        by_cases hz : i < s.size
        · have k3 : ((i : Int) == (s.size : Int)) = false := by rw [beq_eq_false_iff_ne]; omega
          have hbb2 := hbb hz
          have hbz := hbh hz
          have Hp2 := hide (show (pre ++ [endI i line]) ++ scA s (bhL s i) (line + 1) false = scL s by rw [← unhide Hp, if_pos hz]; simp)
          clear hbb hbh
          gi_wp2
          go_wp2_with fail
          refine (unhide (hbz _)).mono ?_
          rintro e V3 ⟨rfl, rfl⟩
          go_wp2
          go_step3
          show Jumps (· < 5) (fun l' a' w' => SnJ (.func (.yield l0) #[] #[]) Bs W.heap.size J s l' a' w' ∧ SnM s l' a' < M) (fun _ _ _ => True) (.goto 1) _ _
          exact jump (i := bhL s i) (line := line + 1) (n := 0) _ _ (by decide) rfl rfl rfl rfl rfl rfl (by simp) rfl ⟨⟨hbb2.2, by omega, by omega, ⟨_, unhide Hp2, unhide Hb⟩, ⟨_, _, _, _, _, unhide Hk⟩, by omega⟩, trivial⟩ (by simp; simp at hM; omega)
        · have k3 : ((i : Int) == (s.size : Int)) = true := by rw [beq_iff_eq]; omega
          have Hp2 := hide (show pre ++ [endI i line] = scL s by rw [← unhide Hp, if_neg hz])
          clear hbb hbh
          gi_wp2
          go_wp2
          simp only [Jumps]
          refine bodyPost_ret (results_none rfl _ _ _) rfl ?_
          exact ⟨rfl, .inl (unhide Hp2 ▸ unhide Hb)⟩
    · have hn0 : n = 0 := by omega
      have d0 : decide ((0 : Int) < (n : Int)) = false := by rw [decide_eq_false_iff_not]; omega
      have dn : decide (0 < n) = false := by rw [decide_eq_false_iff_not]; omega
      rw [dn] at hp
      have hcs := (unhide HK _ w' hJp).1
      by_cases hz : i < s.size
      · have k3 : ((i : Int) == (s.size : Int)) = false := by rw [beq_eq_false_iff_ne]; omega
        have hbb2 := hbb hz
        have hbz := hbh hz
        have Hp2 := hide (show pre ++ scA s (bhL s i) (line + 1) false = scL s by rw [← hp, scA_line hz (hend' hz)]; simp)
        have HJp := hide hJp
        have Hbx := hide hbx
        clear hbb hbh hp hJp hbx H hend hend' dn h0 d0
        subst hn0
        go_wp2_with fail
        refine (unhide (hbz _)).mono ?_
        rintro e V3 ⟨rfl, rfl⟩
        go_wp2
        go_step3
        show Jumps (· < 5) (fun l' a' w' => SnJ (.func (.yield l0) #[] #[]) Bs W.heap.size J s l' a' w' ∧ SnM s l' a' < M) (fun _ _ _ => True) (.goto 1) _ _
        exact jump (i := bhL s i) (line := line + 1) (n := 0) _ _ (by decide) rfl rfl rfl rfl rfl rfl (by simp) rfl ⟨⟨hbb2.2, by omega, by omega, ⟨_, unhide Hp2, unhide HJp⟩, unhide Hbx, hB⟩, trivial⟩ (by simp; simp at hM; omega)
      · have k3 : ((i : Int) == (s.size : Int)) = true := by rw [beq_iff_eq]; omega
        have Hp2 := hide (show pre = scL s by rw [← hp, scA_end hz]; simp)
        have HJp := hide hJp
        clear hbb hbh hp hJp hbx H hend hend' dn h0 d0
        subst hn0
        go_wp2
        simp only [Jumps]
        refine bodyPost_ret (results_none rfl _ _ _) rfl ?_
        exact ⟨rfl, .inl (unhide Hp2 ▸ unhide HJp)⟩
  case p4 =>
    rintro a' w' M ⟨i, line, n, u, rfl, H⟩ hM
    simp only [SnM_fr] at hM
    obtain ⟨⟨hi, hn, hl, ⟨pre, hp, hJp⟩, hbx, hB⟩, ⟨hz, hln, hb2, h35⟩, hu4, hu6, hcell⟩ := unhide H
    have hu4' : u 4 = .int .i64 ((wdAt s i).e : Int) := hu4
    have hu6' : u 6 = .int .i64 ((wdAt s i).nx : Int) := hu6
    rw [fr_lit, hu4', hu6']
    have hw := scA_word (line := line) (m := decide (0 < n)) hz hln hb2 h35
    have hnx := wdAt_nx s i hz (we_of s i (by rw [hln]; simp) (by rw [hb2]; simp) h35)
    rw [hw] at hp
    obtain ⟨X, hX⟩ : ∃ X, wdAt s i = X := ⟨_, rfl⟩
    rw [hX] at hp hcell hnx ⊢
    unfold wdC at hcell
    have f4 : w'.cell? ⟨W.heap.size, 4, none⟩ = some (.int .i64 0) := by simp [World.cell?, hcell]
    have g4 : w'.frozen? ⟨W.heap.size, 4, none⟩ = false := by simp [World.frozen?, hcell]
    have e4 := heap_setCell_same w' W.heap.size 4 _ _ (.int .i64 (line : Int)) hcell
    have B4 := hide (gr_set w' W.heap.size 4 (.int .i64 (line : Int)))
    have z4 : (w'.setCell ⟨W.heap.size, 4, none⟩ (.int .i64 (line : Int))).heap.size = w'.heap.size := by simp
    obtain ⟨V, hV⟩ : ∃ V, w'.setCell ⟨W.heap.size, 4, none⟩ (.int .i64 (line : Int)) = V := ⟨_, rfl⟩
    rw [hV] at e4 B4 z4
    have E4 : V.heap[W.heap.size]? = some (.cells #[.int .i64 (X.k : Int), .string X.t, .int .i64 X.n, .int .i64 (X.a : Int), .int .i64 (line : Int)] 73 (0, 0)) := e4
    have c0 : V.cell? ⟨W.heap.size, 0, none⟩ = some (.int .i64 (X.k : Int)) := by simp [World.cell?, E4]
    have c1 : V.cell? ⟨W.heap.size, 1, none⟩ = some (.string X.t) := by simp [World.cell?, E4]
    have c2 : V.cell? ⟨W.heap.size, 2, none⟩ = some (.int .i64 X.n) := by simp [World.cell?, E4]
    have c3 : V.cell? ⟨W.heap.size, 3, none⟩ = some (.int .i64 (X.a : Int)) := by simp [World.cell?, E4]
    have c4 : V.cell? ⟨W.heap.size, 4, none⟩ = some (.int .i64 (line : Int)) := by simp [World.cell?, E4]
    have hy := hide (unhide HY pre ⟨X, line⟩ _ V hp (by omega) (unhide HJ _ _ _ hJp (unhide B4)))
    unfold It.args Wd.v wV at hy
    have HE4 := hide E4
    have Hp := hide hp
    clear hp hJp hbx H hu4 hu6 hu4' hu6' hw hX hcell e4 E4
    go_upto_region 11 with fail
    refine (wpIn_wide (n := 6)).1 ?_
    obtain ⟨fnY, tmpsY, assignY, bodyY, hyr, hR⟩ := unhide hy 5
    have HRR := hide hR
    clear hR
    gi_wp2
    refine (unhide HRR).mono ?_
    rintro e V2 ⟨b, rfl, hb, zb, hkeep⟩
    have Hk := hide (hkeep.trans (unhide HE4))
    clear hkeep
    cases b with
    | false =>
      have Hb := hide hb
      clear hb
      gi_wp2
      go_wp2
      simp only [Jumps]
      refine bodyPost_ret (results_none rfl _ _ _) rfl ?_
      exact ⟨rfl, .inr ⟨pre ++ [⟨X, line⟩], _, by rw [← unhide Hp, List.append_assoc]; rfl, (show Jx (pre ++ [⟨X, line⟩]) V2 from unhide Hb)⟩⟩
    | true =>
      have Hb := hide hb
      clear hb
      by_cases hX0 : X.e = 0
      · have q0 : ((X.e : Int) != 0) = false := by rw [hX0]; rfl
        have hnx0 := hnx hX0
        have Hp2 := hide (show (pre ++ [⟨X, line⟩]) ++ scA s X.nx line (decide (0 < n + 1)) = scL s by rw [← unhide Hp, if_pos hX0]; simp)
        clear hX0 hnx
        gi_wp2
        go_wp2
        go_step3
        show Jumps (· < 5) (fun l' a' w' => SnJ (.func (.yield l0) #[] #[]) Bs W.heap.size J s l' a' w' ∧ SnM s l' a' < M) (fun _ _ _ => True) (.goto 1) _ _
        exact jump (i := X.nx) (n := n + 1) _ _ (by decide) rfl rfl rfl rfl rfl rfl rfl (by simp) ⟨⟨hnx0.2, by omega, by omega, ⟨_, unhide Hp2, unhide Hb⟩, ⟨_, _, _, _, _, unhide Hk⟩, by omega⟩, trivial⟩ (by simp; simp at hM; omega)
      · have q0 : ((X.e : Int) != 0) = true := by rw [bne_iff_ne]; omega
        have Hp2 := hide (show pre ++ [⟨X, line⟩] = scL s by rw [← unhide Hp, if_neg hX0])
        clear hX0 hnx
        gi_wp2
        go_wp2
        simp only [Jumps]
        refine bodyPost_ret (results_none rfl _ _ _) rfl ?_
        exact ⟨rfl, .inl (unhide Hp2 ▸ unhide Hb)⟩
  case p2 =>
    rintro P0 a' w' M ⟨i, line, n, u, rfl, H⟩ hM
    simp only [SnM_fr] at hM
    rw [fr_lit]
    obtain ⟨⟨hi, hn, hl, ⟨pre, hp, hJp⟩, hbx, hB⟩, hz, hln, hb2, h35⟩ := unhide H
    have hcs := (unhide HK pre w' hJp).1
    have hrm := rmE_bounds s _ i (Nat.le_refl _) hi
    have Hp := hide (show pre ++ scA s (rmE s i) line (decide (0 < n)) = scL s by rw [← hp, scA_remark hz hln hb2 h35])
    have HJp := hide hJp
    have Hbx := hide hbx
    have hM2 : 8 * (s.size - i) + 2 ≤ M := by simpa using hM
    obtain ⟨R, hR⟩ : ∃ R, rmE s i = R := ⟨_, rfl⟩
    rw [hR] at Hp hrm
    have HR := hide hR
    clear hp hJp hbx H hln hb2 h35 hM hR
    go_wp2_with fail
    go_loopw [5] (fun jv wr => ∃ j : Nat, jv = .int .i64 (j : Int) ∧ i ≤ j ∧ j ≤ s.size ∧ wr = w' ∧ Hid (rmE s j = R)) (fun jv _ => s.size - (RowKit.intOf jv).toNat)
    case atStart => exact ⟨i, rfl, Nat.le_refl _, hi, rfl, HR⟩
    case round =>
      obtain ⟨j, rfl, hj1, hj2, rfl, Hj⟩ := hrel
      have hel := fun W => hide (endsLine_in (by_ s j) W)
      by_cases hjz : j < s.size
      · have gi := by_get s j hjz
        have k1 : (j : Int) < (s.size : Int) := by omega
        have k2 : (0 : Int) ≤ (j : Int) := by omega
        cases hl2 : isLn (by_ s j) with
        | false =>
          rw [hl2] at hel
          have Hj2 := hide (show rmE s (j + 1) = R by rw [← unhide Hj, rmE_go s j hjz hl2])
          clear hl2
          go_wp2_with fail
          refine (unhide (hel _)).mono ?_
          rintro e w2 ⟨rfl, rfl⟩
          go_wp2
          go_roundw
          case rel => exact ⟨j + 1, by simp, by omega, by omega, by simp, Hj2⟩
          case measure => simp [RowKit.intOf]; omega
        | true =>
          rw [hl2] at hel
          have Hl2 := hide hl2
          have Hj2 := hide (show R = j by rw [← unhide Hj, rmE_stop s j (fun _ => hl2)])
          clear hl2
          go_wp2_with fail
          refine (unhide (hel _)).mono ?_
          rintro e w2 ⟨rfl, rfl⟩
          go_wp2
          go_step3
          simp only [Exit.then]
          rename_i hKx
          refine hKx _ _ (P0 _ _ M ?hj2 ?hm2)
          case hj2 => exact ⟨j, line, n, _, fr_of (.func (.yield l0) #[] #[]) Bs W.heap.size j line n _ rfl rfl rfl rfl rfl rfl rfl rfl, hide ⟨⟨hj2, by omega, by omega, ⟨pre, by rw [← unhide Hj2]; exact unhide Hp, unhide HJp⟩, unhide Hbx, hB⟩, fun _ => unhide Hl2⟩⟩
          case hm2 =>
            show SnM s 0 _ ≤ _
            simp [SnM, Lib.intOf]
            omega
      · have k1 : decide ((j : Int) < (s.size : Int)) = false := by rw [decide_eq_false_iff_not]; omega
        have Hj2 := hide (show R = j by rw [← unhide Hj, rmE_stop s j (fun h => absurd h hjz)])
        go_wp2
        go_step3
        simp only [Exit.then]
        rename_i hKx
        refine hKx _ _ (P0 _ _ M ?hj3 ?hm3)
        case hj3 => exact ⟨j, line, n, _, fr_of (.func (.yield l0) #[] #[]) Bs W.heap.size j line n _ rfl rfl rfl rfl rfl rfl rfl rfl, hide ⟨⟨hj2, by omega, by omega, ⟨pre, by rw [← unhide Hj2]; exact unhide Hp, unhide HJp⟩, unhide Hbx, hB⟩, fun h => absurd h hjz⟩⟩
        case hm3 =>
          show SnM s 0 _ ≤ _
          simp [SnM, Lib.intOf]
          omega
  case p3 =>
    rintro P4 a' w' M ⟨i, line, n, u, rfl, H⟩ hM
    simp only [SnM_fr] at hM
    rw [fr_lit]
    obtain ⟨⟨hi, hn, hl, ⟨pre, hp, hJp⟩, hbx, hB⟩, hz, h34⟩ := unhide H
    have hcs := (unhide HK pre w' hJp).1
    have hwd : wdAt s i = qdW s i := by unfold wdAt; rw [if_pos h34]
    have hqw := hide (quotedWord_in s hs i hz w')
    rw [← hwd] at hqw
    have H34 := hide h34
    have Hp := hide hp
    have HJp := hide hJp
    have Hbx := hide hbx
    obtain ⟨X, hX⟩ : ∃ X, wdAt s i = X := ⟨_, rfl⟩
    rw [hX] at hqw
    have HX := hide hX
    unfold Wd.tup Wd.v wV at hqw
    clear hp hJp hbx H h34 hwd hX
    go_wp2_with fail
    refine (unhide hqw).mono ?_
    rintro e w3 ⟨rfl, hB3⟩
    have bx3 := (unhide Hbx).below hB3 hB
    obtain ⟨⟨x0, f0⟩, ⟨x1, f1⟩, ⟨x2, f2⟩, ⟨x3, f3⟩, ⟨x4, f4⟩, g0, g1, g2, g3, g4⟩ := bx3.facts
    have S5 := hide (five_set bx3 (.int .i64 (X.k : Int)) (.string X.t) (.int .i64 X.n) (.int .i64 (X.a : Int)) (.int .i64 0))
    have B5 := hide (gr_five (b := W.heap.size) hB3 (.int .i64 (X.k : Int)) (.string X.t) (.int .i64 X.n) (.int .i64 (X.a : Int)) (.int .i64 0))
    have z3 := hB3.size
    clear bx3 hB3 hqw
    go_wp2
    go_step3
    simp only [Exit.then]
    rename_i hKx
    refine hKx _ _ (P4 _ _ M ?hj4 ?hm4)
    case hj4 => exact ⟨i, line, n, _, fr_of (.func (.yield l0) #[] #[]) Bs W.heap.size i line n _ rfl rfl rfl rfl rfl rfl rfl rfl, hide ⟨⟨hi, hn, hl, ⟨pre, unhide Hp, unhide HJ _ _ _ (unhide HJp) (unhide B5)⟩, ⟨_, _, _, _, _, unhide S5⟩, by simp; omega⟩, ⟨hz, by rw [unhide H34]; rfl, by rw [unhide H34]; rfl, by rw [unhide H34]; decide⟩, by rw [unhide HX]; rfl, by rw [unhide HX]; rfl, by rw [unhide HX]; exact unhide S5⟩⟩
    case hm4 =>
      show SnM s 4 _ ≤ _
      simp [SnM, Lib.intOf]
      simp at hM
      omega
  case p1 =>
    rintro a' w' M ⟨i, line, n, u, rfl, H⟩ hM
    simp only [SnM_fr, if_true] at hM
    rw [fr_lit]
    obtain ⟨⟨hi, hn, hl, ⟨pre, hp, hJp⟩, hbx, hB⟩, -⟩ := unhide H
    have hcs := (unhide HK pre w' hJp).1
    have HL := hide (unhide HK pre w' hJp).2
    have hbl := fun W => hide (isBlank_in (by_ s i) W)
    have hel := fun W => hide (endsLine_in (by_ s i) W)
    have hI := (unhide H).1
    have HI := hide hI
    by_cases hz : i < s.size
    · have gi := by_get s i hz
      have k1 : (i : Int) < (s.size : Int) := by omega
      have k2 : (0 : Int) ≤ (i : Int) := by omega
      have k3 : ((i : Int) == (s.size : Int)) = false := by rw [beq_eq_false_iff_ne]; omega
      cases hln : isLn (by_ s i) with
      | true =>
        rw [hln] at hel
        have Hln := hide hln
        clear hln hp hJp hbx hB hbl HL H hI
        go_wp2_with fail
        refine (unhide (hel _)).mono ?_
        rintro e w2 ⟨rfl, rfl⟩
        go_wp2
        go_step3
        show Jumps (· < 5) (fun l' a' w' => SnJ (.func (.yield l0) #[] #[]) Bs W.heap.size J s l' a' w' ∧ SnM s l' a' < M) (fun _ _ _ => True) (.goto 0) _ _
        exact jump _ _ (by decide) rfl rfl rfl rfl rfl rfl rfl rfl ⟨unhide HI, fun _ => unhide Hln⟩ (by simp; omega)
      | false =>
        rw [hln] at hel
        have Hln := hide hln
        cases hb2 : isBl (by_ s i) with
        | true =>
          rw [hb2] at hbl
          have HI2 : Hid (SnI J s W.heap.size (i + 1) line n w') := hide ⟨by omega, by omega, by omega, ⟨pre, by rw [← hp, scA_blank hz hln hb2], hJp⟩, hbx, hB⟩
          clear hln hp hJp hbx hB HL H hI hb2
          go_wp2_with fail
          refine (unhide (hel _)).mono ?_
          rintro e w2 ⟨rfl, rfl⟩
          go_wp2_with fail
          refine (unhide (hbl _)).mono ?_
          rintro e w2 ⟨rfl, rfl⟩
          go_wp2
          go_step3
          show Jumps (· < 5) (fun l' a' w' => SnJ (.func (.yield l0) #[] #[]) Bs W.heap.size J s l' a' w' ∧ SnM s l' a' < M) (fun _ _ _ => True) (.goto 1) _ _
          exact jump (i := i + 1) _ _ (by decide) rfl rfl rfl rfl rfl (by simp) rfl rfl ⟨unhide HI2, trivial⟩ (by simp; omega)
        | false =>
          rw [hb2] at hbl
          have Hb2 := hide hb2
          by_cases h35 : by_ s i = 35
          · have q1 : (((by_ s i : Nat) : Int) == 35) = true := by rw [h35]; rfl
            have H35 := hide h35
            clear hln hp hJp hbx hB HL H hI hb2 h35
            go_wp2_with fail
            refine (unhide (hel _)).mono ?_
            rintro e w2 ⟨rfl, rfl⟩
            go_wp2_with fail
            refine (unhide (hbl _)).mono ?_
            rintro e w2 ⟨rfl, rfl⟩
            go_wp2
            go_step3
            show Jumps (· < 5) (fun l' a' w' => SnJ (.func (.yield l0) #[] #[]) Bs W.heap.size J s l' a' w' ∧ SnM s l' a' < M) (fun _ _ _ => True) (.goto 2) _ _
            exact jump _ _ (by decide) rfl rfl rfl rfl rfl rfl rfl rfl ⟨unhide HI, hz, unhide Hln, unhide Hb2, unhide H35⟩ (by simp; omega)
          · have q1 : (((by_ s i : Nat) : Int) == 35) = false := by rw [beq_eq_false_iff_ne]; omega
            by_cases h34 : by_ s i = 34
            · have q2 : (((by_ s i : Nat) : Int) == 34) = true := by rw [h34]; rfl
              have H34 := hide h34
              clear hln hp hJp hbx hB HL H hI hb2 h35 h34
              go_wp2_with fail
              refine (unhide (hel _)).mono ?_
              rintro e w2 ⟨rfl, rfl⟩
              go_wp2_with fail
              refine (unhide (hbl _)).mono ?_
              rintro e w2 ⟨rfl, rfl⟩
              go_wp2
              go_step3
              show Jumps (· < 5) (fun l' a' w' => SnJ (.func (.yield l0) #[] #[]) Bs W.heap.size J s l' a' w' ∧ SnM s l' a' < M) (fun _ _ _ => True) (.goto 3) _ _
              exact jump _ _ (by decide) rfl rfl rfl rfl rfl rfl rfl rfl ⟨unhide HI, hz, unhide H34⟩ (by simp; omega)
            · have q2 : (((by_ s i : Nat) : Int) == 34) = false := by rw [beq_eq_false_iff_ne]; omega
              have hwd : wdAt s i = bwW s i := by unfold wdAt; rw [if_neg h34]
              have hbw := hide (bareWord_in s hs i hz w' (unhide HL))
              rw [← hwd] at hbw
              have H35 := hide h35
              have Hp := hide hp
              have HJp := hide hJp
              have Hbx := hide hbx
              obtain ⟨X, hX⟩ : ∃ X, wdAt s i = X := ⟨_, rfl⟩
              rw [hX] at hbw
              have HX := hide hX
              unfold Wd.tup Wd.v wV at hbw
              clear hln hp hJp hbx HL H hI hb2 h35 h34 hwd hX
              go_wp2_with fail
              refine (unhide (hel _)).mono ?_
              rintro e w2 ⟨rfl, rfl⟩
              go_wp2_with fail
              refine (unhide (hbl _)).mono ?_
              rintro e w2 ⟨rfl, rfl⟩
              go_wp2_with fail
              refine (unhide hbw).mono ?_
              rintro e w3 ⟨rfl, hB3⟩
              have bx3 := (unhide Hbx).below hB3 hB
              obtain ⟨⟨x0, f0⟩, ⟨x1, f1⟩, ⟨x2, f2⟩, ⟨x3, f3⟩, ⟨x4, f4⟩, g0, g1, g2, g3, g4⟩ := bx3.facts
              have S5 := hide (five_set bx3 (.int .i64 (X.k : Int)) (.string X.t) (.int .i64 X.n) (.int .i64 (X.a : Int)) (.int .i64 0))
              have B5 := hide (gr_five (b := W.heap.size) hB3 (.int .i64 (X.k : Int)) (.string X.t) (.int .i64 X.n) (.int .i64 (X.a : Int)) (.int .i64 0))
              have z3 := hB3.size
              clear bx3 hB3 hbw
              go_wp2
              go_step3
              show Jumps (· < 5) (fun l' a' w' => SnJ (.func (.yield l0) #[] #[]) Bs W.heap.size J s l' a' w' ∧ SnM s l' a' < M) (fun _ _ _ => True) (.goto 4) _ _
              refine jump _ _ (by decide) rfl rfl rfl rfl rfl rfl rfl rfl ⟨⟨hi, hn, hl, ⟨pre, unhide Hp, unhide HJ _ _ _ (unhide HJp) (unhide B5)⟩, ⟨_, _, _, _, _, unhide S5⟩, by simp; omega⟩, ⟨hz, unhide Hln, unhide Hb2, unhide H35⟩, by rw [unhide HX]; rfl, by rw [unhide HX]; rfl, by rw [unhide HX]; exact unhide S5⟩ (by simp; omega)
    · have k3 : ((i : Int) == (s.size : Int)) = true := by rw [beq_iff_eq]; omega
      clear hp hJp hbx hB hbl hel HL H hI
      go_wp2
      go_step3
      show Jumps (· < 5) (fun l' a' w' => SnJ (.func (.yield l0) #[] #[]) Bs W.heap.size J s l' a' w' ∧ SnM s l' a' < M) (fun _ _ _ => True) (.goto 0) _ _
      exact jump _ _ (by decide) rfl rfl rfl rfl rfl rfl rfl rfl ⟨unhide HI, fun h => absurd h hz⟩ (by simp; omega)

end Sny
end Go.Proofs.YtkndjbmlkfpfoaaGreatDoor

/-
  The scanner as what a range goes through.
-/
set_option linter.unusedSimpArgs false
set_option linter.unusedVariables false
namespace Go.Proofs.YtkndjbmlkfpfoaaGreatDoor
open Go.RowKit Go.Lib Go.Shelf

def Kx (Bs : Nat) (s : ByteArray) (W : World) : Prop := W.cell? ⟨Bs, 0, none⟩ = some (.string s) ∧ Lw W
theorem YieldL.mono {l : Nat} {args : Array Value} {W : World} {R R' : Bool → World → Prop} (h : YieldL l args W R) (hr : ∀ b W', R b W' → R' b W') : YieldL l args W R' :=
  fun m => YieldAt.mono (h m) (fun e W' ⟨b, h1, h2⟩ => ⟨b, h1, hr b W' h2⟩)
theorem scan_K (Bs : Nat) (s : ByteArray) (hs : s.size ≤ 1000000000) (w0 : World) :
    SeqK (Kx Bs s) 1 54 #[.pointer (some ⟨Bs, 0, none⟩)] It.args (scL s) w0 := by
  intro l J Jx W hW hJ hJx hK hY h0 n
  refine callsIn_wide.2 ((Sny.scan_yl l Bs s hs (fun pre W1 => J pre W1 ∧ W.heap.size ≤ W1.heap.size) Jx W ?_ ?_ ?_ ⟨h0, Nat.le_refl _⟩).mono ?_)
  · rintro pre W1 ⟨h, _⟩
    exact hK pre W1 h
  · rintro pre W1 W2 ⟨h, hz⟩ hg
    exact ⟨hJ pre W1 W2 _ h hg (fun r e => by cases e; omega), Nat.le_trans hz hg.size⟩
  · rintro pre x rest W1 hp hz ⟨h, hz2⟩
    refine (hY pre x rest W1 hp hz h).mono (fun b W' ⟨h1, h2⟩ => ⟨?_, h2.size, h2.over _ (Nat.le_refl _) (by omega) hz⟩)
    cases b with
    | true => exact ⟨h1, Nat.le_trans hz2 h2.size⟩
    | false => exact h1
  · rintro e W' ⟨rfl, (h | h)⟩
    · exact ⟨⟨_, rfl⟩, .inl h⟩
    · exact ⟨⟨_, rfl⟩, .inr h⟩
end Go.Proofs.YtkndjbmlkfpfoaaGreatDoor

/-
  How far Parse is, in memory.
-/
set_option linter.unusedSimpArgs false
set_option linter.unusedVariables false
namespace Go.Proofs.YtkndjbmlkfpfoaaGreatDoor
open Go.RowKit Go.Lib

theorem StV.lo {W : World} {N : Nat} {s : Sp} {dv bv : Value} (h : StV W N s dv bv) : (∀ i, dv.ownBlock = some i → N ≤ i) ∧ ∀ i, bv.ownBlock = some i → N ≤ i := by
  refine ⟨fun i hi => (World.ownsRow.lt h.1 i hi).1, fun i hi => ?_⟩
  rcases h.2 with ⟨rfl, _⟩ | ⟨g, cap, cur, fz, rfl, hN, _⟩
  · cases hi
  · cases hi; exact hN
theorem OwT.kpN {M : Nat → Prop} {W W' : World} {N : Nat} {v : Value} {l : List (Sp × Value × Value)} (h : OwT W N v l) (k : Kp M W W') (hM : ∀ i, M i → i < N) : OwT W' N v l :=
  ⟨owns_kp h.row k (fun i hi e => by have := World.ownsRow.lt h.row i hi; have := hM i e; omega), fun x hx => (h.rows x hx).kp k (fun i hi e => by have := (h.rows x hx).lo.1 i hi; have := hM i e; omega) (fun i hi e => by have := (h.rows x hx).lo.2 i hi; have := hM i e; omega)⟩
theorem OwT.kpT {M : Nat → Prop} {W W' : World} {N : Nat} {v : Value} {l : List (Sp × Value × Value)} (h : OwT W N v l) (k : Kp M W W') (hM : ∀ i, M i → ∃ vs, Bq W i 73 vs) : OwT W' N v l :=
  ⟨owns_kp h.row k (fun i hi e => by obtain ⟨vs, hq⟩ := hM i e; exact owns_ty h.row hq (by decide) hi), fun x hx => (h.rows x hx).kp k (fun i hi e => by obtain ⟨vs, hq⟩ := hM i e; exact owns_ty (h.rows x hx).1 hq (by decide) hi) (fun i hi e => by obtain ⟨vs, hq⟩ := hM i e; exact ownsF_ty (h.rows x hx).2 hq (by decide) hi)⟩
theorem owns_bq {W : World} {N E k n : Nat} {v : Value} {C : List Value} (h : W.ownsRow N E k v n C) : ∀ i, v.ownBlock = some i → ∃ vs, Bq W i E vs := by
  intro i hi
  obtain ⟨_, (⟨rfl, _⟩ | ⟨g, cap, cur, rfl, _, hg, _⟩)⟩ := h
  · cases hi
  · cases hi; exact ⟨_, hg⟩
theorem OwW.zero {W : World} {N n c : Nat} {a : Option Addr} {L : List It} (h : OwW W N (.slice a n c) L) : OwW W N (.slice a 0 c) [] := by
  obtain ⟨hl, (⟨e, hn⟩ | ⟨g, cap, cur, e, hbg, hg, hc1, hc2, hc3, hc4⟩)⟩ := h
  · cases e; exact ⟨by simp [flat], .inl ⟨rfl, rfl⟩⟩
  · cases e; exact ⟨by simp [flat], .inr ⟨g, c, cur, rfl, hbg, hg, Nat.zero_le _, hc2, hc3, by simp [flat]⟩⟩

theorem bq_ty {W : World} {b : Nat} {t t' : TypeId} {vs vs' : Array Value} (h : Bq W b t vs) (h' : Bq W b t' vs') : t = t' := by
  unfold Bq at h h'
  rw [h] at h'
  injection h' with h'
  injection h'
structure PZ (w : World) (rb tb : Nat) (tbs : Nat → Nat) (s : ByteArray) (pre : List It) (W : World) (sv wv : Value) (l : List (Sp × Value × Value)) (L : List It) : Prop where
  lo : w.heap.size + 5 ≤ rb ∧ tb < rb ∧ ∀ i, i < 13 → tbs i < rb
  bel : Below w.heap.size w W
  r0 : Bq W w.heap.size 23 #[.slice none 0 0]
  r1 : Bq W (w.heap.size + 1) 3 #[.int .i64 0]
  r2 : Bq W (w.heap.size + 2) 24 #[.int .i64 0]
  sb : Bq W (w.heap.size + 3) 23 #[sv]
  wb : Bq W (w.heap.size + 4) 66 #[wv]
  os : OwT W (rb + 5) sv l
  ow : OwW W (rb + 5) wv L
  rx : Bq W rb 67 #[.slice (some ⟨tb, 0, none⟩) 14 14]
  tx : Bq W (rb + 1) 9 #[.string s]
  ta : Tb W (.slice (some ⟨tb, 0, none⟩) 14 14) tb tbs
  go : prL pre = .inl (l.map Prod.fst, L)
  len : L.length ≤ pre.length ∧ l.length ≤ pre.length
  mem : ∀ x ∈ L, x ∈ pre
variable {w W W' : World} {rb tb : Nat} {tbs : Nat → Nat} {s : ByteArray} {pre : List It} {sv wv : Value} {l : List (Sp × Value × Value)} {L : List It}
theorem PZ.kp (h : PZ w rb tb tbs s pre W sv wv l L) {M : Nat → Prop} (k : Kp M W W') (hM : ∀ i, M i → rb + 2 ≤ i ∧ i < rb + 5) : PZ w rb tb tbs s pre W' sv wv l L := by
  obtain ⟨q1, q2, q3⟩ := h.lo
  have f : ∀ b, b < rb + 2 → ¬ M b := fun b hb e => by have := hM b e; omega
  exact ⟨h.lo, k.below h.bel (fun i e => by have := hM i e; omega), h.r0.kp k (f _ (by omega)), h.r1.kp k (f _ (by omega)), h.r2.kp k (f _ (by omega)), h.sb.kp k (f _ (by omega)), h.wb.kp k (f _ (by omega)),
    h.os.kpN k (fun i e => (hM i e).2), owns_kp h.ow k (fun i hi e => by have := World.ownsRow.lt h.ow i hi; have := hM i e; omega), h.rx.kp k (f _ (by omega)), h.tx.kp k (f _ (by omega)),
    ⟨h.ta.form, h.ta.row.kp k (f _ (by omega)), fun i hi => (h.ta.fld i hi).kp k (f _ (by have := q3 i hi; omega))⟩, h.go, h.len, h.mem⟩
theorem PZ.below (h : PZ w rb tb tbs s pre W sv wv l L) (hb : Below W.heap.size W W') : PZ w rb tb tbs s pre W' sv wv l L := h.kp (M := fun _ => False) (Kp.of_below hb) (fun i e => e.elim)
theorem kq_kp {M : Nat → Prop} {B T : Nat} (k : Kp M W W') (h : ∀ i, M i → i < B ∨ T ≤ i) : KQ B T W W' := ⟨k.size, fun i hB hT hi => k.block i hi (fun e => by have := h i e; omega)⟩
/-- a word more -/
theorem PZ.word (h : PZ w rb tb tbs s pre W sv wv l L) (ty : TypeId) (x : It) (he : x.w.e = 0) (hk : x.w.k ≠ 4) {X : World} {nb : Nat} (hX : Below W.heap.size W X) (hbx : Bq X nb 73 (encW x).toArray) (hp : pre.length ≤ 1000000) (hW : rb + 5 ≤ W.heap.size) {n : Nat} (hn : L.length = n) :
    ∃ (a' : Option Addr) (c' : Nat) (X' X2 : World), (Builtin.append_ #[66, 66] ty #[wv, .slice (some ⟨nb, 0, none⟩) 1 1]).run Tryz.prog X = .ok (.slice a' (n + 1) c') X' ∧ X'.cell? ⟨w.heap.size + 4, 0, none⟩ = some wv ∧ X'.frozen? ⟨w.heap.size + 4, 0, none⟩ = false ∧ w.heap.size + 4 < X'.heap.size ∧
      X'.setCell ⟨w.heap.size + 4, 0, none⟩ (.slice a' (n + 1) c') = X2 ∧ Hid (PZ w rb tb tbs s (pre ++ [x]) X2 sv (.slice a' (n + 1) c') l (L ++ [x]) ∧ KQ (rb + 2) (rb + 5) W X2) := by
  subst hn
  have h' := h.below hX
  have hz := hX.size
  obtain ⟨q1, q2, q3⟩ := h.lo
  obtain ⟨v', X', h1, h2, h3, h4⟩ := append_word X ty (rb + 5) wv L x nb h'.ow hbx (by omega) (by have := h.len.1; omega)
  have k := Kp.of_grown (N := fun k => wv.ownBlock = some k) h3 (fun k hk => hk)
  obtain ⟨a', c', e⟩ := owns_form h2
  rw [List.length_append] at e
  have e' : v' = .slice a' (L.length + 1) c' := e
  subst e'
  have k2 : Kp (fun i => i = w.heap.size + 4) X' (X'.setCell ⟨w.heap.size + 4, 0, none⟩ (.slice a' (L.length + 1) c')) := Kp.set X' _ _ rfl
  have lo : ∀ i, wv.ownBlock = some i → rb + 5 ≤ i := fun i hi => (World.ownsRow.lt h'.ow i hi).1
  have f : ∀ b, b < rb + 5 → ¬ wv.ownBlock = some b := fun b hb e => by have := lo b e; omega
  have kk : Kp (fun i => i = w.heap.size + 4 ∨ wv.ownBlock = some i) X (X'.setCell ⟨w.heap.size + 4, 0, none⟩ (.slice a' (L.length + 1) c')) := (k.wk (fun i hi => .inr hi)).trans k2 (fun i hi => .inl (.inl hi))
  have g : ∀ b, b < rb + 5 → b ≠ w.heap.size + 4 → ¬ (b = w.heap.size + 4 ∨ wv.ownBlock = some b) := fun b hb hne e => by
    rcases e with e | e
    · exact hne e
    · exact f b hb e
  have B' := h'.wb.kp k (f _ (by omega))
  refine ⟨a', c', X', _, h1, B'.cell 0 _ rfl, B'.frozen 0, B'.lt, rfl, hide ⟨⟨h.lo, kk.below h'.bel (fun i e => ?_), h'.r0.kp kk (g _ (by omega) (by omega)), h'.r1.kp kk (g _ (by omega) (by omega)), h'.r2.kp kk (g _ (by omega) (by omega)), h'.sb.kp kk (g _ (by omega) (by omega)), B'.set _,
    (h'.os.kpT k (fun i hi => owns_bq h'.ow i hi)).kpN k2 (fun i e => by omega), owns_kp h2 k2 (fun i hi e => by have := (World.ownsRow.lt h2 i hi).1; omega), h'.rx.kp kk (g _ (by omega) (by omega)), h'.tx.kp kk (g _ (by omega) (by omega)),
    ⟨h'.ta.form, h'.ta.row.kp kk (g _ (by omega) (fun e => by have h5 := h'.ta.row; rw [e] at h5; exact absurd (bq_ty h5 h'.wb) (by decide))), fun i hi => (h'.ta.fld i hi).kp kk (g _ (by have := q3 i hi; omega) (fun e => by have h5 := h'.ta.fld i hi; rw [e] at h5; exact absurd (bq_ty h5 h'.wb) (by decide)))⟩, ?_, ?_, ?_⟩, ?_⟩⟩
  · rcases e with e | e
    · omega
    · have := lo i e; omega
  · rw [prL_snoc, h.go]
    show (if x.w.e ≠ 0 then _ else _) = _
    rw [if_neg (by simpa using he), if_pos hk]
  · simp only [List.length_append, List.length_cons, List.length_nil]
    have := h.len
    omega
  · intro y hy
    rcases List.mem_append.1 hy with hy | hy
    · exact List.mem_append_left _ (h.mem y hy)
    · exact List.mem_append_right _ hy
  · have ka := kq_kp kk (B := rb + 2) (T := rb + 5) (fun i e => by
      rcases e with e | e
      · left; omega
      · right; exact lo i e)
    exact ⟨Nat.le_trans hz ka.size, fun i hB hT hi => (ka.over i hB hT (by omega)).trans (hX.block i hi)⟩
/-- a Step more, the words gone -/
theorem PZ.step {aw : Option Addr} {n cw : Nat} (h : PZ w rb tb tbs s pre W sv (.slice aw n cw) l L) (ty : TypeId) (x : It) (he : x.w.e = 0) (hk : x.w.k = 4) {t : Sp} (hf : fstR L = some t) {dv bv : Value} {X : World} {nb : Nat} (hX : Below W.heap.size W X) (hbx : Bq X nb 40 (spC t dv bv)) (hst : StV X (rb + 5) t dv bv) (hp : pre.length ≤ 1000000) (hW : rb + 5 ≤ W.heap.size) {m : Nat} (hm : l.length = m) :
    ∃ (a' : Option Addr) (c' : Nat) (X' X2 X3 : World), (Builtin.append_ #[23, 23] ty #[sv, .slice (some ⟨nb, 0, none⟩) 1 1]).run Tryz.prog X = .ok (.slice a' (m + 1) c') X' ∧ X'.cell? ⟨w.heap.size + 3, 0, none⟩ = some sv ∧ X'.frozen? ⟨w.heap.size + 3, 0, none⟩ = false ∧ w.heap.size + 3 < X'.heap.size ∧
      X'.setCell ⟨w.heap.size + 3, 0, none⟩ (.slice a' (m + 1) c') = X2 ∧ X2.cell? ⟨w.heap.size + 4, 0, none⟩ = some (.slice aw n cw) ∧ X2.frozen? ⟨w.heap.size + 4, 0, none⟩ = false ∧ w.heap.size + 4 < X2.heap.size ∧
      X2.setCell ⟨w.heap.size + 4, 0, none⟩ (.slice aw 0 cw) = X3 ∧ Hid (PZ w rb tb tbs s (pre ++ [x]) X3 (.slice a' (m + 1) c') (.slice aw 0 cw) (l ++ [(t, dv, bv)]) [] ∧ KQ (rb + 2) (rb + 5) W X3) := by
  subst hm
  have h' := h.below hX
  have hz := hX.size
  obtain ⟨q1, q2, q3⟩ := h.lo
  obtain ⟨v', X', h1, h2, h3, h4⟩ := append_stp X ty (rb + 5) sv l t dv bv nb h'.os hbx hst (by omega) (by have := h.len.2; omega)
  have k := Kp.of_grown (N := fun k => sv.ownBlock = some k) h3 (fun k hk => hk)
  obtain ⟨a', c', e⟩ := owns_form h2.row
  rw [List.length_append] at e
  have e' : v' = .slice a' (l.length + 1) c' := e
  subst e'
  have k2 : Kp (fun i => i = w.heap.size + 3) X' (X'.setCell ⟨w.heap.size + 3, 0, none⟩ (.slice a' (l.length + 1) c')) := Kp.set X' _ _ rfl
  obtain ⟨X2, hX2⟩ : ∃ X2, X'.setCell ⟨w.heap.size + 3, 0, none⟩ (.slice a' (l.length + 1) c') = X2 := ⟨_, rfl⟩
  rw [hX2] at k2
  have k3 : Kp (fun i => i = w.heap.size + 4) X2 (X2.setCell ⟨w.heap.size + 4, 0, none⟩ (.slice aw 0 cw)) := Kp.set X2 _ _ rfl
  have lo : ∀ i, sv.ownBlock = some i → rb + 5 ≤ i := fun i hi => (World.ownsRow.lt h'.os.row i hi).1
  have f : ∀ b, b < rb + 5 → ¬ sv.ownBlock = some b := fun b hb e => by have := lo b e; omega
  have kk : Kp (fun i => i = w.heap.size + 3 ∨ i = w.heap.size + 4 ∨ sv.ownBlock = some i) X (X2.setCell ⟨w.heap.size + 4, 0, none⟩ (.slice aw 0 cw)) := ((k.wk (fun i hi => .inr (.inr hi))).trans k2 (fun i hi => .inl (.inl hi))).trans k3 (fun i hi => .inl (.inr (.inl hi)))
  have g : ∀ b, b < rb + 5 → b ≠ w.heap.size + 3 → b ≠ w.heap.size + 4 → ¬ (b = w.heap.size + 3 ∨ b = w.heap.size + 4 ∨ sv.ownBlock = some b) := fun b hb hne hne2 e => by
    rcases e with e | e | e
    · exact hne e
    · exact hne2 e
    · exact f b hb e
  have B' := h'.sb.kp k (f _ (by omega))
  have C2 := (h'.wb.kp k (f _ (by omega))).kp k2 (by omega)
  have S2 : Bq X2 (w.heap.size + 3) 23 #[.slice a' (l.length + 1) c'] := by rw [← hX2]; exact B'.set _
  have ne : ∀ b t vs, Bq X b t vs → t ≠ 23 → b ≠ w.heap.size + 3 := fun b t vs hb ht e => by rw [e] at hb; exact ht (bq_ty hb h'.sb)
  have ne2 : ∀ b t vs, Bq X b t vs → t ≠ 66 → b ≠ w.heap.size + 4 := fun b t vs hb ht e => by rw [e] at hb; exact ht (bq_ty hb h'.wb)
  have Z2 := owns_kp (owns_kp (owns_kp h'.ow.zero k (fun i hi e => owns_ty h'.ow.zero (owns_bq h'.os.row i e).choose_spec (by decide) hi)) k2 (fun i hi e => by have := (World.ownsRow.lt h'.ow.zero i hi).1; omega)) k3 (fun i hi e => by have := (World.ownsRow.lt h'.ow.zero i hi).1; omega)
  refine ⟨a', c', X', X2, _, h1, B'.cell 0 _ rfl, B'.frozen 0, B'.lt, hX2, C2.cell 0 _ rfl, C2.frozen 0, C2.lt, rfl, hide ⟨⟨h.lo, kk.below h'.bel (fun i e => ?_), h'.r0.kp kk (g _ (by omega) (by omega) (by omega)), h'.r1.kp kk (g _ (by omega) (by omega) (by omega)), h'.r2.kp kk (g _ (by omega) (by omega) (by omega)), S2.kp k3 (by omega), C2.set _,
    (h2.kpN k2 (fun i e => by omega)).kpN k3 (fun i e => by omega), Z2, h'.rx.kp kk (g _ (by omega) (by omega) (by omega)), h'.tx.kp kk (g _ (by omega) (by omega) (by omega)),
    ⟨h'.ta.form, h'.ta.row.kp kk (g _ (by omega) (ne _ _ _ h'.ta.row (by decide)) (ne2 _ _ _ h'.ta.row (by decide))), fun i hi => (h'.ta.fld i hi).kp kk (g _ (by have := q3 i hi; omega) (ne _ _ _ (h'.ta.fld i hi) (by decide)) (ne2 _ _ _ (h'.ta.fld i hi) (by decide)))⟩, ?_, ?_, ?_⟩, ?_⟩⟩
  · rcases e with e | e | e
    · omega
    · omega
    · have := lo i e; omega
  · rw [prL_snoc, h.go]
    show (if x.w.e ≠ 0 then _ else _) = _
    rw [if_neg (by simpa using he), if_neg (by simpa using hk), hf]
    simp
  · simp only [List.length_append, List.length_cons, List.length_nil]
    have := h.len
    omega
  · intro y hy
    cases hy
  · have ka := kq_kp kk (B := rb + 2) (T := rb + 5) (fun i e => by
      rcases e with e | e | e
      · left; omega
      · left; omega
      · right; exact lo i e)
    exact ⟨Nat.le_trans hz ka.size, fun i hB hT hi => (ka.over i hB hT (by omega)).trans (hX.block i hi)⟩
/-- an error: the three results -/
theorem PZ.err (h : PZ w rb tb tbs s pre W sv wv l L) {N : Nat} (hN : w.heap.size = N) (x : It) {ln en : Nat} (hx : prL (pre ++ [x]) = .inr (ln, en)) {V : World} (hV : ((W.setCell ⟨N, 0, none⟩ (.slice none 0 0)).setCell ⟨N + 1, 0, none⟩ (.int .i64 (ln : Int))).setCell ⟨N + 2, 0, none⟩ (.int .i64 (en : Int)) = V) :
    KQ (rb + 2) (rb + 5) W V.drew ∧ Below w.heap.size w V.drew ∧ ∃ ln en, prL (pre ++ [x]) = .inr (ln, en) ∧ Bq V.drew w.heap.size 23 #[.slice none 0 0] ∧ Bq V.drew (w.heap.size + 1) 3 #[.int .i64 (ln : Int)] ∧ Bq V.drew (w.heap.size + 2) 24 #[.int .i64 (en : Int)] := by
  subst hN hV
  obtain ⟨q1, q2, q3⟩ := h.lo
  have k3 : Kp (fun i => i = w.heap.size ∨ i = w.heap.size + 1 ∨ i = w.heap.size + 2) W (((W.setCell ⟨w.heap.size, 0, none⟩ (.slice none 0 0)).setCell ⟨w.heap.size + 1, 0, none⟩ (.int .i64 (ln : Int))).setCell ⟨w.heap.size + 2, 0, none⟩ (.int .i64 (en : Int))) :=
    (((Kp.set (N := fun i => i = w.heap.size) W ⟨w.heap.size, 0, none⟩ _ rfl).wk (fun i e => .inl e)).trans (Kp.set (N := fun i => i = w.heap.size + 1) _ ⟨w.heap.size + 1, 0, none⟩ _ rfl) (fun i e => .inl (.inr (.inl e)))).trans (Kp.set (N := fun i => i = w.heap.size + 2) _ ⟨w.heap.size + 2, 0, none⟩ _ rfl) (fun i e => .inl (.inr (.inr e)))
  have R0 := ((h.r0.set (.slice none 0 0)).setO ⟨w.heap.size + 1, 0, none⟩ (by simp) (.int .i64 (ln : Int))).setO ⟨w.heap.size + 2, 0, none⟩ (by simp) (.int .i64 (en : Int))
  have R1 := (((h.r1.setO ⟨w.heap.size, 0, none⟩ (by simp) (.slice none 0 0)).set (.int .i64 (ln : Int)))).setO ⟨w.heap.size + 2, 0, none⟩ (by simp) (.int .i64 (en : Int))
  have R2 := ((h.r2.setO ⟨w.heap.size, 0, none⟩ (by simp) (.slice none 0 0)).setO ⟨w.heap.size + 1, 0, none⟩ (by simp) (.int .i64 (ln : Int))).set (.int .i64 (en : Int))
  exact ⟨kq_kp k3.drew (fun i e => by omega), k3.drew.below h.bel (fun i e => by omega), ln, en, hx, R0, R1, R2⟩
theorem prL_err (h : PZ w rb tb tbs s pre W sv wv l L) {x : It} (he : x.w.e ≠ 0) : prL (pre ++ [x]) = .inr (x.ln, x.w.e) := by
  rw [prL_snoc, h.go]
  show (if x.w.e ≠ 0 then _ else _) = _
  rw [if_pos he]
theorem prL_bad (h : PZ w rb tb tbs s pre W sv wv l L) {x : It} (he : x.w.e = 0) (hk : x.w.k = 4) (hf : fstR L = none) : prL (pre ++ [x]) = .inr (x.ln, 19) := by
  rw [prL_snoc, h.go]
  show (if x.w.e ≠ 0 then _ else _) = _
  rw [if_neg (by simpa using he), if_neg (by simpa using hk), hf]
theorem findSome_at {α β : Type} (f : α → Option β) : ∀ (l : List α) (j : Nat) (x : α) (t : β), l[j]? = some x → f x = some t → (∀ i y, i < j → l[i]? = some y → f y = none) → l.findSome? f = some t
  | [], j, x, t, h, _, _ => by simp at h
  | y :: l, 0, x, t, h, hx, _ => by
    simp at h
    subst h
    simp [List.findSome?, hx]
  | y :: l, j + 1, x, t, h, hx, hn => by
    have h0 := hn 0 y (by omega) rfl
    rw [List.findSome?_cons, h0]
    exact findSome_at f l j x t (by simpa using h) hx (fun i z hi hz => hn (i + 1) z (by omega) (by simpa using hz))
theorem fstR_some {j : Nat} {t : Sp} (hj : j < 14) (h : ∀ i, i < j → rdRw i L = none) (hs : rdRw j L = some t) : fstR L = some t :=
  findSome_at _ (List.range 14) j j t (by simp [hj]) hs (fun i y hi hy => by
    have e : i = y := by simpa [show i < 14 by omega] using hy
    rw [← e]; exact h i hi)
theorem fstR_none (h : ∀ i, i < 14 → rdRw i L = none) : fstR L = none := by
  unfold fstR
  rw [List.findSome?_eq_none_iff]
  intro i hi
  exact h i (by simpa using hi)
end Go.Proofs.YtkndjbmlkfpfoaaGreatDoor

/-
  What script.Parse answers.
-/
set_option linter.unusedSimpArgs false
set_option linter.unusedVariables false
namespace Go.Proofs.YtkndjbmlkfpfoaaGreatDoor
open Go.RowKit Go.Lib Go.Shelf
attribute [local go_sem] Oper.semAt_some
theorem Scan_in (s : ByteArray) (w : World) : Calls Tryz.prog 24 #[.string s] w fun e W => e = .returned (.func (.func 54) #[] #[.pointer (some ⟨w.heap.size, 0, none⟩)]) ∧ W = w.alloc (.cells #[.string s] 9) := by
  go_enter Tryz.func24, Tryz.ntmps24
  go_wp2
  go_ret
  exact ⟨rfl, rfl⟩
theorem lv_slice {w : World} {t e : TypeId} {a : Addr} {v : Value} (hu : Tryz.prog.underlying t = some (.slice e)) (hc : w.cell? a = some v) : (loadVar t a).run Tryz.prog w = .ok v w := by
  simp [loadVar, isAgg, run_underlying hu, Sem.run_bind, load, Result.andThen, hc, go_sem, Sem.run]
theorem lv_int {w : World} {t : TypeId} {a : Addr} {v : Value} {k : IntKind} (hu : Tryz.prog.underlying t = some (.int k)) (hc : w.cell? a = some v) : (loadVar t a).run Tryz.prog w = .ok v w := by
  simp [loadVar, isAgg, run_underlying hu, Sem.run_bind, load, Result.andThen, hc, go_sem, Sem.run]
theorem results_ccc {P : Program} {fn : Func} {p q r : Tmp} {tp tq tr : TypeId} (h : fn.results = #[.cell p tp, .cell q tq, .cell r tr]) (tmps : Array Value) (w : World) (a b c : Addr) (v1 v2 v3 : Value)
    (hp : tmps.getD p undef = .pointer (some a)) (hq : tmps.getD q undef = .pointer (some b)) (hr : tmps.getD r undef = .pointer (some c)) (h1 : (loadVar tp a).run P w = .ok v1 w) (h2 : (loadVar tq b).run P w = .ok v2 w) (h3 : (loadVar tr c).run P w = .ok v3 w) :
    (results fn tmps).run P w = .ok (.tuple #[v1, v2, v3]) w := by
  have hp' : tmps[p]?.getD undef = .pointer (some a) := by simpa using hp
  have hq' : tmps[q]?.getD undef = .pointer (some b) := by simpa using hq
  have hr' : tmps[r]?.getD undef = .pointer (some c) := by simpa using hr
  simp [results, h, hp', hq', hr', asAddr, h1, h2, h3]
theorem wpListIn_append_eq {F : Fence} {n : Nat} {w w' : World} {ops : Array Oper} {rest : List Oper} {o : Oper} {a : Act} {Q : Exit → Act → World → Prop} (hg : o.guard = none) (s x : Operand) (t : TypeId)
    (hop : o.op = .call { callee := .builtin .append, args := #[s, x], argTypes := #[t, t] }) (v u v' : Value) (hs : a.eval s = v) (hx : a.eval x = u) (hrun : (Builtin.append_ #[t, t] o.type #[v, u]).run Tryz.prog w = .ok v' w')
    (hK : wpListIn F n Tryz.prog ops Q rest (a.put o.dst v') w') : wpListIn F n Tryz.prog ops Q (o :: rest) a w := by
  refine wpListIn_plain hg fun K hK' => ?_
  unfold Oper.wpIn
  refine ⟨?_, ?_⟩
  · simp [Oper.about, hop, resolve, Target.leads, Sem.run_pure]
  · rw [Oper.semAt_plain F _ _ (by rw [hop]; intro c hc'; cases hc')]
    simp [execOp, hop, resolve, invoke, builtin, hs, hx, hrun, Result.andThen]
    exact hK' _ _ hK
/-- what Parse answers -/
def PsA (W : World) (s : ByteArray) (e : Ending) (W' : World) : Prop := Below W.heap.size W W' ∧ match prL (scL s) with
  | .inl (S, _) => ∃ v l, e = .returned (.tuple #[v, .int .i64 0, .int .i64 0]) ∧ OwT W' W.heap.size v l ∧ l.map Prod.fst = S
  | .inr (ln, en) => e = .returned (.tuple #[.slice none 0 0, .int .i64 (ln : Int), .int .i64 (en : Int)])
set_option maxRecDepth 100000 in
set_option maxHeartbeats 4000000 in
theorem Parse_in (s : ByteArray) (hs : s.size ≤ 1000000000) (w : World) (hL : Lw w) (hlen : (scL s).length ≤ 1000000) (hT : ∀ x ∈ scL s, x.w.t.size ≤ 1000000) (hN : ∀ pre x rest, pre ++ x :: rest = scL s → x.w.e = 0 → x.w.k = 4 → ∀ S, prL pre ≠ .inl (S, [])) :
    Calls Tryz.prog 10 #[.string s] w (PsA w s) := by
  refine (callsIn_wide (n := 6)).1 ?_
  refine callsIn_of_wp_marks Tryz.func10 rfl trivial ?_ rfl
  simp only [Tryz.ntmps10, List.size_toArray, List.length_cons, List.length_nil, Nat.reduceAdd, Nat.reduceSub, Array.replicate_succ, Array.replicate_zero, List.push_toArray, List.append_toArray, List.nil_append, List.cons_append]
  gi_wp2
  refine wpIn_wide.2 ?_
  go_step3
  go_wp2_with (go_at_call 23; refine (table_in _).mono ?_; rintro e w7 ⟨tv, tb, tbs, rfl, ht, hb7⟩; obtain rfl := ht.form; have ht := hide ht; have hb7 := hide hb7)
  go_step3
  go_wp2_with (go_at_call 24; refine (Scan_in _ _).mono ?_; rintro e w8 ⟨rfl, rfl⟩)
  have ht := unhide ht
  have hb7 := unhide hb7
  have PZ0 : PZ w w7.heap.size tb tbs s [] ((w7.alloc (.cells #[.slice (some ⟨tb, 0, none⟩) 14 14] 67)).alloc (.cells #[.string s] 9)) (.slice none 0 0) (.slice none 0 0) [] [] := by
    have hz := hb7.size
    simp only [World.size_alloc] at hz
    have b9 : Below w7.heap.size w7 ((w7.alloc (.cells #[.slice (some ⟨tb, 0, none⟩) 14 14] 67)).alloc (.cells #[.string s] 9)) := ballc (ballc (Below.refl _ _) _) _
    have g : ∀ i o, [(.cells #[.slice none 0 0] 23 : Obj), .cells #[.int .i64 0] 3, .cells #[.int .i64 0] 24, .cells #[.slice none 0 0] 23, .cells #[.slice none 0 0] 66][i]? = some o → ((w7.alloc (.cells #[.slice (some ⟨tb, 0, none⟩) 14 14] 67)).alloc (.cells #[.string s] 9)).heap[w.heap.size + i]? = some o := fun i o ho => by
      have := allocs_get _ w i o ho
      have hi := (List.getElem?_eq_some_iff.1 ho).1
      simp only [List.length_cons, List.length_nil] at hi
      rw [b9.block _ (by omega), hb7.block _ (by simp only [World.size_alloc]; omega)]
      exact this
    refine ⟨⟨by omega, ht.row.lt, fun i hi => (ht.fld i hi).lt⟩, bnext (bnext (allocs_below [(.cells #[.slice none 0 0] 23), .cells #[.int .i64 0] 3, .cells #[.int .i64 0] 24, .cells #[.slice none 0 0] 23, .cells #[.slice none 0 0] 66] w) hb7) b9, g 0 _ rfl, g 1 _ rfl, g 2 _ rfl, g 3 _ rfl, g 4 _ rfl, ⟨World.ownsRow_nil _ _ _ _, fun x hx => by cases hx⟩, World.ownsRow_nil _ _ _ _, (Bq.new w7 _ _).keep (ballc (Below.refl _ _) _) (Bq.new w7 _ _).lt, ?_, ht.below b9, rfl, ⟨Nat.le_refl _, Nat.le_refl _⟩, fun x hx => by cases hx⟩
    have := Bq.new (w7.alloc (.cells #[.slice (some ⟨tb, 0, none⟩) 14 14] 67)) 9 #[.string s]
    rw [World.size_alloc] at this
    exact this
  have hz9 : ((w7.alloc (.cells #[.slice (some ⟨tb, 0, none⟩) 14 14] 67)).alloc (.cells #[.string s] 9)).heap.size = w7.heap.size + 2 := by simp
  generalize ((w7.alloc (.cells #[.slice (some ⟨tb, 0, none⟩) 14 14] 67)).alloc (.cells #[.string s] 9)) = W9 at PZ0 hz9 ⊢
  clear ht hb7
  obtain ⟨rb, hrb⟩ : ∃ rb, w7.heap.size = rb := ⟨_, rfl⟩
  rw [hrb] at PZ0 hz9 ⊢
  clear hrb
  obtain ⟨N, hN0⟩ : ∃ N, w.heap.size = N := ⟨_, rfl⟩
  rw [hN0]
  refine (wpIn_wide (n := 6)).1 ?_
  rename_i KK hKK
  have hlo := PZ0.lo.1
  have hI : AbidesAll W9.heap.size (W9.heap.size + 2 + 1) (fun pre W => ∃ sv wv l L, PZ w rb tb tbs s pre W sv wv l L) := by
    rintro pre W W' row ⟨sv, wv, l, L, h⟩ hg hr
    exact ⟨sv, wv, l, L, h.kp (Kp.of_grown hg (N := fun i => row = some i) (fun k hk => hk)) (fun i hi => by have := hr i hi; omega)⟩
  refine range_KA (gf := 54) (lb := #[.pointer (some ⟨rb + 1, 0, none⟩)]) rfl (enters_of Tryz.func54 (by kernel_rfl) rfl)
    (scan_K (rb + 1) s hs W9) (Below.refl _ _) (fun _ => rfl) _
    (fun c pre W => c = .ret ∧ Below w.heap.size w W ∧ ∃ ln en, prL pre = .inr (ln, en) ∧ Bq W w.heap.size 23 #[.slice none 0 0] ∧ Bq W (w.heap.size + 1) 3 #[.int .i64 (ln : Int)] ∧ Bq W (w.heap.size + 2) 24 #[.int .i64 (en : Int)])
    hI ?hIx ?hKx ⟨_, _, _, _, PZ0⟩
    (fun x a' W => ∃ b, a' = { tmps := #[.string s, undef, .pointer (some ⟨N, 0, none⟩), .pointer (some ⟨N + 1, 0, none⟩), .pointer (some ⟨N + 2, 0, none⟩), .pointer (some ⟨N + 3, 0, none⟩), .pointer (some ⟨N + 4, 0, none⟩), .pointer (some ⟨rb, 0, none⟩), .pointer (some ⟨b, 0, none⟩), .int .i64 (x.w.e : Int), undef, undef, undef, undef, .slice (some ⟨tb, 0, none⟩) 14 14, .string s, .func (.func 54) #[] #[.pointer (some ⟨rb + 1, 0, none⟩)], .agg (encW x).toArray, .int .i64 (x.w.e : Int), undef, undef, undef, undef, undef, undef, undef, undef, undef, undef, undef, undef, undef, undef, undef, undef, undef, undef, undef, undef, undef, undef, undef, undef, undef, undef, undef, undef, undef, undef, undef, undef, undef, undef, undef], defers := [] } ∧ rb + 5 ≤ b ∧ Bq W b 73 (encW x).toArray)
    ?hAx ?assign ?body ?done ?stop
  case hIx =>
    rintro c pre W W' row ⟨h1, h2, ln, en, h3, h4, h5, h6⟩ hg hr
    have k := Kp.of_grown hg (N := fun i => row = some i) (fun k hk => hk)
    exact ⟨h1, k.below h2 (fun i e => by have := hr i e; omega), ln, en, h3, h4.kp k (fun e => by have := hr _ e; omega), h5.kp k (fun e => by have := hr _ e; omega), h6.kp k (fun e => by have := hr _ e; omega)⟩
  case hKx =>
    rintro pre W ⟨sv, wv, l, L, h⟩
    exact ⟨h.tx.cell 0 _ rfl, hL.below h.bel⟩
  case hAx =>
    rintro x a' _ W W' row ⟨b, h1, h2, h3⟩ hg hr
    exact ⟨b, h1, h2, h3.kp (Kp.of_grown hg (N := fun i => row = some i) (fun k hk => hk)) (fun e => by have := hr b e; omega)⟩
  case assign =>
    intro l pre x rest W K hpre hz ⟨sv, wv, l2, L, h⟩ hK
    obtain ⟨⟨xk, xt, xn, xa, xnx, xe⟩, xl⟩ := x
    unfold It.args Wd.v wV
    gi_wp2
    have hb := ballc (Below.refl _ W) (.cells (encW ⟨⟨xk, xt, xn, xa, xnx, xe⟩, xl⟩).toArray 73)
    exact hK _ _ (kq_kp (M := fun _ => False) (Kp.of_below hb) (fun i e => e.elim)) ⟨_, _, _, _, h.below hb⟩ ⟨W.heap.size, rfl, by omega, Bq.new W 73 (encW ⟨⟨xk, xt, xn, xa, xnx, xe⟩, xl⟩).toArray⟩
  case body =>
    rintro l pre x rest a' W hpre hzW ⟨sv, wv, l2, L, h⟩ ⟨b, rfl, hb, hbx⟩
    obtain ⟨⟨xk, xt, xn, xa, xnx, xe⟩, xl⟩ := x
    obtain ⟨av, cv, rfl⟩ := owns_form h.os.row
    obtain ⟨aw, cw, rfl⟩ := owns_form h.ow
    have x0 := hbx.cell 0 (.int .i64 (xk : Int)) rfl
    have x4 := hbx.cell 4 (.int .i64 (xl : Int)) rfl
    have hW5 : rb + 5 ≤ W.heap.size := by omega
    have hlen2 : pre.length ≤ 1000000 := by have := congrArg List.length hpre; simp only [List.length_append] at this; omega
    by_cases he : xe = 0
    · have kd : ((xe : Int) != 0) = false := by rw [he]; rfl
      by_cases hk : xk = 4
      · have ke : ((xk : Int) != 4) = false := by rw [hk]; rfl
        have hne : L ≠ [] := fun e => hN pre ⟨⟨xk, xt, xn, xa, xnx, xe⟩, xl⟩ rest hpre he hk (l2.map Prod.fst) (by rw [h.go, e])
        have hts : ∀ y ∈ L, y.w.t.size ≤ 1000000 := fun y hy => hT y (by rw [← hpre]; exact List.mem_append_left _ (h.mem y hy))
        have hL6 : L.length ≤ 1000000 := Nat.le_trans h.len.1 hlen2
        obtain ⟨n, hn⟩ : ∃ n, L.length = n := ⟨_, rfl⟩
        obtain ⟨m, hm⟩ : ∃ m, l2.length = m := ⟨_, rfl⟩
        rw [hn, hm] at h
        have q0 := h.rx.cell 0 _ rfl
        have HN := hide hn
        have HM := hide hm
        have HNE := hide hne
        have HTS := hide hts
        have HPR := hide hpre
        have HL6 := hide hL6
        have HZ9 := hide hz9
        have HHE := hide he
        have HHK := hide hk
        have H0 := hide (show PZ w rb tb tbs s pre W (.slice av m cv) (.slice aw n cw) l2 L ∧ (∀ i, i < 0 → rdRw i L = none) ∧ Below W.heap.size W W from ⟨h, fun i hi => absurd hi (Nat.not_lt_zero i), Below.refl _ _⟩)
        have HZ0 := hide h
        have HW5 := hide hW5
        have HX4 := hide x4
        clear h hbx hpre hI PZ0 hW5 hb hn hm hne hts hL6 he hk hz9
        gi_wp2
        gi_loopw [11, 12, 13, 33] (fun v11 v12 v13 v33 wr => ∃ j : Nat, v33 = .int .i64 (j : Int) ∧ j ≤ 14 ∧ Hid (PZ w rb tb tbs s pre wr (.slice av m cv) (.slice aw n cw) l2 L ∧ (∀ i, i < j → rdRw i L = none) ∧ Below W.heap.size W wr)) (fun _ _ _ v33 _ => 14 - (RowKit.intOf v33).toNat)
        case atStart => exact ⟨0, rfl, Nat.zero_le _, H0⟩
        case round =>
          clear H0
          obtain ⟨j, rfl, hj, H⟩ := hrel
          obtain ⟨hz, hnone, hbw⟩ := unhide H
          by_cases hjl : j < 14
          · obtain ⟨fa, fe, -⟩ := hz.ta.fields hjl
            obtain ⟨fn, hfn⟩ : ∃ fn, (tfl.getD j []).length = fn := ⟨_, rfl⟩
            rw [hfn] at fe
            obtain ⟨nm, hnm⟩ : ∃ nm, ofL (tnm.getD j []) = nm := ⟨_, rfl⟩
            have hrw : rwC tbs j = [.string nm, .int .i64 ((j : Int) + 1), .slice fa fn fn] := by unfold rwC; rw [fe, hnm]
            have fq : ∀ q u, (rwC tbs j)[q]? = some u → wr.cell? ⟨tb, j * 3 + q, none⟩ = some u := fun q u hu => hz.ta.row.cell (j * 3 + q) u (by
              have hq := (List.getElem?_eq_some_iff.1 hu).1
              have := flat_get (enc := rwC tbs) (k := 3) (fun _ => rfl) (List.range 14) j q j (by simp [hjl]) hq
              unfold rowsC
              rw [List.getElem?_toArray, this]; exact hu)
            rw [hrw] at fq
            have d0 := fq 0 _ rfl
            rw [Nat.add_zero] at d0
            have d1 := fq 1 _ rfl
            have d2 := fq 2 _ rfl
            have k5 : (j : Int) < 14 := by omega
            have k6 : (0 : Int) ≤ (j : Int) := by omega
            obtain ⟨X, hX⟩ : ∃ X, wr.alloc (.cells #[.string nm, .int .i64 ((j : Int) + 1), .slice fa fn fn] 76) = X := ⟨_, rfl⟩
            have bX : Below wr.heap.size wr X := by rw [← hX]; exact ballc (Below.refl _ _) _
            have BX : Bq X wr.heap.size 76 #[.string nm, .int .i64 ((j : Int) + 1), .slice fa fn fn] := by rw [← hX]; exact Bq.new _ _ _
            have e0 := BX.cell 0 _ rfl
            have e1 := BX.cell 1 _ rfl
            have e2 := BX.cell 2 _ rfl
            have hX1 := hz.below bX
            have w4 := hX1.wb.cell 0 _ rfl
            rw [hN0] at w4
            have hcall := hide (rowRead_in hX1.ta hjl (RC.of_owns hX1.ow) (unhide HNE) (unhide HL6) (unhide HTS))
            rw [hrw] at hcall
            have HST := hide (show PZ w rb tb tbs s pre X (.slice av m cv) (.slice aw n cw) l2 L ∧ (∀ i, i < j → rdRw i L = none) ∧ Below W.heap.size W X from ⟨hX1, hnone, bnext hbw bX⟩)
            clear hz hnone hbw fe hfn hnm hrw fq bX BX hX1 H
            gi_wp2_with fail
            refine ⟨trivial, (CallsIn.inRound l (callsIn_wide.2 (unhide hcall))).mono ?_⟩
            rintro e W4 hr4
            obtain ⟨hX1, hnone, hbw⟩ := unhide HST
            cases hr : rdRw j L with
            | none =>
              rw [hr] at hr4
              obtain ⟨s9, a1, n1, c1, a3, n3, c3, rfl, hb4⟩ := hr4
              have HN2 := hide (show ∀ i, i < j + 1 → rdRw i L = none from fun i hi => by
                by_cases e : i = j
                · rw [e]; exact hr
                · exact hnone i (by omega))
              have bY := ballc (Below.refl _ W4) (.cells (spC s9 (.slice a1 n1 c1) (.slice a3 n3 c3)) 40)
              have HNX := hide (show PZ w rb tb tbs s pre (W4.alloc (.cells (spC s9 (.slice a1 n1 c1) (.slice a3 n3 c3)) 40)) (.slice av m cv) (.slice aw n cw) l2 L ∧ (∀ i, i < j + 1 → rdRw i L = none) ∧ Below W.heap.size W (W4.alloc (.cells (spC s9 (.slice a1 n1 c1) (.slice a3 n3 c3)) 40)) from ⟨(hX1.below hb4).below bY, unhide HN2, bnext (bnext hbw hb4) bY⟩)
              clear hX1 hnone hbw hb4 bY hr hcall HST d0 d1 d2 e0 e1 e2 w4 q0
              unfold spC at HNX ⊢
              gi_wp2
              go_roundw
              case rel => exact ⟨j + 1, by go_num, by omega, HNX⟩
              case measure =>
                simp [RowKit.intOf]
                omega
            | some t =>
              rw [hr] at hr4
              obtain ⟨dv, bv, rfl, hst, hb4⟩ := hr4
              obtain ⟨⟨a1, n1, c1, rfl⟩, a3, n3, c3, rfl⟩ := hst.forms
              have hf := fstR_some hjl hnone hr
              obtain ⟨Y, hY⟩ : ∃ Y, W4.alloc (.cells (spC t (.slice a1 n1 c1) (.slice a3 n3 c3)) 40) = Y := ⟨_, rfl⟩
              have bY : Below W4.heap.size W4 Y := by rw [← hY]; exact ballc (Below.refl _ _) _
              have BY : Bq Y W4.heap.size 40 (spC t (.slice a1 n1 c1) (.slice a3 n3 c3)) := by rw [← hY]; exact Bq.new _ _ _
              obtain ⟨Y2, hY2⟩ : ∃ Y2, Y.alloc (.cells (spC t (.slice a1 n1 c1) (.slice a3 n3 c3)) 40) = Y2 := ⟨_, rfl⟩
              have bY2 : Below Y.heap.size Y Y2 := by rw [← hY2]; exact ballc (Below.refl _ _) _
              have BY2 : Bq Y2 Y.heap.size 40 (spC t (.slice a1 n1 c1) (.slice a3 n3 c3)) := by rw [← hY2]; exact Bq.new _ _ _
              have hX5 : rb + 5 ≤ X.heap.size := Nat.le_trans (unhide HW5) hbw.size
              have hPY := (hX1.below hb4).below bY
              obtain ⟨a5, c5, Z1, Z2, Z3, hrun, m1, m2, m3, hZ2, m4, m5, m6, hZ3, HZ⟩ := (unhide HZ0).step 23 ⟨⟨xk, xt, xn, xa, xnx, xe⟩, xl⟩ (unhide HHE) (unhide HHK) hf (bnext (bnext (bnext hbw hb4) bY) bY2) BY2 (((hst.wk hX5).below bY).below bY2) hlen2 (unhide HW5) (unhide HM)
              have s3 := hPY.sb.cell 0 _ rfl
              rw [hN0] at m1 m2 m3 hZ2 m4 m5 m6 hZ3 s3
              have g0 := BY.cell 0 (.int .i64 t.kind) rfl
              have g1 := BY.cell 1 (.int .i64 t.site) rfl
              have g2 := BY.cell 2 (.int .i64 t.peer) rfl
              have g3 := BY.cell 3 (.int .i64 t.unit) rfl
              have g4 := BY.cell 4 (.int .i64 t.at_) rfl
              have g5 := BY.cell 5 (.int .i64 t.n) rfl
              have g6 := BY.cell 6 (.string t.text) rfl
              have g7 := BY.cell 7 (.slice a1 n1 c1) rfl
              have g8 := BY.cell 8 (.slice a3 n3 c3) rfl
              have Hrun := hide hrun
              clear hX1 hnone hbw hb4 bY BY bY2 BY2 hPY hst hr hcall HST d0 d1 d2 e0 e1 e2 w4 q0 hf hrun
              unfold spC at hY hY2 ⊢
              gi_wp2_with (gi_at_builtin; refine wpListIn_append_eq rfl _ _ 23 rfl _ _ _ rfl rfl (unhide Hrun) ?_)
              have h9 := unhide HZ
              rw [show W9.heap.size + 2 + 1 = rb + 5 by have := unhide HZ9; omega, unhide HZ9]
              exact ⟨h9.2, _, _, _, _, h9.1⟩
          · have hj14 : j = 14 := by omega
            subst hj14
            have hf := fstR_none hnone
            have x4' := cell_below x4 hbw
            have c0 := hz.r0.cell 0 _ rfl
            have c1 := hz.r1.cell 0 _ rfl
            have c2 := hz.r2.cell 0 _ rfl
            have f0 := hz.r0.frozen 0
            have f1 := hz.r1.frozen 0
            have f2 := hz.r2.frozen 0
            rw [hN0] at c0 c1 c2 f0 f1 f2
            have HE := hide (hz.err hN0 _ (prL_bad hz (x := ⟨⟨xk, xt, xn, xa, xnx, xe⟩, xl⟩) (unhide HHE) (unhide HHK) hf) rfl)
            have HB := hide hbw
            clear hz hnone hbw hf H x0 x4 q0
            gi_wp2
            gi_region
            all_goals gi_wp2
            all_goals (have h9 := unhide HE; rw [show W9.heap.size + 2 + 1 = rb + 5 by have := unhide HZ9; omega, unhide HZ9]; exact ⟨(kq_kp (M := fun _ => False) (Kp.of_below (unhide HB)) (fun i e => e.elim)).trans h9.1, rfl, h9.2⟩)
      · have ke : ((xk : Int) != 4) = true := by rw [bne_iff_ne]; omega
        have x1 := hbx.cell 1 (.string xt) rfl
        have x2 := hbx.cell 2 (.int .i64 xn) rfl
        have x3 := hbx.cell 3 (.int .i64 (xa : Int)) rfl
        have cw4 := h.wb.cell 0 _ rfl
        obtain ⟨n, hn⟩ : ∃ n, L.length = n := ⟨_, rfl⟩
        obtain ⟨X, hX⟩ : ∃ X, W.alloc (.cells #[.int .i64 (xk : Int), .string xt, .int .i64 xn, .int .i64 (xa : Int), .int .i64 (xl : Int)] 73) = X := ⟨_, rfl⟩
        have bX : Below W.heap.size W X := by rw [← hX]; exact ballc (Below.refl _ _) _
        have BX : Bq X W.heap.size 73 (encW ⟨⟨xk, xt, xn, xa, xnx, xe⟩, xl⟩).toArray := by rw [← hX]; exact Bq.new _ _ _
        obtain ⟨a2, c2, Z1, Z2, hrun, m1, m2, m3, hZ2, HZ⟩ := h.word 66 ⟨⟨xk, xt, xn, xa, xnx, xe⟩, xl⟩ he hk bX BX hlen2 hW5 hn
        rw [hn] at hrun cw4 m1
        rw [hN0] at m1 m2 m3 hZ2 cw4
        have Hrun := hide hrun
        have HW5 := hide hW5
        clear h hbx hpre hI PZ0 hW5 hb hrun bX BX
        gi_wp2_with (gi_at_builtin; refine wpListIn_append_eq rfl _ _ 66 rfl _ _ _ rfl rfl (unhide Hrun) ?_)
        have h9 := unhide HZ
        rw [show W9.heap.size + 2 + 1 = rb + 5 by omega, hz9]
        exact ⟨h9.2, _, _, _, _, h9.1⟩
    · have kd : ((xe : Int) != 0) = true := by rw [bne_iff_ne]; omega
      have c0 := h.r0.cell 0 _ rfl
      have c1 := h.r1.cell 0 _ rfl
      have c2 := h.r2.cell 0 _ rfl
      have f0 := h.r0.frozen 0
      have f1 := h.r1.frozen 0
      have f2 := h.r2.frozen 0
      rw [hN0] at c0 c1 c2 f0 f1 f2
      have HE := hide (h.err hN0 _ (prL_err h (x := ⟨⟨xk, xt, xn, xa, xnx, xe⟩, xl⟩) he) rfl)
      have HZ9 := hide hz9
      clear h hbx hpre hI PZ0 hW5 hb
      gi_wp2
      gi_region
      all_goals gi_wp2
      all_goals (have h9 := unhide HE; rw [show W9.heap.size + 2 + 1 = rb + 5 by omega, hz9]; exact ⟨h9.1, rfl, h9.2⟩)
  case done =>
    rintro D W hD hzW ⟨sv, wv, l, L, h⟩ hKD
    refine hKK _ _ ?_
    obtain ⟨av, cv, rfl⟩ := owns_form h.os.row
    obtain ⟨n, hn⟩ : ∃ n, l.length = n := ⟨_, rfl⟩
    rw [hn] at h
    have h3 := h.sb.cell 0 _ rfl
    have c0 := h.r0.cell 0 _ rfl
    have c1 := h.r1.cell 0 _ rfl
    have c2 := h.r2.cell 0 _ rfl
    have f0 := h.r0.frozen 0
    have f1 := h.r1.frozen 0
    have f2 := h.r2.frozen 0
    have e1 := h.r1.same
    have e2 := h.r2.same
    rw [hN0] at h3 c0 c1 c2 f0 f1 f2 e1 e2
    have H := hide h
    clear h
    go_wp2
    have h := unhide H
    have k3 : Kp (fun i => i = N ∨ i = N + 1 ∨ i = N + 2) W (((W.setCell ⟨N, 0, none⟩ (.slice av n cv)).setCell ⟨N + 1, 0, none⟩ (.int .i64 0)).setCell ⟨N + 2, 0, none⟩ (.int .i64 0)) :=
      (((Kp.set (N := fun i => i = N) W ⟨N, 0, none⟩ _ rfl).wk (fun i e => .inl e)).trans (Kp.set (N := fun i => i = N + 1) _ ⟨N + 1, 0, none⟩ _ rfl) (fun i e => .inl (.inr (.inl e)))).trans (Kp.set (N := fun i => i = N + 2) _ ⟨N + 2, 0, none⟩ _ rfl) (fun i e => .inl (.inr (.inr e)))
    have R0 := ((h.r0.set (.slice av n cv)).setO ⟨N + 1, 0, none⟩ (by simp; omega) (.int .i64 0)).setO ⟨N + 2, 0, none⟩ (by simp; omega) (.int .i64 0)
    have R1 := (((h.r1.setO ⟨N, 0, none⟩ (by simp; omega) (.slice av n cv)).set (.int .i64 0))).setO ⟨N + 2, 0, none⟩ (by simp; omega) (.int .i64 0)
    have R2 := ((h.r2.setO ⟨N, 0, none⟩ (by simp; omega) (.slice av n cv)).setO ⟨N + 1, 0, none⟩ (by simp; omega) (.int .i64 0)).set (.int .i64 0)
    rw [hN0] at R0 R1 R2
    obtain ⟨V, hV⟩ : ∃ V, (((W.setCell ⟨N, 0, none⟩ (.slice av n cv)).setCell ⟨N + 1, 0, none⟩ (.int .i64 0)).setCell ⟨N + 2, 0, none⟩ (.int .i64 0)) = V := ⟨_, rfl⟩
    rw [hV] at k3 R0 R1 R2
    have hDV : V.heap[D]? = some (.deferred (some [])) := by rw [k3.block D (Array.getElem?_eq_some_iff.1 hKD).1 (fun e => by omega)]; exact hKD
    have kD := Kp.of_grown (N := fun i => i = D) (grownBy_putObj' V D (.deferred none)) (fun k e => by cases e; rfl)
    have hN9 : ∀ b, b < rb → ¬ b = D := fun b hb e => by omega
    have hos : OwT (V.putObj D (.deferred none)) (rb + 5) (.slice av n cv) l := (h.os.kpN k3 (fun i e => by omega)).kpN kD (fun i e => by omega)
    have hbel := kD.below (k3.below h.bel (fun i e => by omega)) (fun i e => by omega)
    have hV2 : (((W.setCell ⟨N, 0, none⟩ (.slice av n cv)).setCell ⟨N + 1, 0, none⟩ (.int .i64 0)).setCell ⟨N + 1 + 1, 0, none⟩ (.int .i64 0)) = V := hV
    rw [hV2]
    refine ⟨by simp, .inl ⟨_, _, rfl, run_takeDeferred (ds := []) (by rw [← hz9, ← hD]; exact hDV), ?_⟩⟩
    rw [← hz9, ← hD]
    refine ⟨_, results_ccc rfl _ _ ⟨N, 0, none⟩ ⟨N + 1, 0, none⟩ ⟨N + 2, 0, none⟩ _ _ _ rfl rfl rfl (lv_slice Tryz.underlying23 ((R0.kp kD (hN9 _ (by omega))).cell 0 _ rfl)) (lv_int Tryz.underlying3 ((R1.kp kD (hN9 _ (by omega))).cell 0 _ rfl)) (lv_int Tryz.underlying24 ((R2.kp kD (hN9 _ (by omega))).cell 0 _ rfl)), ?_⟩
    refine ⟨hbel, ?_⟩
    rw [h.go]
    exact ⟨_, l, rfl, ⟨owns_wk hos.row (by omega), fun x hx => (hos.rows x hx).wk (by omega)⟩, rfl⟩
  case stop =>
    rintro D c pre rest W hD hpre ⟨rfl, hb, ln, en, hp, h0, h1, h2⟩ hKD
    rw [hN0] at h0 h1 h2
    gi_wp2
    have hD0 : D < W.heap.size := (Array.getElem?_eq_some_iff.1 hKD).1
    have kD := Kp.of_grown (N := fun i => i = D) (grownBy_putObj' W D (.deferred none)) (fun k e => by cases e; rfl)
    refine ⟨by simp, .inl ⟨_, _, rfl, run_takeDeferred hKD, ?_⟩⟩
    have hN9 : ∀ b, b < rb → ¬ b = D := fun b hb e => by omega
    refine ⟨_, results_ccc rfl _ _ ⟨N, 0, none⟩ ⟨N + 1, 0, none⟩ ⟨N + 2, 0, none⟩ _ _ _ rfl rfl rfl (lv_slice Tryz.underlying23 ((h0.kp kD (hN9 _ (by omega))).cell 0 _ rfl)) (lv_int Tryz.underlying3 ((h1.kp kD (hN9 _ (by omega))).cell 0 _ rfl)) (lv_int Tryz.underlying24 ((h2.kp kD (hN9 _ (by omega))).cell 0 _ rfl)), ?_⟩
    refine ⟨kD.below hb (fun i e => by omega), ?_⟩
    have : prL (scL s) = .inr (ln, en) := by rw [← hpre]; unfold prL at hp ⊢; rw [List.foldl_append, hp, prI_no]
    rw [this]
    rfl
end Go.Proofs.YtkndjbmlkfpfoaaGreatDoor

/-
  What the scanner's items are, as Parse asks it. Pure.
-/
set_option linter.unusedSimpArgs false
set_option linter.unusedVariables false
namespace Go.Proofs.YtkndjbmlkfpfoaaGreatDoor
open Go.RowKit Go.Lib

theorem scF_len (s : ByteArray) : ∀ (f i line : Nat) (m : Bool), (scF s f i line m).length ≤ f
  | 0, _, _, _ => by simp [scF]
  | f + 1, i, line, m => by
    have h1 := scF_len s f (bhL s i) (line + 1) false
    have h2 := scF_len s f (i + 1) line m
    have h3 := scF_len s f (rmE s i) line m
    have h4 := scF_len s f (wdAt s i).nx line true
    unfold scF
    split
    · split <;> simp
    · split
      · rw [List.length_append]
        split <;> simp <;> omega
      · split
        · omega
        · split
          · omega
          · rw [List.length_cons]
            split
            · omega
            · simp
theorem scL_len (s : ByteArray) : (scL s).length ≤ s.size + 1 := scF_len s _ 0 1 false
theorem wdAt_txt (s : ByteArray) (i : Nat) (h : i < s.size) : (wdAt s i).t.size ≤ 4 * s.size := by
  unfold wdAt
  split
  · have hb := (rdA_bounds s _ (i + 1) [] (Nat.le_refl _) (by omega)).2.2.1
    rw [← rdA_zero] at hb
    unfold qdW
    split
    · show (ofL (rdE s (i + 1)).1).size ≤ _
      rw [ofL_size]
      simp only [List.length_nil] at hb
      omega
    · exact Nat.zero_le _
  · unfold bwW
    split
    · exact Nat.zero_le _
    · split
      · show (s.extract i (bwA s i).1).size ≤ _
        rw [ByteArray.size_extract]
        omega
      · split
        · exact Nat.zero_le _
        · exact Nat.zero_le _
theorem scF_txt (s : ByteArray) : ∀ (f i line : Nat) (m : Bool), ∀ x ∈ scF s f i line m, x.w.t.size ≤ 4 * s.size
  | 0, _, _, _ => by intro x hx; simp [scF] at hx
  | f + 1, i, line, m => by
    have h1 := scF_txt s f (bhL s i) (line + 1) false
    have h2 := scF_txt s f (i + 1) line m
    have h3 := scF_txt s f (rmE s i) line m
    have h4 := scF_txt s f (wdAt s i).nx line true
    have he : ∀ x ∈ (if m then [endI i line] else []), x.w.t.size ≤ 4 * s.size := fun x hx => by
      cases m with
      | true =>
        simp at hx
        subst hx
        exact Nat.zero_le _
      | false => simp at hx
    intro x hx
    unfold scF at hx
    split at hx
    · exact he x hx
    · rename_i c0
      split at hx
      · rcases List.mem_append.1 hx with hx | hx
        · exact he x hx
        · exact h1 x hx
      · split at hx
        · exact h2 x hx
        · split at hx
          · exact h3 x hx
          · rcases List.mem_cons.1 hx with hx | hx
            · rw [hx]
              exact wdAt_txt s i (by omega)
            · split at hx
              · exact h4 x hx
              · simp at hx
theorem scL_txt (s : ByteArray) : ∀ x ∈ scL s, x.w.t.size ≤ 4 * s.size := scF_txt s _ 0 1 false
/-- where no word waits, a line has ended -/
theorem pr_kd (n : Nat) : ∀ (pre : List It) (S : List Sp) (L : List It), pre.length = n → prL pre = .inl (S, L) → L = [] → (stF st0 pre).kd = 4 := by
  intro pre
  rcases List.eq_nil_or_concat pre with rfl | ⟨p, x, rfl⟩
  · intro S L _ _ _
    rfl
  · intro S L _ hg hL
    rw [List.concat_eq_append] at hg ⊢
    rw [prL_snoc] at hg
    rw [stF_snoc]
    cases hp : prL p with
    | inr q => rw [hp] at hg; cases hg
    | inl q =>
      obtain ⟨S1, L1⟩ := q
      rw [hp] at hg
      unfold prI at hg
      simp only at hg
      by_cases he : x.w.e = 0
      · rw [if_neg (by simpa using he)] at hg
        by_cases hk : x.w.k = 4
        · unfold Rs.next
          rw [if_neg (by simpa using he)]
          exact hk
        · rw [if_pos hk] at hg
          simp only [Sum.inl.injEq, Prod.mk.injEq] at hg
          have h2 := hg.2
          rw [hL] at h2
          simp at h2
      · rw [if_pos he] at hg
        cases hg
theorem sc_words (s : ByteArray) : ∀ pre x rest, pre ++ x :: rest = scL s → x.w.e = 0 → x.w.k = 4 → ∀ S, prL pre ≠ .inl (S, []) := by
  intro pre x rest hp he hk S hg
  have h := scL_rises s
  rw [← hp] at h
  exact (h.at.k4 he (pr_kd _ pre S [] rfl hg rfl)).1 hk
/-- what Parse answers, whole -/
theorem Parse_all (s : ByteArray) (hs : s.size ≤ 200000) (w : World) (hL : Lw w) : Calls Tryz.prog 10 #[.string s] w (PsA w s) :=
  Parse_in s (by omega) w hL (by have := scL_len s; omega) (fun x hx => by have := scL_txt s x hx; omega) (sc_words s)
end Go.Proofs.YtkndjbmlkfpfoaaGreatDoor
