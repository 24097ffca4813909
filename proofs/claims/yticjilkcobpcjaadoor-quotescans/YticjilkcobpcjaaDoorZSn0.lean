/-
  The scanner's frame, its open slots as one function, and what holds at each label.
-/
import Derived.Test.YticjilkcobpcjaaDoorZGj
import Derived.Test.YticjilkcobpcjaaDoorZSp
import Derived.Test.YticjilkcobpcjaaDoorZKn
set_option linter.unusedSimpArgs false
set_option linter.unusedVariables false
set_option maxRecDepth 100000
namespace Go.Proofs.YticjilkcobpcjaaDoor
open Go.RowKit Go.Lib
namespace Sn

def slotV (fc : Nat) (caps : Array Value) (Bs B i line n : Nat) (u : Nat → Value) (j : Nat) : Value := if j = 0 then Value.func (.func fc) #[] caps else if j = 1 then Value.pointer (some ⟨Bs, 0, none⟩) else if j = 3 then Value.pointer (some ⟨B, 0, none⟩) else if j = 5 then Value.int .i64 (i : Int) else if j = 7 then Value.int .i64 (line : Int) else if j = 8 then Value.int .i64 (n : Int) else u j
def fr (fc : Nat) (caps : Array Value) (Bs B i line n : Nat) (u : Nat → Value) : Act := { tmps := ((List.range 97).map (slotV fc caps Bs B i line n u)).toArray, defers := [] }
theorem fr_lit (fc : Nat) (caps : Array Value) (Bs B i line n : Nat) (u : Nat → Value) : fr fc caps Bs B i line n u = { tmps := List.toArray ((Value.func (.func fc) #[] caps) :: (Value.pointer (some ⟨Bs, 0, none⟩)) :: u 2 :: (Value.pointer (some ⟨B, 0, none⟩)) :: u 4 :: (Value.int .i64 (i : Int)) :: u 6 :: (Value.int .i64 (line : Int)) :: (Value.int .i64 (n : Int)) :: u 9 :: u 10 :: u 11 :: u 12 :: u 13 :: u 14 :: u 15 :: u 16 :: u 17 :: u 18 :: u 19 :: u 20 :: u 21 :: u 22 :: u 23 :: u 24 :: u 25 :: u 26 :: u 27 :: u 28 :: u 29 :: u 30 :: u 31 :: u 32 :: u 33 :: u 34 :: u 35 :: u 36 :: u 37 :: u 38 :: u 39 :: u 40 :: u 41 :: u 42 :: u 43 :: u 44 :: u 45 :: u 46 :: u 47 :: u 48 :: u 49 :: u 50 :: u 51 :: u 52 :: u 53 :: u 54 :: u 55 :: u 56 :: u 57 :: u 58 :: u 59 :: u 60 :: u 61 :: u 62 :: u 63 :: u 64 :: u 65 :: u 66 :: u 67 :: u 68 :: u 69 :: u 70 :: u 71 :: u 72 :: u 73 :: u 74 :: u 75 :: u 76 :: u 77 :: u 78 :: u 79 :: u 80 :: u 81 :: u 82 :: u 83 :: u 84 :: u 85 :: u 86 :: u 87 :: u 88 :: u 89 :: u 90 :: u 91 :: u 92 :: u 93 :: u 94 :: u 95 :: u 96 :: []), defers := [] } := by kernel_rfl

theorem fr_of (fc : Nat) (caps : Array Value) (Bs B i line n : Nat) (a : Act) (hd : a.defers = []) (hs : a.tmps.size = 97)
    (h0 : a.tmps[0]? = some (Value.func (.func fc) #[] caps))
    (h1 : a.tmps[1]? = some (Value.pointer (some ⟨Bs, 0, none⟩)))
    (h3 : a.tmps[3]? = some (Value.pointer (some ⟨B, 0, none⟩)))
    (h5 : a.tmps[5]? = some (Value.int .i64 (i : Int)))
    (h7 : a.tmps[7]? = some (Value.int .i64 (line : Int)))
    (h8 : a.tmps[8]? = some (Value.int .i64 (n : Int)))
    : a = fr fc caps Bs B i line n (fun j => a.tmps.getD j undef) := by
  obtain ⟨t, d⟩ := a
  simp only at *
  subst hd
  unfold fr
  congr 1
  apply Array.ext_getElem?
  intro j
  by_cases hj : j < 97
  · have e1 : t[j]? = some (t.getD j undef) := by
      have h' : j < t.size := by omega
      simp [h']
    have e2 : (((List.range 97).map (slotV fc caps Bs B i line n (fun j => t.getD j undef))).toArray)[j]? = some (slotV fc caps Bs B i line n (fun j => t.getD j undef) j) := by simp [hj]
    rw [e2]
    unfold slotV
    by_cases q0 : j = 0
    · rw [if_pos q0, q0]; exact h0
    rw [if_neg q0]
    by_cases q1 : j = 1
    · rw [if_pos q1, q1]; exact h1
    rw [if_neg q1]
    by_cases q3 : j = 3
    · rw [if_pos q3, q3]; exact h3
    rw [if_neg q3]
    by_cases q5 : j = 5
    · rw [if_pos q5, q5]; exact h5
    rw [if_neg q5]
    by_cases q7 : j = 7
    · rw [if_pos q7, q7]; exact h7
    rw [if_neg q7]
    by_cases q8 : j = 8
    · rw [if_pos q8, q8]; exact h8
    rw [if_neg q8]
    exact e1
  · rw [Array.getElem?_eq_none (by omega), Array.getElem?_eq_none (by simp; omega)]

def wdC (x : Wd) (line : Nat) : Array Value := #[.int .i64 (x.k : Int), .string x.t, .int .i64 x.n, .int .i64 (x.a : Int), .int .i64 (line : Int)]
/-- what holds at every label: what was handed on, and what is left -/
def SnI (J : List It → World → Prop) (s : ByteArray) (B i line n : Nat) (w' : World) : Prop :=
  i ≤ s.size ∧ n ≤ i ∧ line ≤ i + 1 ∧ (∃ pre, pre ++ scA s i line (decide (0 < n)) = scL s ∧ J pre w') ∧ Box5 w' B ∧ B < w'.heap.size

def At (J : List It → World → Prop) (s : ByteArray) (B : Nat) (l i line n : Nat) (u : Nat → Value) (w' : World) : Prop :=
  SnI J s B i line n w' ∧
  match l with
  | 0 => i < s.size → isLn (by_ s i) = true
  | 1 => True
  | 2 => i < s.size ∧ isLn (by_ s i) = false ∧ isBl (by_ s i) = false ∧ by_ s i = 35
  | 3 => i < s.size ∧ by_ s i = 34
  | _ => (i < s.size ∧ isLn (by_ s i) = false ∧ isBl (by_ s i) = false ∧ by_ s i ≠ 35) ∧ u 4 = .int .i64 ((wdAt s i).e : Int) ∧ u 6 = .int .i64 ((wdAt s i).nx : Int) ∧ w'.heap[B]? = some (.cells (wdC (wdAt s i) 0) 29 (0, 0))

def SnJ (fc : Nat) (caps : Array Value) (Bs B : Nat) (J : List It → World → Prop) (s : ByteArray) (l : Nat) (a' : Act) (w' : World) : Prop :=
  ∃ i line n u, a' = fr fc caps Bs B i line n u ∧ Hid (At J s B l i line n u w')

def SnM (s : ByteArray) (l : Nat) (a' : Act) : Nat := 8 * (s.size - (Lib.intOf (a'.tmps.getD 5 undef)).toNat) + (if l = 1 then 4 else if l = 0 then 1 else if l = 3 then 3 else 2)
theorem SnM_fr (s : ByteArray) (l : Nat) (fc : Nat) (caps : Array Value) (Bs B i line n : Nat) (u : Nat → Value) : SnM s l (fr fc caps Bs B i line n u) = 8 * (s.size - i) + (if l = 1 then 4 else if l = 0 then 1 else if l = 3 then 3 else 2) := by
  unfold SnM
  rw [show (fr fc caps Bs B i line n u).tmps.getD 5 undef = .int .i64 (i : Int) from rfl]
  simp [Lib.intOf]

theorem jump {fc : Nat} {caps : Array Value} {Bs B i line n M l : Nat} {J : List It → World → Prop} {s : ByteArray} {Q : Exit → Act → World → Prop} (a : Act) (w : World) (hl : l < 5) (hd : a.defers = []) (hs : a.tmps.size = 97)
    (h0 : a.tmps[0]? = some (Value.func (.func fc) #[] caps)) (h1 : a.tmps[1]? = some (Value.pointer (some ⟨Bs, 0, none⟩))) (h3 : a.tmps[3]? = some (Value.pointer (some ⟨B, 0, none⟩))) (h5 : a.tmps[5]? = some (Value.int .i64 (i : Int))) (h7 : a.tmps[7]? = some (Value.int .i64 (line : Int))) (h8 : a.tmps[8]? = some (Value.int .i64 (n : Int)))
    (H : At J s B l i line n (fun j => a.tmps.getD j undef) w) (hm : 8 * (s.size - i) + (if l = 1 then 4 else if l = 0 then 1 else if l = 3 then 3 else 2) < M) :
    Jumps (· < 5) (fun l' a' w' => SnJ fc caps Bs B J s l' a' w' ∧ SnM s l' a' < M) Q (.goto l) a w := by
  have e := fr_of fc caps Bs B i line n a hd hs h0 h1 h3 h5 h7 h8
  refine ⟨hl, ⟨i, line, n, _, e, hide H⟩, ?_⟩
  rw [e, SnM_fr]
  exact hm

/-- five labels; three of them are fallen into -/
theorem scope_five2 {P : Program} {a : Act} {w : World} {Q : Exit → Act → World → Prop} {c q0 q1 r2 r3 q4 : Code} (J : Nat → Act → World → Prop) (μ : Nat → Act → World → Nat)
    (h0 : findLabel c 0 = some (Code.seq .skip q0)) (h1 : findLabel c 1 = some (Code.seq .skip q1)) (h2 : findLabel c 2 = some r2) (h3 : findLabel c 3 = some r3) (h4 : findLabel c 4 = some (Code.seq .skip q4))
    (p0 : (∀ a w M, J 0 a w → μ 0 a w ≤ M → q0.wp P (Jumps (· < 5) (fun l' a' w' => J l' a' w' ∧ μ l' a' w' < M) Q) a w))
    (p4 : (∀ a w M, J 4 a w → μ 4 a w ≤ M → q4.wp P (Jumps (· < 5) (fun l' a' w' => J l' a' w' ∧ μ l' a' w' < M) Q) a w))
    (p1 : (∀ a w M, J 1 a w → μ 1 a w ≤ M → q1.wp P (Jumps (· < 5) (fun l' a' w' => J l' a' w' ∧ μ l' a' w' < M) Q) a w))
    (p2 : (∀ a w M, J 0 a w → μ 0 a w ≤ M → q0.wp P (Jumps (· < 5) (fun l' a' w' => J l' a' w' ∧ μ l' a' w' < M) Q) a w) → (∀ a w M, J 2 a w → μ 2 a w ≤ M → r2.wp P (Jumps (· < 5) (fun l' a' w' => J l' a' w' ∧ μ l' a' w' < M) Q) a w))
    (p3 : (∀ a w M, J 4 a w → μ 4 a w ≤ M → q4.wp P (Jumps (· < 5) (fun l' a' w' => J l' a' w' ∧ μ l' a' w' < M) Q) a w) → (∀ a w M, J 3 a w → μ 3 a w ≤ M → r3.wp P (Jumps (· < 5) (fun l' a' w' => J l' a' w' ∧ μ l' a' w' < M) Q) a w))
    (first : (∀ a w M, J 1 a w → μ 1 a w ≤ M → q1.wp P (Jumps (· < 5) (fun l' a' w' => J l' a' w' ∧ μ l' a' w' < M) Q) a w) → c.wp P (Jumps (· < 5) J Q) a w) : (Code.scope c).wp P Q a w :=
  scope_five J μ h0 h1 h2 h3 h4 (first p1) (fun a w h => wp_seq (wp_skip (p0 a w _ h (Nat.le_refl _)))) (fun a w h => wp_seq (wp_skip (p1 a w _ h (Nat.le_refl _)))) (fun a w h => p2 p0 a w _ h (Nat.le_refl _)) (fun a w h => p3 p4 a w _ h (Nat.le_refl _)) (fun a w h => wp_seq (wp_skip (p4 a w _ h (Nat.le_refl _))))

theorem drop_measure {P : Program} {J : Nat → Act → World → Prop} {μ : Nat → Act → World → Nat} {M : Nat} {Q : Exit → Act → World → Prop} {c : Code} {a : Act} {w : World} (h : c.wp P (Jumps (· < 5) (fun l' a' w' => J l' a' w' ∧ μ l' a' w' < M) Q) a w) : c.wp P (Jumps (· < 5) J Q) a w := by
  intro b k cs
  obtain ⟨e, a', w', hq, harr⟩ := h b k cs
  refine ⟨e, a', w', ?_, harr⟩
  cases e with
  | goto l => exact ⟨hq.1, hq.2.1⟩
  | normal => exact hq
  | exit id => exact hq
  | ret => exact hq
  | panic ch => exact hq
  | outgrown => exact hq

/-- five cells are written -/
theorem five_set {W : World} {b : Nat} (h : Box5 W b) (v0 v1 v2 v3 v4 : Value) : (((((W.setCell ⟨b, 0, none⟩ v0).setCell ⟨b, 1, none⟩ v1).setCell ⟨b, 2, none⟩ v2).setCell ⟨b, 3, none⟩ v3).setCell ⟨b, 4, none⟩ v4).heap[b]? = some (.cells #[v0, v1, v2, v3, v4] 29 (0, 0)) := by
  obtain ⟨c0, c1, c2, c3, c4, hc⟩ := h
  have e0 := heap_setCell_same W b 0 _ _ v0 hc
  have e1 := heap_setCell_same _ b 1 _ _ v1 e0
  have e2 := heap_setCell_same _ b 2 _ _ v2 e1
  have e3 := heap_setCell_same _ b 3 _ _ v3 e2
  have e4 := heap_setCell_same _ b 4 _ _ v4 e3
  rw [e4]
  rfl
theorem below_five {W W0 : World} {b B : Nat} (h : Below B W0 W) (hb : B ≤ b) (v0 v1 v2 v3 v4 : Value) : Below B W0 (((((W.setCell ⟨b, 0, none⟩ v0).setCell ⟨b, 1, none⟩ v1).setCell ⟨b, 2, none⟩ v2).setCell ⟨b, 3, none⟩ v3).setCell ⟨b, 4, none⟩ v4) :=
  ((((h.setCell (p := ⟨b, 0, none⟩) hb v0).setCell (p := ⟨b, 1, none⟩) hb v1).setCell (p := ⟨b, 2, none⟩) hb v2).setCell (p := ⟨b, 3, none⟩) hb v3).setCell (p := ⟨b, 4, none⟩) hb v4

end Sn
end Go.Proofs.YticjilkcobpcjaaDoor
