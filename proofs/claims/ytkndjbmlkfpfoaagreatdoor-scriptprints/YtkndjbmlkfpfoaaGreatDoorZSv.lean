/-
  What is laid so far: the words of a text that is laid item by item.
-/
import Derived.Test.YtkndjbmlkfpfoaaGreatDoorZPKToSw
import Derived.Test.YtkndjbmlkfpfoaaGreatDoorZShelfToQu

set_option linter.unusedSimpArgs false
set_option linter.unusedVariables false
namespace Go.Proofs.YtkndjbmlkfpfoaaGreatDoor
open Go.RowKit Go.Lib

/-- the words, without the last line's end -/
def layV : Nat → Nat → List Ii → List It
  | _, _, [] => []
  | a, line, y :: l => y.its a line ++ layV (a + y.txt.length) (y.ln line) l
def lnL : Nat → List Ii → Nat
  | line, [] => line
  | line, y :: l => lnL (y.ln line) l
def onL : Bool → List Ii → Bool
  | m, [] => m
  | _, y :: l => onL y.on l
theorem layT_cons (y : Ii) (l : List Ii) : layT (y :: l) = y.txt ++ layT l := rfl
theorem layT_snoc (l : List Ii) (y : Ii) : layT (l ++ [y]) = layT l ++ y.txt := by simp [layT]
theorem layW_eq : ∀ (l : List Ii) (a line : Nat) (m : Bool), layW a line m l = layV a line l ++ (if onL m l then [endI (a + (layT l).length) (lnL line l)] else [])
  | [], a, line, m => by cases m <;> rfl
  | y :: l, a, line, m => by
    show y.its a line ++ layW (a + y.txt.length) (y.ln line) y.on l = (y.its a line ++ layV (a + y.txt.length) (y.ln line) l) ++ (if onL y.on l then [endI (a + (layT (y :: l)).length) (lnL (y.ln line) l)] else [])
    rw [layW_eq l, layT_cons, List.length_append, List.append_assoc, Nat.add_assoc]
theorem layV_snoc : ∀ (l : List Ii) (y : Ii) (a line : Nat), layV a line (l ++ [y]) = layV a line l ++ y.its (a + (layT l).length) (lnL line l)
  | [], y, a, line => by
    show y.its a line ++ [] = y.its (a + 0) line
    simp
  | x :: l, y, a, line => by
    show x.its a line ++ layV (a + x.txt.length) (x.ln line) (l ++ [y]) = (x.its a line ++ layV (a + x.txt.length) (x.ln line) l) ++ y.its (a + (layT (x :: l)).length) (lnL (x.ln line) l)
    rw [layV_snoc l, layT_cons, List.length_append, List.append_assoc, Nat.add_assoc]
theorem lnL_snoc : ∀ (l : List Ii) (y : Ii) (line : Nat), lnL line (l ++ [y]) = y.ln (lnL line l)
  | [], y, line => rfl
  | x :: l, y, line => lnL_snoc l y (x.ln line)
theorem onL_snoc : ∀ (l : List Ii) (y : Ii) (m : Bool), onL m (l ++ [y]) = y.on
  | [], y, m => rfl
  | x :: l, y, m => onL_snoc l y x.on
theorem okIs_snoc : ∀ (l : List Ii) (y : Ii) (m : Bool), okIs m l → y.ok (onL m l) → okIs m (l ++ [y])
  | [], y, m, _, h => ⟨h, trivial⟩
  | x :: l, y, m, h, h2 => ⟨h.1, okIs_snoc l y x.on h.2 h2⟩
theorem its_e (y : Ii) (a line : Nat) : ∀ x ∈ y.its a line, x.w.e = 0 := by
  intro x hx
  unfold Ii.its at hx
  rcases List.mem_cons.1 hx with rfl | hx
  · exact y.x.e0 _
  · cases he : y.en with
    | none => rw [he] at hx; cases hx
    | some k =>
      rw [he] at hx
      rcases List.mem_cons.1 hx with rfl | hx
      · rfl
      · cases hx
theorem layV_e : ∀ (l : List Ii) (a line : Nat), ∀ x ∈ layV a line l, x.w.e = 0
  | [], _, _, x, hx => by cases hx
  | y :: l, a, line, x, hx => by
    rcases List.mem_append.1 hx with h | h
    · exact its_e y a line x h
    · exact layV_e l _ _ x h
theorem layW_e (l : List Ii) (a line : Nat) (m : Bool) : ∀ x ∈ layW a line m l, x.w.e = 0 := by
  intro x hx
  rw [layW_eq] at hx
  rcases List.mem_append.1 hx with h | h
  · exact layV_e l _ _ x h
  · split at h
    · rcases List.mem_cons.1 h with rfl | h
      · rfl
      · cases h
    · cases h
theorem its_len (y : Ii) (a line : Nat) : (y.its a line).length ≤ 2 := by
  unfold Ii.its
  cases y.en with
  | none => simp
  | some k => simp
theorem layV_len : ∀ (l : List Ii) (a line : Nat), (layV a line l).length ≤ 2 * l.length
  | [], _, _ => by simp [layV]
  | y :: l, a, line => by
    show (y.its a line ++ layV (a + y.txt.length) (y.ln line) l).length ≤ _
    have := its_len y a line
    have := layV_len l (a + y.txt.length) (y.ln line)
    rw [List.length_append, List.length_cons]
    omega
theorem endN_le (k : Nat) : endN k ≤ 2 := by
  unfold endN
  split <;> omega
theorem lnL_le : ∀ (l : List Ii) (line : Nat), lnL line l ≤ line + 2 * l.length
  | [], line => by simp [lnL]
  | y :: l, line => by
    show lnL (y.ln line) l ≤ _
    have := lnL_le l (y.ln line)
    have h2 : y.ln line ≤ line + 2 := by
      unfold Ii.ln
      cases y.en with
      | none => simp
      | some k => have := endN_le k; simp; omega
    rw [List.length_cons]
    omega
theorem qL_len (s : ByteArray) : ∀ l : List Nat, (∀ i ∈ l, i < s.size) → (qL s l).length ≤ 10 * l.length
  | [], _ => by simp [qL]
  | i :: l, h => by
    have h1 := qP_len s i (h i (List.mem_cons_self ..))
    have h2 := qL_len s l (fun j hj => h j (List.mem_cons_of_mem _ hj))
    show (qP s i ++ qL s l).length ≤ _
    rw [List.length_append, List.length_cons]
    omega
theorem qT_len (s : ByteArray) : (qT s).data.toList.length ≤ 10 * s.size + 2 := by
  have h1 := qL_len s (allL s) (fun i hi => (mem_allL.1 hi).1)
  have h2 := allL_length s
  unfold qT
  rw [ofL_list]
  simp
  omega
theorem endT_len (k : Nat) : (endT k).length ≤ 8 := by
  unfold endT
  split <;> simp
theorem itoa_len (v : Int) (h1 : -9223372036854775808 ≤ v) (h2 : v ≤ 9223372036854775807) : (itoa v).length ≤ 20 := by
  unfold itoa
  split
  · have := dd_len (u := v.natAbs) (by omega)
    simp
    omega
  · have := dd_len (u := v.toNat) (by omega)
    omega
theorem ofL_sz (l : List UInt8) : (ofL l).size = l.length := ofL_size l

end Go.Proofs.YtkndjbmlkfpfoaaGreatDoor
