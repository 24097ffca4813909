/-
  The scanner's small parts: blanks, ends of lines and words, the byte behind a line's end.
-/
import Derived.Test.YticjilkcobpcjaaDoorZRd
set_option linter.unusedSimpArgs false
set_option linter.unusedVariables false
namespace Go.Proofs.YticjilkcobpcjaaDoor
open Go.RowKit Go.Lib

def isBl (b : Nat) : Bool := b == 32 || b == 9
def isLn (b : Nat) : Bool := b == 10 || b == 13
def isWe (b : Nat) : Bool := isBl b || b == 35 || isLn b

theorem isBlank_in (b : Nat) (w : World) :
    Calls Tryd.prog 26 #[.int .u8 (b : Int)] w fun e w' => e = .returned (.bool (isBl b)) ∧ w = w' := by
  by_cases h1 : b = 32
  · subst h1
    go_enter Tryd.func26, Tryd.ntmps26
    go_wp2
    go_ret
    exact ⟨rfl, rfl⟩
  · have i1 : ((b : Int) == 32) = false := by rw [beq_eq_false_iff_ne]; omega
    by_cases h2 : b = 9
    · subst h2
      go_enter Tryd.func26, Tryd.ntmps26
      go_wp2
      go_ret
      exact ⟨rfl, rfl⟩
    · have i2 : ((b : Int) == 9) = false := by rw [beq_eq_false_iff_ne]; omega
      have hh := hide (show isBl b = false by simp [isBl, h1, h2])
      clear h1 h2
      go_enter Tryd.func26, Tryd.ntmps26
      go_wp2
      go_ret
      exact ⟨by rw [unhide hh]; rfl, rfl⟩

theorem endsLine_in (b : Nat) (w : World) :
    Calls Tryd.prog 25 #[.int .u8 (b : Int)] w fun e w' => e = .returned (.bool (isLn b)) ∧ w = w' := by
  by_cases h1 : b = 10
  · subst h1
    go_enter Tryd.func25, Tryd.ntmps25
    go_wp2
    go_ret
    exact ⟨rfl, rfl⟩
  · have i1 : ((b : Int) == 10) = false := by rw [beq_eq_false_iff_ne]; omega
    by_cases h2 : b = 13
    · subst h2
      go_enter Tryd.func25, Tryd.ntmps25
      go_wp2
      go_ret
      exact ⟨rfl, rfl⟩
    · have i2 : ((b : Int) == 13) = false := by rw [beq_eq_false_iff_ne]; omega
      have hh := hide (show isLn b = false by simp [isLn, h1, h2])
      clear h1 h2
      go_enter Tryd.func25, Tryd.ntmps25
      go_wp2
      go_ret
      exact ⟨by rw [unhide hh]; rfl, rfl⟩

theorem endsWord_in (b : Nat) (w : World) :
    Calls Tryd.prog 45 #[.int .u8 (b : Int)] w fun e w' => e = .returned (.bool (isWe b)) ∧ w = w' := by
  have hB := fun W => hide (isBlank_in b W)
  have hL := fun W => hide (endsLine_in b W)
  cases h1 : isBl b with
  | true =>
    rw [h1] at hB
    have hh := hide (show isWe b = true by simp [isWe, h1])
    clear h1 hL
    go_enter Tryd.func45, Tryd.ntmps45
    go_wp2_with (go_at_call 26; refine (unhide (hB _)).mono ?_; rintro e w' ⟨rfl, rfl⟩)
    go_ret
    exact ⟨by rw [unhide hh]; rfl, rfl⟩
  | false =>
    rw [h1] at hB
    by_cases h2 : b = 35
    · have i2 : ((b : Int) == 35) = true := by rw [h2]; rfl
      have hh := hide (show isWe b = true by simp [isWe, h2])
      clear h1 hL h2
      go_enter Tryd.func45, Tryd.ntmps45
      go_wp2_with (go_at_call 26; refine (unhide (hB _)).mono ?_; rintro e w' ⟨rfl, rfl⟩)
      go_ret
      exact ⟨by rw [unhide hh]; rfl, rfl⟩
    · have i2 : ((b : Int) == 35) = false := by rw [beq_eq_false_iff_ne]; omega
      have hh := hide (show isWe b = isLn b by simp [isWe, h1, h2])
      clear h1 h2
      cases h3 : isLn b with
      | true =>
        rw [h3] at hL hh
        clear h3
        go_enter Tryd.func45, Tryd.ntmps45
        go_wp2_with fail
        refine (unhide (hB _)).mono ?_
        rintro e w' ⟨rfl, rfl⟩
        go_wp2_with fail
        refine (unhide (hL _)).mono ?_
        rintro e w' ⟨rfl, rfl⟩
        go_wp2
        go_ret
        exact ⟨by rw [unhide hh]; rfl, rfl⟩
      | false =>
        rw [h3] at hL hh
        clear h3
        go_enter Tryd.func45, Tryd.ntmps45
        go_wp2_with fail
        refine (unhide (hB _)).mono ?_
        rintro e w' ⟨rfl, rfl⟩
        go_wp2_with fail
        refine (unhide (hL _)).mono ?_
        rintro e w' ⟨rfl, rfl⟩
        go_wp2
        go_ret
        exact ⟨by rw [unhide hh]; rfl, rfl⟩

/-- the byte behind the line's end at a byte -/
def bhL (s : ByteArray) (i : Nat) : Nat := if by_ s i = 13 ∧ i + 1 < s.size ∧ by_ s (i + 1) = 10 then i + 2 else i + 1

theorem behindLine_in (s : ByteArray) (hs : s.size ≤ 1000000000) (i : Nat) (hi : i < s.size) (w : World) :
    Calls Tryd.prog 29 #[.string s, .int .i64 (i : Int)] w fun e w' => e = .returned (.int .i64 (bhL s i : Int)) ∧ w = w' := by
  have hz := size_ext s i s.size (Nat.le_refl _)
  have hp : ∀ W, Hid (Calls Tryd.prog 40 #[.string (s.extract i s.size), .string ⟨#[13, 10]⟩] W fun e w' => e = .returned (.bool (decide (by_ s i = 13 ∧ i + 1 < s.size ∧ by_ s (i + 1) = 10))) ∧ w' = W) := fun W => hide (by
    have h := hasPrefix_q (s.extract i s.size) ⟨#[13, 10]⟩ W
    have e0 := by_ext s i s.size 0 (Nat.le_refl _) (by omega)
    have hb : Lib.hasPrefix (s.extract i s.size).data.toList (⟨#[13, 10]⟩ : ByteArray).data.toList = decide (by_ s i = 13 ∧ i + 1 < s.size ∧ by_ s (i + 1) = 10) := by
      rw [show (⟨#[13, 10]⟩ : ByteArray).data.toList = [13, 10] from rfl, pre_two, e0, hz, Bool.eq_iff_iff]
      simp only [Bool.and_eq_true, decide_eq_true_eq, Nat.add_zero]
      by_cases h1 : i + 1 < s.size
      · rw [by_ext s i s.size 1 (Nat.le_refl _) h1]
        show (0 < s.size - i ∧ by_ s i = 13) ∧ 1 < s.size - i ∧ by_ s (i + 1) = 10 ↔ _
        omega
      · omega
    rw [hb] at h
    exact h)
  have i1 : (i : Int) ≤ (s.size : Int) := by omega
  have i2 : (0 : Int) ≤ (i : Int) := by omega
  by_cases hc : by_ s i = 13 ∧ i + 1 < s.size ∧ by_ s (i + 1) = 10
  · rw [decide_eq_true hc] at hp
    have hh := hide (show bhL s i = i + 2 by unfold bhL; rw [if_pos hc])
    clear hc hz
    go_enter Tryd.func29, Tryd.ntmps29
    go_wp2_with fail
    refine (unhide (hp _)).mono ?_
    rintro e w' ⟨rfl, rfl⟩
    go_wp2
    go_ret
    exact ⟨by rw [unhide hh]; rfl, rfl⟩
  · rw [decide_eq_false hc] at hp
    have hh := hide (show bhL s i = i + 1 by unfold bhL; rw [if_neg hc])
    clear hc hz
    go_enter Tryd.func29, Tryd.ntmps29
    go_wp2_with fail
    refine (unhide (hp _)).mono ?_
    rintro e w' ⟨rfl, rfl⟩
    go_wp2
    go_ret
    exact ⟨by rw [unhide hh]; rfl, rfl⟩

/-- five cells that may be written -/
def Box5 (W : World) (b : Nat) : Prop := ∃ c0 c1 c2 c3 c4, W.heap[b]? = some (.cells #[c0, c1, c2, c3, c4] 29 (0, 0))
theorem Box5.facts {W : World} {b : Nat} (h : Box5 W b) : (∃ v, W.cell? ⟨b, 0, none⟩ = some v) ∧ (∃ v, W.cell? ⟨b, 1, none⟩ = some v) ∧ (∃ v, W.cell? ⟨b, 2, none⟩ = some v) ∧ (∃ v, W.cell? ⟨b, 3, none⟩ = some v) ∧ (∃ v, W.cell? ⟨b, 4, none⟩ = some v) ∧ W.frozen? ⟨b, 0, none⟩ = false ∧ W.frozen? ⟨b, 1, none⟩ = false ∧ W.frozen? ⟨b, 2, none⟩ = false ∧ W.frozen? ⟨b, 3, none⟩ = false ∧ W.frozen? ⟨b, 4, none⟩ = false := by
  obtain ⟨c0, c1, c2, c3, c4, h⟩ := h
  exact ⟨⟨c0, by simp [World.cell?, h]⟩, ⟨c1, by simp [World.cell?, h]⟩, ⟨c2, by simp [World.cell?, h]⟩, ⟨c3, by simp [World.cell?, h]⟩, ⟨c4, by simp [World.cell?, h]⟩, by simp [World.frozen?, h], by simp [World.frozen?, h], by simp [World.frozen?, h], by simp [World.frozen?, h], by simp [World.frozen?, h]⟩
theorem Box5.below {W W' : World} {b B : Nat} (h : Box5 W b) (hb : Below B W W') (hB : b < B) : Box5 W' b := by
  obtain ⟨c0, c1, c2, c3, c4, h⟩ := h
  exact ⟨c0, c1, c2, c3, c4, (hb.block b hB).trans h⟩
theorem Box5.new (W : World) (c0 c1 c2 c3 c4 : Value) : Box5 (W.alloc (.cells #[c0, c1, c2, c3, c4] 29)) W.heap.size := ⟨c0, c1, c2, c3, c4, by show (W.heap.push _)[W.heap.size]? = _; simp⟩

end Go.Proofs.YticjilkcobpcjaaDoor
