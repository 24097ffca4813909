/-
  The scanner's small parts: blanks, ends of lines and words, the byte behind a line's end.
-/
import Derived.Test.YtkndjbmlkfpfoaaGreatDoorZEsToRd

set_option linter.unusedSimpArgs false
set_option linter.unusedVariables false
namespace Go.Proofs.YtkndjbmlkfpfoaaGreatDoor
open Go.RowKit Go.Lib

def isBl (b : Nat) : Bool := b == 32 || b == 9
def isLn (b : Nat) : Bool := b == 10 || b == 13
def isWe (b : Nat) : Bool := isBl b || b == 35 || isLn b

theorem isBlank_in (b : Nat) (w : World) :
    Calls Tryz.prog 56 #[.int .u8 (b : Int)] w fun e w' => e = .returned (.bool (isBl b)) ∧ w = w' := by
  by_cases h1 : b = 32
  · subst h1
    go_enter Tryz.func56, Tryz.ntmps56
    go_wp2
    go_ret
    exact ⟨rfl, rfl⟩
  · have i1 : ((b : Int) == 32) = false := by rw [beq_eq_false_iff_ne]; omega
    by_cases h2 : b = 9
    · subst h2
      go_enter Tryz.func56, Tryz.ntmps56
      go_wp2
      go_ret
      exact ⟨rfl, rfl⟩
    · have i2 : ((b : Int) == 9) = false := by rw [beq_eq_false_iff_ne]; omega
      have hh := hide (show isBl b = false by simp [isBl, h1, h2])
      clear h1 h2
      go_enter Tryz.func56, Tryz.ntmps56
      go_wp2
      go_ret
      exact ⟨by rw [unhide hh]; rfl, rfl⟩

theorem endsLine_in (b : Nat) (w : World) :
    Calls Tryz.prog 55 #[.int .u8 (b : Int)] w fun e w' => e = .returned (.bool (isLn b)) ∧ w = w' := by
  by_cases h1 : b = 10
  · subst h1
    go_enter Tryz.func55, Tryz.ntmps55
    go_wp2
    go_ret
    exact ⟨rfl, rfl⟩
  · have i1 : ((b : Int) == 10) = false := by rw [beq_eq_false_iff_ne]; omega
    by_cases h2 : b = 13
    · subst h2
      go_enter Tryz.func55, Tryz.ntmps55
      go_wp2
      go_ret
      exact ⟨rfl, rfl⟩
    · have i2 : ((b : Int) == 13) = false := by rw [beq_eq_false_iff_ne]; omega
      have hh := hide (show isLn b = false by simp [isLn, h1, h2])
      clear h1 h2
      go_enter Tryz.func55, Tryz.ntmps55
      go_wp2
      go_ret
      exact ⟨by rw [unhide hh]; rfl, rfl⟩

theorem endsWord_in (b : Nat) (w : World) :
    Calls Tryz.prog 81 #[.int .u8 (b : Int)] w fun e w' => e = .returned (.bool (isWe b)) ∧ w = w' := by
  have hB := fun W => hide (isBlank_in b W)
  have hL := fun W => hide (endsLine_in b W)
  cases h1 : isBl b with
  | true =>
    rw [h1] at hB
    have hh := hide (show isWe b = true by simp [isWe, h1])
    clear h1 hL
    go_enter Tryz.func81, Tryz.ntmps81
    go_wp2_with (go_at_call 56; refine (unhide (hB _)).mono ?_; rintro e w' ⟨rfl, rfl⟩)
    go_ret
    exact ⟨by rw [unhide hh]; rfl, rfl⟩
  | false =>
    rw [h1] at hB
    by_cases h2 : b = 35
    · have i2 : ((b : Int) == 35) = true := by rw [h2]; rfl
      have hh := hide (show isWe b = true by simp [isWe, h2])
      clear h1 hL h2
      go_enter Tryz.func81, Tryz.ntmps81
      go_wp2_with (go_at_call 56; refine (unhide (hB _)).mono ?_; rintro e w' ⟨rfl, rfl⟩)
      go_ret
      exact ⟨by rw [unhide hh]; rfl, rfl⟩
    · have i2 : ((b : Int) == 35) = false := by rw [beq_eq_false_iff_ne]; omega
      have hh := hide (show isWe b = isLn b by simp [isWe, h1, h2])
      clear h1 h2
      cases h3 : isLn b with
      | true =>
        rw [h3] at hL hh
        clear h3
        go_enter Tryz.func81, Tryz.ntmps81
        go_wp2_with fail
        refine (unhide (hB _)).mono ?_
        rintro e w' ⟨rfl, rfl⟩
        go_wp2_with fail
        refine (unhide (hL _)).mono ?_
        rintro e w' ⟨rfl, rfl⟩
        go_wp2
        go_ret
        exact ⟨by rw [unhide hh]; rfl, rfl⟩
      | false =>
        rw [h3] at hL hh
        clear h3
        go_enter Tryz.func81, Tryz.ntmps81
        go_wp2_with fail
        refine (unhide (hB _)).mono ?_
        rintro e w' ⟨rfl, rfl⟩
        go_wp2_with fail
        refine (unhide (hL _)).mono ?_
        rintro e w' ⟨rfl, rfl⟩
        go_wp2
        go_ret
        exact ⟨by rw [unhide hh]; rfl, rfl⟩

/-- the byte behind the line's end at a byte -/
def bhL (s : ByteArray) (i : Nat) : Nat := if by_ s i = 13 ∧ i + 1 < s.size ∧ by_ s (i + 1) = 10 then i + 2 else i + 1

theorem behindLine_in (s : ByteArray) (hs : s.size ≤ 1000000000) (i : Nat) (hi : i < s.size) (w : World) :
    Calls Tryz.prog 59 #[.string s, .int .i64 (i : Int)] w fun e w' => e = .returned (.int .i64 (bhL s i : Int)) ∧ w = w' := by
  have hz := size_ext s i s.size (Nat.le_refl _)
  have hp : ∀ W, Hid (Calls Tryz.prog 86 #[.string (s.extract i s.size), .string ⟨#[13, 10]⟩] W fun e w' => e = .returned (.bool (decide (by_ s i = 13 ∧ i + 1 < s.size ∧ by_ s (i + 1) = 10))) ∧ w' = W) := fun W => hide (by
    have h := hasPrefix_q (s.extract i s.size) ⟨#[13, 10]⟩ W
    have e0 := by_ext s i s.size 0 (Nat.le_refl _) (by omega)
    have hb : Lib.hasPrefix (s.extract i s.size).data.toList (⟨#[13, 10]⟩ : ByteArray).data.toList = decide (by_ s i = 13 ∧ i + 1 < s.size ∧ by_ s (i + 1) = 10) := by
      rw [show (⟨#[13, 10]⟩ : ByteArray).data.toList = [13, 10] from rfl, pre_two, e0, hz, Bool.eq_iff_iff]
      simp only [Bool.and_eq_true, decide_eq_true_eq, Nat.add_zero]
      by_cases h1 : i + 1 < s.size
      · rw [by_ext s i s.size 1 (Nat.le_refl _) h1]
        show (0 < s.size - i ∧ by_ s i = 13) ∧ 1 < s.size - i ∧ by_ s (i + 1) = 10 ↔ _
        omega
      · omega
    rw [hb] at h
    exact h)
  have i1 : (i : Int) ≤ (s.size : Int) := by omega
  have i2 : (0 : Int) ≤ (i : Int) := by omega
  by_cases hc : by_ s i = 13 ∧ i + 1 < s.size ∧ by_ s (i + 1) = 10
  · rw [decide_eq_true hc] at hp
    have hh := hide (show bhL s i = i + 2 by unfold bhL; rw [if_pos hc])
    clear hc hz
    go_enter Tryz.func59, Tryz.ntmps59
    go_wp2_with fail
    refine (unhide (hp _)).mono ?_
    rintro e w' ⟨rfl, rfl⟩
    go_wp2
    go_ret
    exact ⟨by rw [unhide hh]; rfl, rfl⟩
  · rw [decide_eq_false hc] at hp
    have hh := hide (show bhL s i = i + 1 by unfold bhL; rw [if_neg hc])
    clear hc hz
    go_enter Tryz.func59, Tryz.ntmps59
    go_wp2_with fail
    refine (unhide (hp _)).mono ?_
    rintro e w' ⟨rfl, rfl⟩
    go_wp2
    go_ret
    exact ⟨by rw [unhide hh]; rfl, rfl⟩

/-- five cells that may be written -/
def Box5 (W : World) (b : Nat) : Prop := ∃ c0 c1 c2 c3 c4, W.heap[b]? = some (.cells #[c0, c1, c2, c3, c4] 73 (0, 0))
theorem Box5.facts {W : World} {b : Nat} (h : Box5 W b) : (∃ v, W.cell? ⟨b, 0, none⟩ = some v) ∧ (∃ v, W.cell? ⟨b, 1, none⟩ = some v) ∧ (∃ v, W.cell? ⟨b, 2, none⟩ = some v) ∧ (∃ v, W.cell? ⟨b, 3, none⟩ = some v) ∧ (∃ v, W.cell? ⟨b, 4, none⟩ = some v) ∧ W.frozen? ⟨b, 0, none⟩ = false ∧ W.frozen? ⟨b, 1, none⟩ = false ∧ W.frozen? ⟨b, 2, none⟩ = false ∧ W.frozen? ⟨b, 3, none⟩ = false ∧ W.frozen? ⟨b, 4, none⟩ = false := by
  obtain ⟨c0, c1, c2, c3, c4, h⟩ := h
  exact ⟨⟨c0, by simp [World.cell?, h]⟩, ⟨c1, by simp [World.cell?, h]⟩, ⟨c2, by simp [World.cell?, h]⟩, ⟨c3, by simp [World.cell?, h]⟩, ⟨c4, by simp [World.cell?, h]⟩, by simp [World.frozen?, h], by simp [World.frozen?, h], by simp [World.frozen?, h], by simp [World.frozen?, h], by simp [World.frozen?, h]⟩
theorem Box5.below {W W' : World} {b B : Nat} (h : Box5 W b) (hb : Below B W W') (hB : b < B) : Box5 W' b := by
  obtain ⟨c0, c1, c2, c3, c4, h⟩ := h
  exact ⟨c0, c1, c2, c3, c4, (hb.block b hB).trans h⟩
theorem Box5.new (W : World) (c0 c1 c2 c3 c4 : Value) : Box5 (W.alloc (.cells #[c0, c1, c2, c3, c4] 73)) W.heap.size := ⟨c0, c1, c2, c3, c4, by show (W.heap.push _)[W.heap.size]? = _; simp⟩

end Go.Proofs.YtkndjbmlkfpfoaaGreatDoor

/-
  The scanner's quoted word.
-/
set_option linter.unusedSimpArgs false
set_option linter.unusedVariables false
namespace Go.Proofs.YtkndjbmlkfpfoaaGreatDoor
open Go.RowKit Go.Lib

/-- a word as a value -/
def wV (k : Nat) (t : ByteArray) (n : Int) (at' line : Nat) : Value := .agg #[.int .i64 (k : Int), .string t, .int .i64 n, .int .i64 (at' : Int), .int .i64 (line : Int)]

/-- what a word is: kind, text, number, place; the byte behind it; the error -/
structure Wd where
  k : Nat
  t : ByteArray
  n : Int
  a : Nat
  nx : Nat
  e : Nat
def Wd.v (x : Wd) (line : Nat) : Value := wV x.k x.t x.n x.a line
def Wd.tup (x : Wd) : Value := .tuple #[x.v 0, .int .i64 (x.nx : Int), .int .i64 (x.e : Int)]

def qdW (s : ByteArray) (b : Nat) : Wd :=
  if (rdE s (b + 1)).2.2 = true ∧ ((rdE s (b + 1)).2.1 < s.size → isWe (by_ s (rdE s (b + 1)).2.1) = true)
  then ⟨2, ofL (rdE s (b + 1)).1, 0, b, (rdE s (b + 1)).2.1, 0⟩ else ⟨0, ⟨#[]⟩, 0, (rdE s (b + 1)).2.1, 0, 18⟩

set_option maxRecDepth 100000 in
set_option maxHeartbeats 4000000 in
theorem quotedWord_in (s : ByteArray) (hs : s.size ≤ 1000000000) (b : Nat) (hb : b < s.size) (w : World) :
    Calls Tryz.prog 58 #[.string s, .int .i64 (b : Int)] w fun e w' => e = .returned (qdW s b).tup ∧ Below w.heap.size w w' := by
  have hrd := fun W => hide (read_in s hs b hb W)
  have hbd := (rdA_bounds s _ (b + 1) [] (Nat.le_refl _) (by omega)).1
  rw [← rdA_zero] at hbd
  have e1 : (w.alloc (.cells #[.int .i64 0, .string ⟨#[]⟩, .int .i64 0, .int .i64 0, .int .i64 0] 73)).heap.size = w.heap.size + 1 := by simp
  have X0 := hide (Box5.new w (.int .i64 0) (.string ⟨#[]⟩) (.int .i64 0) (.int .i64 0) (.int .i64 0))
  have B0 := hide ((Below.refl w.heap.size w).alloc (Nat.le_refl _) (.cells #[.int .i64 0, .string ⟨#[]⟩, .int .i64 0, .int .i64 0, .int .i64 0] 73))
  obtain ⟨X, hX⟩ : ∃ X, qdW s b = X := ⟨_, rfl⟩
  rw [hX]
  unfold qdW at hX
  obtain ⟨A, hA⟩ : ∃ A, rdE s (b + 1) = A := ⟨_, rfl⟩
  rw [hA] at hrd hX hbd
  obtain ⟨x, n, ok⟩ := A
  clear hA
  dsimp only at hrd hX hbd
  have fin : ∀ V : World, Box5 V w.heap.size → Below w.heap.size w V → True := fun _ _ _ => trivial
  cases ok with
  | false =>
    rw [if_neg (by simp)] at hX
    have HX := hide hX
    clear hX fin
    go_enter Tryz.func58, Tryz.ntmps58
    go_wp2_with fail
    obtain ⟨W0, hW0⟩ : ∃ W0, w.alloc (.cells #[.int .i64 0, .string ⟨#[]⟩, .int .i64 0, .int .i64 0, .int .i64 0] 73) = W0 := ⟨_, rfl⟩
    rw [hW0] at e1 X0 B0 ⊢
    clear hW0
    refine (unhide (hrd W0)).mono ?_
    rintro e V ⟨rfl, bv⟩
    have X1 := (unhide X0).below bv (by omega)
    have B1 := hide ((unhide B0).trans (bv.mono (by omega)))
    obtain ⟨⟨v0, q0⟩, ⟨v1, q1⟩, ⟨v2, q2⟩, ⟨v3, q3⟩, ⟨v4, q4⟩, f0, f1, f2, f3, f4⟩ := X1.facts
    clear X1 X0 B0 bv hrd
    go_wp2
    refine bodyPost_ret (v := .tuple #[wV 0 ⟨#[]⟩ 0 n 0, .int .i64 0, .int .i64 18]) ?_ rfl ⟨by rw [← unhide HX]; rfl, ?_⟩
    · simp [results, Tryz.f58, go_sem, wV, *]
    · exact (((((unhide B1).setCell (Nat.le_refl _) _).setCell (Nat.le_refl _) _).setCell (Nat.le_refl _) _).setCell (Nat.le_refl _) _).setCell (Nat.le_refl _) _
  | true =>
    by_cases hlt : n < s.size
    · have gi := by_get s n hlt
      have hew := fun W => hide (endsWord_in (by_ s n) W)
      have k1 : (n : Int) < (s.size : Int) := by omega
      have k2 : (0 : Int) ≤ (n : Int) := by omega
      cases hwe : isWe (by_ s n) with
      | false =>
        rw [hwe] at hew
        rw [if_neg (by rw [hwe]; intro h; have := h.2 hlt; simp at this)] at hX
        have HX := hide hX
        clear hX fin hwe
        go_enter Tryz.func58, Tryz.ntmps58
        go_wp2_with fail
        obtain ⟨W0, hW0⟩ : ∃ W0, w.alloc (.cells #[.int .i64 0, .string ⟨#[]⟩, .int .i64 0, .int .i64 0, .int .i64 0] 73) = W0 := ⟨_, rfl⟩
        rw [hW0] at e1 X0 B0 ⊢
        clear hW0
        refine (unhide (hrd W0)).mono ?_
        rintro e V ⟨rfl, bv⟩
        have X1 := (unhide X0).below bv (by omega)
        have B1 := hide ((unhide B0).trans (bv.mono (by omega)))
        obtain ⟨⟨v0, q0⟩, ⟨v1, q1⟩, ⟨v2, q2⟩, ⟨v3, q3⟩, ⟨v4, q4⟩, f0, f1, f2, f3, f4⟩ := X1.facts
        clear X1 X0 B0 bv hrd
        go_wp2_with fail
        refine (unhide (hew _)).mono ?_
        rintro e V' ⟨rfl, rfl⟩
        go_wp2
        refine bodyPost_ret (v := .tuple #[wV 0 ⟨#[]⟩ 0 n 0, .int .i64 0, .int .i64 18]) ?_ rfl ⟨by rw [← unhide HX]; rfl, ?_⟩
        · simp [results, Tryz.f58, go_sem, wV, *]
        · exact (((((unhide B1).setCell (Nat.le_refl _) _).setCell (Nat.le_refl _) _).setCell (Nat.le_refl _) _).setCell (Nat.le_refl _) _).setCell (Nat.le_refl _) _
      | true =>
        rw [hwe] at hew
        rw [if_pos ⟨rfl, fun _ => hwe⟩] at hX
        have HX := hide hX
        clear hX fin hwe
        go_enter Tryz.func58, Tryz.ntmps58
        go_wp2_with fail
        obtain ⟨W0, hW0⟩ : ∃ W0, w.alloc (.cells #[.int .i64 0, .string ⟨#[]⟩, .int .i64 0, .int .i64 0, .int .i64 0] 73) = W0 := ⟨_, rfl⟩
        rw [hW0] at e1 X0 B0 ⊢
        clear hW0
        refine (unhide (hrd W0)).mono ?_
        rintro e V ⟨rfl, bv⟩
        have X1 := (unhide X0).below bv (by omega)
        have B1 := hide ((unhide B0).trans (bv.mono (by omega)))
        obtain ⟨⟨v0, q0⟩, ⟨v1, q1⟩, ⟨v2, q2⟩, ⟨v3, q3⟩, ⟨v4, q4⟩, f0, f1, f2, f3, f4⟩ := X1.facts
        clear X1 X0 B0 bv hrd
        go_wp2_with fail
        refine (unhide (hew _)).mono ?_
        rintro e V' ⟨rfl, rfl⟩
        go_wp2
        refine bodyPost_ret (v := .tuple #[wV 2 (ofL x) 0 b 0, .int .i64 n, .int .i64 0]) ?_ rfl ⟨by rw [← unhide HX]; rfl, ?_⟩
        · simp [results, Tryz.f58, go_sem, wV, *]
        · exact (((((unhide B1).setCell (Nat.le_refl _) _).setCell (Nat.le_refl _) _).setCell (Nat.le_refl _) _).setCell (Nat.le_refl _) _).setCell (Nat.le_refl _) _
    · have k1 : ¬ (n : Int) < (s.size : Int) := by omega
      rw [if_pos ⟨rfl, fun h => absurd h hlt⟩] at hX
      have HX := hide hX
      clear hX fin
      go_enter Tryz.func58, Tryz.ntmps58
      go_wp2_with fail
      obtain ⟨W0, hW0⟩ : ∃ W0, w.alloc (.cells #[.int .i64 0, .string ⟨#[]⟩, .int .i64 0, .int .i64 0, .int .i64 0] 73) = W0 := ⟨_, rfl⟩
      rw [hW0] at e1 X0 B0 ⊢
      clear hW0
      refine (unhide (hrd W0)).mono ?_
      rintro e V ⟨rfl, bv⟩
      have X1 := (unhide X0).below bv (by omega)
      have B1 := hide ((unhide B0).trans (bv.mono (by omega)))
      obtain ⟨⟨v0, q0⟩, ⟨v1, q1⟩, ⟨v2, q2⟩, ⟨v3, q3⟩, ⟨v4, q4⟩, f0, f1, f2, f3, f4⟩ := X1.facts
      clear X1 X0 B0 bv hrd
      go_wp2
      refine bodyPost_ret (v := .tuple #[wV 2 (ofL x) 0 b 0, .int .i64 n, .int .i64 0]) ?_ rfl ⟨by rw [← unhide HX]; rfl, ?_⟩
      · simp [results, Tryz.f58, go_sem, wV, *]
      · exact (((((unhide B1).setCell (Nat.le_refl _) _).setCell (Nat.le_refl _) _).setCell (Nat.le_refl _) _).setCell (Nat.le_refl _) _).setCell (Nat.le_refl _) _

end Go.Proofs.YtkndjbmlkfpfoaaGreatDoor

/-
  The scanner's numbers: does a word begin like one?
-/
set_option linter.unusedSimpArgs false
set_option linter.unusedVariables false
namespace Go.Proofs.YtkndjbmlkfpfoaaGreatDoor
open Go.RowKit Go.Lib

/-- where a word's digits begin -/
def dgA (t : ByteArray) : Nat := if 0 < t.size ∧ by_ t 0 = 45 then 1 else 0
/-- does a word have to be a number? -/
def bgN (t : ByteArray) : Bool := decide (dgA t < t.size ∧ 48 ≤ by_ t (dgA t) ∧ by_ t (dgA t) ≤ 57)

theorem trim_dash (t : ByteArray) : (⟨(Lib.trimPrefix t.data.toList [45]).toArray⟩ : ByteArray) = t.extract (dgA t) t.size := by
  have h1 := pre_one t 45
  have e : (t.extract (dgA t) t.size) = ofL (t.data.toList.drop (dgA t)) := (ofL_drop t (dgA t)).symm
  rw [e]
  unfold Lib.trimPrefix dgA
  rw [h1]
  by_cases h : 0 < t.size ∧ by_ t 0 = 45
  · rw [if_pos h, if_pos (by rw [decide_eq_true_eq]; exact h)]; rfl
  · rw [if_neg h, if_neg (by rw [decide_eq_true_eq]; exact h)]; simp [ofL]

set_option maxRecDepth 100000 in
set_option maxHeartbeats 1000000 in
theorem beginsNumber_in (t : ByteArray) (ht : t.size ≤ 1000000000) (w : World) :
    Calls Tryz.prog 83 #[.string t] w fun e w' => e = .returned (.bool (bgN t)) ∧ w = w' := by
  have hp := fun W => trimPrefix_q t ⟨#[45]⟩ W
  rw [show (⟨#[45]⟩ : ByteArray).data.toList = [45] from rfl, trim_dash] at hp
  have hp := fun W => hide (hp W)
  have hz := size_ext t (dgA t) t.size (Nat.le_refl _)
  obtain ⟨R, hR⟩ : ∃ R, bgN t = R := ⟨_, rfl⟩
  rw [hR]
  unfold bgN at hR
  obtain ⟨a, ha⟩ : ∃ a, dgA t = a := ⟨_, rfl⟩
  rw [ha] at hp hz hR
  obtain ⟨d, hd⟩ : ∃ d, t.extract a t.size = d := ⟨_, rfl⟩
  have hby : a < t.size → by_ d 0 = by_ t a := fun h => by rw [← hd, by_ext t a t.size 0 (Nat.le_refl _) (by omega)]; rfl
  rw [hd] at hp hz
  clear ha hd
  by_cases h0 : a < t.size
  · have hds : 0 < d.size := by omega
    have hgi := by_get d 0 hds
    rw [hby h0] at hgi
    have n1 : (d.toList == []) = false := by
      rw [beq_eq_false_iff_ne, ByteArray.toList_eq]
      intro e
      have := congrArg List.length e
      have h2 : d.data.toList.length = d.size := by rw [Array.length_toList]; rfl
      rw [h2, List.length_nil] at this
      omega
    have n2 : d.toList.isEmpty = false := by
      cases hl : d.toList with
      | nil => rw [hl] at n1; simp at n1
      | cons x l => rfl
    have n3 : (0 : Int) < (d.size : Int) := by omega
    by_cases c1 : 48 ≤ by_ t a
    · have j1 : (48 : Int) ≤ ((by_ t a : Nat) : Int) := by omega
      by_cases c2 : by_ t a ≤ 57
      · have j2 : ((by_ t a : Nat) : Int) ≤ 57 := by omega
        rw [decide_eq_true ⟨h0, c1, c2⟩] at hR
        subst hR
        clear hz hby h0 c1 c2
        go_enter Tryz.func83, Tryz.ntmps83
        go_wp2_with fail
        refine (unhide (hp _)).mono ?_
        rintro e w' ⟨rfl, rfl⟩
        go_wp2
        go_ret
        exact ⟨rfl, rfl⟩
      · have j2 : ¬ ((by_ t a : Nat) : Int) ≤ 57 := by omega
        rw [decide_eq_false (fun h => c2 h.2.2)] at hR
        subst hR
        clear hz hby h0 c1 c2
        go_enter Tryz.func83, Tryz.ntmps83
        go_wp2_with fail
        refine (unhide (hp _)).mono ?_
        rintro e w' ⟨rfl, rfl⟩
        go_wp2
        go_ret
        exact ⟨by show Ending.returned (.bool (decide (((by_ t a : Nat) : Int) ≤ 57))) = _; rw [decide_eq_false (by omega)], rfl⟩
    · have j1 : ¬ (48 : Int) ≤ ((by_ t a : Nat) : Int) := by omega
      rw [decide_eq_false (fun h => c1 h.2.1)] at hR
      subst hR
      clear hz hby h0 c1
      go_enter Tryz.func83, Tryz.ntmps83
      go_wp2_with fail
      refine (unhide (hp _)).mono ?_
      rintro e w' ⟨rfl, rfl⟩
      go_wp2
      go_ret
      exact ⟨rfl, rfl⟩
  · have hde : d = ⟨#[]⟩ := by
      have h2 : d.data.toList.length = d.size := by rw [Array.length_toList]; rfl
      rw [← ofL_of d, List.length_eq_zero_iff.1 (by omega : d.data.toList.length = 0)]; rfl
    subst hde
    rw [decide_eq_false (fun h => h0 h.1)] at hR
    subst hR
    clear hz hby h0
    go_enter Tryz.func83, Tryz.ntmps83
    go_wp2_with fail
    refine (unhide (hp _)).mono ?_
    rintro e w' ⟨rfl, rfl⟩
    go_wp2
    go_ret
    exact ⟨rfl, rfl⟩

end Go.Proofs.YtkndjbmlkfpfoaaGreatDoor
