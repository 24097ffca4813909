/-
  The scanner's quoted word.
-/
import Derived.Test.YticjilkcobpcjaaDoorZSc
set_option linter.unusedSimpArgs false
set_option linter.unusedVariables false
namespace Go.Proofs.YticjilkcobpcjaaDoor
open Go.RowKit Go.Lib

/-- a word as a value -/
def wV (k : Nat) (t : ByteArray) (n : Int) (at' line : Nat) : Value := .agg #[.int .i64 (k : Int), .string t, .int .i64 n, .int .i64 (at' : Int), .int .i64 (line : Int)]

/-- what a word is: kind, text, number, place; the byte behind it; the error -/
structure Wd where
  k : Nat
  t : ByteArray
  n : Int
  a : Nat
  nx : Nat
  e : Nat
def Wd.v (x : Wd) (line : Nat) : Value := wV x.k x.t x.n x.a line
def Wd.tup (x : Wd) : Value := .tuple #[x.v 0, .int .i64 (x.nx : Int), .int .i64 (x.e : Int)]

def qdW (s : ByteArray) (b : Nat) : Wd :=
  if (rdE s (b + 1)).2.2 = true ∧ ((rdE s (b + 1)).2.1 < s.size → isWe (by_ s (rdE s (b + 1)).2.1) = true)
  then ⟨2, ofL (rdE s (b + 1)).1, 0, b, (rdE s (b + 1)).2.1, 0⟩ else ⟨0, ⟨#[]⟩, 0, (rdE s (b + 1)).2.1, 0, 18⟩

set_option maxRecDepth 100000 in
set_option maxHeartbeats 4000000 in
theorem quotedWord_in (s : ByteArray) (hs : s.size ≤ 1000000000) (b : Nat) (hb : b < s.size) (w : World) :
    Calls Tryd.prog 28 #[.string s, .int .i64 (b : Int)] w fun e w' => e = .returned (qdW s b).tup ∧ Below w.heap.size w w' := by
  have hrd := fun W => hide (read_in s hs b hb W)
  have hbd := (rdA_bounds s _ (b + 1) [] (Nat.le_refl _) (by omega)).1
  rw [← rdA_zero] at hbd
  have e1 : (w.alloc (.cells #[.int .i64 0, .string ⟨#[]⟩, .int .i64 0, .int .i64 0, .int .i64 0] 29)).heap.size = w.heap.size + 1 := by simp
  have X0 := hide (Box5.new w (.int .i64 0) (.string ⟨#[]⟩) (.int .i64 0) (.int .i64 0) (.int .i64 0))
  have B0 := hide ((Below.refl w.heap.size w).alloc (Nat.le_refl _) (.cells #[.int .i64 0, .string ⟨#[]⟩, .int .i64 0, .int .i64 0, .int .i64 0] 29))
  obtain ⟨X, hX⟩ : ∃ X, qdW s b = X := ⟨_, rfl⟩
  rw [hX]
  unfold qdW at hX
  obtain ⟨A, hA⟩ : ∃ A, rdE s (b + 1) = A := ⟨_, rfl⟩
  rw [hA] at hrd hX hbd
  obtain ⟨x, n, ok⟩ := A
  clear hA
  dsimp only at hrd hX hbd
  have fin : ∀ V : World, Box5 V w.heap.size → Below w.heap.size w V → True := fun _ _ _ => trivial
  cases ok with
  | false =>
    rw [if_neg (by simp)] at hX
    have HX := hide hX
    clear hX fin
    go_enter Tryd.func28, Tryd.ntmps28
    go_wp2_with fail
    obtain ⟨W0, hW0⟩ : ∃ W0, w.alloc (.cells #[.int .i64 0, .string ⟨#[]⟩, .int .i64 0, .int .i64 0, .int .i64 0] 29) = W0 := ⟨_, rfl⟩
    rw [hW0] at e1 X0 B0 ⊢
    clear hW0
    refine (unhide (hrd W0)).mono ?_
    rintro e V ⟨rfl, bv⟩
    have X1 := (unhide X0).below bv (by omega)
    have B1 := hide ((unhide B0).trans (bv.mono (by omega)))
    obtain ⟨⟨v0, q0⟩, ⟨v1, q1⟩, ⟨v2, q2⟩, ⟨v3, q3⟩, ⟨v4, q4⟩, f0, f1, f2, f3, f4⟩ := X1.facts
    clear X1 X0 B0 bv hrd
    go_wp2
    refine bodyPost_ret (v := .tuple #[wV 0 ⟨#[]⟩ 0 n 0, .int .i64 0, .int .i64 18]) ?_ rfl ⟨by rw [← unhide HX]; rfl, ?_⟩
    · simp [results, Tryd.f28, go_sem, wV, *]
    · exact (((((unhide B1).setCell (Nat.le_refl _) _).setCell (Nat.le_refl _) _).setCell (Nat.le_refl _) _).setCell (Nat.le_refl _) _).setCell (Nat.le_refl _) _
  | true =>
    by_cases hlt : n < s.size
    · have gi := by_get s n hlt
      have hew := fun W => hide (endsWord_in (by_ s n) W)
      have k1 : (n : Int) < (s.size : Int) := by omega
      have k2 : (0 : Int) ≤ (n : Int) := by omega
      cases hwe : isWe (by_ s n) with
      | false =>
        rw [hwe] at hew
        rw [if_neg (by rw [hwe]; intro h; have := h.2 hlt; simp at this)] at hX
        have HX := hide hX
        clear hX fin hwe
        go_enter Tryd.func28, Tryd.ntmps28
        go_wp2_with fail
        obtain ⟨W0, hW0⟩ : ∃ W0, w.alloc (.cells #[.int .i64 0, .string ⟨#[]⟩, .int .i64 0, .int .i64 0, .int .i64 0] 29) = W0 := ⟨_, rfl⟩
        rw [hW0] at e1 X0 B0 ⊢
        clear hW0
        refine (unhide (hrd W0)).mono ?_
        rintro e V ⟨rfl, bv⟩
        have X1 := (unhide X0).below bv (by omega)
        have B1 := hide ((unhide B0).trans (bv.mono (by omega)))
        obtain ⟨⟨v0, q0⟩, ⟨v1, q1⟩, ⟨v2, q2⟩, ⟨v3, q3⟩, ⟨v4, q4⟩, f0, f1, f2, f3, f4⟩ := X1.facts
        clear X1 X0 B0 bv hrd
        go_wp2_with fail
        refine (unhide (hew _)).mono ?_
        rintro e V' ⟨rfl, rfl⟩
        go_wp2
        refine bodyPost_ret (v := .tuple #[wV 0 ⟨#[]⟩ 0 n 0, .int .i64 0, .int .i64 18]) ?_ rfl ⟨by rw [← unhide HX]; rfl, ?_⟩
        · simp [results, Tryd.f28, go_sem, wV, *]
        · exact (((((unhide B1).setCell (Nat.le_refl _) _).setCell (Nat.le_refl _) _).setCell (Nat.le_refl _) _).setCell (Nat.le_refl _) _).setCell (Nat.le_refl _) _
      | true =>
        rw [hwe] at hew
        rw [if_pos ⟨rfl, fun _ => hwe⟩] at hX
        have HX := hide hX
        clear hX fin hwe
        go_enter Tryd.func28, Tryd.ntmps28
        go_wp2_with fail
        obtain ⟨W0, hW0⟩ : ∃ W0, w.alloc (.cells #[.int .i64 0, .string ⟨#[]⟩, .int .i64 0, .int .i64 0, .int .i64 0] 29) = W0 := ⟨_, rfl⟩
        rw [hW0] at e1 X0 B0 ⊢
        clear hW0
        refine (unhide (hrd W0)).mono ?_
        rintro e V ⟨rfl, bv⟩
        have X1 := (unhide X0).below bv (by omega)
        have B1 := hide ((unhide B0).trans (bv.mono (by omega)))
        obtain ⟨⟨v0, q0⟩, ⟨v1, q1⟩, ⟨v2, q2⟩, ⟨v3, q3⟩, ⟨v4, q4⟩, f0, f1, f2, f3, f4⟩ := X1.facts
        clear X1 X0 B0 bv hrd
        go_wp2_with fail
        refine (unhide (hew _)).mono ?_
        rintro e V' ⟨rfl, rfl⟩
        go_wp2
        refine bodyPost_ret (v := .tuple #[wV 2 (ofL x) 0 b 0, .int .i64 n, .int .i64 0]) ?_ rfl ⟨by rw [← unhide HX]; rfl, ?_⟩
        · simp [results, Tryd.f28, go_sem, wV, *]
        · exact (((((unhide B1).setCell (Nat.le_refl _) _).setCell (Nat.le_refl _) _).setCell (Nat.le_refl _) _).setCell (Nat.le_refl _) _).setCell (Nat.le_refl _) _
    · have k1 : ¬ (n : Int) < (s.size : Int) := by omega
      rw [if_pos ⟨rfl, fun h => absurd h hlt⟩] at hX
      have HX := hide hX
      clear hX fin
      go_enter Tryd.func28, Tryd.ntmps28
      go_wp2_with fail
      obtain ⟨W0, hW0⟩ : ∃ W0, w.alloc (.cells #[.int .i64 0, .string ⟨#[]⟩, .int .i64 0, .int .i64 0, .int .i64 0] 29) = W0 := ⟨_, rfl⟩
      rw [hW0] at e1 X0 B0 ⊢
      clear hW0
      refine (unhide (hrd W0)).mono ?_
      rintro e V ⟨rfl, bv⟩
      have X1 := (unhide X0).below bv (by omega)
      have B1 := hide ((unhide B0).trans (bv.mono (by omega)))
      obtain ⟨⟨v0, q0⟩, ⟨v1, q1⟩, ⟨v2, q2⟩, ⟨v3, q3⟩, ⟨v4, q4⟩, f0, f1, f2, f3, f4⟩ := X1.facts
      clear X1 X0 B0 bv hrd
      go_wp2
      refine bodyPost_ret (v := .tuple #[wV 2 (ofL x) 0 b 0, .int .i64 n, .int .i64 0]) ?_ rfl ⟨by rw [← unhide HX]; rfl, ?_⟩
      · simp [results, Tryd.f28, go_sem, wV, *]
      · exact (((((unhide B1).setCell (Nat.le_refl _) _).setCell (Nat.le_refl _) _).setCell (Nat.le_refl _) _).setCell (Nat.le_refl _) _).setCell (Nat.le_refl _) _

end Go.Proofs.YticjilkcobpcjaaDoor
