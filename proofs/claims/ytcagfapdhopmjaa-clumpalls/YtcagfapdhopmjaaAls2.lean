/-
  ClumpAlls' three calls of the iterator.
-/
import Derived.Test.YtcagfapdhopmjaaAls1
set_option linter.unusedSimpArgs false
set_option linter.unusedVariables false
namespace Go.Proofs.Ytcagfapdhopmjaa
open Go.RowKit Go.Lib Go.Shelf

/-- what lies ahead of the closures, be there clumps or none -/
structure EnvM (s : ByteArray) (stop : Int) (S B Bs I : Nat) (x : Option Addr) (cap B0 : Nat) (W : World) : Prop where
  st : Boxed W S 3 (.int .i64 stop)
  wa : Boxed W B 31 (.slice x (cpL s).length cap)
  tx : Boxed W Bs 9 (.string s)
  it : Boxed W I 34 (.func (.func 36) #[] #[.pointer (some ⟨Bs, 0, none⟩)])
  row : W.ownsRow B0 9 1 (.slice x (cpL s).length cap) (cpL s).length (cpC s (cpL s))
theorem EnvM.below {s : ByteArray} {stop : Int} {S B Bs I cap B0 : Nat} {x : Option Addr} {W W' : World} (h : EnvM s stop S B Bs I x cap B0 W) (hb : Below W.heap.size W W') : EnvM s stop S B Bs I x cap B0 W' :=
  ⟨boxed_below h.st hb, boxed_below h.wa hb, boxed_below h.tx hb, boxed_below h.it hb, owns_below h.row hb⟩

theorem outer_in (s : ByteArray) (hs : s.size ≤ 1000000) (stop : Int) (S B Bs I : Nat) (x : Option Addr) (cap B0 : Nat) (W0 : World) (hE : EnvM s stop S B Bs I x cap B0 W0) :
    Calls Try.prog 36 #[.func (.func 20) #[] #[.pointer (some ⟨W0.heap.size + 1 + 1, 0, none⟩), .pointer (some ⟨W0.heap.size, 0, none⟩), .pointer (some ⟨B, 0, none⟩), .pointer (some ⟨W0.heap.size + 1, 0, none⟩), .pointer (some ⟨I, 0, none⟩), .pointer (some ⟨S, 0, none⟩)], .pointer (some ⟨Bs, 0, none⟩)]
      (((W0.alloc (.cells #[.int .i64 0] 3)).alloc (.cells #[.int .i64 0] 3)).alloc (.cells #[.bool true] 4)) fun e W' => e = .returned (.tuple #[]) ∧ JA W0 (cpL s) W' := by
  have b0 := Boxed.new W0 3 (.int .i64 0)
  have b1 := Boxed.new (W0.alloc (.cells #[.int .i64 0] 3)) 3 (.int .i64 0)
  have b2 := Boxed.new ((W0.alloc (.cells #[.int .i64 0] 3)).alloc (.cells #[.int .i64 0] 3)) 4 (.bool true)
  simp only [World.size_alloc] at b1 b2
  have hB0 : Below W0.heap.size W0 (((W0.alloc (.cells #[.int .i64 0] 3)).alloc (.cells #[.int .i64 0] 3)).alloc (.cells #[.bool true] 4)) := (((Below.refl _ W0).alloc (Nat.le_refl _) _).alloc (by simp) _).alloc (by simp; omega) _
  have hz : (((W0.alloc (.cells #[.int .i64 0] 3)).alloc (.cells #[.int .i64 0] 3)).alloc (.cells #[.bool true] 4)).heap.size = W0.heap.size + 1 + 1 + 1 := by simp
  have hj0 : JA W0 [] (((W0.alloc (.cells #[.int .i64 0] 3)).alloc (.cells #[.int .i64 0] 3)).alloc (.cells #[.bool true] 4)) := ⟨⟨hB0, (b0.alloc _).alloc _⟩, b1.alloc _, b2⟩
  generalize (((W0.alloc (.cells #[.int .i64 0] 3)).alloc (.cells #[.int .i64 0] 3)).alloc (.cells #[.bool true] 4)) = W3 at *
  refine (call_clo 20 #[.pointer (some ⟨W0.heap.size + 1 + 1, 0, none⟩), .pointer (some ⟨W0.heap.size, 0, none⟩), .pointer (some ⟨B, 0, none⟩), .pointer (some ⟨W0.heap.size + 1, 0, none⟩), .pointer (some ⟨I, 0, none⟩), .pointer (some ⟨S, 0, none⟩)] Bs s (by omega) (JA W0) (fun _ _ => False) W3
    (by rw [hz]; exact JA_abides W0) (fun _ _ _ _ h _ _ => h) (enters_of Try.func20 (by kernel_rfl) rfl) (boxed_below hE.tx hB0) ?_ hj0).mono ?_
  · intro pre c rest W1 hp hz1 hj
    have hpos : 0 < (cpL s).length := by rw [← hp]; simp; omega
    obtain ⟨g, rfl⟩ := owns_some hE.row hpos
    exact (alls1_in s hs stop S B Bs I g cap B0 W0 ⟨hE.st, hE.wa, hE.tx, hE.it, hE.row⟩ pre c rest W1 hp (by omega) hj).mono (fun e W' ⟨he, h1, h2⟩ => ⟨true, he, by rw [if_pos rfl]; exact h1, by rw [hz]; exact h2⟩)
  · rintro e W' ⟨rfl, h | ⟨_, _, _, h⟩⟩
    · exact ⟨rfl, h⟩
    · exact h.elim

theorem lastcall_in (s : ByteArray) (hs : s.size ≤ 1000000) (stop : Int) (S B Bs I : Nat) (x : Option Addr) (cap B0 : Nat) (Wn : World) (hE : EnvM s stop S B Bs I x cap B0 Wn) :
    Calls Try.prog 36 #[.func (.func 22) #[] #[.pointer (some ⟨Wn.heap.size, 0, none⟩), .pointer (some ⟨S, 0, none⟩)], .pointer (some ⟨Bs, 0, none⟩)] (Wn.alloc (.cells #[.int .i64 0] 3)) fun e W' =>
      e = .returned (.tuple #[]) ∧ ∃ k : Nat, k ≤ (cpL s).length ∧ (k = (cpL s).length ∨ (k : Int) = stop) ∧ Boxed W' Wn.heap.size 3 (.int .i64 (k : Nat)) ∧ Below Wn.heap.size Wn W' := by
  have hz : (Wn.alloc (.cells #[.int .i64 0] 3)).heap.size = Wn.heap.size + 1 := by simp
  have hcl := cp_len s
  have hal : Below Wn.heap.size Wn (Wn.alloc (.cells #[.int .i64 0] 3)) := (Below.refl _ Wn).alloc (Nat.le_refl _) _
  refine (call_clo 22 #[.pointer (some ⟨Wn.heap.size, 0, none⟩), .pointer (some ⟨S, 0, none⟩)] Bs s (by omega) (JI Wn) (JX Wn stop) _ (JI_abides _ _ _ (by omega)) (JX_abides _ _ _ _ (by omega)) (enters_of Try.func22 (by kernel_rfl) rfl) (boxed_below hE.tx hal) ?_ ⟨hal, Boxed.new _ _ _⟩).mono ?_
  · rintro q ⟨a, b⟩ rest X hq hzX ⟨hbX, hkX⟩
    have hlen : q.length < (cpL s).length := by rw [← hq]; simp
    have hSK : S ≠ Wn.heap.size := by have := hE.st.lt; omega
    refine (alls2_in (a : Int) (s.extract a b) Wn.heap.size S q.length stop X hkX (boxed_below hE.st hbX) hSK (by omega)).mono ?_
    rintro e X' ⟨rfl, rfl⟩
    have hji : JI Wn (q ++ [(a, b)]) (X.setCell ⟨Wn.heap.size, 0, none⟩ (.int .i64 ((q.length + 1 : Nat) : Int))) := ⟨hbX.setCell (p := ⟨Wn.heap.size, 0, none⟩) (Nat.le_refl _) _, by rw [List.length_append]; exact hkX.set _⟩
    refine ⟨_, rfl, ?_, KO.set hkX (.inl (by omega)) (by have := hE.tx.lt; omega) _⟩
    by_cases h : ((q.length + 1 : Nat) : Int) = stop
    · rw [if_neg (by simp [h])]
      exact ⟨hji, by rw [List.length_append]; exact h⟩
    · rw [if_pos (by simpa using h)]
      exact hji
  · rintro e W' ⟨rfl, ⟨h1, h2⟩ | ⟨q, rest, hq, ⟨h1, h2⟩, h3⟩⟩
    · exact ⟨rfl, _, Nat.le_refl _, .inl rfl, h2, h1⟩
    · exact ⟨rfl, q.length, by rw [← hq]; simp, .inr h3, h2, h1⟩

end Go.Proofs.Ytcagfapdhopmjaa
