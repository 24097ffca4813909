/-
  The closure of ClumpAlls that goes through the clumps, and within itself at the second one.
-/
import Derived.Test.YtcagfapdhopmjaaAls
set_option linter.unusedSimpArgs false
set_option linter.unusedVariables false
namespace Go.Proofs.Ytcagfapdhopmjaa
open Go.RowKit Go.Lib Go.Shelf

/-- what lies ahead of the closures -/
structure EnvA (s : ByteArray) (stop : Int) (S B Bs I g cap B0 : Nat) (W : World) : Prop where
  st : Boxed W S 3 (.int .i64 stop)
  wa : Boxed W B 31 (.slice (some ⟨g, 0, none⟩) (cpL s).length cap)
  tx : Boxed W Bs 9 (.string s)
  it : Boxed W I 34 (.func (.func 36) #[] #[.pointer (some ⟨Bs, 0, none⟩)])
  row : W.ownsRow B0 9 1 (.slice (some ⟨g, 0, none⟩) (cpL s).length cap) (cpL s).length (cpC s (cpL s))

theorem EnvA.below {s : ByteArray} {stop : Int} {S B Bs I g cap B0 : Nat} {W W' : World} (h : EnvA s stop S B Bs I g cap B0 W) (hb : Below W.heap.size W W') : EnvA s stop S B Bs I g cap B0 W' :=
  ⟨boxed_below h.st hb, boxed_below h.wa hb, boxed_below h.tx hb, boxed_below h.it hb, owns_below h.row hb⟩

theorem st_cell {W : World} {B g cap : Nat} {s : ByteArray} {l : List (Nat × Nat)} (h : W.ownsRow B 9 1 (.slice (some ⟨g, 0, none⟩) l.length cap) l.length (cpC s l)) {k a b : Nat} (hk : l[k]? = some (a, b)) : W.cell? ⟨g, k, none⟩ = some (.string (s.extract a b)) := by
  have hlt : k < l.length := (List.getElem?_eq_some_iff.1 hk).1
  rw [h.cellAt k (by omega)]
  simp [cpC, hk]

theorem EnvA.cell {s : ByteArray} {stop : Int} {S B Bs I g cap B0 : Nat} {W : World} (h : EnvA s stop S B Bs I g cap B0 W) {pre rest : List (Nat × Nat)} {a b : Nat} (hp : pre ++ (a, b) :: rest = cpL s) : W.cell? ⟨g, pre.length, none⟩ = some (.string (s.extract a b)) := by
  refine st_cell h.row ?_
  rw [← hp]; simp

/-- the cells of the law, while the clumps come -/
def JA (W0 : World) (pre : List (Nat × Nat)) (W : World) : Prop :=
  (Below W0.heap.size W0 W ∧ Boxed W W0.heap.size 3 (.int .i64 (pre.length : Nat))) ∧ (Boxed W (W0.heap.size + 1) 3 (.int .i64 (atL pre : Nat)) ∧ Boxed W (W0.heap.size + 1 + 1) 4 (.bool true))

theorem JA_abides (W0 : World) : AbidesAll (W0.heap.size + 1 + 1 + 1) (W0.heap.size + 1 + 1 + 1 + 8) (JA W0) :=
  AbidesAll.and (AbidesAll.and (AbidesAll.below (Nat.le_refl _) (by omega)) (AbidesAll.boxed (.inl (by omega)) _ _)) (AbidesAll.and (AbidesAll.boxed (.inl (by omega)) _ _) (AbidesAll.boxed (.inl (by omega)) _ _))

set_option maxRecDepth 100000 in
set_option maxHeartbeats 4000000 in
/-- not at the second one -/
theorem alls1_other (s : ByteArray) (hs : s.size ≤ 1000000) (stop : Int) (S B Bs I g cap B0 : Nat) (W0 : World) (hE : EnvA s stop S B Bs I g cap B0 W0) (pre : List (Nat × Nat)) (c : Nat × Nat) (rest : List (Nat × Nat)) (W : World) (hpre : pre ++ c :: rest = cpL s) (hz : W0.heap.size + 1 + 1 + 1 + 8 ≤ W.heap.size) (hj : JA W0 pre W) (h1 : ¬ pre.length = 1) :
    Calls Try.prog 20 #[.int .i64 (c.1 : Nat), .string (s.extract c.1 c.2), .pointer (some ⟨W0.heap.size + 1 + 1, 0, none⟩), .pointer (some ⟨W0.heap.size, 0, none⟩), .pointer (some ⟨B, 0, none⟩), .pointer (some ⟨W0.heap.size + 1, 0, none⟩), .pointer (some ⟨I, 0, none⟩), .pointer (some ⟨S, 0, none⟩)] W fun e W' =>
      e = .returned (.bool true) ∧ JA W0 (pre ++ [c]) W' ∧ KO (W0.heap.size + 1 + 1 + 1) (W0.heap.size + 1 + 1 + 1 + 8) Bs W W' := by
  obtain ⟨⟨hB, hN⟩, hP, hO⟩ := hj
  obtain ⟨hat, hlt, hle, _, _⟩ := cp_at hpre
  have hlen : pre.length + 1 ≤ (cpL s).length := by rw [← hpre]; simp
  have hcl := cp_len s
  obtain ⟨a, b⟩ := c
  dsimp only at hat hlt hle ⊢
  have hEW := hE.below hB
  have hc := hEW.cell hpre
  have hsx := size_ext s a b hle
  have hBs : Bs < W0.heap.size := hE.tx.lt
  rw [← hat] at hP
  clear hat
  obtain ⟨n, hn⟩ : ∃ n, pre.length = n := ⟨_, rfl⟩
  rw [hn] at hN hc h1 hlen
  have cO := hO.cell
  have fO := hO.frozen
  have sO := set_same hO
  have cN := hN.cell
  have cB := hEW.wa.cell
  have cP := hP.cell
  have fP := hP.frozen
  have e8 : (a : Int) + ((s.extract a b).size : Int) = (b : Int) := by omega
  have e9 : (a : Int) + ((b - a : Nat) : Int) = (b : Int) := by omega
  have p1 := hP.set (.int .i64 (b : Nat))
  have p2 := hN.other (show W0.heap.size ≠ W0.heap.size + 1 by omega) (.int .i64 (b : Nat))
  have p3 := hO.other (show W0.heap.size + 1 + 1 ≠ W0.heap.size + 1 by omega) (.int .i64 (b : Nat))
  have pB := hB.setCell (p := ⟨W0.heap.size + 1, 0, none⟩) (show W0.heap.size ≤ W0.heap.size + 1 by omega) (.int .i64 (b : Nat))
  have pK : KO (W0.heap.size + 1 + 1 + 1) (W0.heap.size + 1 + 1 + 1 + 8) Bs W _ := KO.set hP (.inl (by omega)) (by omega) (.int .i64 (b : Nat))
  have c2 := p2.cell
  have f2 := p2.frozen
  have q1 := p1.other (show W0.heap.size + 1 ≠ W0.heap.size by omega) (.int .i64 ((n : Int) + 1))
  have q2 := p2.set (.int .i64 ((n : Int) + 1))
  have q3 := p3.other (show W0.heap.size + 1 + 1 ≠ W0.heap.size by omega) (.int .i64 ((n : Int) + 1))
  have qB := pB.setCell (p := ⟨W0.heap.size, 0, none⟩) (Nat.le_refl _) (.int .i64 ((n : Int) + 1))
  have qK := pK.trans (KO.set p2 (.inl (by omega)) (by omega) (.int .i64 ((n : Int) + 1)))
  have d2 := q2.cell
  have d3 := q3.cell
  have i1 : (n : Int) < ((cpL s).length : Int) := by omega
  have i2 : ¬ (n : Int) + 1 = 2 := by omega
  have i3 : ¬ (n : Int) = 1 := by omega
  have t3 : ((s.extract a b).toList == (s.extract a b).toList) = true := by simp
  clear pK pB p1 p3 hEW
  go_enter Try.func20, Try.ntmps20
  go_wp2
  go_ret
  refine ⟨rfl, ⟨⟨qB, ?_⟩, ?_, q3⟩, qK⟩
  · rw [List.length_append, hn]; exact q2
  · rw [atL_snoc]; exact q1

/-- within itself: how far the inner one has come -/
def JI (Wn : World) (q : List (Nat × Nat)) (X : World) : Prop := Below Wn.heap.size Wn X ∧ Boxed X Wn.heap.size 3 (.int .i64 (q.length : Nat))
theorem JI_abides (Wn : World) (B T : Nat) (h : Wn.heap.size < B) : AbidesAll B T (JI Wn) := AbidesAll.and (AbidesAll.below (Nat.le_refl _) (by omega)) (AbidesAll.boxed (.inl h) _ _)
def JX (Wn : World) (stop : Int) (q : List (Nat × Nat)) (X : World) : Prop := JI Wn q X ∧ (q.length : Int) = stop
theorem JX_abides (Wn : World) (stop : Int) (B T : Nat) (h : Wn.heap.size < B) : AbidesAll B T (JX Wn stop) := AbidesAll.and (JI_abides Wn B T h) (AbidesAll.pure _ _ fun q : List (Nat × Nat) => (q.length : Int) = stop)

theorem inner_in (s : ByteArray) (hs : s.size ≤ 1000000) (stop : Int) (S B Bs I g cap B0 O : Nat) (Wn : World) (hE : EnvA s stop S B Bs I g cap B0 Wn) (hO : Boxed Wn O 4 (.bool true)) :
    Calls Try.prog 36 #[.func (.func 21) #[] #[.pointer (some ⟨O, 0, none⟩), .pointer (some ⟨Wn.heap.size, 0, none⟩), .pointer (some ⟨B, 0, none⟩), .pointer (some ⟨S, 0, none⟩)], .pointer (some ⟨Bs, 0, none⟩)] (Wn.alloc (.cells #[.int .i64 0] 3)) fun e W' =>
      e = .returned (.tuple #[]) ∧ ∃ k : Nat, k ≤ (cpL s).length ∧ (k = (cpL s).length ∨ (k : Int) = stop) ∧ Boxed W' Wn.heap.size 3 (.int .i64 (k : Nat)) ∧ Below Wn.heap.size Wn W' := by
  have hz : (Wn.alloc (.cells #[.int .i64 0] 3)).heap.size = Wn.heap.size + 1 := by simp
  have hcl := cp_len s
  have hal : Below Wn.heap.size Wn (Wn.alloc (.cells #[.int .i64 0] 3)) := (Below.refl _ Wn).alloc (Nat.le_refl _) _
  refine (call_clo 21 #[.pointer (some ⟨O, 0, none⟩), .pointer (some ⟨Wn.heap.size, 0, none⟩), .pointer (some ⟨B, 0, none⟩), .pointer (some ⟨S, 0, none⟩)] Bs s (by omega) (JI Wn) (JX Wn stop) _ (JI_abides _ _ _ (by omega)) (JX_abides _ _ _ _ (by omega)) (enters_of Try.func21 (by kernel_rfl) rfl) (boxed_below hE.tx hal) ?_ ⟨hal, Boxed.new _ _ _⟩).mono ?_
  · rintro q ⟨a, b⟩ rest X hq hzX ⟨hbX, hkX⟩
    have hEX := hE.below hbX
    have hlen : q.length < (cpL s).length := by rw [← hq]; simp
    obtain ⟨hat, _, _, _, _⟩ := cp_at hq
    have hOK : O ≠ Wn.heap.size := by have := hO.lt; omega
    have hSK : S ≠ Wn.heap.size := by have := hE.st.lt; omega
    refine (alls11_in (a : Int) (s.extract a b) O Wn.heap.size B S g (cpL s).length cap q.length stop X (boxed_below hO hbX) hkX hEX.wa hEX.st (hEX.cell hq) hlen (by omega) ?_ hOK hSK).mono ?_
    · intro h0
      have : q = [] := List.length_eq_zero_iff.1 h0
      rw [this] at hat
      have : a = 0 := hat
      omega
    · rintro e X' ⟨rfl, rfl⟩
      have hji : JI Wn (q ++ [(a, b)]) (X.setCell ⟨Wn.heap.size, 0, none⟩ (.int .i64 ((q.length + 1 : Nat) : Int))) := ⟨hbX.setCell (p := ⟨Wn.heap.size, 0, none⟩) (Nat.le_refl _) _, by rw [List.length_append]; exact hkX.set _⟩
      refine ⟨_, rfl, ?_, KO.set hkX (.inl (by omega)) (by have := hE.tx.lt; omega) _⟩
      by_cases h : ((q.length + 1 : Nat) : Int) = stop
      · rw [if_neg (by simp [h])]
        exact ⟨hji, by rw [List.length_append]; exact h⟩
      · rw [if_pos (by simpa using h)]
        exact hji
  · rintro e W' ⟨rfl, ⟨h1, h2⟩ | ⟨q, rest, hq, ⟨h1, h2⟩, h3⟩⟩
    · exact ⟨rfl, _, Nat.le_refl _, .inl rfl, h2, h1⟩
    · exact ⟨rfl, q.length, by rw [← hq]; simp, .inr h3, h2, h1⟩

set_option maxRecDepth 100000 in
set_option maxHeartbeats 4000000 in
/-- at the second one -/
theorem alls1_two (s : ByteArray) (hs : s.size ≤ 1000000) (stop : Int) (S B Bs I g cap B0 : Nat) (W0 : World) (hE : EnvA s stop S B Bs I g cap B0 W0) (pre : List (Nat × Nat)) (c : Nat × Nat) (rest : List (Nat × Nat)) (W : World) (hpre : pre ++ c :: rest = cpL s) (hz : W0.heap.size + 1 + 1 + 1 + 8 ≤ W.heap.size) (hj : JA W0 pre W) (h1 : pre.length = 1) :
    Calls Try.prog 20 #[.int .i64 (c.1 : Nat), .string (s.extract c.1 c.2), .pointer (some ⟨W0.heap.size + 1 + 1, 0, none⟩), .pointer (some ⟨W0.heap.size, 0, none⟩), .pointer (some ⟨B, 0, none⟩), .pointer (some ⟨W0.heap.size + 1, 0, none⟩), .pointer (some ⟨I, 0, none⟩), .pointer (some ⟨S, 0, none⟩)] W fun e W' =>
      e = .returned (.bool true) ∧ JA W0 (pre ++ [c]) W' ∧ KO (W0.heap.size + 1 + 1 + 1) (W0.heap.size + 1 + 1 + 1 + 8) Bs W W' := by
  obtain ⟨⟨hB, hN0⟩, hP, hO⟩ := hj
  obtain ⟨hat, hlt, hle, _, _⟩ := cp_at hpre
  have hlen : pre.length + 1 ≤ (cpL s).length := by rw [← hpre]; simp
  have hcl := cp_len s
  obtain ⟨a, b⟩ := c
  dsimp only at hat hlt hle ⊢
  have hEW := hE.below hB
  have hc := hEW.cell hpre
  have hsx := size_ext s a b hle
  have hBs : Bs < W0.heap.size := hE.tx.lt
  rw [← hat] at hP
  clear hat
  rw [h1] at hc hlen hN0
  have hN : Boxed W W0.heap.size 3 (.int .i64 1) := hN0
  have cO := hO.cell
  have fO := hO.frozen
  have sO := set_same hO
  have cN := hN.cell
  have cB := hEW.wa.cell
  have cP := hP.cell
  have fP := hP.frozen
  have e8 : (a : Int) + ((s.extract a b).size : Int) = (b : Int) := by omega
  have e9 : (a : Int) + ((b - a : Nat) : Int) = (b : Int) := by omega
  have p1 := hP.set (.int .i64 (b : Nat))
  have p2 := hN.other (show W0.heap.size ≠ W0.heap.size + 1 by omega) (.int .i64 (b : Nat))
  have p3 := hO.other (show W0.heap.size + 1 + 1 ≠ W0.heap.size + 1 by omega) (.int .i64 (b : Nat))
  have pB := hB.setCell (p := ⟨W0.heap.size + 1, 0, none⟩) (show W0.heap.size ≤ W0.heap.size + 1 by omega) (.int .i64 (b : Nat))
  have pK : KO (W0.heap.size + 1 + 1 + 1) (W0.heap.size + 1 + 1 + 1 + 8) Bs W _ := KO.set hP (.inl (by omega)) (by omega) (.int .i64 (b : Nat))
  have c2 := p2.cell
  have f2 := p2.frozen
  have q1 := p1.other (show W0.heap.size + 1 ≠ W0.heap.size by omega) (.int .i64 2)
  have q2 := p2.set (.int .i64 2)
  have q3 := p3.other (show W0.heap.size + 1 + 1 ≠ W0.heap.size by omega) (.int .i64 2)
  have qB := pB.setCell (p := ⟨W0.heap.size, 0, none⟩) (Nat.le_refl _) (.int .i64 2)
  have qK := pK.trans (KO.set p2 (.inl (by omega)) (by omega) (.int .i64 2))
  have d2 := q2.cell
  have d3 := q3.cell
  have hEn := hE.below qB
  have d4 := (hEn.it.alloc (.cells #[.int .i64 0] 3)).cell
  have i1 : (1 : Int) < ((cpL s).length : Int) := by omega
  have t3 : ((s.extract a b).toList == (s.extract a b).toList) = true := by simp
  have hzn : ((W.setCell ⟨W0.heap.size + 1, 0, none⟩ (.int .i64 (b : Nat))).setCell ⟨W0.heap.size, 0, none⟩ (.int .i64 2)).heap.size = W.heap.size := by simp
  clear pK pB p1 p3 hEW hN0
  go_enter Try.func20, Try.ntmps20
  go_wp2_with fail
  have hin := inner_in s hs stop S B Bs I g cap B0 (W0.heap.size + 1 + 1) _ hEn q3
  rw [hzn] at hin
  refine hin.mono ?_
  rintro e W6 ⟨rfl, k, hkL, hk, hk6, hb6⟩
  have hb7 : Below ((W.setCell ⟨W0.heap.size + 1, 0, none⟩ (.int .i64 (b : Nat))).setCell ⟨W0.heap.size, 0, none⟩ (.int .i64 2)).heap.size ((W.setCell ⟨W0.heap.size + 1, 0, none⟩ (.int .i64 (b : Nat))).setCell ⟨W0.heap.size, 0, none⟩ (.int .i64 2)) W6 := by rw [hzn]; exact hb6
  have hB6 : Below W0.heap.size W0 W6 := qB.trans (hb7.mono qB.size)
  have hE6 := hE.below hB6
  have r1 := boxed_below q1 hb7
  have r2 := boxed_below q2 hb7
  have r3 := boxed_below q3 hb7
  have k6 := qK.trans (KO.of_below hb7)
  have c7 := r3.cell
  have f7 := r3.frozen
  have s7 := set_same r3
  have c8 := hk6.cell
  have c9 := hE6.wa.cell
  have c10 := hE6.st.cell
  have res : JA W0 (pre ++ [(a, b)]) W6 := ⟨⟨hB6, by rw [List.length_append, h1]; exact r2⟩, by rw [atL_snoc]; exact r1, r3⟩
  clear hb6 hb7 hin q1 q2 q3 qB qK hE6 cO fO sO cN cB cP fP c2 f2 d2 d3 d4 hzn hEn r1 r2 r3 hpre hc
  by_cases hkl : k = (cpL s).length
  · subst hkl
    clear hk
    go_wp2
    go_ret
    exact ⟨rfl, res, k6⟩
  · have hks : (k : Int) = stop := hk.resolve_left hkl
    subst hks
    have j1 : ¬ (k : Int) = ((cpL s).length : Int) := by omega
    clear hk
    go_wp2
    go_ret
    exact ⟨rfl, res, k6⟩

/-- the closure -/
theorem alls1_in (s : ByteArray) (hs : s.size ≤ 1000000) (stop : Int) (S B Bs I g cap B0 : Nat) (W0 : World) (hE : EnvA s stop S B Bs I g cap B0 W0) (pre : List (Nat × Nat)) (c : Nat × Nat) (rest : List (Nat × Nat)) (W : World) (hpre : pre ++ c :: rest = cpL s) (hz : W0.heap.size + 1 + 1 + 1 + 8 ≤ W.heap.size) (hj : JA W0 pre W) :
    Calls Try.prog 20 #[.int .i64 (c.1 : Nat), .string (s.extract c.1 c.2), .pointer (some ⟨W0.heap.size + 1 + 1, 0, none⟩), .pointer (some ⟨W0.heap.size, 0, none⟩), .pointer (some ⟨B, 0, none⟩), .pointer (some ⟨W0.heap.size + 1, 0, none⟩), .pointer (some ⟨I, 0, none⟩), .pointer (some ⟨S, 0, none⟩)] W fun e W' =>
      e = .returned (.bool true) ∧ JA W0 (pre ++ [c]) W' ∧ KO (W0.heap.size + 1 + 1 + 1) (W0.heap.size + 1 + 1 + 1 + 8) Bs W W' := by
  by_cases h1 : pre.length = 1
  · exact alls1_two s hs stop S B Bs I g cap B0 W0 hE pre c rest W hpre hz hj h1
  · exact alls1_other s hs stop S B Bs I g cap B0 W0 hE pre c rest W hpre hz hj h1

end Go.Proofs.Ytcagfapdhopmjaa
