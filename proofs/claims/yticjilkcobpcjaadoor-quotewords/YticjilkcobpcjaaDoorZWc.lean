/-
  QuoteWords' closure: each word is the next one of the row.
-/
import Derived.Test.YticjilkcobpcjaaDoorZWr
import Derived.Test.YticjilkcobpcjaaDoorZSr4
import Derived.Deep.RegionLaw
import Derived.Deep.RegionWith
import Derived.BigRegion
set_option linter.unusedSimpArgs false
set_option linter.unusedVariables false
namespace Go.Proofs.YticjilkcobpcjaaDoor
open Go.RowKit Go.Lib

/-- what the closure has: the number, whether all is well, the row -/
structure RW (W : World) (N z n : Nat) (a : Option Addr) (c : Nat) (l : List It) : Prop where
  n_ : Bq W z 3 #[.int .i64 (n : Int)]
  y : Bq W (z + 1) 4 #[.bool true]
  w_ : Bq W N 36 #[.slice a l.length c]
  lN : N < z
  r : ∀ j v, (flat encW l)[j]? = some v → ∃ g, g < z ∧ a = some ⟨g, 0, none⟩ ∧ W.cell? ⟨g, j, none⟩ = some v
theorem RW.keep {W W' : World} {N z n c : Nat} {a : Option Addr} {l : List It} {B : Nat} (h : RW W N z n a c l) (hb : Below B W W') (hl : z + 1 < B) : RW W' N z n a c l :=
  ⟨h.n_.keep hb (by omega), h.y.keep hb hl, h.w_.keep hb (by have := h.lN; omega), h.lN, fun j v hv => by
    obtain ⟨g, h1, h2, h3⟩ := h.r j v hv
    exact ⟨g, h1, h2, by rw [← h3]; unfold World.cell?; rw [hb.block _ (show g < B by omega)]⟩⟩
theorem RW.up {W : World} {N z n c : Nat} {a : Option Addr} {l : List It} (h : RW W N z n a c l) (m : Nat) : RW (W.setCell ⟨z, 0, none⟩ (.int .i64 (m : Int))) N z m a c l :=
  ⟨h.n_.set _, h.y.setO _ (by simp) _, h.w_.setO _ (by have := h.lN; simp; omega) _, h.lN, fun j v hv => by
    obtain ⟨g, h1, h2, h3⟩ := h.r j v hv
    refine ⟨g, h1, h2, ?_⟩
    rw [← h3]
    unfold World.cell?
    rw [Below.heap_setCell _ _ _ g (by simp; omega)]⟩

set_option maxRecDepth 100000 in
set_option maxHeartbeats 8000000 in
theorem words_in (W : World) (N z n c L : Nat) (a : Option Addr) (l : List It) (x : It) (hx : l[n]? = some x) (hL : l.length = L) (hL2 : L ≤ 1000) (he : x.w.e = 0) (h : RW W N z n a c l) :
    Calls Tryd.prog 18 (x.args ++ #[.pointer (some ⟨z + 1, 0, none⟩), .pointer (some ⟨z, 0, none⟩), .pointer (some ⟨N, 0, none⟩)]) W fun e W' => e = .returned (.bool true) ∧ RW W' N z (n + 1) a c l ∧ Kp (fun i => i = z) W W' := by
  obtain ⟨⟨k, t, m, at', nx, e⟩, ln⟩ := x
  simp only at he
  subst he
  have hn := (List.getElem?_eq_some_iff.1 hx).1
  rw [hL] at hn
  obtain ⟨X0, hX0⟩ : ∃ X0, W.alloc (.cells #[.int .i64 (k : Int), .string t, .int .i64 m, .int .i64 (at' : Int), .int .i64 (ln : Int)] 29) = X0 := ⟨_, rfl⟩
  have b0 : Below W.heap.size W X0 := by rw [← hX0]; exact (Below.refl _ _).alloc (Nat.le_refl _) _
  have B0 : Bq X0 W.heap.size 29 #[.int .i64 (k : Int), .string t, .int .i64 m, .int .i64 (at' : Int), .int .i64 (ln : Int)] := by rw [← hX0]; exact Bq.new _ _ _
  have hz := h.y.lt
  have R0 := h.keep b0 hz
  have f := fun q (hq : q < 5) v (hv : (encW ⟨⟨k, t, m, at', nx, 0⟩, ln⟩)[q]? = some v) => R0.r (n * 5 + q) v ((flat_get encW_len l n q _ hx hq).trans hv)
  obtain ⟨g, hg, hga, c0⟩ := f 0 (by omega) _ rfl
  subst hga
  have f' : ∀ q (hq : q < 5) v (hv : (encW ⟨⟨k, t, m, at', nx, 0⟩, ln⟩)[q]? = some v), X0.cell? ⟨g, n * 5 + q, none⟩ = some v := fun q hq v hv => by
    obtain ⟨g', _, h2, h3⟩ := f q hq v hv
    cases h2
    exact h3
  have c0 : X0.cell? ⟨g, n * 5, none⟩ = some (.int .i64 (k : Int)) := f' 0 (by omega) _ rfl
  have c1 : X0.cell? ⟨g, n * 5 + 1, none⟩ = some (.string t) := f' 1 (by omega) _ rfl
  have c2 : X0.cell? ⟨g, n * 5 + 2, none⟩ = some (.int .i64 m) := f' 2 (by omega) _ rfl
  have c3 : X0.cell? ⟨g, n * 5 + 3, none⟩ = some (.int .i64 (at' : Int)) := f' 3 (by omega) _ rfl
  have c4 : X0.cell? ⟨g, n * 5 + 4, none⟩ = some (.int .i64 (ln : Int)) := f' 4 (by omega) _ rfl
  have y0 := R0.y.cell 0 _ rfl
  have n0 := R0.n_.cell 0 _ rfl
  have v0 : X0.cell? ⟨N, 0, none⟩ = some (.slice (some ⟨g, 0, none⟩) L c) := by have := R0.w_.cell 0 _ rfl; rw [hL] at this; exact this
  have fy := R0.y.frozen 0
  have fn := R0.n_.frozen 0
  have ey := R0.y.same
  have w0 := B0.cell 0 _ rfl
  have w1 := B0.cell 1 _ rfl
  have w2 := B0.cell 2 _ rfl
  have w3 := B0.cell 3 _ rfl
  have w4 := B0.cell 4 _ rfl
  obtain ⟨X1, hX1⟩ : ∃ X1, X0.setCell ⟨z, 0, none⟩ (.int .i64 ((n : Int) + 1)) = X1 := ⟨_, rfl⟩
  have R1 : RW X1 N z (n + 1) (some ⟨g, 0, none⟩) c l := by rw [← hX1]; exact R0.up (n + 1)
  have HF : Hid (RW X1 N z (n + 1) (some ⟨g, 0, none⟩) c l ∧ Kp (fun i => i = z) W X1) := hide ⟨R1, by rw [← hX1]; exact (Kp.of_below b0).trans (Kp.set (N := fun i => i = z) X0 _ _ rfl) (fun i hi => .inl hi)⟩
  have y1 := R1.y.cell 0 _ rfl
  have hz1 := R1.y.lt
  change Calls Tryd.prog 18 #[.agg #[.int .i64 (k : Int), .string t, .int .i64 m, .int .i64 (at' : Int), .int .i64 (ln : Int)], .int .i64 0, .pointer (some ⟨z + 1, 0, none⟩), .pointer (some ⟨z, 0, none⟩), .pointer (some ⟨N, 0, none⟩)] W _
  have d1 : (n : Int) < (L : Int) := by omega
  have d2 : decide ((n : Int) < (L : Int)) = true := decide_eq_true d1
  have t4 : (t.toList == t.toList) = true := by simp
  have HFz := hide (And.intro hz hz1)
  clear h b0 B0 R0 R1 f f' hx hL hz hz1 hg
  go_enter Tryd.func18, Tryd.ntmps18
  go_upto_region 1 with fail
  go_region
  go_wp2
  go_ret
  exact ⟨rfl, (unhide HF).1.keep (Below.refl _ _).drew (unhide HFz).2, (unhide HF).2.trans (Kp.of_below (N := fun i => i = z) (Below.refl _ _).drew) (fun i hi => .inl hi)⟩

/-- the scanner, with that closure: all words -/
theorem scan_words (s : ByteArray) (hs : s.size ≤ 20000000) (N z bs c : Nat) (a : Option Addr) (w W : World) (hlen : (scL s).length ≤ 1000) (hE : ∀ x ∈ scL s, x.w.e = 0) (hw : Below w.heap.size w W) (hN : w.heap.size ≤ N) (hbs : z + 1 < bs) (h : RW W N z 0 a c (scL s)) (hx : Bq W bs 9 #[.string s]) (hL : Lw w) :
    Calls Tryd.prog 24 #[.func (.func 18) #[] #[.pointer (some ⟨z + 1, 0, none⟩), .pointer (some ⟨z, 0, none⟩), .pointer (some ⟨N, 0, none⟩)], .pointer (some ⟨bs, 0, none⟩)] W fun e W' => e = .returned (.tuple #[]) ∧ RW W' N z (scL s).length a c (scL s) ∧ Below w.heap.size w W' := by
  have hbl := hx.lt
  have hwz := hw.size
  have hNz := h.lN
  refine (Sn.scan_clo 18 #[.pointer (some ⟨z + 1, 0, none⟩), .pointer (some ⟨z, 0, none⟩), .pointer (some ⟨N, 0, none⟩)] bs s (by omega)
    (fun pre W1 => RW W1 N z pre.length a c (scL s) ∧ Bq W1 bs 9 #[.string s] ∧ Below w.heap.size w W1 ∧ W.heap.size ≤ W1.heap.size) (fun _ _ => False) W (enters_of Tryd.func18 (by kernel_rfl) rfl) ?_ ?_ ?_ ⟨h, hx, hw, Nat.le_refl _⟩).mono ?_
  · rintro pre W1 ⟨_, h2, h3, _⟩
    exact ⟨h2.cell 0 _ rfl, hL.below h3⟩
  · rintro pre W1 W2 ⟨h1, h2, h3, h4⟩ hb2
    exact ⟨h1.keep hb2 (by omega), h2.keep hb2 hbl, ⟨hb2.os.trans h3.os, hb2.tape.trans h3.tape, hb2.output.trans h3.output, Nat.le_trans h3.size hb2.size, fun i hi => (hb2.block i (by omega)).trans (h3.block i hi)⟩, Nat.le_trans h4 hb2.size⟩
  · rintro pre x rest W1 hpre hsz ⟨h1, h2, h3, h4⟩
    have hat : (scL s)[pre.length]? = some x := by rw [← hpre]; simp
    refine (words_in W1 N z pre.length c _ a (scL s) x hat rfl hlen (hE x (by rw [← hpre]; simp)) h1).mono ?_
    rintro e W' ⟨rfl, hr, hk⟩
    have hz := hk.size
    refine ⟨true, rfl, ?_, hz, hk.block _ hsz (by omega)⟩
    show RW W' N z (pre ++ [x]).length a c (scL s) ∧ _
    rw [List.length_append]
    exact ⟨hr, (hk.block bs h2.lt (by omega)).trans h2, hk.below h3 (fun i hi => by omega), Nat.le_trans h4 hz⟩
  · rintro e W' ⟨rfl, h | ⟨_, _, _, h⟩⟩
    · exact ⟨rfl, h.1, h.2.2.1⟩
    · exact h.elim

end Go.Proofs.YticjilkcobpcjaaDoor
