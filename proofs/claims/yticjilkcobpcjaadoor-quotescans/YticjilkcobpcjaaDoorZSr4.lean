/-
  The law's closure, of whatever word; the scanner that is handed it.
-/
import Derived.Test.YticjilkcobpcjaaDoorZXSr
import Derived.Test.YticjilkcobpcjaaDoorZSn
set_option linter.unusedSimpArgs false
set_option linter.unusedVariables false
namespace Go.Proofs.YticjilkcobpcjaaDoor
open Go.RowKit Go.Lib

theorem rises_in (W : World) (b : Nat) (s : ByteArray) (hs : s.size ≤ 20000) (st : Rs) (x : It) (h : RB W b s st) (ho : RsOk s st x) :
    Calls Tryd.prog 19 (x.args ++ #[.pointer (some ⟨b + 5, 0, none⟩), .pointer (some ⟨b + 4, 0, none⟩), .pointer (some ⟨b + 2, 0, none⟩), .pointer (some ⟨b, 0, none⟩), .pointer (some ⟨b + 1, 0, none⟩), .pointer (some ⟨b + 3, 0, none⟩)]) W (RsA b s (st.next x) W) := by
  obtain ⟨sa, sl, sk, so⟩ := st
  obtain ⟨⟨k, t, n, a, nx, e⟩, ln⟩ := x
  have hov : so = false := ho.ov
  subst hov
  have h1 : sl ≤ ln := ho.ln
  have h3 : sa < (a : Int) := ho.a
  have hw := ho.ok
  have h2 : a ≤ s.size := hw.hi
  by_cases he : e = 0
  · subst he
    have h4 : sk = 4 → k ≠ 4 ∧ (sa < 0 ∨ sl < ln) := ho.k4 rfl
    have h5 : sk ≠ 4 → ln = sl := ho.kn rfl
    have hk : 1 ≤ k ∧ k ≤ 4 := hw.k1 rfl
    have hn : k ≠ 3 → n = 0 := hw.n0 rfl
    have ht : k ≠ 1 → k ≠ 2 → t = ⟨#[]⟩ := hw.t0 rfl
    have hp : k = 1 → 0 < t.size ∧ a + t.size ≤ s.size ∧ s.extract a (a + t.size) = t ∧ nx = a + t.size := hw.pl rfl
    obtain rfl | rfl | rfl | rfl : k = 1 ∨ k = 2 ∨ k = 3 ∨ k = 4 := by omega
    · obtain rfl := hn (by decide)
      obtain ⟨p1, p2, p3, _⟩ := hp rfl
      exact rises_pl W b s hs sa sl sk h t a ln t.size rfl p1 p2 p3 h1 h3 (fun q => (h4 q).2) h5
    · obtain rfl := hn (by decide)
      exact rises_wd2 W b s hs sa sl sk h t a ln h1 h2 h3 (fun q => (h4 q).2) h5
    · obtain rfl := ht (by decide) (by decide)
      exact rises_wd3 W b s hs sa sl sk h n a ln h1 h2 h3 (fun q => (h4 q).2) h5
    · obtain rfl := hn (by decide)
      obtain rfl := ht (by decide) (by decide)
      exact rises_wd4 W b s hs sa sl sk h a ln h1 h2 h3 (fun q => h4 q) h5
  · obtain ⟨q1, q2, q3, q4⟩ : k = 0 ∧ t = ⟨#[]⟩ ∧ n = 0 ∧ (e = 18 ∨ e = 2 ∨ e = 6) := hw.er he
    have hx : Rs.next ⟨sa, sl, sk, false⟩ ⟨⟨k, t, n, a, nx, e⟩, ln⟩ = ⟨sa, sl, sk, true⟩ := by
      unfold Rs.next
      rw [if_pos he]
    rw [hx]
    exact rises_err W b s hs sa sl sk h k t n a ln e q1 q2 q3 q4 h1 h2 h3

theorem Scan_in (s : ByteArray) (w : World) : Calls Tryd.prog 8 #[.string s] w fun e W => e = .returned (.func (.func 24) #[] #[.pointer (some ⟨w.heap.size, 0, none⟩)]) ∧ W = w.alloc (.cells #[.string s] 9) := by
  go_enter Tryd.func8, Tryd.ntmps8
  go_wp2
  go_ret
  exact ⟨rfl, rfl⟩
/-- the scanner, with the law's closure: all words -/
theorem scan_rises (s : ByteArray) (hs : s.size ≤ 20000) (b bs : Nat) (w W : World) (hw : Below w.heap.size w W) (hb : w.heap.size ≤ b) (hbs : b + 5 < bs) (h : RB W b s st0) (hx : Bq W bs 9 #[.string s]) (hL : Lw w) :
    Calls Tryd.prog 24 #[.func (.func 19) #[] #[.pointer (some ⟨b + 5, 0, none⟩), .pointer (some ⟨b + 4, 0, none⟩), .pointer (some ⟨b + 2, 0, none⟩), .pointer (some ⟨b, 0, none⟩), .pointer (some ⟨b + 1, 0, none⟩), .pointer (some ⟨b + 3, 0, none⟩)], .pointer (some ⟨bs, 0, none⟩)] W fun e W' => e = .returned (.tuple #[]) ∧ RB W' b s (stF st0 (scL s)) ∧ Below w.heap.size w W' := by
  have hbl := hx.lt
  have hwz := hw.size
  refine (Sn.scan_clo 19 #[.pointer (some ⟨b + 5, 0, none⟩), .pointer (some ⟨b + 4, 0, none⟩), .pointer (some ⟨b + 2, 0, none⟩), .pointer (some ⟨b, 0, none⟩), .pointer (some ⟨b + 1, 0, none⟩), .pointer (some ⟨b + 3, 0, none⟩)] bs s (by omega)
    (fun pre W1 => RB W1 b s (stF st0 pre) ∧ Bq W1 bs 9 #[.string s] ∧ Below w.heap.size w W1 ∧ W.heap.size ≤ W1.heap.size) (fun _ _ => False) W (enters_of Tryd.func19 (by kernel_rfl) rfl) ?_ ?_ ?_ ⟨h, hx, hw, Nat.le_refl _⟩).mono ?_
  · rintro pre W1 ⟨_, h2, h3, _⟩
    exact ⟨h2.cell 0 _ rfl, hL.below h3⟩
  · rintro pre W1 W2 ⟨h1, h2, h3, h4⟩ hb2
    exact ⟨h1.keep hb2 (by omega), h2.keep hb2 hbl, ⟨hb2.os.trans h3.os, hb2.tape.trans h3.tape, hb2.output.trans h3.output, Nat.le_trans h3.size hb2.size, fun i hi => (hb2.block i (by omega)).trans (h3.block i hi)⟩, Nat.le_trans h4 hb2.size⟩
  · rintro pre x rest W1 hpre hsz ⟨h1, h2, h3, h4⟩
    have hok : RsOk s (stF st0 pre) x := RsL.at (rest := rest) (by rw [hpre]; exact scL_rises s)
    refine (rises_in W1 b s hs _ x h1 hok).mono ?_
    rintro e W' ⟨rfl, hr, hk⟩
    have hz := hk.1
    refine ⟨true, rfl, ?_, hk.1, hk.2.2.2.2 _ hsz (.inr (by omega))⟩
    show RB W' b s (stF st0 (pre ++ [x])) ∧ _
    rw [stF_snoc]
    exact ⟨hr, (hk.2.2.2.2 bs h2.lt (.inr hbs)).trans h2, ⟨hk.2.1.trans h3.os, hk.2.2.1.trans h3.tape, hk.2.2.2.1.trans h3.output, Nat.le_trans h3.size hz, fun i hi => (hk.2.2.2.2 i (by have := h3.size; omega) (.inl (by omega))).trans (h3.block i hi)⟩, Nat.le_trans h4 hz⟩
  · rintro e W' ⟨rfl, h | ⟨_, _, _, h⟩⟩
    · exact ⟨rfl, h.1, h.2.2.1⟩
    · exact h.elim

end Go.Proofs.YticjilkcobpcjaaDoor
