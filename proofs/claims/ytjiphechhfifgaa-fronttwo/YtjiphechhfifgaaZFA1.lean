/-
  The law's alike.
-/
import Derived.Test.YtjiphechhfifgaaZXS
import Derived.Test.YtjiphechhfifgaaZQW
import Derived.Deep.CutRange
set_option linter.unusedSimpArgs false
set_option linter.unusedVariables false
namespace Go.Proofs.Ytjiphechhfifgaa
open Go.RowKit Go.Lib

set_option maxRecDepth 100000 in
set_option maxHeartbeats 8000000 in
theorem alike_in {P1 P2 : Nat → Prop} {w : World} {b n r : Nat} {S : StF} (h : FR P1 w b n S) (k : DF P2 w r S) :
    Calls Try.prog 14 #[.pointer (some ⟨b, 0, none⟩), .pointer (some ⟨r, 0, none⟩)] w fun e W => e = .returned (.bool true) ∧ Below w.heap.size w W := by
  have R1 : Hid (∀ W, Below w.heap.size w W → ∀ x : Int, in64 x → Calls Try.prog 16 #[.pointer (some ⟨b, 0, none⟩), .int .i64 x] W fun e W' => ∃ a' n' c', e = .returned (.tuple #[.slice a' n' c', .bool (S x).isSome]) ∧ Hid (RI W' (.slice a' n' c') (vec (hdR S x)) ∧ Below W.heap.size W W')) := fun W hb x hx => by
    refine (Row_in (h.below hb) x hx).mono ?_
    rintro e W' ⟨v', rfl, ho, hb'⟩
    obtain ⟨a', c', rfl⟩ := OwD.form ho
    exact ⟨_, _, _, rfl, OwD.row ho, hb'⟩
  have R2 : Hid (∀ W, Below w.heap.size w W → ∀ x : Int, Calls Try.prog 28 #[.pointer (some ⟨r, 0, none⟩), .int .i64 x] W fun e W' => ∃ a' n' c', e = .returned (.tuple #[.slice a' n' c', .bool (S x).isSome]) ∧ Hid (RI W' (.slice a' n' c') (vec (hdR S x)) ∧ Below W.heap.size W W')) := fun W hb x => by
    refine (refRow_in (k.below hb) x).mono ?_
    rintro e W' ⟨v', rfl, ho, hb'⟩
    obtain ⟨a', c', rfl⟩ := OwD.form ho
    exact ⟨_, _, _, rfl, OwD.row ho, hb'⟩
  have U1 : Hid (∀ W, Below w.heap.size w W → ∀ x : Int, in64 x → Calls Try.prog 18 #[.pointer (some ⟨b, 0, none⟩), .int .i64 x] W fun e W' => ∃ a' n' c', e = .returned (.slice a' n' c') ∧ Hid (RI W' (.slice a' n' c') (vec (usR S x)) ∧ Below W.heap.size W W')) := fun W hb x hx => by
    refine (Usable_in (h.below hb) x hx).mono ?_
    rintro e W' ⟨v', rfl, ho, hb'⟩
    obtain ⟨a', c', rfl⟩ := OwD.form ho
    exact ⟨_, _, _, rfl, OwD.row ho, hb'⟩
  have U2 : Hid (∀ W, Below w.heap.size w W → ∀ x : Int, Calls Try.prog 29 #[.pointer (some ⟨r, 0, none⟩), .int .i64 x] W fun e W' => ∃ a' n' c', e = .returned (.slice a' n' c') ∧ Hid (RI W' (.slice a' n' c') (vec (usR S x)) ∧ Below W.heap.size W W')) := fun W hb x => by
    refine (refUsable_in (k.below hb) x).mono ?_
    rintro e W' ⟨v', rfl, ho, hb'⟩
    obtain ⟨a', c', rfl⟩ := OwD.form ho
    exact ⟨_, _, _, rfl, OwD.row ho, hb'⟩
  have VV : Hid (∀ W (s : Nat → Int) a1 n1 c1 a2 n2 c2, RI W (.slice a1 n1 c1) (vec s) → RI W (.slice a2 n2 c2) (vec s) → Calls Try.prog 23 #[.slice a1 n1 c1, .slice a2 n2 c2] W fun e V => e = .returned (.bool true) ∧ Below W.heap.size W V) := fun W s a1 n1 c1 a2 n2 c2 h1 h2 => by
    have := vec_len s
    refine (vectors_in (vec s) (vec s) _ _ W h1 h2 (by omega) (by omega)).mono ?_
    rintro e V ⟨rfl, q, rfl⟩
    exact ⟨by rw [decide_eq_true rfl], bdrew (Below.refl _ _) _⟩
  clear h k
  go_enter Try.func14, Try.ntmps14
  go_wp2
  go_loopw [5] (fun iv wr => ∃ i : Nat, iv = .int .i64 ((i : Nat) - 1 : Int) ∧ i ≤ 19 ∧ Hid (Below w.heap.size w wr)) (fun iv _ => (18 - RowKit.intOf iv).toNat)
  case atStart => exact ⟨0, rfl, by omega, hide (Below.refl _ _)⟩
  case round =>
    obtain ⟨i, rfl, hi, HB⟩ := hrel
    obtain ⟨x, hx⟩ : ∃ x : Int, (i : Int) - 1 = x := ⟨_, rfl⟩
    rw [hx]
    have hxi : (i : Int) = x + 1 := by omega
    have HX := hide hxi
    have x64 : in64 x := by unfold in64; omega
    have xlo : -1 ≤ x := by omega
    clear hx hxi
    by_cases hlt : x ≤ 17
    · have C1 := hide (unhide R1 wr (unhide HB) x x64)
      obtain ⟨is, his⟩ : ∃ is, (S x).isSome = is := ⟨_, rfl⟩
      rw [his] at C1
      have His := hide his
      clear his
      go_wp2_with fail
      refine (unhide C1).mono ?_
      rintro e W1 ⟨a1, n1, c1, rfl, H1⟩
      have B1 := hide (bnext (unhide HB) (unhide H1).2)
      have C2 := hide (unhide R2 W1 (unhide B1) x)
      rw [unhide His] at C2
      clear C1
      go_wp2_with fail
      refine (unhide C2).mono ?_
      rintro e W2 ⟨a2, n2, c2, rfl, H2⟩
      have B2 := hide (bnext (unhide B1) (unhide H2).2)
      have C3 := hide (unhide VV W2 _ a1 n1 c1 a2 n2 c2 ((unhide H1).1.below (unhide H2).2) (unhide H2).1)
      clear C2 H1 H2 B1
      go_wp2_with fail
      refine (unhide C3).mono ?_
      rintro e W3 ⟨rfl, b3⟩
      have B3 := hide (bnext (unhide B2) b3)
      have C4 := hide (unhide U1 W3 (unhide B3) x x64)
      clear C3 B2 b3
      go_wp2_with fail
      refine (unhide C4).mono ?_
      rintro e W4 ⟨a4, n4, c4, rfl, H4⟩
      have B4 := hide (bnext (unhide B3) (unhide H4).2)
      have C5 := hide (unhide U2 W4 (unhide B4) x)
      clear C4 B3
      go_wp2_with fail
      refine (unhide C5).mono ?_
      rintro e W5 ⟨a5, n5, c5, rfl, H5⟩
      have B5 := hide (bnext (unhide B4) (unhide H5).2)
      have C6 := hide (unhide VV W5 _ a4 n4 c4 a5 n5 c5 ((unhide H4).1.below (unhide H5).2) (unhide H5).1)
      clear C5 B4 H4 H5
      go_wp2_with fail
      refine (unhide C6).mono ?_
      rintro e W6 ⟨rfl, b6⟩
      have B6 := hide (bnext (unhide B5) b6)
      clear C6 B5 b6
      go_wp2
      go_roundw
      case rel => exact ⟨i + 1, by have := unhide HX; go_num, by have := unhide HX; omega, B6⟩
      case measure => simp [RowKit.intOf]; omega
    · have hlt' : ¬ x ≤ 17 := hlt
      go_wp2
      go_ret
      exact ⟨rfl, unhide HB⟩

end Go.Proofs.Ytjiphechhfifgaa
