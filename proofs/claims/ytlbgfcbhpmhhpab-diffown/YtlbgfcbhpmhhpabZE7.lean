/-
  What the document fixes.
-/
import Derived.Test.YtlbgfcbhpmhhpabZE6
set_option linter.unusedSimpArgs false
set_option linter.unusedVariables false
namespace Go.Proofs.Ytlbgfcbhpmhhpab
open Go.RowKit Go.Lib

def kitS : ByteArray := ⟨#[107, 105, 116, 116, 101, 110]⟩
def sitS : ByteArray := ⟨#[115, 105, 116, 116, 105, 110, 103]⟩
def heyS : ByteArray := ⟨#[104, 195, 169, 121]⟩
def exL : List Ed := [(1, 1, ⟨#[101, 120]⟩)]
def sitL : List Ed := [(0, 1, ⟨#[115]⟩), (3, 1, ⟨#[105]⟩), (1, 0, ⟨#[103]⟩)]

theorem kn1 : mkErr kitS sitS = 0 := by decide +kernel
theorem kn2 : mkRes kitS sitS = sitL := by decide +kernel
theorem kn3 : wtL 0 sitL = 5 := by decide +kernel
theorem kn4 : chk heyS exL = 0 := by decide +kernel
theorem kn5 : ofL (apW heyS exL) = ⟨#[104, 101, 120, 121]⟩ := by decide +kernel
theorem kn6 : ivL heyS exL = [(1, 2, ⟨#[195, 169]⟩)] := by decide +kernel
theorem kn7 : mkErr ⟨#[255]⟩ ⟨#[97]⟩ = 2 := by decide +kernel

theorem RE.lit (W : World) (l : List Ed) (cs : Array Value) (h : cs.toList = edsC l) : RE (W.alloc (.cells cs 31)) (.slice (some ⟨W.heap.size, 0, none⟩) l.length l.length) l := by
  have hh := World.alloc_heap_new W (.cells cs 31)
  refine .inr ⟨W.heap.size, 0, l.length, rfl, fun j e he => ?_⟩
  have c : ∀ q, q < 3 → (W.alloc (.cells cs 31)).cell? ⟨W.heap.size, j * 3 + q, none⟩ = (edC e)[q]? := fun q hq => by
    rw [cell_of hh, ← Array.getElem?_toList, h]
    exact edsC_get l j q e he hq
  rw [Nat.zero_add]
  exact ⟨c 0 (by omega), c 1 (by omega), c 2 (by omega)⟩

theorem EdOk_exL : ∀ e ∈ exL, EdOk e := by
  intro e he
  simp [exL] at he
  subst he
  unfold EdOk
  refine ⟨by decide, by decide, by decide, by decide, by decide +kernel⟩
theorem EdOk_sitL : ∀ e ∈ sitL, EdOk e := by
  intro e he
  simp [sitL] at he
  rcases he with rfl | rfl | rfl <;> exact ⟨by decide, by decide, by decide, by decide, by decide +kernel⟩

theorem bnext {w W W' : World} (h : Below w.heap.size w W) (k : Below W.heap.size W W') : Below w.heap.size w W' := h.trans (k.mono h.size)
theorem bdrew {w W : World} (h : Below w.heap.size w W) (n : Nat) : Below w.heap.size w (W.drewN n) := ⟨h.os, h.tape, h.output, h.size, h.block⟩
theorem ballc {w W : World} (h : Below w.heap.size w W) (o : Obj) : Below w.heap.size w (W.alloc o) := h.alloc h.size _

set_option maxRecDepth 100000 in
set_option maxHeartbeats 4000000 in
theorem known_in (w : World) : Calls Try.prog 4 #[] w fun e W => e = .returned (.bool true) ∧ Below w.heap.size w W := by
  go_enter Try.func4, Try.ntmps4
  go_wp2_with fail
  refine (make_in kitS sitS (by decide +kernel) (by decide +kernel) _).mono ?_
  rintro e W1 ⟨v1, rfl, ho1, hB1⟩
  rw [kn1]
  rw [kn2] at ho1
  have Hr1 := hide (RE.of_owns ho1)
  clear ho1
  go_wp2_with fail
  refine (apply_in heyS exL _ _ (RE.lit W1 exL _ rfl) (by decide +kernel) (by decide) EdOk_exL (by decide +kernel)).mono ?_
  rintro e W2 ⟨rfl, hB2⟩
  rw [kn4, if_pos rfl, kn5]
  have hB2' := bnext (ballc hB1 _) hB2
  have Hr2 := hide ((unhide Hr1).below (bnext (ballc (Below.refl _ _) _) hB2))
  clear hB2 Hr1
  go_wp2_with fail
  refine (invert_in heyS exL _ _ (RE.lit W2 exL _ rfl) (by decide +kernel) (by decide) EdOk_exL).mono ?_
  rintro e W3 ⟨v3, rfl, ho3, hB3⟩
  rw [kn4]
  rw [kn4, if_pos rfl, kn6] at ho3
  have hB3' := bnext (ballc hB2' _) hB3
  have Hr3 := hide ((unhide Hr2).below (bnext (ballc (Below.refl _ _) _) hB3))
  have Hm3 := hide (RE.of_owns ho3)
  clear hB3 Hr2 ho3 hB2' hB1
  go_wp2_with fail
  refine (make_in ⟨#[255]⟩ ⟨#[97]⟩ (by decide +kernel) (by decide +kernel) _).mono ?_
  rintro e W4 ⟨v4, rfl, _, hB4⟩
  rw [kn7]
  have hB4' := bnext hB3' hB4
  have Hr4 := hide ((unhide Hr3).below hB4)
  have Hm4 := hide ((unhide Hm3).below hB4)
  clear hB4 Hr3 Hm3 hB3'
  go_wp2_with fail
  refine (eqE_in sitL sitL v1 _ _ ((unhide Hr4).below (ballc (Below.refl _ _) _)) (RE.lit W4 sitL #[.int .i64 0, .int .i64 1, .string ⟨#[115]⟩, .int .i64 3, .int .i64 1, .string ⟨#[105]⟩, .int .i64 1, .int .i64 0, .string ⟨#[103]⟩] rfl) (by decide) (by decide)).mono ?_
  rintro e W5 ⟨rfl, n5, rfl⟩
  have hd1 : decide (sitL = sitL) = true := by simp
  rw [hd1]
  have hB5 := bdrew (ballc hB4' (.cells #[.int .i64 0, .int .i64 1, .string ⟨#[115]⟩, .int .i64 3, .int .i64 1, .string ⟨#[105]⟩, .int .i64 1, .int .i64 0, .string ⟨#[103]⟩] 31)) n5
  have hb5 := bdrew (ballc (Below.refl _ W4) (.cells #[.int .i64 0, .int .i64 1, .string ⟨#[115]⟩, .int .i64 3, .int .i64 1, .string ⟨#[105]⟩, .int .i64 1, .int .i64 0, .string ⟨#[103]⟩] 31)) n5
  have Hr5 := hide ((unhide Hr4).below hb5)
  have Hm5 := hide ((unhide Hm4).below hb5)
  obtain ⟨W5, hW5⟩ : ∃ W5, (W4.alloc (.cells #[.int .i64 0, .int .i64 1, .string ⟨#[115]⟩, .int .i64 3, .int .i64 1, .string ⟨#[105]⟩, .int .i64 1, .int .i64 0, .string ⟨#[103]⟩] 31)).drewN n5 = W5 := ⟨_, rfl⟩
  rw [hW5] at hB5 Hr5 Hm5 ⊢
  clear hW5 hb5 Hr4 Hm4 hB4' hd1
  go_wp2_with fail
  refine (weight_in sitL v1 _ (unhide Hr5) (by decide) EdOk_sitL).mono ?_
  rintro e W6 ⟨rfl, hB6⟩
  rw [kn3]
  have hB6' := bnext hB5 hB6
  have Hm6 := hide ((unhide Hm5).below hB6)
  clear hB5 hB6 Hm5 Hr5
  go_wp2_with fail
  refine (eqE_in [(1, 2, ⟨#[195, 169]⟩)] [(1, 2, ⟨#[195, 169]⟩)] v3 _ _ ((unhide Hm6).below (ballc (Below.refl _ _) _)) (RE.lit W6 [(1, 2, ⟨#[195, 169]⟩)] #[.int .i64 1, .int .i64 2, .string ⟨#[195, 169]⟩] rfl) (by decide) (by decide)).mono ?_
  rintro e W7 ⟨rfl, n7, rfl⟩
  have hd1 : decide (([(1, 2, ⟨#[195, 169]⟩)] : List Ed) = [(1, 2, ⟨#[195, 169]⟩)]) = true := by simp
  rw [hd1]
  go_wp2
  go_ret
  exact ⟨rfl, bdrew (ballc hB6' _) _⟩

end Go.Proofs.Ytlbgfcbhpmhhpab
