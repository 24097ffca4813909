/-
  A pair in new memory.
-/
import Derived.Test.YtknomhgglmgciaaZAK1
import Derived.Test.YtknomhgglmgciaaZAS1
set_option linter.unusedSimpArgs false
set_option linter.unusedVariables false
namespace Go.Proofs.Ytknomhgglmgciaa
open Go.RowKit Go.Lib

/-- a pair in new memory -/
def PJ (w W : World) (b n r : Nat) (ls ms : Int) (L : List Tm) : Prop := ∃ Pa, QA Pa W b n r ls ms L L ∧ (∀ i, Pa i → w.heap.size ≤ i ∧ i < W.heap.size) ∧ Below w.heap.size w W
variable {w W W' : World} {b n r b' n' r' : Nat} {ls ms ls' ms' : Int} {L L' : List Tm}
theorem PJ.bel (h : PJ w W b n r ls ms L) : Below w.heap.size w W := by obtain ⟨_, _, _, h⟩ := h; exact h
theorem PJ.below (h : PJ w W b n r ls ms L) (hb : Below W.heap.size W W') : PJ w W' b n r ls ms L := by
  obtain ⟨Pa, h1, h2, h3⟩ := h
  have hz := hb.size
  exact ⟨Pa, h1.below hb, fun i hi => ⟨(h2 i hi).1, by have := (h2 i hi).2; omega⟩, bnext h3 hb⟩
theorem PJ.alike (h : PJ w W b n r ls ms L) (hn : n ≤ 1000000) (k : Int) (hk : in64 k) : Calls Try.prog 11 #[.pointer (some ⟨b, 0, none⟩), .pointer (some ⟨r, 0, none⟩), .int .i64 k] W fun e W' => e = .returned (.bool true) ∧ PJ w W' b n r ls ms L := by
  have h0 := h
  obtain ⟨Pa, h1, h2, h3⟩ := h
  refine (alike_in h1 hn k hk).mono ?_
  rintro e W' ⟨rfl, hb⟩
  exact ⟨rfl, h0.below hb⟩
/-- a new one and the document's -/
theorem QA.new {w1 W2 W3 : World} (h1 : AL (fun i => w1.heap.size ≤ i) W2 b ls ms 0 []) (b2 : Below W2.heap.size W2 W3) (h2 : RL (fun i => W2.heap.size ≤ i) W3 r ls ms []) : QA (fun i => w1.heap.size ≤ i ∧ i < W3.heap.size) W3 b 0 r ls ms [] [] := by
  have hz := b2.size
  refine ⟨_, _, (h1.lt).below b2, h2.lt, fun i hi => ⟨⟨hi.1, by have := hi.2; omega⟩, by have := hi.2; omega, fun e => by have := e.1; have := hi.2; omega⟩, fun i hi => ⟨⟨?_, hi.2⟩, hi.2, fun e => by have := hi.1; have := e.2; omega⟩⟩
  have := h1.lt.pb
  have := hi.1
  omega

/-- of none, and of a zero one -/
theorem Due_nil (now : Int) (w : World) : Calls Try.prog 19 #[.pointer none, .int .i64 now] w fun e W => e = .returned (.slice none 0 0) ∧ w = W := by
  go_enter Try.func19, Try.ntmps19
  go_wp2
  go_ret
  exact ⟨rfl, rfl⟩
theorem zero_pair (w : World) {X Y : World} (hX : w.alloc (.cells #[.int .i64 0, .int .i64 0, .map none, .slice none 0 0] 42) = X) (hY : X.alloc (.cells #[.int .i64 0, .int .i64 0, .slice none 0 0] 45) = Y) : PJ w Y w.heap.size 0 (w.heap.size + 1) 0 0 [] := by
  have bX : Below w.heap.size w X := by rw [← hX]; exact ballc (Below.refl _ _) _
  have bY : Below X.heap.size X Y := by rw [← hY]; exact ballc (Below.refl _ _) _
  have zX : X.heap.size = w.heap.size + 1 := by rw [← hX]; simp
  have a1 : AL (fun i => w.heap.size ≤ i) X w.heap.size 0 0 0 [] := by
    refine ⟨.map none, .slice none 0 0, fun _ => none, [], fun _ => ⟨0, 0, 0⟩, ⟨Nat.le_refl _, by rw [← hX]; exact Bx.new _ _ _, .inr ⟨rfl, rfl, rfl⟩, ⟨World.ownsRow_nil _ _ _ _, fun k hk => (by cases hk), fun i hi => absurd hi (by simp)⟩, fun c h0 hc => absurd hc (by simp), ⟨rfl, fun a ha => (by cases ha), fun x hx => (by cases hx), fun a ha => (by cases ha)⟩, ⟨.inr ⟨rfl, rfl, rfl⟩, List.nodup_nil, fun x hx => (by cases hx), fun x hx => (by cases hx), fun x hx => (by cases hx)⟩, Nat.zero_le _, fun k a => by simp⟩⟩
  have a2 : RL (fun i => X.heap.size ≤ i) Y X.heap.size 0 0 [] := by
    rw [← hY]
    exact ⟨.slice none 0 0, ⟨Bx.new _ _ _, World.ownsRow_nil _ _ _ _, Nat.le_refl _, fun k hk => (by cases hk)⟩⟩
  have q := QA.new a1 bY a2
  rw [zX] at q
  exact ⟨_, q, fun i hi => hi, bnext bX bY⟩

end Go.Proofs.Ytknomhgglmgciaa
