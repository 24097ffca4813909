/-
  What the document's own Quoted and Unquote answer.
-/
import Derived.Test.YtkndjbmlkfpfoaaGreatDoorZHx
import Derived.Test.YtkndjbmlkfpfoaaGreatDoorZEsToRd
import Derived.Test.YtkndjbmlkfpfoaaGreatDoorZDecToDec4
import Derived.Deep.QuietTactic
import Derived.BigQuiet
import Derived.Test.YtkndjbmlkfpfoaaGreatDoorZPureWToPU
import Derived.Test.YtkndjbmlkfpfoaaGreatDoorZRegToRegV
import Derived.Test.YtkndjbmlkfpfoaaGreatDoorZRQ
import Derived.Test.YtkndjbmlkfpfoaaGreatDoorZSd1
import Derived.Test.YtkndjbmlkfpfoaaGreatDoorZSn0ToWr
import Derived.Test.YtkndjbmlkfpfoaaGreatDoorZDP0ToDPp
import Derived.Test.YtkndjbmlkfpfoaaGreatDoorZQW
import Derived.Deep.CutRange
import Derived.Test.YtkndjbmlkfpfoaaGreatDoorZSn0yToTR3

set_option linter.unusedSimpArgs false
set_option linter.unusedVariables false
namespace Go.Proofs.YtkndjbmlkfpfoaaGreatDoor
open Go.RowKit Go.Lib

/-- three cells that may be written -/
def Box3 (W : World) (b : Nat) : Prop := ∃ c0 c1 c2, W.heap[b]? = some (.cells #[c0, c1, c2] 131 (0, 0))
theorem Box3.facts {W : World} {b : Nat} (h : Box3 W b) : (∃ v, W.cell? ⟨b, 0, none⟩ = some v) ∧ (∃ v, W.cell? ⟨b, 1, none⟩ = some v) ∧ (∃ v, W.cell? ⟨b, 2, none⟩ = some v) ∧ W.frozen? ⟨b, 0, none⟩ = false ∧ W.frozen? ⟨b, 1, none⟩ = false ∧ W.frozen? ⟨b, 2, none⟩ = false := by
  obtain ⟨c0, c1, c2, h⟩ := h
  exact ⟨⟨c0, by simp [World.cell?, h]⟩, ⟨c1, by simp [World.cell?, h]⟩, ⟨c2, by simp [World.cell?, h]⟩, by simp [World.frozen?, h], by simp [World.frozen?, h], by simp [World.frozen?, h]⟩
theorem Box3.below {W W' : World} {b B : Nat} (h : Box3 W b) (hb : Below B W W') (hB : b < B) : Box3 W' b := by
  obtain ⟨c0, c1, c2, h⟩ := h
  exact ⟨c0, c1, c2, (hb.block b hB).trans h⟩
theorem Box3.new (W : World) (c0 c1 c2 : Value) : Box3 (W.alloc (.cells #[c0, c1, c2] 131)) W.heap.size := ⟨c0, c1, c2, by show (W.heap.push _)[W.heap.size]? = _; simp⟩

end Go.Proofs.YtkndjbmlkfpfoaaGreatDoor

/-
  The document's own plain word.
-/
set_option linter.unusedSimpArgs false
set_option linter.unusedVariables false
namespace Go.Proofs.YtkndjbmlkfpfoaaGreatDoor
open Go.RowKit Go.Lib

def Box6 (W : World) (b : Nat) : Prop := ∃ c0 c1 c2 c3 c4 c5, W.heap[b]? = some (.cells #[c0, c1, c2, c3, c4, c5] 82 (0, 0))
theorem Box6.facts {W : World} {b : Nat} (h : Box6 W b) : (∃ v, W.cell? ⟨b, 0, none⟩ = some v) ∧ (∃ v, W.cell? ⟨b, 1, none⟩ = some v) ∧ (∃ v, W.cell? ⟨b, 2, none⟩ = some v) ∧ (∃ v, W.cell? ⟨b, 3, none⟩ = some v) ∧ (∃ v, W.cell? ⟨b, 4, none⟩ = some v) ∧ (∃ v, W.cell? ⟨b, 5, none⟩ = some v) ∧ W.frozen? ⟨b, 0, none⟩ = false ∧ W.frozen? ⟨b, 1, none⟩ = false ∧ W.frozen? ⟨b, 2, none⟩ = false ∧ W.frozen? ⟨b, 3, none⟩ = false ∧ W.frozen? ⟨b, 4, none⟩ = false ∧ W.frozen? ⟨b, 5, none⟩ = false := by
  obtain ⟨c0, c1, c2, c3, c4, c5, h⟩ := h
  refine ⟨⟨c0, ?_⟩, ⟨c1, ?_⟩, ⟨c2, ?_⟩, ⟨c3, ?_⟩, ⟨c4, ?_⟩, ⟨c5, ?_⟩, ?_, ?_, ?_, ?_, ?_, ?_⟩ <;> simp [World.cell?, World.frozen?, h]
theorem Box6.below {W W' : World} {b B : Nat} (h : Box6 W b) (hb : Below B W W') (hB : b < B) : Box6 W' b := by
  obtain ⟨c0, c1, c2, c3, c4, c5, h⟩ := h
  exact ⟨c0, c1, c2, c3, c4, c5, (hb.block b hB).trans h⟩
theorem Box6.new (W : World) (c0 c1 c2 c3 c4 c5 : Value) : Box6 (W.alloc (.cells #[c0, c1, c2, c3, c4, c5] 82)) W.heap.size := ⟨c0, c1, c2, c3, c4, c5, by show (W.heap.push _)[W.heap.size]? = _; simp⟩

end Go.Proofs.YtkndjbmlkfpfoaaGreatDoor

/-
  Rows of what the document finds.
-/
set_option linter.unusedSimpArgs false
set_option linter.unusedVariables false
namespace Go.Proofs.YtkndjbmlkfpfoaaGreatDoor
open Go.RowKit Go.Lib

def encF (x : It) : List Value := [.int .i64 (x.w.k : Int), .string x.w.t, .int .i64 x.w.n, .int .i64 (x.w.a : Int), .int .i64 (x.ln : Int), .int .i64 (x.w.e : Int)]
def OwF (W : World) (B : Nat) (v : Value) (l : List It) : Prop := W.ownsRow B 82 6 v l.length (flat encF l)
theorem infoFd : (Tryz.prog.info? 82).map (fun i => (i.zero, i.size, i.bytes)) = some (some (.agg #[.int .i64 0, .string ⟨#[]⟩, .int .i64 0, .int .i64 0, .int .i64 0, .int .i64 0]), 6, 56) := by kernel_rfl
theorem append_found (w : World) (ty : TypeId) (N : Nat) (v : Value) (l : List It) (x : It) (nb : Nat) (h : OwF w N v l) (hbx : Bq w nb 82 (encF x).toArray) (hN : N ≤ w.heap.size) (hl : l.length ≤ 1000000) :
    ∃ v' w', (Builtin.append_ #[79, 79] ty #[v, .slice (some ⟨nb, 0, none⟩) 1 1]).run Tryz.prog w = .ok v' w' ∧ OwF w' N v' (l ++ [x]) ∧ w.grownBy w' v.ownBlock := by
  obtain ⟨i0, hi, hz0, hz1, hz2⟩ := info_parts5 infoFd
  obtain ⟨v', w', h1, h2, h3, h4, h5⟩ := run_append_own_at (P := Tryz.prog) w N 79 ty 82 i0 _ 6 56 Tryz.underlying79 hi hz0 hz1 hz2 rfl (by decide) v l.length _ h ⟨nb, 0, none⟩ 1 1 (encF x) rfl (fun j u hu => by
    rw [Addr.add_lit, Nat.zero_add]
    exact hbx.cell j u (by rw [← hu]; simp)) (fun u hu => by simp [encF] at hu; rcases hu with rfl | rfl | rfl | rfl | rfl | rfl <;> rfl) (by unfold maxLen; omega) (by omega) (by first | omega | (simp; omega))
  refine ⟨v', w', h1, ?_, h3⟩
  unfold OwF
  rw [flat_append, List.length_append]
  simpa [flat] using h2
/-- what is found so far, in new memory -/
structure FdS (w W : World) (v : Value) (l : List It) : Prop where
  bel : Below w.heap.size w W
  ow : OwF W w.heap.size v l
variable {w W W' : World} {v : Value} {l : List It}
theorem FdS.below (h : FdS w W v l) (hb : Below W.heap.size W W') : FdS w W' v l := ⟨bnext h.bel hb, owns_kp (N := fun _ => False) h.ow (Kp.of_below hb) (fun _ _ e => e)⟩
theorem FdS.drewN (h : FdS w W v l) (n : Nat) : FdS w (W.drewN n) v l := ⟨⟨h.bel.os, h.bel.tape, h.bel.output, h.bel.size, h.bel.block⟩, h.ow⟩
theorem FdS.form (h : FdS w W v l) : ∃ a c, v = .slice a l.length c := owns_form h.ow
theorem FdS.push (h : FdS w W v l) (ty : TypeId) (x : It) {X : World} {nb : Nat} (hX : Below W.heap.size W X) (hbx : Bq X nb 82 (encF x).toArray) (hl : l.length ≤ 1000000) {L : Nat} (hL : l.length = L) :
    ∃ (a' : Option Addr) (c' : Nat) (X' : World), (Builtin.append_ #[79, 79] ty #[v, .slice (some ⟨nb, 0, none⟩) 1 1]).run Tryz.prog X = .ok (.slice a' (L + 1) c') X' ∧ Hid (FdS w X' (.slice a' (L + 1) c') (l ++ [x])) ∧ Hid (Kp (fun k => v.ownBlock = some k) X X') := by
  subst hL
  have h' := h.below hX
  obtain ⟨v', X', h1, h2, h3⟩ := append_found X ty w.heap.size v l x nb h'.ow hbx h'.bel.size hl
  have k := Kp.of_grown (N := fun k => v.ownBlock = some k) h3 (fun k hk => hk)
  obtain ⟨a', c', e⟩ := owns_form h2
  rw [List.length_append] at e
  have e' : v' = .slice a' (l.length + 1) c' := e
  subst e'
  exact ⟨a', c', X', h1, hide ⟨k.below h'.bel (fun i hi => (h'.ow.lt i hi).1), h2⟩, hide k⟩

end Go.Proofs.YtkndjbmlkfpfoaaGreatDoor

/-
  The document's Parse.
-/
set_option linter.unusedSimpArgs false
set_option linter.unusedVariables false
namespace Go.Proofs.YtkndjbmlkfpfoaaGreatDoor
open Go.RowKit Go.Lib

/-- how far the document's Parse is -/
structure PD (w1 : World) (s : ByteArray) (i : Nat) (W : World) (sv wv : Value) (l : List (Sp × Value × Value)) (L : List It) : Prop where
  bel : Below w1.heap.size w1 W
  os : OwT W w1.heap.size sv l
  ow : OwW W w1.heap.size wv L
  go : prL ((scL s).take i) = .inl (l.map Prod.fst, L)
  len : L.length ≤ i ∧ l.length ≤ i
  mem : ∀ x ∈ L, x ∈ scL s
theorem PD.below {w1 W W' : World} {s : ByteArray} {i : Nat} {sv wv : Value} {l : List (Sp × Value × Value)} {L : List It} (h : PD w1 s i W sv wv l L) (hb : Below W.heap.size W W') : PD w1 s i W' sv wv l L :=
  ⟨bnext h.bel hb, h.os.below hb, owns_kp (N := fun _ => False) h.ow (Kp.of_below hb) (fun _ _ e => e), h.go, h.len, h.mem⟩
theorem prL_at {s : ByteArray} {i : Nat} {x : It} (hx : (scL s)[i]? = some x) : prL ((scL s).take (i + 1)) = prI (prL ((scL s).take i)) x := by
  rw [List.take_add_one, hx]
  exact prL_snoc _ x
/-- a word more -/
theorem PD.word {w1 W : World} {s : ByteArray} {i : Nat} {sv : Value} {aw : Option Addr} {n cw : Nat} {l : List (Sp × Value × Value)} {L : List It} (h : PD w1 s i W sv (.slice aw n cw) l L) (ty : TypeId) {x : It} (hx : (scL s)[i]? = some x) (he : x.w.e = 0) (hk : x.w.k ≠ 4) {X : World} {nb : Nat} (hX : Below W.heap.size W X) (hbx : Bq X nb 73 (encW x).toArray) (hi : i ≤ 1000000) (hn : L.length = n) :
    ∃ (a' : Option Addr) (c' : Nat) (X' : World), (Builtin.append_ #[66, 66] ty #[.slice aw n cw, .slice (some ⟨nb, 0, none⟩) 1 1]).run Tryz.prog X = .ok (.slice a' (n + 1) c') X' ∧ Hid (PD w1 s (i + 1) X' sv (.slice a' (n + 1) c') l (L ++ [x])) := by
  subst hn
  have h' := h.below hX
  obtain ⟨v', X', h1, h2, h3, h4⟩ := append_word X ty w1.heap.size (.slice aw L.length cw) L x nb h'.ow hbx h'.bel.size (by have := h.len.1; omega)
  have k := Kp.of_grown (N := fun k => (Value.slice aw L.length cw).ownBlock = some k) h3 (fun k hk => hk)
  obtain ⟨a', c', e⟩ := owns_form h2
  rw [List.length_append] at e
  have e' : v' = .slice a' (L.length + 1) c' := e
  subst e'
  refine ⟨a', c', X', h1, hide ⟨k.below h'.bel (fun i hi => (World.ownsRow.lt h'.ow i hi).1), h'.os.kpT k (fun i hi => owns_bq h'.ow i hi), h2, ?_, ?_, ?_⟩⟩
  · rw [prL_at hx, h.go]
    show (if x.w.e ≠ 0 then _ else _) = _
    rw [if_neg (by simpa using he), if_pos hk]
  · simp only [List.length_append, List.length_cons, List.length_nil]
    have := h.len
    omega
  · intro y hy
    rcases List.mem_append.1 hy with hy | hy
    · exact h.mem y hy
    · simp at hy; subst hy; exact List.mem_of_getElem? hx
/-- a step more -/
theorem PD.step {w1 W : World} {s : ByteArray} {i : Nat} {as_ : Option Addr} {m cs : Nat} {wv : Value} {l : List (Sp × Value × Value)} {L : List It} (h : PD w1 s i W (.slice as_ m cs) wv l L) (ty : TypeId) {x : It} (hx : (scL s)[i]? = some x) (he : x.w.e = 0) (hk : x.w.k = 4) {t : Sp} (hf : fstR L = some t) {dv bv : Value} {X : World} {nb : Nat} (hX : Below W.heap.size W X) (hbx : Bq X nb 40 (spC t dv bv)) (hst : StV X w1.heap.size t dv bv) (hi : i ≤ 1000000) (hm : l.length = m) :
    ∃ (a' : Option Addr) (c' : Nat) (X' : World), (Builtin.append_ #[23, 23] ty #[.slice as_ m cs, .slice (some ⟨nb, 0, none⟩) 1 1]).run Tryz.prog X = .ok (.slice a' (m + 1) c') X' ∧ Hid (PD w1 s (i + 1) X' (.slice a' (m + 1) c') (.slice none 0 0) (l ++ [(t, dv, bv)]) []) := by
  subst hm
  have h' := h.below hX
  obtain ⟨v', X', h1, h2, h3, h4⟩ := append_stp X ty w1.heap.size (.slice as_ l.length cs) l t dv bv nb h'.os hbx hst h'.bel.size (by have := h.len.2; omega)
  have k := Kp.of_grown (N := fun k => (Value.slice as_ l.length cs).ownBlock = some k) h3 (fun k hk => hk)
  obtain ⟨a', c', e⟩ := owns_form h2.row
  rw [List.length_append] at e
  have e' : v' = .slice a' (l.length + 1) c' := e
  subst e'
  refine ⟨a', c', X', h1, hide ⟨k.below h'.bel (fun i hi => (World.ownsRow.lt h'.os.row i hi).1), h2, World.ownsRow_nil _ _ _ _, ?_, ?_, fun y hy => by cases hy⟩⟩
  · rw [prL_at hx, h.go]
    show (if x.w.e ≠ 0 then _ else _) = _
    rw [if_neg (by simpa using he), if_neg (by simpa using hk), hf]
    simp
  · simp only [List.length_append, List.length_cons, List.length_nil]
    have := h.len
    omega
end Go.Proofs.YtkndjbmlkfpfoaaGreatDoor
