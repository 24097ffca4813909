/-
  A range over an iterator that keeps state of its own in cells, and asks something of the world (Kx) that the rounds keep.
-/
import Derived.Test.YtkndjbmlkfpfoaaGreatDoorZRegToRegV
import Derived.Test.YtkndjbmlkfpfoaaGreatDoorZShelfToQu
import Derived.RangeFuncBox
import Derived.RangeFuncNested
import Derived.RangeFuncBound
import Derived.RangeFuncCalls
import Derived.RangeFuncLeaves
import Derived.Shelf.Abstract
import Derived.Shelf.RegionOpen
import Derived.OwnWalkIn
import Derived.TacticsInMore
import Derived.LoopNIn
import Derived.LoopIn

set_option linter.unusedSimpArgs false
set_option linter.unusedVariables false
namespace Go.Proofs.YtkndjbmlkfpfoaaGreatDoor
open Go.RowKit Go.Lib Go.Shelf

/-- what a round keeps: the blocks from B to T -/
structure KQ (B T : Nat) (W W' : World) : Prop where
  size : W.heap.size ≤ W'.heap.size
  over : ∀ k, B ≤ k → k < T → k < W.heap.size → W'.heap[k]? = W.heap[k]?
theorem KQ.refl (B T : Nat) (W : World) : KQ B T W W := ⟨Nat.le_refl _, fun _ _ _ _ => rfl⟩
theorem KQ.trans {B T : Nat} {X Y Z : World} (h : KQ B T X Y) (k : KQ B T Y Z) : KQ B T X Z :=
  ⟨Nat.le_trans h.size k.size, fun i hB hT hi => (k.over i hB hT (Nat.lt_of_lt_of_le hi h.size)).trans (h.over i hB hT hi)⟩
theorem KQ.mono {B B' T T' : Nat} {X Y : World} (h : KQ B T X Y) (hB : B ≤ B') (hT : T' ≤ T) : KQ B' T' X Y := ⟨h.size, fun i hi ht hs => h.over i (Nat.le_trans hB hi) (Nat.lt_of_lt_of_le ht hT) hs⟩
theorem KQ.grown {B T b : Nat} {W W' : World} (hg : W.grownBy W' (some b)) (hb : b < B ∨ T ≤ b) : KQ B T W W' :=
  ⟨hg.size, fun k hB hT hk => hg.block k hk (fun e => by cases e; omega)⟩
theorem KQ.put {B T l : Nat} {o o' : Obj} {W : World} (hl : W.heap[l]? = some o) (hb : l < B ∨ T ≤ l) : KQ B T W (W.putObj l o') :=
  KQ.grown (grownBy_putObj' W l o') hb

/-- what is laid, or turned from block B to T, is let by -/
def AbidesAll {β : Type} (B T : Nat) (J : β → World → Prop) : Prop := ∀ s W W' row, J s W → W.grownBy W' row → (∀ r, row = some r → B ≤ r ∧ r < T) → J s W'
theorem AbidesAll.and {β : Type} {B T : Nat} {I I' : β → World → Prop} (h : AbidesAll B T I) (h' : AbidesAll B T I') : AbidesAll B T (fun s W => I s W ∧ I' s W) := fun s W W' row hs hg hr => ⟨h s W W' row hs.1 hg hr, h' s W W' row hs.2 hg hr⟩
theorem AbidesAll.below {β : Type} {B T n : Nat} {w : World} (hn : n ≤ w.heap.size) (hB : n ≤ B) : AbidesAll B T (fun (_ : β) W => Below n w W) := fun s W W' row hs hg hr => hs.grown hg (Nat.le_trans hn hs.size) (fun k e => Nat.le_trans hB (hr k e).1)
theorem AbidesAll.mono {β : Type} {B B' T T' : Nat} {I : β → World → Prop} (h : AbidesAll B T I) (hB : B ≤ B') (hT : T' ≤ T) : AbidesAll B' T' I := fun s W W' row hs hg hr => h s W W' row hs hg (fun r e => ⟨Nat.le_trans hB (hr r e).1, Nat.lt_of_lt_of_le (hr r e).2 hT⟩)
theorem AbidesAll.alloc {β : Type} {B T : Nat} {I : β → World → Prop} (h : AbidesAll B T I) {s : β} {W : World} (hs : I s W) (o : Obj) : I s (W.alloc o) := h s _ _ none hs (World.grownBy_alloc W o none) (fun r e => by cases e)
theorem AbidesAll.put {β : Type} {B T : Nat} {I : β → World → Prop} (h : AbidesAll B T I) {s : β} {W : World} (hs : I s W) (l : Nat) (hl : B ≤ l ∧ l < T) (o : Obj) : I s (W.putObj l o) := h s _ _ (some l) hs (grownBy_putObj' W l o) (fun r e => by cases e; exact hl)

theorem room_none {F : Fence} (hd : F.depth = none) (k : Nat) : F.room k := fun d h => by rw [hd] at h; cases h

theorem roundIn_any {m m' : Nat} {P : Program} {l : Nat} {f : FuncId} {tmps : Array Value} {assign body : Code} {w : World} {R : Ending → World → Prop} (h : RoundIn Fence.wide m P l f tmps assign body w R) : RoundIn Fence.wide m' P l f tmps assign body w R := ⟨h.1, fun c cs _ => h.2 c cs (room_none rfl _)⟩

/-- a call of yield, at whatever depth -/
def YieldL (l : Nat) (args : Array Value) (W : World) (R : Bool → World → Prop) : Prop := ∀ m, YieldAt Fence.wide m Tryz.prog l args W fun e W' => ∃ b, e = .returned (.bool b) ∧ R b W'

/-- an iterator that goes through a list; z: how many blocks it holds -/
def SeqK {α : Type} (Kx : World → Prop) (z gf : Nat) (lb : Array Value) (encs : α → Array Value) (L : List α) (w0 : World) : Prop :=
  ∀ (l : Nat) (J Jx : List α → World → Prop) (W : World), Below w0.heap.size w0 W → AbidesAll W.heap.size (W.heap.size + z) J → AbidesAll W.heap.size (W.heap.size + z) Jx → (∀ pre W1, J pre W1 → Kx W1) →
    (∀ pre x rest W1, pre ++ x :: rest = L → W.heap.size + z ≤ W1.heap.size → J pre W1 → YieldL l (encs x) W1 fun b W' => (if b then J (pre ++ [x]) W' else Jx (pre ++ [x]) W') ∧ KQ W.heap.size (W.heap.size + z) W1 W') →
    J [] W → ∀ n, CallsIn Fence.wide n Tryz.prog gf (#[.func (.yield l) #[] #[]] ++ lb) W fun e W' => (∃ v, e = .returned v) ∧ ((J L W' ∧ W.heap.size ≤ W'.heap.size) ∨ ∃ pre rest, pre ++ rest = L ∧ Jx pre W')

/-- how a round's body may be left -/
def postK {α : Type} (B T : Nat) (I : List α → World → Prop) (Ix : Code → List α → World → Prop) (xs : List α) (W : World) : Exit → Act → World → Prop
  | .normal, _, W' => KQ B T W W' ∧ I xs W'
  | .ret, _, W' => KQ B T W W' ∧ Ix .ret xs W'
  | .exit id, _, W' => KQ B T W W' ∧ Ix (.exit id) xs W'
  | .goto t, _, W' => KQ B T W W' ∧ Ix (.goto t) xs W'
  | .panic _, _, _ => False
  | .outgrown, _, _ => False

end Go.Proofs.YtkndjbmlkfpfoaaGreatDoor
