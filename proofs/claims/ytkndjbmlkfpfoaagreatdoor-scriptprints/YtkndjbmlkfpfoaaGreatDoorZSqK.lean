/-
  A range over an iterator that keeps state of its own in cells, and asks something of the world (Kx) that the rounds keep.
-/
import Derived.Test.YtkndjbmlkfpfoaaGreatDoorZRegToRegI
import Derived.Test.YtkndjbmlkfpfoaaGreatDoorZShelfToQu
import Derived.RangeFuncBox
import Derived.RangeFuncNested
import Derived.RangeFuncBound
import Derived.RangeFuncCalls
import Derived.RangeFuncLeaves
import Derived.Shelf.Abstract
import Derived.Shelf.RegionOpen
import Derived.OwnWalkIn
import Derived.TacticsInMore
import Derived.LoopNIn
import Derived.LoopIn

set_option linter.unusedSimpArgs false
set_option linter.unusedVariables false
namespace Go.Proofs.YtkndjbmlkfpfoaaGreatDoor
open Go.RowKit Go.Lib Go.Shelf

/-- what a round keeps: the blocks from B to T -/
structure KQ (B T : Nat) (W W' : World) : Prop where
  size : W.heap.size ≤ W'.heap.size
  over : ∀ k, B ≤ k → k < T → k < W.heap.size → W'.heap[k]? = W.heap[k]?
theorem KQ.refl (B T : Nat) (W : World) : KQ B T W W := ⟨Nat.le_refl _, fun _ _ _ _ => rfl⟩
theorem KQ.trans {B T : Nat} {X Y Z : World} (h : KQ B T X Y) (k : KQ B T Y Z) : KQ B T X Z :=
  ⟨Nat.le_trans h.size k.size, fun i hB hT hi => (k.over i hB hT (Nat.lt_of_lt_of_le hi h.size)).trans (h.over i hB hT hi)⟩
theorem KQ.mono {B B' T T' : Nat} {X Y : World} (h : KQ B T X Y) (hB : B ≤ B') (hT : T' ≤ T) : KQ B' T' X Y := ⟨h.size, fun i hi ht hs => h.over i (Nat.le_trans hB hi) (Nat.lt_of_lt_of_le ht hT) hs⟩
theorem KQ.grown {B T b : Nat} {W W' : World} (hg : W.grownBy W' (some b)) (hb : b < B ∨ T ≤ b) : KQ B T W W' :=
  ⟨hg.size, fun k hB hT hk => hg.block k hk (fun e => by cases e; omega)⟩
theorem KQ.put {B T l : Nat} {o o' : Obj} {W : World} (hl : W.heap[l]? = some o) (hb : l < B ∨ T ≤ l) : KQ B T W (W.putObj l o') :=
  KQ.grown (grownBy_putObj' W l o') hb

/-- what is laid, or turned from block B to T, is let by -/
def AbidesAll {β : Type} (B T : Nat) (J : β → World → Prop) : Prop := ∀ s W W' row, J s W → W.grownBy W' row → (∀ r, row = some r → B ≤ r ∧ r < T) → J s W'
theorem AbidesAll.and {β : Type} {B T : Nat} {I I' : β → World → Prop} (h : AbidesAll B T I) (h' : AbidesAll B T I') : AbidesAll B T (fun s W => I s W ∧ I' s W) := fun s W W' row hs hg hr => ⟨h s W W' row hs.1 hg hr, h' s W W' row hs.2 hg hr⟩
theorem AbidesAll.pure {β : Type} (B T : Nat) (p : β → Prop) : AbidesAll B T (fun s (_ : World) => p s) := fun _ _ _ _ hs _ _ => hs
theorem AbidesAll.boxed {β : Type} {B T b : Nat} (hb : b < B ∨ T ≤ b) (t : TypeId) (f : β → Value) : AbidesAll B T (fun s W => Boxed W b t (f s)) := fun s W W' row hs hg hr => hs.kept hg (fun e => by have := hr b e.symm; omega)
theorem AbidesAll.below {β : Type} {B T n : Nat} {w : World} (hn : n ≤ w.heap.size) (hB : n ≤ B) : AbidesAll B T (fun (_ : β) W => Below n w W) := fun s W W' row hs hg hr => hs.grown hg (Nat.le_trans hn hs.size) (fun k e => Nat.le_trans hB (hr k e).1)
theorem AbidesAll.mono {β : Type} {B B' T T' : Nat} {I : β → World → Prop} (h : AbidesAll B T I) (hB : B ≤ B') (hT : T' ≤ T) : AbidesAll B' T' I := fun s W W' row hs hg hr => h s W W' row hs hg (fun r e => ⟨Nat.le_trans hB (hr r e).1, Nat.lt_of_lt_of_le (hr r e).2 hT⟩)
theorem AbidesAll.alloc {β : Type} {B T : Nat} {I : β → World → Prop} (h : AbidesAll B T I) {s : β} {W : World} (hs : I s W) (o : Obj) : I s (W.alloc o) := h s _ _ none hs (World.grownBy_alloc W o none) (fun r e => by cases e)
theorem AbidesAll.put {β : Type} {B T : Nat} {I : β → World → Prop} (h : AbidesAll B T I) {s : β} {W : World} (hs : I s W) (l : Nat) (hl : B ≤ l ∧ l < T) (o : Obj) : I s (W.putObj l o) := h s _ _ (some l) hs (grownBy_putObj' W l o) (fun r e => by cases e; exact hl)

theorem room_none {F : Fence} (hd : F.depth = none) (k : Nat) : F.room k := fun d h => by rw [hd] at h; cases h

theorem roundIn_any {m m' : Nat} {P : Program} {l : Nat} {f : FuncId} {tmps : Array Value} {assign body : Code} {w : World} {R : Ending → World → Prop} (h : RoundIn Fence.wide m P l f tmps assign body w R) : RoundIn Fence.wide m' P l f tmps assign body w R := ⟨h.1, fun c cs _ => h.2 c cs (room_none rfl _)⟩

/-- a call of yield, at whatever depth -/
def YieldL (l : Nat) (args : Array Value) (W : World) (R : Bool → World → Prop) : Prop := ∀ m, YieldAt Fence.wide m Tryz.prog l args W fun e W' => ∃ b, e = .returned (.bool b) ∧ R b W'

/-- an iterator that goes through a list; z: how many blocks it holds -/
def SeqK {α : Type} (Kx : World → Prop) (z gf : Nat) (lb : Array Value) (encs : α → Array Value) (L : List α) (w0 : World) : Prop :=
  ∀ (l : Nat) (J Jx : List α → World → Prop) (W : World), Below w0.heap.size w0 W → AbidesAll W.heap.size (W.heap.size + z) J → AbidesAll W.heap.size (W.heap.size + z) Jx → (∀ pre W1, J pre W1 → Kx W1) →
    (∀ pre x rest W1, pre ++ x :: rest = L → W.heap.size + z ≤ W1.heap.size → J pre W1 → YieldL l (encs x) W1 fun b W' => (if b then J (pre ++ [x]) W' else Jx (pre ++ [x]) W') ∧ KQ W.heap.size (W.heap.size + z) W1 W') →
    J [] W → ∀ n, CallsIn Fence.wide n Tryz.prog gf (#[.func (.yield l) #[] #[]] ++ lb) W fun e W' => (∃ v, e = .returned v) ∧ ((J L W' ∧ W.heap.size ≤ W'.heap.size) ∨ ∃ pre rest, pre ++ rest = L ∧ Jx pre W')

/-- how a round's body may be left -/
def postK {α : Type} (B T : Nat) (I : List α → World → Prop) (Ix : Code → List α → World → Prop) (xs : List α) (W : World) : Exit → Act → World → Prop
  | .normal, _, W' => KQ B T W W' ∧ I xs W'
  | .ret, _, W' => KQ B T W W' ∧ Ix .ret xs W'
  | .exit id, _, W' => KQ B T W W' ∧ Ix (.exit id) xs W'
  | .goto t, _, W' => KQ B T W W' ∧ Ix (.goto t) xs W'
  | .panic _, _, _ => False
  | .outgrown, _, _ => False

theorem range_K {α : Type} {Kx : World → Prop} {g : Operand} {ps : Array Tmp} {assign body : Code} {Q : Exit → Act → World → Prop} {a : Act} {w : World} {n : Nat}
    {gf : Nat} {lb : Array Value} (hg : a.eval g = .func (.func gf) #[] lb) (eg : ∀ args w, (callFunc gf args).run Tryz.prog w = .ok (.enter gf args) w)
    {encs : α → Array Value} {L : List α} {z : Nat} {w0 : World} (hseq : SeqK Kx z gf lb encs L w0) (hb0 : Below w0.heap.size w0 w) (hps : ∀ x, (encs x).size = ps.size)
    (I : List α → World → Prop) (Ix : Code → List α → World → Prop) (hI : AbidesAll w.heap.size (w.heap.size + 2 + z) I) (hIx : ∀ c, AbidesAll w.heap.size (w.heap.size + 2 + z) (Ix c)) (hKx : ∀ pre W, I pre W → Kx W) (h0 : I [] w) (a₁ : α → Act)
    (hassign : ∀ (l : Nat) (x : α) (W : World) (K : Act → World → Prop), K (a₁ x) W → assign.wpIn (Fence.wide.inRound l) 4 Tryz.prog (Exit.then K (fun _ _ _ => False)) { tmps := (ps.zip (encs x)).foldl (fun t (p, v) => t.setIfInBounds p v) a.tmps, defers := [] } W)
    (hbody : ∀ (l : Nat) (pre : List α) (x : α) (rest : List α) (W : World), pre ++ x :: rest = L → w.heap.size + 2 + z ≤ W.heap.size → I pre W → body.wpIn (Fence.wide.inRound l) 4 Tryz.prog (postK w.heap.size (w.heap.size + 2 + z) I Ix (pre ++ [x]) W) (a₁ x) W)
    (hdone : ∀ (D : Nat) (W : World), D = w.heap.size → w.heap.size + 2 ≤ W.heap.size → I L W → W.heap[D]? = some (.deferred (some [])) → Q .normal { a with defers := { target := .collected D, args := #[] } :: a.defers } W)
    (hstop : ∀ (D : Nat) (c : Code) (pre rest : List α) (W : World), D = w.heap.size → pre ++ rest = L → Ix c pre W → W.heap[D]? = some (.deferred (some [])) → c.wpIn Fence.wide n Tryz.prog Q { a with defers := { target := .collected D, args := #[] } :: a.defers } W) :
    (Code.rangeFunc g ps assign body).wpIn Fence.wide n Tryz.prog Q a w := by
  refine wpIn_rangeFunc fun fn hfn => ?_
  obtain ⟨R0, hR0⟩ : ∃ R0 : LoopState → Option Code → Loop, R0 = fun st pe => { state := st, pending := pe, fn, tmps := a.tmps, params := ps, assign, body, defers := w.heap.size } := ⟨_, rfl⟩
  obtain ⟨W1, hW1⟩ : ∃ W1, (w.alloc (.deferred (some []))).alloc (.loop (R0 .ready none)) = W1 := ⟨_, rfl⟩
  have hz1 : W1.heap.size = w.heap.size + 2 := by rw [← hW1]; simp
  have hL1 : W1.heap[w.heap.size + 1]? = some (.loop (R0 .ready none)) := by
    rw [← hW1]; have := World.alloc_heap_new (w.alloc (.deferred (some []))) (.loop (R0 .ready none)); rwa [World.size_alloc] at this
  have hD1 : W1.heap[w.heap.size]? = some (.deferred (some [])) := by
    rw [← hW1]; exact (Below.heap_alloc _ _ _ (by simp)).trans (World.alloc_heap_new w _)
  have hI1 : I [] W1 := by rw [← hW1]; exact hI.alloc (hI.alloc h0 _) _
  have hbe : Below w0.heap.size w0 W1 := by
    rw [← hW1]; exact hb0.trans ((((Below.refl _ w).alloc (Nat.le_refl _) _).alloc (by simp) _).mono hb0.size)
  refine ⟨w.heap.size + 1, [{ target := .collected w.heap.size, args := #[] }], W1, { target := .fn (.func gf) lb, args := #[.func (.yield (w.heap.size + 1)) #[] #[]] }, W1, gf,
    #[.func (.yield (w.heap.size + 1)) #[] #[]] ++ lb, W1, ?_, ?_, fun _ _ => trivial, ?_, fun h => (by cases h), ?_⟩
  · rw [← hW1, hR0]; exact run_enterLoop_outer _ _ _ _ _
  · simp only [resolve, hg]
    simp [go_sem]
  · simp [invoke, go_sem, eg]
  · refine (hseq (w.heap.size + 1)
      (fun pre W => I pre W ∧ W.heap[w.heap.size + 1]? = some (.loop (R0 .ready none)) ∧ W.heap[w.heap.size]? = some (.deferred (some [])))
      (fun pre W => ∃ c, Ix c pre W ∧ W.heap[w.heap.size + 1]? = some (.loop (R0 .done (some c))) ∧ W.heap[w.heap.size]? = some (.deferred (some [])))
      W1 hbe ?_ ?_ (fun pre W hh => hKx pre W hh.1) ?_ ⟨hI1, hL1, hD1⟩ (n - 1)).mono ?_
    · rintro s A B row ⟨h1, h2, h3⟩ hgr hr
      refine ⟨hI s A B row h1 hgr (fun r e => by have := hr r e; constructor <;> omega), (hgr.block _ (Array.getElem?_eq_some_iff.1 h2).1 (fun e => by have := hr _ e.symm; omega)).trans h2, (hgr.block _ (Array.getElem?_eq_some_iff.1 h3).1 (fun e => by have := hr _ e.symm; omega)).trans h3⟩
    · rintro s A B row ⟨c, h1, h2, h3⟩ hgr hr
      refine ⟨c, hIx c s A B row h1 hgr (fun r e => by have := hr r e; constructor <;> omega), (hgr.block _ (Array.getElem?_eq_some_iff.1 h2).1 (fun e => by have := hr _ e.symm; omega)).trans h2, (hgr.block _ (Array.getElem?_eq_some_iff.1 h3).1 (fun e => by have := hr _ e.symm; omega)).trans h3⟩
    · rintro pre x rest W hpre hzW ⟨hi, hl, hd⟩ m
      have hlt : w.heap.size + 1 < W.heap.size := (Array.getElem?_eq_some_iff.1 hl).1
      have hy := run_yield (P := Tryz.prog) (args := encs x) hl (by rw [hR0]; exact hps x)
      rw [hR0] at hy
      refine ⟨fn, _, assign, body, hy, roundIn_any (m := 4) (roundIn_of_wpIn hfn (hassign _ x W _ ?_))⟩
      clear hy
      refine ⟨_, run_beginRound hl (by rw [hR0]), ?_⟩
      obtain ⟨W2, hW2⟩ : ∃ W2, W.putObj (w.heap.size + 1) (.loop { R0 .ready none with state := .busy }) = W2 := ⟨_, rfl⟩
      have hl2 : W2.heap[w.heap.size + 1]? = some (.loop { R0 .ready none with state := .busy }) := by rw [← hW2]; exact World.putObj_heap_same hlt
      have hd2 : W2.heap[w.heap.size]? = some (.deferred (some [])) := by rw [← hW2]; exact (World.putObj_heap_other (by omega)).trans hd
      have hk2 : KQ W1.heap.size (W1.heap.size + z) W W2 := by rw [← hW2]; exact KQ.put hl (by omega)
      have hi2 : I pre W2 := by rw [← hW2]; exact hI.put hi _ (by omega) _
      rw [hW2]
      refine wpIn_mono (hbody _ pre x rest W2 hpre (by have := hk2.size; omega) hi2) ?_
      have fin : ∀ (jump : Option Code) (W3 : World), KQ w.heap.size (w.heap.size + 2 + z) W2 W3 →
          ∃ W4, (Instr.endRound (w.heap.size + 1) jump).run Tryz.prog W3 = .ok (.bool jump.isNone) W4 ∧ W4 = W3.putObj (w.heap.size + 1) (.loop (R0 (if jump.isNone then .ready else .done) jump)) ∧
          W4.heap[w.heap.size + 1]? = some (.loop (R0 (if jump.isNone then .ready else .done) jump)) ∧ W4.heap[w.heap.size]? = some (.deferred (some [])) ∧ KQ W1.heap.size (W1.heap.size + z) W W4 := fun jump W3 hk3 => by
        have hl3 := (hk3.over _ (by omega) (by omega) (Array.getElem?_eq_some_iff.1 hl2).1).trans hl2
        have hd3 := (hk3.over _ (Nat.le_refl _) (by omega) (Array.getElem?_eq_some_iff.1 hd2).1).trans hd2
        have he := run_endRound (P := Tryz.prog) jump hl3
        refine ⟨_, he, by rw [hR0], ?_, (World.putObj_heap_other (by omega)).trans hd3, (hk2.trans (hk3.mono (by omega) (by omega))).trans (KQ.put hl3 (by omega))⟩
        rw [World.putObj_heap_same (Array.getElem?_eq_some_iff.1 hl3).1, hR0]
      rintro e a3 W3 hp
      cases e with
      | normal =>
        obtain ⟨hk3, hi3⟩ := hp
        obtain ⟨W4, hr, hW4, hl4, hd4, hk4⟩ := fin none W3 hk3
        refine ⟨_, _, hr, true, rfl, ⟨?_, hl4, hd4⟩, hk4⟩
        rw [hW4]; exact hI.put hi3 _ (by omega) _
      | ret =>
        obtain ⟨hk3, hi3⟩ := hp
        obtain ⟨W4, hr, hW4, hl4, hd4, hk4⟩ := fin (some .ret) W3 hk3
        refine ⟨_, _, hr, false, rfl, ⟨.ret, ?_, hl4, hd4⟩, hk4⟩
        rw [hW4]; exact (hIx _).put hi3 _ (by omega) _
      | exit id =>
        obtain ⟨hk3, hi3⟩ := hp
        obtain ⟨W4, hr, hW4, hl4, hd4, hk4⟩ := fin (some (.exit id)) W3 hk3
        refine ⟨_, _, hr, false, rfl, ⟨.exit id, ?_, hl4, hd4⟩, hk4⟩
        rw [hW4]; exact (hIx _).put hi3 _ (by omega) _
      | goto t =>
        obtain ⟨hk3, hi3⟩ := hp
        obtain ⟨W4, hr, hW4, hl4, hd4, hk4⟩ := fin (some (.goto t)) W3 hk3
        refine ⟨_, _, hr, false, rfl, ⟨.goto t, ?_, hl4, hd4⟩, hk4⟩
        rw [hW4]; exact (hIx _).put hi3 _ (by omega) _
      | panic ch => exact hp.elim
      | outgrown => exact hp.elim
    · rintro e W2 ⟨⟨v, rfl⟩, (⟨⟨hi, hl, hd⟩, hzW⟩ | ⟨pre, rest, hpre, c, hi, hl, hd⟩)⟩
      · refine ⟨none, _, by have := run_endLoop (P := Tryz.prog) hl (by rw [hR0]; simp); rw [hR0] at this; exact this, hdone _ _ rfl (by simp [World.putObj]; omega) (hI.put hi _ (by omega) _) ((World.putObj_heap_other (by omega)).trans hd)⟩
      · refine ⟨some c, _, by have := run_endLoop (P := Tryz.prog) hl (by rw [hR0]; simp); rw [hR0] at this; exact this, hstop _ c pre rest _ rfl hpre ((hIx c).put hi _ (by omega) _) ((World.putObj_heap_other (by omega)).trans hd)⟩

end Go.Proofs.YtkndjbmlkfpfoaaGreatDoor
