/-
  A range over an iterator whose arguments are told by what holds of them: the rounds are told what has come.
-/
import Derived.Test.YtmglnaldpcmakaaZW0
import Derived.RangeFuncBox
import Derived.RangeFuncNested
import Derived.RangeFuncBound
import Derived.RangeFuncCalls
import Derived.RangeFuncLeaves
import Derived.Shelf.Abstract
import Derived.Shelf.RegionOpen
import Derived.OwnWalkIn
import Derived.TacticsInMore
import Derived.LoopNIn
import Derived.LoopIn
set_option linter.unusedSimpArgs false
set_option linter.unusedVariables false
namespace Go.Proofs.Ytmglnaldpcmakaa
open Go.RowKit Go.Lib Go.Shelf

/-- what is laid, or turned from block B to T, is let by -/
def AbidesAll {β : Type} (B T : Nat) (J : β → World → Prop) : Prop := ∀ s W W' row, J s W → W.grownBy W' row → (∀ r, row = some r → B ≤ r ∧ r < T) → J s W'
theorem AbidesAll.and {β : Type} {B T : Nat} {I I' : β → World → Prop} (h : AbidesAll B T I) (h' : AbidesAll B T I') : AbidesAll B T (fun s W => I s W ∧ I' s W) := fun s W W' row hs hg hr => ⟨h s W W' row hs.1 hg hr, h' s W W' row hs.2 hg hr⟩
theorem AbidesAll.pure {β : Type} (B T : Nat) (p : β → Prop) : AbidesAll B T (fun s (_ : World) => p s) := fun _ _ _ _ hs _ _ => hs
theorem AbidesAll.boxed {β : Type} {B T b : Nat} (hb : b < B ∨ T ≤ b) (t : TypeId) (f : β → Value) : AbidesAll B T (fun s W => Boxed W b t (f s)) := fun s W W' row hs hg hr => hs.kept hg (fun e => by have := hr b e.symm; omega)
theorem AbidesAll.below {β : Type} {B T n : Nat} {w : World} (hn : n ≤ w.heap.size) (hB : n ≤ B) : AbidesAll B T (fun (_ : β) W => Below n w W) := fun s W W' row hs hg hr => hs.grown hg (Nat.le_trans hn hs.size) (fun k e => Nat.le_trans hB (hr k e).1)
theorem AbidesAll.mono {β : Type} {B B' T T' : Nat} {I : β → World → Prop} (h : AbidesAll B T I) (hB : B ≤ B') (hT : T' ≤ T) : AbidesAll B' T' I := fun s W W' row hs hg hr => h s W W' row hs hg (fun r e => ⟨Nat.le_trans hB (hr r e).1, Nat.lt_of_lt_of_le (hr r e).2 hT⟩)
theorem AbidesAll.alloc {β : Type} {B T : Nat} {I : β → World → Prop} (h : AbidesAll B T I) {s : β} {W : World} (hs : I s W) (o : Obj) : I s (W.alloc o) := h s _ _ none hs (World.grownBy_alloc W o none) (fun r e => by cases e)
theorem AbidesAll.put {β : Type} {B T : Nat} {I : β → World → Prop} (h : AbidesAll B T I) {s : β} {W : World} (hs : I s W) (l : Nat) (hl : B ≤ l ∧ l < T) (o : Obj) : I s (W.putObj l o) := h s _ _ (some l) hs (grownBy_putObj' W l o) (fun r e => by cases e; exact hl)

theorem room_none {F : Fence} (hd : F.depth = none) (k : Nat) : F.room k := fun d h => by rw [hd] at h; cases h

theorem roundIn_any {m m' : Nat} {P : Program} {l : Nat} {f : FuncId} {tmps : Array Value} {assign body : Code} {w : World} {R : Ending → World → Prop} (h : RoundIn Fence.wide m P l f tmps assign body w R) : RoundIn Fence.wide m' P l f tmps assign body w R := ⟨h.1, fun c cs _ => h.2 c cs (room_none rfl _)⟩

/-- a call of yield, at whatever depth -/
def YieldL (l : Nat) (args : Array Value) (W : World) (R : Bool → World → Prop) : Prop := ∀ m, YieldAt Fence.wide m Try.prog l args W fun e W' => ∃ b, e = .returned (.bool b) ∧ R b W'

/-- an iterator that goes through a list; S: what it has itself -/
def SeqE {α : Type} (gf : Nat) (lb : Array Value) (A : α → World → Array Value → Prop) (L : List α) (S : World → Prop) : Prop :=
  ∀ (l : Nat) (J Jx : List α → World → Prop) (W : World), (∀ pre W1 W2, J pre W1 → Below W1.heap.size W1 W2 → J pre W2) → (∀ pre W1, J pre W1 → S W1) →
    (∀ pre x rest W1 args, pre ++ x :: rest = L → J pre W1 → A x W1 args → YieldL l args W1 fun b W' => if b then J (pre ++ [x]) W' else Jx (pre ++ [x]) W') →
    J [] W → ∀ n, CallsIn Fence.wide n Try.prog gf (#[.func (.yield l) #[] #[]] ++ lb) W fun e W' => (∃ v, e = .returned v) ∧ ((J L W' ∧ True) ∨ ∃ pre rest, pre ++ rest = L ∧ Jx pre W')

/-- how a round's body may be left -/
def postE {α : Type} (B : Nat) (I : List α → World → Prop) (Ix : Code → List α → World → Prop) (xs : List α) (W : World) : Exit → Act → World → Prop
  | .normal, _, W' => (∀ k, B ≤ k → k < B + 2 → W'.heap[k]? = W.heap[k]?) ∧ I xs W'
  | .ret, _, W' => (∀ k, B ≤ k → k < B + 2 → W'.heap[k]? = W.heap[k]?) ∧ Ix .ret xs W'
  | .exit id, _, W' => (∀ k, B ≤ k → k < B + 2 → W'.heap[k]? = W.heap[k]?) ∧ Ix (.exit id) xs W'
  | .goto t, _, W' => (∀ k, B ≤ k → k < B + 2 → W'.heap[k]? = W.heap[k]?) ∧ Ix (.goto t) xs W'
  | .panic _, _, _ => False
  | .outgrown, _, _ => False

set_option maxHeartbeats 1000000 in
theorem range_E {α : Type} {g : Operand} {ps : Array Tmp} {assign body : Code} {Q : Exit → Act → World → Prop} {a : Act} {w : World} {n : Nat}
    {gf : Nat} {lb : Array Value} (hg : a.eval g = .func (.func gf) #[] lb) (eg : ∀ args w, (callFunc gf args).run Try.prog w = .ok (.enter gf args) w)
    {A : α → World → Array Value → Prop} {L : List α} {S : World → Prop} (hseq : SeqE gf lb A L S) (hps : ∀ x W args, A x W args → args.size = ps.size)
    (I : List α → World → Prop) (Ix : Code → List α → World → Prop) (hI : AbidesAll w.heap.size (w.heap.size + 2) I) (hIx : ∀ c, AbidesAll w.heap.size (w.heap.size + 2) (Ix c)) (hS : ∀ pre W, I pre W → S W) (h0 : I [] w) (a₁ : α → Array Value → Act)
    (hassign : ∀ (l : Nat) (x : α) (args : Array Value) (W : World) (K : Act → World → Prop), A x W args → K (a₁ x args) W → assign.wpIn (Fence.wide.inRound l) 4 Try.prog (Exit.then K (fun _ _ _ => False)) { tmps := (ps.zip args).foldl (fun t (p, v) => t.setIfInBounds p v) a.tmps, defers := [] } W)
    (hbody : ∀ (l : Nat) (pre : List α) (x : α) (rest : List α) (args : Array Value) (W : World), pre ++ x :: rest = L → w.heap.size + 2 ≤ W.heap.size → I pre W → body.wpIn (Fence.wide.inRound l) 4 Try.prog (postE w.heap.size I Ix (pre ++ [x]) W) (a₁ x args) W)
    (hdone : ∀ (D : Nat) (W : World), D = w.heap.size → w.heap.size + 2 ≤ W.heap.size → I L W → W.heap[D]? = some (.deferred (some [])) → Q .normal { a with defers := { target := .collected D, args := #[] } :: a.defers } W)
    (hstop : ∀ (D : Nat) (c : Code) (pre rest : List α) (W : World), D = w.heap.size → pre ++ rest = L → Ix c pre W → W.heap[D]? = some (.deferred (some [])) → c.wpIn Fence.wide n Try.prog Q { a with defers := { target := .collected D, args := #[] } :: a.defers } W) :
    (Code.rangeFunc g ps assign body).wpIn Fence.wide n Try.prog Q a w := by
  refine wpIn_rangeFunc fun fn hfn => ?_
  obtain ⟨R0, hR0⟩ : ∃ R0 : LoopState → Option Code → Loop, R0 = fun st pe => { state := st, pending := pe, fn, tmps := a.tmps, params := ps, assign, body, defers := w.heap.size } := ⟨_, rfl⟩
  obtain ⟨W1, hW1⟩ : ∃ W1, (w.alloc (.deferred (some []))).alloc (.loop (R0 .ready none)) = W1 := ⟨_, rfl⟩
  have hz1 : W1.heap.size = w.heap.size + 2 := by rw [← hW1]; simp
  have hL1 : W1.heap[w.heap.size + 1]? = some (.loop (R0 .ready none)) := by
    rw [← hW1]; have := World.alloc_heap_new (w.alloc (.deferred (some []))) (.loop (R0 .ready none)); rwa [World.size_alloc] at this
  have hD1 : W1.heap[w.heap.size]? = some (.deferred (some [])) := by
    rw [← hW1]; exact (Below.heap_alloc _ _ _ (by simp)).trans (World.alloc_heap_new w _)
  have hI1 : I [] W1 := by rw [← hW1]; exact hI.alloc (hI.alloc h0 _) _
  refine ⟨w.heap.size + 1, [{ target := .collected w.heap.size, args := #[] }], W1, { target := .fn (.func gf) lb, args := #[.func (.yield (w.heap.size + 1)) #[] #[]] }, W1, gf,
    #[.func (.yield (w.heap.size + 1)) #[] #[]] ++ lb, W1, ?_, ?_, fun _ _ => trivial, ?_, fun h => (by cases h), ?_⟩
  · rw [← hW1, hR0]; exact run_enterLoop_outer _ _ _ _ _
  · simp only [resolve, hg]
    simp [go_sem]
  · simp [invoke, go_sem, eg]
  · have st : ∀ {c : LoopState} {pe : Option Code} {I' : List α → World → Prop}, AbidesAll w.heap.size (w.heap.size + 2) I' → ∀ pre (A' B' : World), (I' pre A' ∧ A'.heap[w.heap.size + 1]? = some (.loop (R0 c pe)) ∧ A'.heap[w.heap.size]? = some (.deferred (some []))) → Below A'.heap.size A' B' → (I' pre B' ∧ B'.heap[w.heap.size + 1]? = some (.loop (R0 c pe)) ∧ B'.heap[w.heap.size]? = some (.deferred (some []))) := fun hI' pre A' B' ⟨h1, h2, h3⟩ hb =>
      ⟨hI' pre A' B' none h1 ⟨hb.os, hb.tape, hb.output, hb.size, fun k hk _ => hb.block k hk⟩ (fun r e => by cases e), (hb.block _ (Array.getElem?_eq_some_iff.1 h2).1).trans h2, (hb.block _ (Array.getElem?_eq_some_iff.1 h3).1).trans h3⟩
    refine (hseq (w.heap.size + 1)
      (fun pre W => I pre W ∧ W.heap[w.heap.size + 1]? = some (.loop (R0 .ready none)) ∧ W.heap[w.heap.size]? = some (.deferred (some [])))
      (fun pre W => ∃ c, Ix c pre W ∧ W.heap[w.heap.size + 1]? = some (.loop (R0 .done (some c))) ∧ W.heap[w.heap.size]? = some (.deferred (some [])))
      W1 (fun pre A' B' h hb => st hI pre A' B' h hb) (fun pre W h => hS pre W h.1) ?_ ⟨hI1, hL1, hD1⟩ (n - 1)).mono ?_
    · rintro pre x rest W args hpre ⟨hi, hl, hd⟩ hA m
      have hlt : w.heap.size + 1 < W.heap.size := (Array.getElem?_eq_some_iff.1 hl).1
      have hy := run_yield (P := Try.prog) (args := args) hl (by rw [hR0]; exact hps x W args hA)
      rw [hR0] at hy
      refine ⟨fn, _, assign, body, hy, roundIn_any (m := 4) (roundIn_of_wpIn hfn (hassign _ x args W _ hA ?_))⟩
      clear hy
      refine ⟨_, run_beginRound hl (by rw [hR0]), ?_⟩
      obtain ⟨W2, hW2⟩ : ∃ W2, W.putObj (w.heap.size + 1) (.loop { R0 .ready none with state := .busy }) = W2 := ⟨_, rfl⟩
      have hl2 : W2.heap[w.heap.size + 1]? = some (.loop { R0 .ready none with state := .busy }) := by rw [← hW2]; exact World.putObj_heap_same hlt
      have hd2 : W2.heap[w.heap.size]? = some (.deferred (some [])) := by rw [← hW2]; exact (World.putObj_heap_other (by omega)).trans hd
      have hz2 : w.heap.size + 2 ≤ W2.heap.size := by rw [← hW2]; simp [World.putObj]; omega
      have hi2 : I pre W2 := by rw [← hW2]; exact hI.put hi _ (by omega) _
      rw [hW2]
      refine wpIn_mono (hbody _ pre x rest args W2 hpre hz2 hi2) ?_
      have fin : ∀ (jump : Option Code) (W3 : World), (∀ k, w.heap.size ≤ k → k < w.heap.size + 2 → W3.heap[k]? = W2.heap[k]?) →
          ∃ W4, (Instr.endRound (w.heap.size + 1) jump).run Try.prog W3 = .ok (.bool jump.isNone) W4 ∧ W4 = W3.putObj (w.heap.size + 1) (.loop (R0 (if jump.isNone then .ready else .done) jump)) ∧
          W4.heap[w.heap.size + 1]? = some (.loop (R0 (if jump.isNone then .ready else .done) jump)) ∧ W4.heap[w.heap.size]? = some (.deferred (some [])) := fun jump W3 hk3 => by
        have hl3 := (hk3 (w.heap.size + 1) (by omega) (by omega)).trans hl2
        have hd3 := (hk3 w.heap.size (Nat.le_refl _) (by omega)).trans hd2
        have he := run_endRound (P := Try.prog) jump hl3
        refine ⟨_, he, by rw [hR0], ?_, (World.putObj_heap_other (by omega)).trans hd3⟩
        rw [World.putObj_heap_same (Array.getElem?_eq_some_iff.1 hl3).1, hR0]
      rintro e a3 W3 hp
      cases e with
      | normal =>
        obtain ⟨hk3, hi3⟩ := hp
        obtain ⟨W4, hr, hW4, hl4, hd4⟩ := fin none W3 hk3
        refine ⟨_, _, hr, true, rfl, ?_, hl4, hd4⟩
        rw [hW4]; exact hI.put hi3 _ (by omega) _
      | ret =>
        obtain ⟨hk3, hi3⟩ := hp
        obtain ⟨W4, hr, hW4, hl4, hd4⟩ := fin (some .ret) W3 hk3
        refine ⟨_, _, hr, false, rfl, .ret, ?_, hl4, hd4⟩
        rw [hW4]; exact (hIx _).put hi3 _ (by omega) _
      | exit id =>
        obtain ⟨hk3, hi3⟩ := hp
        obtain ⟨W4, hr, hW4, hl4, hd4⟩ := fin (some (.exit id)) W3 hk3
        refine ⟨_, _, hr, false, rfl, .exit id, ?_, hl4, hd4⟩
        rw [hW4]; exact (hIx _).put hi3 _ (by omega) _
      | goto t =>
        obtain ⟨hk3, hi3⟩ := hp
        obtain ⟨W4, hr, hW4, hl4, hd4⟩ := fin (some (.goto t)) W3 hk3
        refine ⟨_, _, hr, false, rfl, .goto t, ?_, hl4, hd4⟩
        rw [hW4]; exact (hIx _).put hi3 _ (by omega) _
      | panic ch => exact hp.elim
      | outgrown => exact hp.elim
    · rintro e W2 ⟨⟨v, rfl⟩, (⟨⟨hi, hl, hd⟩, hzW⟩ | ⟨pre, rest, hpre, c, hi, hl, hd⟩)⟩
      · refine ⟨none, _, by have := run_endLoop (P := Try.prog) hl (by rw [hR0]; simp); rw [hR0] at this; exact this, hdone _ _ rfl (by have := (Array.getElem?_eq_some_iff.1 hl).1; simp [World.putObj]; omega) (hI.put hi _ (by omega) _) ((World.putObj_heap_other (by omega)).trans hd)⟩
      · refine ⟨some c, _, by have := run_endLoop (P := Try.prog) hl (by rw [hR0]; simp); rw [hR0] at this; exact this, hstop _ c pre rest _ rfl hpre ((hIx c).put hi _ (by omega) _) ((World.putObj_heap_other (by omega)).trans hd)⟩

end Go.Proofs.Ytmglnaldpcmakaa
