/-
  A range over an iterator that asks something of the world, whose loop variable is boxed: its body is told of its record.
-/
import Derived.Test.YtkndjbmlkfpfoaaGreatDoorZSqK

set_option linter.unusedSimpArgs false
set_option linter.unusedVariables false
namespace Go.Proofs.YtkndjbmlkfpfoaaGreatDoor
open Go.RowKit Go.Lib Go.Shelf

theorem range_KA {α : Type} {Kx : World → Prop} {g : Operand} {ps : Array Tmp} {assign body : Code} {Q : Exit → Act → World → Prop} {a : Act} {w : World} {n : Nat}
    {gf : Nat} {lb : Array Value} (hg : a.eval g = .func (.func gf) #[] lb) (eg : ∀ args w, (callFunc gf args).run Tryz.prog w = .ok (.enter gf args) w)
    {encs : α → Array Value} {L : List α} {z : Nat} {w0 : World} (hseq : SeqK Kx z gf lb encs L w0) (hb0 : Below w0.heap.size w0 w) (hps : ∀ x, (encs x).size = ps.size)
    (I : List α → World → Prop) (Ix : Code → List α → World → Prop) (hI : AbidesAll w.heap.size (w.heap.size + 2 + z) I) (hIx : ∀ c, AbidesAll w.heap.size (w.heap.size + 2 + z) (Ix c)) (hKx : ∀ pre W, I pre W → Kx W) (h0 : I [] w) (Ax : α → Act → World → Prop) (hAx : ∀ x a', AbidesAll w.heap.size (w.heap.size + 2 + z) (fun (_ : Unit) W => Ax x a' W))
    (hassign : ∀ (l : Nat) (pre : List α) (x : α) (rest : List α) (W : World) (K : Act → World → Prop), pre ++ x :: rest = L → w.heap.size + 2 + z ≤ W.heap.size → I pre W → (∀ a' W', KQ w.heap.size (w.heap.size + 2 + z) W W' → I pre W' → Ax x a' W' → K a' W') →
      assign.wpIn (Fence.wide.inRound l) 4 Tryz.prog (Exit.then K (fun _ _ _ => False)) { tmps := (ps.zip (encs x)).foldl (fun t (p, v) => t.setIfInBounds p v) a.tmps, defers := [] } W)
    (hbody : ∀ (l : Nat) (pre : List α) (x : α) (rest : List α) (a' : Act) (W : World), pre ++ x :: rest = L → w.heap.size + 2 + z ≤ W.heap.size → I pre W → Ax x a' W → body.wpIn (Fence.wide.inRound l) 4 Tryz.prog (postK w.heap.size (w.heap.size + 2 + z) I Ix (pre ++ [x]) W) a' W)
    (hdone : ∀ (D : Nat) (W : World), D = w.heap.size → w.heap.size + 2 ≤ W.heap.size → I L W → W.heap[D]? = some (.deferred (some [])) → Q .normal { a with defers := { target := .collected D, args := #[] } :: a.defers } W)
    (hstop : ∀ (D : Nat) (c : Code) (pre rest : List α) (W : World), D = w.heap.size → pre ++ rest = L → Ix c pre W → W.heap[D]? = some (.deferred (some [])) → c.wpIn Fence.wide n Tryz.prog Q { a with defers := { target := .collected D, args := #[] } :: a.defers } W) :
    (Code.rangeFunc g ps assign body).wpIn Fence.wide n Tryz.prog Q a w := by
  refine wpIn_rangeFunc fun fn hfn => ?_
  obtain ⟨R0, hR0⟩ : ∃ R0 : LoopState → Option Code → Loop, R0 = fun st pe => { state := st, pending := pe, fn, tmps := a.tmps, params := ps, assign, body, defers := w.heap.size } := ⟨_, rfl⟩
  obtain ⟨W1, hW1⟩ : ∃ W1, (w.alloc (.deferred (some []))).alloc (.loop (R0 .ready none)) = W1 := ⟨_, rfl⟩
  have hz1 : W1.heap.size = w.heap.size + 2 := by rw [← hW1]; simp
  have hL1 : W1.heap[w.heap.size + 1]? = some (.loop (R0 .ready none)) := by
    rw [← hW1]; have := World.alloc_heap_new (w.alloc (.deferred (some []))) (.loop (R0 .ready none)); rwa [World.size_alloc] at this
  have hD1 : W1.heap[w.heap.size]? = some (.deferred (some [])) := by
    rw [← hW1]; exact (Below.heap_alloc _ _ _ (by simp)).trans (World.alloc_heap_new w _)
  have hI1 : I [] W1 := by rw [← hW1]; exact hI.alloc (hI.alloc h0 _) _
  have hbe : Below w0.heap.size w0 W1 := by
    rw [← hW1]; exact hb0.trans ((((Below.refl _ w).alloc (Nat.le_refl _) _).alloc (by simp) _).mono hb0.size)
  refine ⟨w.heap.size + 1, [{ target := .collected w.heap.size, args := #[] }], W1, { target := .fn (.func gf) lb, args := #[.func (.yield (w.heap.size + 1)) #[] #[]] }, W1, gf,
    #[.func (.yield (w.heap.size + 1)) #[] #[]] ++ lb, W1, ?_, ?_, fun _ _ => trivial, ?_, fun h => (by cases h), ?_⟩
  · rw [← hW1, hR0]; exact run_enterLoop_outer _ _ _ _ _
  · simp only [resolve, hg]
    simp [go_sem]
  · simp [invoke, go_sem, eg]
  · refine (hseq (w.heap.size + 1)
      (fun pre W => I pre W ∧ W.heap[w.heap.size + 1]? = some (.loop (R0 .ready none)) ∧ W.heap[w.heap.size]? = some (.deferred (some [])))
      (fun pre W => ∃ c, Ix c pre W ∧ W.heap[w.heap.size + 1]? = some (.loop (R0 .done (some c))) ∧ W.heap[w.heap.size]? = some (.deferred (some [])))
      W1 hbe ?_ ?_ (fun pre W hh => hKx pre W hh.1) ?_ ⟨hI1, hL1, hD1⟩ (n - 1)).mono ?_
    · rintro s A B row ⟨h1, h2, h3⟩ hgr hr
      refine ⟨hI s A B row h1 hgr (fun r e => by have := hr r e; constructor <;> omega), (hgr.block _ (Array.getElem?_eq_some_iff.1 h2).1 (fun e => by have := hr _ e.symm; omega)).trans h2, (hgr.block _ (Array.getElem?_eq_some_iff.1 h3).1 (fun e => by have := hr _ e.symm; omega)).trans h3⟩
    · rintro s A B row ⟨c, h1, h2, h3⟩ hgr hr
      refine ⟨c, hIx c s A B row h1 hgr (fun r e => by have := hr r e; constructor <;> omega), (hgr.block _ (Array.getElem?_eq_some_iff.1 h2).1 (fun e => by have := hr _ e.symm; omega)).trans h2, (hgr.block _ (Array.getElem?_eq_some_iff.1 h3).1 (fun e => by have := hr _ e.symm; omega)).trans h3⟩
    · rintro pre x rest W hpre hzW ⟨hi, hl, hd⟩ m
      have hlt : w.heap.size + 1 < W.heap.size := (Array.getElem?_eq_some_iff.1 hl).1
      have hy := run_yield (P := Tryz.prog) (args := encs x) hl (by rw [hR0]; exact hps x)
      rw [hR0] at hy
      refine ⟨fn, _, assign, body, hy, roundIn_any (m := 4) (roundIn_of_wpIn hfn (hassign _ pre x rest W _ hpre (by omega) hi ?_))⟩
      clear hy
      intro a' Wa hka hia hax
      replace hl := (hka.over _ (by omega) (by omega) hlt).trans hl
      replace hd := (hka.over _ (by omega) (by omega) (by omega)).trans hd
      replace hlt : w.heap.size + 1 < Wa.heap.size := (Array.getElem?_eq_some_iff.1 hl).1
      replace hzW : W1.heap.size + z ≤ Wa.heap.size := Nat.le_trans hzW hka.size
      have hka' : KQ W1.heap.size (W1.heap.size + z) W Wa := hka.mono (by omega) (by omega)
      clear hka hi
      revert hka'
      generalize W = Wb
      intro hka'
      obtain ⟨W, rfl⟩ : ∃ W, W = Wa := ⟨_, rfl⟩
      have hi := hia
      refine ⟨_, run_beginRound hl (by rw [hR0]), ?_⟩
      obtain ⟨W2, hW2⟩ : ∃ W2, W.putObj (w.heap.size + 1) (.loop { R0 .ready none with state := .busy }) = W2 := ⟨_, rfl⟩
      have hl2 : W2.heap[w.heap.size + 1]? = some (.loop { R0 .ready none with state := .busy }) := by rw [← hW2]; exact World.putObj_heap_same hlt
      have hd2 : W2.heap[w.heap.size]? = some (.deferred (some [])) := by rw [← hW2]; exact (World.putObj_heap_other (by omega)).trans hd
      have hk2 : KQ W1.heap.size (W1.heap.size + z) W W2 := by rw [← hW2]; exact KQ.put hl (by omega)
      have hi2 : I pre W2 := by rw [← hW2]; exact hI.put hi _ (by omega) _
      have hax2 : Ax x a' W2 := by rw [← hW2]; exact (hAx x a').put (s := ()) hax _ (by omega) _
      rw [hW2]
      refine wpIn_mono (hbody _ pre x rest a' W2 hpre (by have := hk2.size; omega) hi2 hax2) ?_
      have fin : ∀ (jump : Option Code) (W3 : World), KQ w.heap.size (w.heap.size + 2 + z) W2 W3 →
          ∃ W4, (Instr.endRound (w.heap.size + 1) jump).run Tryz.prog W3 = .ok (.bool jump.isNone) W4 ∧ W4 = W3.putObj (w.heap.size + 1) (.loop (R0 (if jump.isNone then .ready else .done) jump)) ∧
          W4.heap[w.heap.size + 1]? = some (.loop (R0 (if jump.isNone then .ready else .done) jump)) ∧ W4.heap[w.heap.size]? = some (.deferred (some [])) ∧ KQ W1.heap.size (W1.heap.size + z) Wb W4 := fun jump W3 hk3 => by
        have hl3 := (hk3.over _ (by omega) (by omega) (Array.getElem?_eq_some_iff.1 hl2).1).trans hl2
        have hd3 := (hk3.over _ (Nat.le_refl _) (by omega) (Array.getElem?_eq_some_iff.1 hd2).1).trans hd2
        have he := run_endRound (P := Tryz.prog) jump hl3
        refine ⟨_, he, by rw [hR0], ?_, (World.putObj_heap_other (by omega)).trans hd3, ((hka'.trans hk2).trans (hk3.mono (by omega) (by omega))).trans (KQ.put hl3 (by omega))⟩
        rw [World.putObj_heap_same (Array.getElem?_eq_some_iff.1 hl3).1, hR0]
      rintro e a3 W3 hp
      cases e with
      | normal =>
        obtain ⟨hk3, hi3⟩ := hp
        obtain ⟨W4, hr, hW4, hl4, hd4, hk4⟩ := fin none W3 hk3
        refine ⟨_, _, hr, true, rfl, ⟨?_, hl4, hd4⟩, hk4⟩
        rw [hW4]; exact hI.put hi3 _ (by omega) _
      | ret =>
        obtain ⟨hk3, hi3⟩ := hp
        obtain ⟨W4, hr, hW4, hl4, hd4, hk4⟩ := fin (some .ret) W3 hk3
        refine ⟨_, _, hr, false, rfl, ⟨.ret, ?_, hl4, hd4⟩, hk4⟩
        rw [hW4]; exact (hIx _).put hi3 _ (by omega) _
      | exit id =>
        obtain ⟨hk3, hi3⟩ := hp
        obtain ⟨W4, hr, hW4, hl4, hd4, hk4⟩ := fin (some (.exit id)) W3 hk3
        refine ⟨_, _, hr, false, rfl, ⟨.exit id, ?_, hl4, hd4⟩, hk4⟩
        rw [hW4]; exact (hIx _).put hi3 _ (by omega) _
      | goto t =>
        obtain ⟨hk3, hi3⟩ := hp
        obtain ⟨W4, hr, hW4, hl4, hd4, hk4⟩ := fin (some (.goto t)) W3 hk3
        refine ⟨_, _, hr, false, rfl, ⟨.goto t, ?_, hl4, hd4⟩, hk4⟩
        rw [hW4]; exact (hIx _).put hi3 _ (by omega) _
      | panic ch => exact hp.elim
      | outgrown => exact hp.elim
    · rintro e W2 ⟨⟨v, rfl⟩, (⟨⟨hi, hl, hd⟩, hzW⟩ | ⟨pre, rest, hpre, c, hi, hl, hd⟩)⟩
      · refine ⟨none, _, by have := run_endLoop (P := Tryz.prog) hl (by rw [hR0]; simp); rw [hR0] at this; exact this, hdone _ _ rfl (by simp [World.putObj]; omega) (hI.put hi _ (by omega) _) ((World.putObj_heap_other (by omega)).trans hd)⟩
      · refine ⟨some c, _, by have := run_endLoop (P := Tryz.prog) hl (by rw [hR0]; simp); rw [hR0] at this; exact this, hstop _ c pre rest _ rfl hpre ((hIx c).put hi _ (by omega) _) ((World.putObj_heap_other (by omega)).trans hd)⟩

end Go.Proofs.YtkndjbmlkfpfoaaGreatDoor
