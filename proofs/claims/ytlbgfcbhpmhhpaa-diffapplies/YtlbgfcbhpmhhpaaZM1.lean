/-
  Rows of Edits: a part of one, and one behind another.
-/
import Derived.Test.YtlbgfcbhpmhhpaaZK4
set_option linter.unusedSimpArgs false
set_option linter.unusedVariables false
namespace Go.Proofs.Ytlbgfcbhpmhhpaa
open Go.RowKit Go.Lib

theorem sl_toE (w : World) (a : Option Addr) (n c k : Nat) (hk : k ≤ c) :
    (Instr.sliceAt 23 (.slice a n c) none (some (.int .i64 (k : Nat))) none).run Try.prog w = .ok (.slice a k c) w := by
  obtain ⟨i0, hi, hz0, hz1, hz2⟩ := info_parts infoEdit
  have h1 : (k : Int) ≤ (c : Int) := by omega
  have e : (if c = 0 then a else a.map (·.add (0 * 3))) = a := by
    split
    · rfl
    · cases a with
      | none => rfl
      | some ad => simp [Addr.add]
  simp [Instr.sliceAt, Instr.slice, run_underlying Try.underlying23, sizeOf, typeInfo, hi, hz1, go_sem, h1, hk]

theorem RE.takeE {W : World} {a : Option Addr} {n c k : Nat} {l : List Ed} (h : RE W (.slice a n c) l) (hk : k ≤ l.length) : RE W (.slice a k c) (l.take k) := by
  have hl : (l.take k).length = k := by rw [List.length_take]; omega
  rcases h with ⟨rfl, _⟩ | ⟨b, off, cap, e, hc⟩
  · simp at hk
    subst hk
    exact .inl ⟨by simp, _, _, rfl⟩
  · simp only [Value.slice.injEq] at e
    obtain ⟨rfl, _, rfl⟩ := e
    refine .inr ⟨b, off, c, by rw [hl], fun j e he => hc j e ?_⟩
    rw [List.getElem?_take] at he
    split at he
    · exact he
    · cases he

theorem edsC_at {l : List Ed} {j : Nat} {x : Value} (h : (edsC l)[j]? = some x) : ∃ e, l[j / 3]? = some e ∧ (edC e)[j % 3]? = some x := by
  have hj := (List.getElem?_eq_some_iff.1 h).1
  rw [edsC_length] at hj
  have hlt : j / 3 < l.length := by omega
  refine ⟨l[j / 3], List.getElem?_eq_getElem hlt, ?_⟩
  rw [← edsC_get l (j / 3) (j % 3) _ (List.getElem?_eq_getElem hlt) (by omega), show j / 3 * 3 + j % 3 = j by omega]
  exact h

theorem app_ER (w : World) (base : Nat) (ty : TypeId) (u : Value) (ys : List Ed) (hu : RE w u ys) (hb : base ≤ w.heap.size) (hl : ys.length ≤ 1000000) :
    ∃ v' w', (Builtin.append_ #[23, 23] ty #[.slice none 0 0, u]).run Try.prog w = .ok v' w' ∧ w'.ownsRow base 32 3 v' ys.length (edsC ys) ∧ w.grownBy w' (Value.slice none 0 0).ownBlock := by
  obtain ⟨i0, hi, hz0, hz1, hz2⟩ := info_parts infoEdit
  have hown : w.ownsRow base 32 3 (.slice none 0 0) 0 [] := World.ownsRow_nil _ _ _ _
  have step : ∀ (ad : Addr) (cc : Nat), u = .slice (some ad) ys.length cc → (∀ j x, (edsC ys)[j]? = some x → w.cell? (ad.add j) = some x) → ∃ v' w', (Builtin.append_ #[23, 23] ty #[.slice none 0 0, u]).run Try.prog w = .ok v' w' ∧ w'.ownsRow base 32 3 v' ys.length (edsC ys) ∧ w.grownBy w' (Value.slice none 0 0).ownBlock := by
    rintro ad cc rfl hc
    obtain ⟨v', w', h1, h2, h3, h4⟩ := run_append_own (P := Try.prog) w base 23 ty 32 i0 _ 3 32 Try.underlying23 hi hz0 hz1 hz2 rfl (by decide) _ 0 _ hown ad ys.length cc (edsC ys) (edsC_length ys) hc (fun x hx => by
      obtain ⟨j, hj⟩ := List.getElem?_of_mem hx
      obtain ⟨e, _, he⟩ := edsC_at hj
      have : x ∈ edC e := List.mem_of_getElem? he
      simp [edC] at this
      rcases this with rfl | rfl | rfl <;> rfl) (by unfold maxLen; omega) (by omega) hb
    exact ⟨v', w', h1, by simpa using h2, h3⟩
  rcases hu with ⟨rfl, b, cc, rfl⟩ | ⟨g, off, cc, rfl, hc⟩
  · cases b with
    | some ad => exact step ad cc rfl (fun j x h => by simp [edsC] at h)
    | none =>
      refine ⟨.slice none 0 0, w, ?_, World.ownsRow_nil _ _ _ _, World.grownBy.refl _ _⟩
      simp [Builtin.append_, run_underlying Try.underlying23, sizeOf, typeInfo, hi, Builtin.lenOf, Builtin.firstCells, storeCells]
  · refine step ⟨g, off, none⟩ cc rfl (fun j x h => ?_)
    obtain ⟨e, he, hx⟩ := edsC_at h
    obtain ⟨c0, c1, c2⟩ := hc (j / 3) e he
    rw [Addr.add_lit]
    have hj3 : j = j / 3 * 3 + j % 3 := by omega
    rcases (by omega : j % 3 = 0 ∨ j % 3 = 1 ∨ j % 3 = 2) with h3 | h3 | h3
    · rw [h3] at hx
      simp [edC] at hx
      rw [show off + j = off + j / 3 * 3 by omega, c0, hx]
    · rw [h3] at hx
      simp [edC] at hx
      rw [show off + j = off + j / 3 * 3 + 1 by omega, c1, hx]
    · rw [h3] at hx
      simp [edC] at hx
      rw [show off + j = off + j / 3 * 3 + 2 by omega, c2, hx]

theorem wpList_append_ER {ops : Array Oper} {rest : List Oper} {o : Oper} {a : Act} {w : World} {Q : Exit → Act → World → Prop} (hw : Region.wanted o (yielded ops a.tmps) = true) (s x : Operand)
    (ho : o.op = .call { callee := .builtin .append, args := #[s, x], argTypes := #[23, 23] })
    (base : Nat) (hs : a.eval s = .slice none 0 0) (u : Value) (ys : List Ed) (hx : a.eval x = u) (hu : RE w u ys) (hb : base ≤ w.heap.size) (hl : ys.length ≤ 1000000)
    (h : ∀ v' w', w'.ownsRow base 32 3 v' ys.length (edsC ys) → w.grownBy w' none → wpList Try.prog ops Q rest (a.put o.dst v') w') : wpList Try.prog ops Q (o :: rest) a w := by
  obtain ⟨v', w', h1, h2, h3⟩ := app_ER w base o.type u ys hu hb hl
  unfold wpList
  rw [if_pos hw]
  refine .inl ?_
  have hr := run_append (P := Try.prog) (o := o) (ρ := a.eval) s x 23 ho hs hx h1
  unfold Oper.wp
  rw [hr]
  exact h v' w' h2 h3

end Go.Proofs.Ytlbgfcbhpmhhpaa
