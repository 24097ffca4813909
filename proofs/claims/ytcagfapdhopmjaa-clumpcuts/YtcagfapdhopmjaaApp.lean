/-
  A row of texts behind a row of one's own: append(l, m...), guarded or not.
-/
import Derived.Test.YtcagfapdhopmjaaSam
import Derived.Test.YtcagfapdhopmjaaPrt2
import Derived.OwnWalk
set_option linter.unusedSimpArgs false
set_option linter.unusedVariables false
namespace Go.Proofs.Ytcagfapdhopmjaa
open Go.RowKit Go.Lib

theorem run_append_nil {P : Program} (w : World) (t ty e : TypeId) (i : TypeInfo) (ht : P.underlying t = some (.slice e)) (hi : P.info? e = some i) (ad : Addr) (n cap c : Nat) (hn : n ≤ cap) :
    (Builtin.append_ #[t, t] ty #[.slice (some ad) n cap, .slice none 0 c]).run P w = .ok (.slice (some ad) n cap) w := by
  simp [Builtin.append_, run_underlying ht, sizeOf, typeInfo, hi, Builtin.lenOf, Builtin.firstCells, hn, storeCells]

theorem app_S (w : World) (base : Nat) (ty : TypeId) (v : Value) (xs : List ByteArray) (hown : w.ownsRow base 9 1 v xs.length (xs.map Value.string)) (hv : v ≠ .slice none 0 0) (u : Value) (ys : List ByteArray) (hu : RowS w u ys) (hb : base ≤ w.heap.size) (hl : xs.length + ys.length ≤ 1000000000) :
    ∃ v' w', (Builtin.append_ #[31, 31] ty #[v, u]).run Try.prog w = .ok v' w' ∧ w'.ownsRow base 9 1 v' (xs ++ ys).length ((xs ++ ys).map Value.string) ∧ w.grownBy w' v.ownBlock ∧ v' ≠ .slice none 0 0 := by
  obtain ⟨i0, hi, hz0, hz1, hz2⟩ := info_parts infoStr
  obtain ⟨a, c, rfl⟩ := owns_form hown
  have step : ∀ (ad : Addr) (cc : Nat), u = .slice (some ad) ys.length cc → (∀ j x, (ys.map Value.string)[j]? = some x → w.cell? (ad.add j) = some x) → ∃ v' w', (Builtin.append_ #[31, 31] ty #[.slice a xs.length c, u]).run Try.prog w = .ok v' w' ∧ w'.ownsRow base 9 1 v' (xs ++ ys).length ((xs ++ ys).map Value.string) ∧ w.grownBy w' (Value.slice a xs.length c).ownBlock ∧ v' ≠ .slice none 0 0 := by
    rintro ad cc rfl hc
    obtain ⟨v', w', h1, h2, h3, h4⟩ := run_append_own (P := Try.prog) w base 31 ty 9 i0 (.string ⟨#[]⟩) 1 16 Try.underlying31 hi hz0 hz1 hz2 rfl (by decide) _ xs.length _ hown ad ys.length cc (ys.map Value.string) (by simp) hc (fun x hx => by obtain ⟨y, _, rfl⟩ := List.mem_map.1 hx; rfl) (by unfold maxLen; omega) (by omega) hb
    exact ⟨v', w', h1, by rw [List.length_append, List.map_append]; exact h2, h3, fun e => hv (h4.1 e).1⟩
  rcases hu with ⟨rfl, b, cc, rfl⟩ | ⟨g, off, cc, rfl, hc⟩
  · cases b with
    | some ad => exact step ad cc rfl (fun j x h => by simp at h)
    | none =>
      rcases hown.2 with ⟨e, _⟩ | ⟨g, cap, cur, e, h1, h2, h3, _⟩
      · exact absurd e hv
      · obtain ⟨rfl, rfl⟩ : a = some ⟨g, 0, none⟩ ∧ c = cap := by
          simp at e; exact e
        refine ⟨_, w, run_append_nil w _ ty _ i0 Try.underlying31 hi _ _ _ cc h3, by simpa using hown, World.grownBy.refl _ _, hv⟩
  · refine step ⟨g, off, none⟩ cc rfl (fun j x h => ?_)
    rw [List.getElem?_map] at h
    cases hy : ys[j]? with
    | none => rw [hy] at h; cases h
    | some y =>
      rw [hy] at h
      simp at h
      subst h
      rw [Addr.add_lit]; exact hc j y hy

theorem wpList_append_S {ops : Array Oper} {rest : List Oper} {o : Oper} {a : Act} {w : World} {Q : Exit → Act → World → Prop} (hw : Region.wanted o (yielded ops a.tmps) = true) (s x : Operand)
    (ho : o.op = .call { callee := .builtin .append, args := #[s, x], argTypes := #[31, 31] })
    (base : Nat) (v : Value) (xs : List ByteArray) (hs : a.eval s = v) (hown : w.ownsRow base 9 1 v xs.length (xs.map Value.string)) (hv : v ≠ .slice none 0 0) (u : Value) (ys : List ByteArray) (hx : a.eval x = u) (hu : RowS w u ys) (hb : base ≤ w.heap.size) (hl : xs.length + ys.length ≤ 1000000000)
    (h : ∀ v' w', w'.ownsRow base 9 1 v' (xs ++ ys).length ((xs ++ ys).map Value.string) → w.grownBy w' v.ownBlock → v' ≠ .slice none 0 0 → wpList Try.prog ops Q rest (a.put o.dst v') w') : wpList Try.prog ops Q (o :: rest) a w := by
  obtain ⟨v', w', h1, h2, h3, h4⟩ := app_S w base o.type v xs hown hv u ys hu hb hl
  unfold wpList
  rw [if_pos hw]
  refine .inl ?_
  have hr := run_append (P := Try.prog) (o := o) (ρ := a.eval) s x 31 ho hs hx h1
  unfold Oper.wp
  rw [hr]
  exact h v' w' h2 h3 h4

end Go.Proofs.Ytcagfapdhopmjaa
