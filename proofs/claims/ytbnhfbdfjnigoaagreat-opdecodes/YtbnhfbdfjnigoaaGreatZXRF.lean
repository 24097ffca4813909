/-
  The document's own Number and Text; a row put behind nothing.
-/
import Derived.Test.YtbnhfbdfjnigoaaGreatZTW
import Derived.Test.YtbnhfbdfjnigoaaGreatZW1
import Derived.Test.YtbnhfbdfjnigoaaGreatZXN
import Derived.Test.YtbnhfbdfjnigoaaGreatZXU
import Derived.Deep.CutRange
import Derived.Deep.RegionWith

set_option linter.unusedSimpArgs false
set_option linter.unusedVariables false
namespace Go.Proofs.YtbnhfbdfjnigoaaGreat
open Go.RowKit Go.Lib

theorem bC_oneR (L : List Nat) : ∀ u ∈ bC L, u.oneCell' = true := fun u hu => by
  unfold bC at hu
  obtain ⟨x, _, rfl⟩ := List.mem_map.1 hu
  rfl

/-- append(b, x) of a byte -/
theorem append_byte (w : World) (ty : TypeId) (N : Nat) (v : Value) (L : List Nat) (x : Nat) (h : w.ownsRow N 5 1 v L.length (bC L)) (hN : N ≤ w.heap.size) (hl : L.length ≤ 100000000000) :
    ∃ v' w', (Builtin.append_ #[22, 22] ty #[v, .slice (some ⟨w.heap.size, 0, none⟩) 1 1]).run Tryz.prog (w.alloc (.cells #[.int .u8 (x : Nat)] 5)) = .ok v' w' ∧ w'.ownsRow N 5 1 v' (L ++ [x]).length (bC (L ++ [x])) ∧ (w.alloc (.cells #[.int .u8 (x : Nat)] 5)).grownBy w' v.ownBlock := by
  obtain ⟨i0, hi, hz0, hz1, hz2⟩ := info_parts infoB
  obtain ⟨v', w', h1, h2, h3, _⟩ := run_append_own (P := Tryz.prog) (w.alloc (.cells #[.int .u8 (x : Nat)] 5)) N 22 ty 5 i0 _ 1 1 Tryz.underlying22 hi hz0 hz1 hz2 rfl (by decide) v L.length _ (h.alloc _) ⟨w.heap.size, 0, none⟩ 1 1 [.int .u8 (x : Nat)] rfl (cell_one_new _ _ _) (by intro u hu; simp at hu; subst hu; rfl) (by unfold maxLen; omega) (by omega) (by simp; omega)
  exact ⟨v', w', h1, by simpa [bC] using h2, h3⟩

theorem owns_lo {W : World} {B B' E k n : Nat} {v : Value} {C : List Value} (hb : B' ≤ B) (h : W.ownsRow B E k v n C) : W.ownsRow B' E k v n C := by
  obtain ⟨h1, h2⟩ := h
  refine ⟨h1, h2.imp id ?_⟩
  rintro ⟨g, cap, cur, e1, e2, e3⟩
  exact ⟨g, cap, cur, e1, by omega, e3⟩

theorem wpList_append_eq2 {w : World} {ops : Array Oper} {rest : List Oper} {o : Oper} {a : Act} {Q : Exit → Act → World → Prop} (hgd : o.guard = none) (s x : Operand) (t u : TypeId)
    (ho : o.op = .call { callee := .builtin .append, args := #[s, x], argTypes := #[t, u] }) (v y v' : Value) (w' : World) (hs : a.eval s = v) (hx : a.eval x = y) (hr : (Builtin.append_ #[t, u] o.type #[v, y]).run Tryz.prog w = .ok v' w')
    (h : wpList Tryz.prog ops Q rest (a.put o.dst v') w') : wpList Tryz.prog ops Q (o :: rest) a w := by
  refine wpList_plain hgd fun K hK => ?_
  unfold Oper.wp execOp
  simp only [ho, resolve, invoke, builtin, Sem.run_bind, Sem.run_pure, Result.andThen_ok, List.map_toArray, List.map_cons, List.map_nil, hs, hx, hr]
  exact hK _ _ h

end Go.Proofs.YtbnhfbdfjnigoaaGreat

/-
  The document's own Put.
-/
set_option linter.unusedSimpArgs false
set_option linter.unusedVariables false
namespace Go.Proofs.YtbnhfbdfjnigoaaGreat
open Go.RowKit Go.Lib

theorem pb_step {d : List (Int × Int)} {i : Nat} {x : Int × Int} (h : d[i]? = some x) : pb (d.take (i + 1)) = pb (d.take i) ++ num x.1.toNat ++ num x.2.toNat := by
  rw [List.take_add_one, h]
  simp [pb, List.append_assoc]
theorem pb_len (d : List (Int × Int)) : (pb d).length ≤ 22 * d.length := by
  induction d with
  | nil => simp [pb]
  | cons x d ih =>
    have h1 := num_len x.1.toNat
    have h2 := num_len x.2.toNat
    have e : pb (x :: d) = num x.1.toNat ++ num x.2.toNat ++ pb d := by simp [pb]
    rw [e]
    simp only [List.length_append, List.length_cons]
    omega

end Go.Proofs.YtbnhfbdfjnigoaaGreat
