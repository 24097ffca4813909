/-
  Pack's map and rows in memory.
-/
import Derived.Test.YtccggjhnjknblaaZPK1
import Derived.Test.YtccggjhnjknblaaZW0
import Derived.Maps.OwnSet
import Derived.Maps.Views
import Derived.Laws.OwnMore
import Derived.DeepKeys4
set_option linter.unusedSimpArgs false
set_option linter.unusedVariables false
namespace Go.Proofs.Ytccggjhnjknblaa
open Go.RowKit Go.Lib Go.Sort Go.Maps

theorem laidOut : laidOutB Try.prog = true := by kernel_rfl
theorem lawID : Keyed Try.prog 30 := Keyed.of_law (deep_law_laid laidOut (m := 2) (by omega) (of_decide_eq_true (by kernel_rfl)) (by kernel_rfl) (by kernel_rfl))

/-- an identifier as a key -/
def klI (x : Int × Int) : Lit := .string (keyBytes [.int .i64 x.1, .int .i64 x.2])
theorem cellsID : Try.prog.cellsOf 30 = 2 := by kernel_rfl
theorem cellsInt : Try.prog.cellsOf 3 = 1 := by kernel_rfl
theorem keyTypeID : Try.prog.keyType 30 = true := by kernel_rfl
theorem typesN : ∃ n, Try.prog.types.size = n + 2 := ⟨Try.prog.types.size - 2, by have : 2 ≤ Try.prog.types.size := of_decide_eq_true (by kernel_rfl); omega⟩
theorem key_some (x : Int × Int) (h : idIn x) : keyOf Try.prog 30 (.agg #[.int .i64 x.1, .int .i64 x.2]) = some (klI x) := by
  have w1 : (Lit.int .i64 x.1).wf = true := by have := h.1; unfold in64 at this; simp [Lit.wf, IntKind.min, IntKind.max, IntKind.bits, IntKind.signed]; omega
  have w2 : (Lit.int .i64 x.2).wf = true := by have := h.2; unfold in64 at this; simp [Lit.wf, IntKind.min, IntKind.max, IntKind.bits, IntKind.signed]; omega
  obtain ⟨n, hn⟩ := typesN
  unfold keyOf klI
  rw [Try.underlying30]
  simp only [keyTypeID, Value.formed, Try.underlying30, cellsID, hn]
  simp [Program.keyLits, Try.underlying30, Try.underlying3, cellsID, cellsInt, Value.cells, w1, w2]
theorem klI_inj {x y : Int × Int} (hx : idIn x) (hy : idIn y) (h : klI x = klI y) : x = y := by
  have h1 := key_some x hx
  have h2 := key_some y hy
  rw [h] at h1
  have := lawID.inj h1 h2
  simp at this
  exact Prod.ext this.1 this.2
theorem klI_key {x : Int × Int} (hx : idIn x) : WideAt.IsKeyLit (klI x) := lawID.key (key_some x hx)

/-- a map from identifiers to numbers -/
def MapI (W : World) (b n : Nat) (f : Int × Int → Option Nat) : Prop :=
  ∃ D : DataW Unit, W.ownsMap Try.prog 30 (plainElem Try.prog 3) b n D ∧ IsMap D ∧ ∀ x, idIn x → has D (klI x) = (f x).isSome ∧ ∀ k : Nat, f x = some k → D.atKey (klI x) (.lit (.int .i64 0)) = .lit (.int .i64 (k : Nat))
theorem MapI.made (w : World) : MapI (w.alloc (.map #[] 0)) w.heap.size 0 (fun _ => none) :=
  ⟨.map [], World.ownsMap_made w _ _ _, isMap_empty, fun x _ => ⟨rfl, fun k h => by cases h⟩⟩
theorem MapI.lt {W : World} {b n : Nat} {f : Int × Int → Option Nat} (h : MapI W b n f) : b < W.heap.size := by
  obtain ⟨_, h, _⟩ := h
  exact h.lt
theorem MapI.kept {W W' : World} {b n : Nat} {f : Int × Int → Option Nat} (h : MapI W b n f) (e : W'.heap[b]? = W.heap[b]?) : MapI W' b n f := by
  obtain ⟨D, ⟨es, clock, hb, F, hs, hD⟩, h2, h3⟩ := h
  exact ⟨D, ⟨es, clock, e.trans hb, F, hs, hD⟩, h2, h3⟩
theorem MapI.mono {W : World} {b n n' : Nat} {f : Int × Int → Option Nat} (h : MapI W b n f) (hn : n ≤ n') : MapI W b n' f := by
  obtain ⟨D, h1, h2⟩ := h
  exact ⟨D, h1.mono hn, h2⟩
theorem MapI.ext {W : World} {b n : Nat} {f g : Int × Int → Option Nat} (h : MapI W b n f) (e : ∀ x, f x = g x) : MapI W b n g := by rw [← funext e]; exact h

theorem MapI.look {W : World} {b n : Nat} {f : Int × Int → Option Nat} (h : MapI W b n f) (x1 x2 : Int) (hx : idIn (x1, x2)) :
    ∃ c : Int, (Instr.lookup 60 (.map (some b)) (.agg #[.int .i64 x1, .int .i64 x2]) true).run Try.prog W = .ok (.tuple #[.int .i64 c, .bool (f (x1, x2)).isSome]) W ∧ ∀ k : Nat, f (x1, x2) = some k → c = (k : Nat) := by
  obtain ⟨D, hown, hm, hf⟩ := h
  obtain ⟨hf1, hf2⟩ := hf (x1, x2) hx
  obtain ⟨v, ps, hrun, hv⟩ := hown.look_ok lawID Try.underlying60 (Try.zeroValue3 W) (plainElem_int Try.underlying3 (by decide)) (key_some (x1, x2) hx)
  obtain ⟨c, rfl, hc, _⟩ := plainElem_int_inv Try.underlying3 hv
  refine ⟨c, by rw [← hf1]; exact hrun, fun k hk => ?_⟩
  have h1 := congrArg Prod.fst hc
  simp only at h1
  rw [hf2 k hk] at h1
  simp at h1
  exact h1.symm

theorem MapI.del {W : World} {b n : Nat} {f : Int × Int → Option Nat} (h : MapI W b n f) (x1 x2 : Int) (hx : idIn (x1, x2)) (ty : TypeId) :
    ∃ W', (Builtin.delete_ #[60, 30] ty #[.map (some b), .agg #[.int .i64 x1, .int .i64 x2]]).run Try.prog W = .ok (.tuple #[]) W' ∧ MapI W' b n (fun y => if y = (x1, x2) then none else f y) ∧ W.grownBy W' (some b) := by
  obtain ⟨D, hown, hm, hf⟩ := h
  obtain ⟨W', hrun, h1, h2⟩ := hown.drop lawID Try.underlying60 (key_some (x1, x2) hx) ty
  refine ⟨W', hrun, ⟨_, h1, hm.del _, fun y hy => ?_⟩, h2.grown⟩
  obtain ⟨hf1, hf2⟩ := hf y hy
  by_cases e : y = (x1, x2)
  · dsimp only
    rw [if_pos e, e]
    exact ⟨has_del_same, fun k h => by cases h⟩
  · dsimp only
    rw [if_neg e]
    have hne : klI y ≠ klI (x1, x2) := fun h => e (klI_inj hy hx h)
    rw [has_del_other hne]
    exact ⟨hf1, fun k hk => by rw [atKey_del_other hne]; exact hf2 k hk⟩

theorem MapI.put {W : World} {b n : Nat} {f : Int × Int → Option Nat} (h : MapI W b n f) (x1 x2 : Int) (hx : idIn (x1, x2)) (k : Nat) (hk : k ≤ 1000000000) (hn : n ≤ 1000000000) :
    ∃ W', (Instr.mapUpdate 60 (.map (some b)) (.agg #[.int .i64 x1, .int .i64 x2]) (.int .i64 (k : Nat))).run Try.prog W = .ok () W' ∧ MapI W' b (n + 1) (fun y => if y = (x1, x2) then some k else f y) ∧ W.grownBy W' (some b) := by
  obtain ⟨D, hown, hm, hf⟩ := h
  obtain ⟨W', hrun, h1, h2⟩ := hown.store lawID Try.underlying60 (by unfold maxLen; omega) (key_some (x1, x2) hx) (plainElem_int (H := Unit) Try.underlying3 (a := (k : Int)) (by simp [Lit.wf, IntKind.min, IntKind.max, IntKind.bits, IntKind.signed]; omega))
  refine ⟨W', hrun, ⟨_, h1, hm.put _ _, fun y hy => ?_⟩, h2.grown⟩
  obtain ⟨hf1, hf2⟩ := hf y hy
  by_cases e : y = (x1, x2)
  · dsimp only
    rw [if_pos e, e]
    exact ⟨has_put_same hm (klI_key hx) _, fun j hj => by simp at hj; subst hj; exact atKey_put_same hm (klI_key hx) _ _⟩
  · dsimp only
    rw [if_neg e]
    have hne : klI y ≠ klI (x1, x2) := fun h => e (klI_inj hy hx h)
    rw [has_put_other hne]
    exact ⟨hf1, fun j hj => by rw [atKey_put_other hne]; exact hf2 j hj⟩

/-- what Pack has in memory when it has come to a place -/
structure PSt (W1 : World) (b N : Nat) (W : World) (last : Int × Int) (v : Value) (runs : List ((Int × Int) × Int)) (f : Int × Int → Option Nat) (n : Nat) : Prop where
  bN : b + 1 < N
  NW : N ≤ W.heap.size
  lastB : Bx W (b + 1) 30 #[.int .i64 last.1, .int .i64 last.2]
  map : MapI W b n f
  row : W.ownsRow N 32 3 v runs.length (flat encR runs)
  kp : Kp (fun k => k = b ∨ k = b + 1 ∨ N ≤ k) W1 W
theorem PSt.own {W1 : World} {b N : Nat} {W : World} {last : Int × Int} {v : Value} {runs : List ((Int × Int) × Int)} {f : Int × Int → Option Nat} {n : Nat} (h : PSt W1 b N W last v runs f n) : ∀ k, v.ownBlock = some k → N ≤ k ∧ k < W.heap.size := h.row.lt
theorem PSt.below {W1 : World} {b N : Nat} {W W' : World} {last : Int × Int} {v : Value} {runs : List ((Int × Int) × Int)} {f : Int × Int → Option Nat} {n : Nat} (h : PSt W1 b N W last v runs f n) (hb : Below W.heap.size W W') : PSt W1 b N W' last v runs f n :=
  ⟨h.bN, Nat.le_trans h.NW hb.size, h.lastB.below hb, h.map.kept (hb.block _ h.map.lt), owns_kp (N := fun _ => False) h.row (Kp.of_below hb) (fun _ _ h => h), h.kp.trans (M := fun _ => False) (Kp.of_below hb) (fun _ h => h.elim)⟩
theorem PSt.setLast {W1 : World} {b N : Nat} {W : World} {last : Int × Int} {v : Value} {runs : List ((Int × Int) × Int)} {f : Int × Int → Option Nat} {n : Nat} (h : PSt W1 b N W last v runs f n) (t s : Int) :
    PSt W1 b N ((W.setCell ⟨b + 1, 0, none⟩ (.int .i64 t)).setCell ⟨b + 1, 1, none⟩ (.int .i64 s)) (t, s) v runs f n := by
  have k1 := Kp.set (N := fun k => k = b + 1) W ⟨b + 1, 0, none⟩ (.int .i64 t) rfl
  have k2 := Kp.set (N := fun k => k = b + 1) (W.setCell ⟨b + 1, 0, none⟩ (.int .i64 t)) ⟨b + 1, 1, none⟩ (.int .i64 s) rfl
  have k := k1.trans k2 (fun i h => .inl h)
  refine ⟨h.bN, Nat.le_trans h.NW k.size, by simpa using (h.lastB.set 0 (.int .i64 t)).set 1 (.int .i64 s), h.map.kept (k.block b h.map.lt (by omega)), owns_kp h.row k (fun i hi e => ?_), h.kp.trans k (fun i hi => .inl (.inr (.inl hi)))⟩
  have := h.own i hi
  have := h.bN
  omega
theorem PSt.mapped {W1 : World} {b N : Nat} {W W' : World} {last : Int × Int} {v : Value} {runs : List ((Int × Int) × Int)} {f f' : Int × Int → Option Nat} {n n' : Nat} (h : PSt W1 b N W last v runs f n) (hm : MapI W' b n' f') (hg : W.grownBy W' (some b)) : PSt W1 b N W' last v runs f' n' := by
  have k := Kp.of_grown (N := fun k => k = b) hg (fun k hk => by simpa using hk.symm)
  refine ⟨h.bN, Nat.le_trans h.NW k.size, h.lastB.kp k (by omega), hm, owns_kp h.row k (fun i hi e => ?_), h.kp.trans k (fun i hi => .inl (.inl hi))⟩
  have := h.own i hi
  have := h.bN
  omega
theorem PSt.rowed {W1 : World} {b N : Nat} {W W' : World} {last : Int × Int} {v v' : Value} {runs runs' : List ((Int × Int) × Int)} {f : Int × Int → Option Nat} {n : Nat} (h : PSt W1 b N W last v runs f n) (hr : W'.ownsRow N 32 3 v' runs'.length (flat encR runs')) (hg : W.grownBy W' v.ownBlock) : PSt W1 b N W' last v' runs' f n := by
  have k := Kp.of_grown (N := fun k => N ≤ k) hg (fun k hk => (h.own k hk).1)
  have := h.bN
  exact ⟨h.bN, Nat.le_trans h.NW k.size, h.lastB.kp k (by omega), h.map.kept (k.block b h.map.lt (by omega)), hr, h.kp.trans k (fun i hi => .inl (.inr (.inr hi)))⟩

theorem flat_set (l : List ((Int × Int) × Int)) (k : Nat) (r : (Int × Int) × Int) (c : Int) (h : l[k]? = some r) : (flat encR l).set (k * 3 + 2) (.int .i64 c) = flat encR (l.set k (r.1, c)) := by
  refine List.ext_getElem? fun j => ?_
  have hk := (List.getElem?_eq_some_iff.1 h).1
  have hl := flat_len encR_len l
  by_cases hj : j < l.length * 3
  · have h3 : j / 3 < l.length := by omega
    have e0 := flat_get encR_len l (j / 3) (j % 3) l[j / 3] (List.getElem?_eq_getElem h3) (by omega)
    rw [show j / 3 * 3 + j % 3 = j by omega] at e0
    by_cases hjk : k = j / 3
    · have e1 := flat_get encR_len (l.set k (r.1, c)) (j / 3) (j % 3) (r.1, c) (by rw [← hjk]; exact List.getElem?_set_self hk) (by omega)
      rw [show j / 3 * 3 + j % 3 = j by omega] at e1
      rw [e1]
      have e0 := flat_get encR_len l (j / 3) (j % 3) r (by rw [← hjk]; exact h) (by omega)
      rw [show j / 3 * 3 + j % 3 = j by omega] at e0
      by_cases h2 : j % 3 = 2
      · rw [show k * 3 + 2 = j by omega, List.getElem?_set_self (by omega), h2]
        rfl
      · rw [List.getElem?_set_ne (by omega), e0]
        rcases (by omega : j % 3 = 0 ∨ j % 3 = 1) with h | h <;> rw [h] <;> rfl
    · have e1 := flat_get encR_len (l.set k (r.1, c)) (j / 3) (j % 3) l[j / 3] (by rw [List.getElem?_set_ne hjk]; exact List.getElem?_eq_getElem h3) (by omega)
      rw [show j / 3 * 3 + j % 3 = j by omega] at e1
      rw [e1, List.getElem?_set_ne (by omega), e0]
  · rw [List.getElem?_eq_none (by rw [List.length_set]; omega), List.getElem?_eq_none (by rw [flat_len encR_len, List.length_set]; omega)]

end Go.Proofs.Ytccggjhnjknblaa
