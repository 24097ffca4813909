/-
  Maps by numbers, whose elements are pointers.
-/
import Derived.Test.YteomalmflebkhaaZW0
import Derived.Maps.RangeWalk
import Derived.Maps.OwnSet
import Derived.Lib.SlKeysI
set_option linter.unusedSimpArgs false
set_option linter.unusedVariables false
namespace Go.Proofs.Yteomalmflebkhaa
open Go.RowKit Go.Lib Go.Maps Go.ChangeMaps Go.MapKept Go.WideShapes
open Go.WideElems (Fit rd rg pl rd_key rd_val rg_of rd_mk other_key)

def in64 (k : Int) : Prop := -9223372036854775808 ≤ k ∧ k ≤ 9223372036854775807
theorem law3 : Keyed Try.prog 3 := int_keyed Try.underlying3
theorem wf3 {k : Int} (h : in64 k) : (Lit.int .i64 k).wf = true := by
  have h1 : IntKind.i64.min = -9223372036854775808 := by decide
  have h2 : IntKind.i64.max = 9223372036854775807 := by decide
  unfold in64 at h
  simp [Lit.wf, h1, h2, h]
theorem key3 {k : Int} (h : in64 k) : keyOf Try.prog 3 (.int .i64 k) = some (.int .i64 k) := keyOf_int_mk Try.underlying3 (wf3 h)
theorem lit3 (k : Int) : WideAt.IsKeyLit (Lit.int .i64 k) := trivial

/-- an element is told as it is -/
def asPtr : Value → Option (DataW Value × List MemPlace)
  | .pointer a => some (.held (.pointer a), [])
  | _ => none
theorem asPtr_mk (a : Option Addr) : asPtr (.pointer a) = some (.held (.pointer a), []) := rfl
theorem asPtr_val {v : Value} {y : DataW Value × List MemPlace} (h : asPtr v = some y) : y = (.held v, []) := by
  unfold asPtr at h
  split at h
  · exact (Option.some.inj h).symm
  · cases h
/-- what a map has at each number: blocks -/
def pO : Option Nat → Value
  | none => .pointer none
  | some a => .pointer (some ⟨a, 0, none⟩)
def GM (D : DataW Value) (g : Int → Option Nat) : Prop := ∀ k, in64 k → has D (.int .i64 k) = (g k).isSome ∧ ∀ x, g k = some x → ∀ z, D.atKey (.int .i64 k) z = .held (pO (some x))
def putG (g : Int → Option Nat) (k : Int) (x : Nat) : Int → Option Nat := fun j => if j = k then some x else g j
def dropG (g : Int → Option Nat) (k : Int) : Int → Option Nat := fun j => if j = k then none else g j
theorem GM.put {D : DataW Value} {g : Int → Option Nat} (h : GM D g) (hD : IsMap D) (k : Int) (x : Nat) : GM (D.put (.int .i64 k) (.held (pO (some x)))) (putG g k x) := by
  intro j hj
  unfold putG
  by_cases e : j = k
  · subst e
    rw [if_pos rfl, has_put_same hD (lit3 j)]
    exact ⟨rfl, fun y hy z => by cases hy; exact atKey_put_same hD (lit3 j) _ _⟩
  · rw [if_neg e, has_put_other (fun h => e (by cases h; rfl))]
    exact ⟨(h j hj).1, fun y hy z => by rw [atKey_put_other (fun h => e (by cases h; rfl))]; exact (h j hj).2 y hy z⟩

/-- a map of pointers in a block -/
def MP (W : World) (m n : Nat) (g : Int → Option Nat) : Prop := ∃ D, W.ownsMap Try.prog 3 asPtr m n D ∧ GM D g
theorem MP.lt {W : World} {m n : Nat} {g : Int → Option Nat} (h : MP W m n g) : m < W.heap.size := by
  obtain ⟨D, h, _⟩ := h; exact h.lt
theorem MP.kp {N : Nat → Prop} {W W' : World} {m n : Nat} {g : Int → Option Nat} (h : MP W m n g) (k : Kp N W W') (hn : ¬ N m) : MP W' m n g := by
  obtain ⟨D, h, hg⟩ := h
  have hl := h.lt
  obtain ⟨es, clock, hb, r⟩ := h
  exact ⟨D, ⟨es, clock, (k.block m hl hn).trans hb, r⟩, hg⟩
theorem MP.made (W : World) : MP (W.alloc (.map #[] 0)) W.heap.size 0 (fun _ => none) := ⟨_, World.ownsMap_made W _ _ _, fun k _ => ⟨rfl, fun x hx => by cases hx⟩⟩
theorem MP.mono {W : World} {m n n' : Nat} {g : Int → Option Nat} (h : MP W m n g) (hn : n ≤ n') : MP W m n' g := by
  obtain ⟨D, h, hg⟩ := h; exact ⟨D, h.mono hn, hg⟩
theorem zeroP (w : World) : (zeroValue 75).run Try.prog w = .ok (.pointer none) w := Try.zeroValue75 w
theorem undM : Try.prog.underlying 36 = some (.map 3 75) := Try.underlying36
/-- m[k] -/
theorem MP.look {W : World} {m n : Nat} {g : Int → Option Nat} (h : MP W m n g) {k : Int} (hk : in64 k) : (Instr.lookup 36 (.map (some m)) (.int .i64 k) false).run Try.prog W = .ok (pO (g k)) W := by
  obtain ⟨D, h, hg⟩ := h
  obtain ⟨v, ps, hr, hv⟩ := h.lookup law3 undM (zeroP W) (asPtr_mk none) (key3 hk)
  rw [hr]
  have e := asPtr_val hv
  simp only [Prod.mk.injEq] at e
  cases hgk : g k with
  | none =>
    have : has D (.int .i64 k) = false := by rw [(hg k hk).1, hgk]; rfl
    rw [atKey_of_not_has this] at e
    have e1 : Value.pointer none = v := by simpa using e.1
    rw [← e1]; rfl
  | some x =>
    rw [(hg k hk).2 x hgk] at e
    have e1 : pO (some x) = v := by simpa using e.1
    rw [← e1]
/-- of no map -/
theorem look_none (W : World) {k : Int} (hk : in64 k) : (Instr.lookup 36 (.map none) (.int .i64 k) false).run Try.prog W = .ok (.pointer none) W := Maps.look_nil false law3 undM (zeroP W) (key3 hk)
/-- m[k] = x -/
theorem MP.put {W : World} {m n : Nat} {g : Int → Option Nat} (h : MP W m n g) {k : Int} (hk : in64 k) (x : Nat) (hn : n < maxLen) : ∃ W', (Instr.mapUpdate 36 (.map (some m)) (.int .i64 k) (.pointer (some ⟨x, 0, none⟩))).run Try.prog W = .ok () W' ∧ MP W' m (n + 1) (putG g k x) ∧ W.grownBy W' (some m) ∧ W'.heap.size = W.heap.size := by
  obtain ⟨D, h, hg⟩ := h
  obtain ⟨W', hr, ho, ht⟩ := h.store law3 undM hn (key3 hk) (asPtr_mk (some ⟨x, 0, none⟩))
  refine ⟨W', hr, ⟨_, ho, hg.put h.isMap k x⟩, ht.grown, ?_⟩
  obtain ⟨_, _, _, _, _, rfl⟩ := ht
  simp [setBlock]

theorem GM.del {D : DataW Value} {g : Int → Option Nat} (h : GM D g) (k : Int) : GM (D.del (.int .i64 k)) (dropG g k) := by
  intro j hj
  unfold dropG
  by_cases e : j = k
  · subst e
    rw [if_pos rfl, has_del_same]
    exact ⟨rfl, fun y hy => by cases hy⟩
  · rw [if_neg e, has_del_other (fun h => e (by cases h; rfl))]
    exact ⟨(h j hj).1, fun y hy z => by rw [atKey_del_other (fun h => e (by cases h; rfl))]; exact (h j hj).2 y hy z⟩
/-- delete(m, k) -/
theorem MP.del {W : World} {m n : Nat} {g : Int → Option Nat} (h : MP W m n g) {k : Int} (hk : in64 k) (ty : TypeId) : ∃ W', (Builtin.delete_ #[36, 3] ty #[.map (some m), .int .i64 k]).run Try.prog W = .ok (.tuple #[]) W' ∧ MP W' m n (dropG g k) ∧ W.grownBy W' (some m) ∧ W'.heap.size = W.heap.size := by
  obtain ⟨D, h, hg⟩ := h
  obtain ⟨W', hr, ho, ht⟩ := h.drop law3 undM (key3 hk) ty
  refine ⟨W', hr, ⟨_, ho, hg.del k⟩, ht.grown, ?_⟩
  obtain ⟨_, _, _, _, _, rfl⟩ := ht
  simp [setBlock]
/-- its keys -/
theorem MP.perm {W : World} {m n : Nat} {g : Int → Option Nat} {D : DataW Value} (h : W.ownsMap Try.prog 3 asPtr m n D) (hg : GM D g) {nums : List Int} (hn : nums.Nodup) (hm : ∀ x, x ∈ nums ↔ (g x).isSome = true) (hi : ∀ x ∈ nums, in64 x) : nums.Perm (intKeys D) := by
  refine CollectedI.perm (left := fun _ => false) ⟨hn, fun x => ?_⟩ h law3 Try.underlying3 (fun _ => rfl)
  constructor
  · intro hx
    exact ⟨by rw [(hg x (hi x hx)).1]; exact (hm x).1 hx, rfl⟩
  · rintro ⟨hx, _⟩
    have hx64 : in64 x := by
      obtain ⟨es, rfl, hko⟩ := h.keysOf
      rw [has_eq, List.any_eq_true] at hx
      obtain ⟨p, hp, hs⟩ := hx
      obtain ⟨v, hv⟩ := hko p hp
      obtain ⟨y, _, hy, hl⟩ := Maps.keyOf_i64 Try.underlying3 hv
      rw [hy] at hs
      have e : y = x := by simpa [Lit.sameKey] using hs
      subst e
      simp [Lit.wf, IntKind.min, IntKind.max, IntKind.bits, IntKind.signed] at hl
      unfold in64
      omega
    rw [(hg x hx64).1] at hx
    exact (hm x).2 hx
theorem size_keys {H : Type} : ∀ D : DataW H, IsMap D → (intKeys D).length = Maps.size D := by
  intro D hD
  cases D <;> simp_all [intKeys, Maps.size, IsMap]
/-- sorted they are as they rise -/
theorem sort_keys {nums ss : List Int} (hr : nums.Pairwise (· < ·)) (hp : ss.Perm nums) : ss.mergeSort leI = nums := by
  rw [mergeSort_of_perm_i hp]
  have tr : ∀ a b c : Int, leI a b = true → leI b c = true → leI a c = true := fun a b c h1 h2 => by simp only [leI, decide_eq_true_eq] at *; exact Int.le_trans h1 h2
  have to : ∀ a b : Int, (leI a b || leI b a) = true := fun a b => by simp only [leI, Bool.or_eq_true, decide_eq_true_eq]; exact Int.le_total a b
  refine List.Perm.eq_of_pairwise (le := fun a b => leI a b = true) (fun a b _ _ h1 h2 => ?_) (List.pairwise_mergeSort tr to nums) (hr.imp fun {a b} h => ?_) (List.mergeSort_perm nums leI)
  · simp only [leI, decide_eq_true_eq] at h1 h2
    exact Int.le_antisymm h1 h2
  · simp only [leI, decide_eq_true_eq]
    omega

end Go.Proofs.Yteomalmflebkhaa
