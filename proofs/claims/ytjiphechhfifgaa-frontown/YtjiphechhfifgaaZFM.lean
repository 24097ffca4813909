/-
  Maps by numbers, whose elements are told as they are; ranged over while elements that are there are stored anew.
-/
import Derived.Test.YtjiphechhfifgaaZXV2
import Derived.Maps.RangeWalk
import Derived.Maps.OwnSet
set_option linter.unusedSimpArgs false
set_option linter.unusedVariables false
namespace Go.Proofs.Ytjiphechhfifgaa
open Go.RowKit Go.Lib Go.Maps Go.ChangeMaps Go.MapKept Go.WideShapes
open Go.WideElems (Fit rd rg pl rd_key rd_val rg_of rd_mk other_key)

theorem filter_set {α : Type} (p : α → Bool) : ∀ (l : List α) (j : Nat) (x y : α), l[j]? = some x → p x = p y → ((l.set j y).filter p).length = (l.filter p).length
  | [], j, x, y, h, _ => by simp at h
  | a :: l, 0, x, y, h, e => by
    simp at h
    subst h
    simp only [List.set_cons_zero, List.filter_cons, e]
    cases p y <;> simp
  | a :: l, j + 1, x, y, h, e => by
    have ih := filter_set p l j x y (by simpa using h) e
    simp only [List.set_cons_succ, List.filter_cons]
    cases p a <;> simp [ih]

/-- a store, in the round, at a key that is there -/
theorem ranges_store {H : Type} {P : Program} {k t e : TypeId} {R : Value → Option (DataW H × List MemPlace)} {w : World} {b r n cnt : Nat} {D : DataW H} {left : Lit → Bool} (h : w.ranges P k R b r n D left cnt) (K : Keyed P k) (ht : P.underlying t = some (.map k e)) {key val : Value} {kl : Lit} {d : DataW H} {ps : List MemPlace} (hkey : keyOf P k key = some kl) (hv : R val = some (d, ps)) (hhas : Maps.has D kl = true) :
    ∃ w', (Instr.mapUpdate t (.map (some b)) key val).run P w = .ok () w' ∧ w'.ranges P k R b r n (D.put kl d) left cnt ∧ w.mapTurned w' b := by
  have hne := h.ne
  obtain ⟨es, clock, since, seen, c0, hb, F, hs, rfl, hr, hold, rfl, hl1, hl2, hsc, hsk⟩ := h
  rcases K.find w hkey es.toList F.keys with ⟨h1, h2⟩ | ⟨j, e0, h1, h2, h3⟩
  · exfalso
    obtain ⟨p, hp, hpk⟩ := List.any_eq_true.1 hhas
    obtain ⟨x, hx, rfl⟩ := List.mem_map.1 (mem_sorted.1 hp)
    obtain ⟨y, hy⟩ := F.reads x hx
    have e1 := WideAt.sameKey_eq hpk
    rw [rg_of hy] at e1
    have m1 := rd_key hy
    rw [e1] at m1
    exact h2 x hx (K.inj m1 hkey)
  · have hj : es[j]? = some e0 := by simpa using h2
    have hjl : j < es.toList.length := (List.getElem?_eq_some_iff.1 h2).1
    have hkeyf : ∀ e', es[j]? = some e' → ({ e' with key := key, val := val } : MapEntry).key = e'.key := fun e' he' => by rw [hj] at he'; cases he'; exact h3.symm
    have hlist : (es.modify j (fun e' => { e' with key := key, val := val })).toList = es.toList.set j { e0 with key := key, val := val } := by rw [Array.toList_modify, modify_eq_set _ _ _ _ h2]
    have who : ∀ x ∈ es.toList.set j { e0 with key := key, val := val }, x = { e0 with key := key, val := val } ∨ (x ∈ es.toList ∧ x.key ≠ key) := by
      intro x hx
      obtain ⟨i, hi, ex⟩ := List.getElem_of_mem hx
      rw [List.getElem_set] at ex
      split at ex
      · exact Or.inl ex.symm
      · rename_i hne'
        have hi' : i < es.toList.length := by simpa using hi
        refine Or.inr ⟨ex ▸ List.getElem_mem hi', ?_⟩
        rw [← h3]
        exact other_key F h2 (by rw [List.getElem?_eq_getElem hi', ex]) (fun e1 => hne' e1.symm)
    have hm0 : e0 ∈ es.toList := List.mem_of_getElem? h2
    obtain ⟨y0, hy0⟩ := F.reads e0 hm0
    have k0 : y0.1 = kl := by
      have := rd_key hy0
      rw [h3, hkey] at this
      exact (Option.some.inj this).symm
    have new1 : (rg P k R { e0 with key := key, val := val }).1 = kl := by rw [rg_of (rd_mk hkey hv)]
    have old1 : (rg P k R e0).1 = kl := by rw [rg_of hy0]; exact k0
    refine ⟨setBlock w b (.map (es.modify j (fun e' => { e' with key := key, val := val })) clock), ?_, ⟨_, clock, since, seen, c0, heap_setBlock_same hb _, ⟨by simpa using F.size, stamped_modify F.stamped _ _ (fun _ _ => rfl) (fun e' _ he' => hkeyf e' he'), ?_⟩, by simpa using hs, ?_, (heap_setBlock_other hb _ hne).trans hr, ?_, ?_, ?_, ?_, hsc, hsk⟩, ⟨es, clock, _, clock, hb, rfl⟩⟩
    · simp [Instr.mapUpdate, run_underlying ht, MapKept.run_getObj_map hb, K.check w false hkey, h1, hj, h3, K.stays w hkey, MapKept.run_setObj_map _ hb, Result.andThen, setBlock]
    · intro x hx
      rw [hlist] at hx
      rcases who x hx with rfl | ⟨hx', hne'⟩
      · exact ⟨_, rd_mk hkey hv⟩
      · exact F.reads x hx'
    · rw [DataW.put_eq]
      congr 1
      refine (sorted_put K.one ⟨key, hkey⟩ (fit_keys F) (fit_apart K F) ?_).symm
      rw [filter_one K F hkey h2 h3, hlist, List.map_set, rg_of (rd_mk hkey hv)]
      exact set_perm _ _ (by simpa using hjl) _
    · intro x hx
      rw [hlist] at hx
      rcases who x hx with rfl | ⟨hx', _⟩
      · exact hold e0 hm0
      · exact hold x hx'
    · have e1 : ∀ a : Array MapEntry, (leftOf a seen).size = (a.toList.filter fun e => !seen.contains e.born).length := fun a => by
        unfold leftOf
        rw [← Array.toList_filter, Array.length_toList]
      rw [e1, e1, hlist]
      exact filter_set _ _ j e0 _ h2 rfl
    · intro x hx
      rw [hlist] at hx
      rcases who x hx with rfl | ⟨hx', _⟩
      · rw [new1, ← old1]; exact hl1 e0 hm0
      · exact hl1 x hx'
    · intro x0 hx0
      obtain ⟨x, hx, rfl⟩ := hl2 x0 hx0
      by_cases hk : x.key = key
      · refine ⟨{ e0 with key := key, val := val }, by rw [hlist]; exact List.mem_iff_getElem.2 ⟨j, by simpa using hjl, by simp⟩, ?_⟩
        obtain ⟨y, hy⟩ := F.reads x hx
        have m1 := rd_key hy
        rw [hk, hkey] at m1
        rw [new1, rg_of hy]
        exact Option.some.inj m1
      · obtain ⟨i, hi, ex⟩ := List.getElem_of_mem hx
        refine ⟨x, ?_, rfl⟩
        rw [hlist]
        refine List.mem_iff_getElem.2 ⟨i, by simpa using hi, ?_⟩
        rw [List.getElem_set, if_neg, ex]
        intro e1
        subst e1
        rw [List.getElem?_eq_getElem hi, ex] at h2
        cases h2
        exact hk h3

theorem law3 : Keyed Try.prog 3 := int_keyed Try.underlying3
theorem wf3 {k : Int} (h : in64 k) : (Lit.int .i64 k).wf = true := by
  have h1 : IntKind.i64.min = -9223372036854775808 := by decide
  have h2 : IntKind.i64.max = 9223372036854775807 := by decide
  unfold in64 at h
  simp [Lit.wf, h1, h2, h]
theorem in3 {k : Int} (h : (Lit.int .i64 k).wf = true) : in64 k := by
  have h1 : IntKind.i64.min = -9223372036854775808 := by decide
  have h2 : IntKind.i64.max = 9223372036854775807 := by decide
  simp [Lit.wf, h1, h2] at h
  exact h
theorem key3 {k : Int} (h : in64 k) : keyOf Try.prog 3 (.int .i64 k) = some (.int .i64 k) := keyOf_int_mk Try.underlying3 (wf3 h)
theorem lit3 (k : Int) : WideAt.IsKeyLit (Lit.int .i64 k) := trivial

/-- a row of the map: two slices -/
abbrev SV : Type := Option Addr × Nat × Nat
def sv (x : SV) : Value := .slice x.1 x.2.1 x.2.2
def rowV (x : SV × SV) : Value := .agg #[.slice x.1.1 x.1.2.1 x.1.2.2, .slice x.2.1 x.2.2.1 x.2.2.2]
theorem rowV_inj {x y : SV × SV} (h : rowV x = rowV y) : x = y := by
  obtain ⟨⟨a, b, c⟩, ⟨d, e, f⟩⟩ := x
  obtain ⟨⟨a', b', c'⟩, ⟨d', e', f'⟩⟩ := y
  simp [rowV] at h
  obtain ⟨⟨rfl, rfl, rfl⟩, rfl, rfl, rfl⟩ := h
  rfl
/-- an element is told as it is -/
def asRow : Value → Option (DataW Value × List MemPlace)
  | .agg ⟨[.slice p n c, .slice p' n' c']⟩ => some (.held (.agg #[.slice p n c, .slice p' n' c']), [])
  | _ => none
theorem asRow_mk (x : SV × SV) : asRow (rowV x) = some (.held (rowV x), []) := rfl
theorem asRow_inv (v : Value) (y : DataW Value × List MemPlace) (h : asRow v = some y) : ∃ x, v = rowV x := by
  unfold asRow at h
  split at h
  · exact ⟨((_, _, _), (_, _, _)), rfl⟩
  · cases h
theorem asRow_val {v : Value} {y : DataW Value × List MemPlace} (h : asRow v = some y) : y = (.held v, []) := by
  unfold asRow at h
  split at h
  · exact (Option.some.inj h).symm
  · cases h

/-- what a map has at each number -/
def GM (D : DataW Value) (g : Int → Option (SV × SV)) : Prop := ∀ k, in64 k → has D (.int .i64 k) = (g k).isSome ∧ ∀ x, g k = some x → ∀ z, D.atKey (.int .i64 k) z = .held (rowV x)
def putG (g : Int → Option (SV × SV)) (k : Int) (x : SV × SV) : Int → Option (SV × SV) := fun j => if j = k then some x else g j
theorem GM.put {D : DataW Value} {g : Int → Option (SV × SV)} (h : GM D g) (hD : IsMap D) (k : Int) (x : SV × SV) : GM (D.put (.int .i64 k) (.held (rowV x))) (putG g k x) := by
  intro j hj
  unfold putG
  by_cases e : j = k
  · subst e
    rw [if_pos rfl, has_put_same hD (lit3 j)]
    exact ⟨rfl, fun y hy z => by cases hy; exact atKey_put_same hD (lit3 j) _ _⟩
  · rw [if_neg e, has_put_other (fun h => e (by cases h; rfl))]
    exact ⟨(h j hj).1, fun y hy z => by rw [atKey_put_other (fun h => e (by cases h; rfl))]; exact (h j hj).2 y hy z⟩

/-- a map of rows in a block -/
def MP (W : World) (m n : Nat) (g : Int → Option (SV × SV)) : Prop := ∃ D, W.ownsMap Try.prog 3 asRow m n D ∧ GM D g
theorem MP.lt {W : World} {m n : Nat} {g : Int → Option (SV × SV)} (h : MP W m n g) : m < W.heap.size := by
  obtain ⟨D, h, _⟩ := h; exact h.lt
theorem MP.kp {N : Nat → Prop} {W W' : World} {m n : Nat} {g : Int → Option (SV × SV)} (h : MP W m n g) (k : Kp N W W') (hn : ¬ N m) : MP W' m n g := by
  obtain ⟨D, h, hg⟩ := h
  have hl := h.lt
  obtain ⟨es, clock, hb, r⟩ := h
  exact ⟨D, ⟨es, clock, (k.block m hl hn).trans hb, r⟩, hg⟩
theorem MP.made (W : World) : MP (W.alloc (.map #[] 0)) W.heap.size 0 (fun _ => none) := ⟨_, World.ownsMap_made W _ _ _, fun k _ => ⟨rfl, fun x hx => by cases hx⟩⟩
theorem MP.mono {W : World} {m n n' : Nat} {g : Int → Option (SV × SV)} (h : MP W m n g) (hn : n ≤ n') : MP W m n' g := by
  obtain ⟨D, h, hg⟩ := h; exact ⟨D, h.mono hn, hg⟩
def row0 : SV × SV := ((none, 0, 0), (none, 0, 0))
theorem zero66 (w : World) : (zeroValue 66).run Try.prog w = .ok (rowV row0) w := Try.zeroValue66 w
theorem und62 : Try.prog.underlying 62 = some (.map 3 66) := Try.underlying62
/-- m[k] -/
theorem MP.look {W : World} {m n : Nat} {g : Int → Option (SV × SV)} (h : MP W m n g) {k : Int} (hk : in64 k) : (Instr.lookup 62 (.map (some m)) (.int .i64 k) false).run Try.prog W = .ok (rowV ((g k).getD row0)) W := by
  obtain ⟨D, h, hg⟩ := h
  obtain ⟨v, ps, hr, hv⟩ := h.lookup law3 und62 (zero66 W) (asRow_mk row0) (key3 hk)
  rw [hr]
  have e := asRow_val hv
  simp only [Prod.mk.injEq] at e
  cases hgk : g k with
  | none =>
    have : has D (.int .i64 k) = false := by rw [(hg k hk).1, hgk]; rfl
    rw [atKey_of_not_has this] at e
    have e1 : rowV row0 = v := by simpa using e.1
    rw [← e1]; rfl
  | some x =>
    rw [(hg k hk).2 x hgk] at e
    have e1 : rowV x = v := by simpa using e.1
    rw [← e1]; rfl
/-- v, ok := m[k] -/
theorem MP.look2 {W : World} {m n : Nat} {g : Int → Option (SV × SV)} (h : MP W m n g) {k : Int} (hk : in64 k) : (Instr.lookup 62 (.map (some m)) (.int .i64 k) true).run Try.prog W = .ok (.tuple #[rowV ((g k).getD row0), .bool (g k).isSome]) W := by
  obtain ⟨D, h, hg⟩ := h
  obtain ⟨v, ps, hr, hv⟩ := h.look_ok law3 und62 (zero66 W) (asRow_mk row0) (key3 hk)
  rw [hr, (hg k hk).1]
  have e := asRow_val hv
  simp only [Prod.mk.injEq] at e
  cases hgk : g k with
  | none =>
    have : has D (.int .i64 k) = false := by rw [(hg k hk).1, hgk]; rfl
    rw [atKey_of_not_has this] at e
    have e1 : rowV row0 = v := by simpa using e.1
    rw [← e1]; rfl
  | some x =>
    rw [(hg k hk).2 x hgk] at e
    have e1 : rowV x = v := by simpa using e.1
    rw [← e1]; rfl
/-- m[k] = x -/
theorem MP.put {W : World} {m n : Nat} {g : Int → Option (SV × SV)} (h : MP W m n g) {k : Int} (hk : in64 k) (x : SV × SV) (hn : n < maxLen) : ∃ W', (Instr.mapUpdate 62 (.map (some m)) (.int .i64 k) (rowV x)).run Try.prog W = .ok () W' ∧ MP W' m (n + 1) (putG g k x) ∧ W.grownBy W' (some m) ∧ W'.heap.size = W.heap.size := by
  obtain ⟨D, h, hg⟩ := h
  obtain ⟨W', hr, ho, ht⟩ := h.store law3 und62 hn (key3 hk) (asRow_mk x)
  refine ⟨W', hr, ⟨_, ho, hg.put h.isMap k x⟩, ht.grown, ?_⟩
  obtain ⟨_, _, _, _, _, rfl⟩ := ht
  simp [setBlock]

/-- a map that is ranged over -/
def RG (W : World) (m r n : Nat) (g : Int → Option (SV × SV)) (left : Int → Bool) (cnt : Nat) : Prop := ∃ D L, W.ranges Try.prog 3 asRow m r n D L cnt ∧ GM D g ∧ ∀ k, in64 k → left k = L (.int .i64 k)
theorem RG.mp {W : World} {m r n : Nat} {g : Int → Option (SV × SV)} {left : Int → Bool} {cnt : Nat} (h : RG W m r n g left cnt) : MP W m n g := by
  obtain ⟨D, L, h, hg, _⟩ := h; exact ⟨D, h.owns, hg⟩
theorem RG.kp {N : Nat → Prop} {W W' : World} {m r n : Nat} {g : Int → Option (SV × SV)} {left : Int → Bool} {cnt : Nat} (h : RG W m r n g left cnt) (k : Kp N W W') (hm : ¬ N m) (hr : ¬ N r) : RG W' m r n g left cnt := by
  obtain ⟨D, L, h, hg, hl⟩ := h
  have h1 := h.owns.lt
  have h2 := h.lt
  obtain ⟨es, clock, since, seen, c0, hb, F, hs, hD, hrr, rest⟩ := h
  exact ⟨D, L, ⟨es, clock, since, seen, c0, (k.block m h1 hm).trans hb, F, hs, hD, (k.block r h2 hr).trans hrr, rest⟩, hg, hl⟩
theorem RG.left_eq {W : World} {m r n : Nat} {g : Int → Option (SV × SV)} {left : Int → Bool} {cnt : Nat} (h : RG W m r n g left cnt) : W.rangeLeft m r = cnt := by
  obtain ⟨D, L, h, _⟩ := h; exact h.left_eq
/-- m[k] = x in the round, at a key that is there -/
theorem RG.put {W : World} {m r n : Nat} {g : Int → Option (SV × SV)} {left : Int → Bool} {cnt : Nat} (h : RG W m r n g left cnt) {k : Int} (hk : in64 k) (x : SV × SV) (hg' : (g k).isSome = true) : ∃ W', (Instr.mapUpdate 62 (.map (some m)) (.int .i64 k) (rowV x)).run Try.prog W = .ok () W' ∧ RG W' m r n (putG g k x) left cnt ∧ W.grownBy W' (some m) ∧ W'.heap.size = W.heap.size := by
  obtain ⟨D, L, h, hg, hl⟩ := h
  obtain ⟨W', hr, ho, ht⟩ := ranges_store h law3 und62 (key3 hk) (asRow_mk x) (by rw [(hg k hk).1]; exact hg')
  refine ⟨W', hr, ⟨_, L, ho, hg.put h.owns.isMap k x, hl⟩, ht.grown, ?_⟩
  obtain ⟨_, _, _, _, _, rfl⟩ := ht
  simp [setBlock]
/-- range m -/
theorem wpl_range {W : World} {ops : Array Oper} {rest : List Oper} {o : Oper} {a : Act} {Q : Exit → Act → World → Prop} (hg : o.guard = none) (mo : Operand) (hop : o.op = Op.range 62 mo) {m n : Nat} {g : Int → Option (SV × SV)} (hm : a.eval mo = .map (some m)) (h : MP W m n g)
    (hK : ∀ W' cnt, RG W' m W.heap.size n g (fun k => (g k).isSome) cnt → W.grownBy W' none → W'.heap.size = W.heap.size + 1 → wpList Try.prog ops Q rest (a.put o.dst (.pointer (some ⟨W.heap.size, 0, none⟩))) W') : wpList Try.prog ops Q (o :: rest) a W := by
  obtain ⟨D, h, hgm⟩ := h
  refine wpList_range_own _ hg mo _ hop _ _ law3 und62 _ m n D hm h fun w' h1 h2 h3 => hK w' _ ⟨D, _, h1, hgm, fun k hk => ((hgm k hk).1).symm⟩ h2 h3
/-- the next entry -/
theorem wpl_next {W : World} {ops : Array Oper} {rest : List Oper} {o : Oper} {a : Act} {Q : Exit → Act → World → Prop} (hg : o.guard = none) (it : Operand) (hop : o.op = Op.next it false) {m r n : Nat} {g : Int → Option (SV × SV)} {left : Int → Bool} {cnt : Nat} (hit : a.eval it = .pointer (some ⟨r, 0, none⟩)) (h : RG W m r n g left cnt)
    (hDone : (∀ k, in64 k → left k = false) → wpList Try.prog ops Q rest (a.put o.dst (.tuple #[.bool false])) W)
    (hMore : ∀ (k : Int) (x : SV × SV) (W' : World) (cnt' : Nat), in64 k → left k = true → g k = some x → RG W' m r n g (fun j => left j && !decide (j = k)) cnt' → cnt' < cnt → W.grownBy W' (some r) → W'.heap.size = W.heap.size → (Instr.entry (.pointer (some ⟨r, 0, none⟩))).run Try.prog W' = .ok (.tuple #[.int .i64 k, rowV x]) W' → wpList Try.prog ops Q rest (a.put o.dst (.tuple #[.bool true, .int .i64 k, rowV x])) W') :
    wpList Try.prog ops Q (o :: rest) a W := by
  obtain ⟨D, L, h, hgm, hl⟩ := h
  refine wpList_next_ranges _ hg it hop _ law3 asRow (Value.int .i64) rowV (fun key kl hk => by obtain ⟨x, rfl, _⟩ := keyOf_int_inv Try.underlying3 hk; exact ⟨x, rfl⟩) asRow_inv m r n D L cnt hit h (fun _ h2 => hDone fun k hk => by rw [hl k hk]; exact h2 _) ?_
  intro k x kl y w' cnt' hkey hlk hv hat hrg hlt hgr hsz hen
  obtain ⟨k', e1, rfl, hwf⟩ := keyOf_int_inv Try.underlying3 hkey
  cases e1
  have hk := in3 hwf
  have ey := asRow_val hv
  subst ey
  have hgk : g k = some x := by
    have hs : (g k).isSome = true := by rw [← (hgm k hk).1]; exact has_true_of_atKey hat
    obtain ⟨x', hx'⟩ := Option.isSome_iff_exists.1 hs
    have := (hgm k hk).2 x' hx' .nil
    rw [hat .nil] at this
    have e2 : rowV x = rowV x' := by simpa using this
    rw [hx', rowV_inj e2]
  refine hMore k x w' cnt' hk (by rw [hl k hk]; exact hlk) hgk ⟨D, _, hrg, hgm, fun j hj => ?_⟩ hlt hgr hsz hen
  have e3 : decide (j = k) = (Lit.int .i64 j).sameKey (.int .i64 k) := by
    by_cases e : j = k
    · subst e; rw [WideAt.sameKey_self (lit3 j)]; simp
    · rw [sameKey_ne (fun h => e (by cases h; rfl))]; simp [e]
  show (left j && !decide (j = k)) = (L (.int .i64 j) && !((Lit.int .i64 j).sameKey (.int .i64 k)))
  rw [hl j hj, e3]

end Go.Proofs.Ytjiphechhfifgaa
