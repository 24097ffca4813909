/-
  slices.Values, AppendSeq, Collect.
-/
import Derived.Test.YtjiphechhfifgaaZRge
import Derived.Test.YtjiphechhfifgaaZSh2
import Derived.Test.YtjiphechhfifgaaZSh3
import Derived.Test.YtjiphechhfifgaaZSh4
import Derived.Lib.OwnBridge

set_option linter.unusedSimpArgs false
set_option linter.unusedVariables false
namespace Go.Proofs.Ytjiphechhfifgaa
open Go.RowKit Go.Lib Go.Shelf

def nC (l : List Int) : List Value := l.map fun x => Value.int .i64 x
theorem nC_len (l : List Int) : (nC l).length = l.length := by simp [nC]
theorem nC_app (l m : List Int) : nC (l ++ m) = nC l ++ nC m := by simp [nC]
/-- a row of numbers -/
def RN (W : World) (v : Value) (l : List Int) : Prop := RC W v l.length (nC l)
theorem RN.below {W W' : World} {v : Value} {l : List Int} (h : RN W v l) (hb : Below W.heap.size W W') : RN W' v l := RC.below h hb
theorem RN.form {W : World} {v : Value} {l : List Int} (h : RN W v l) : ∃ a c, v = .slice a l.length c := RC.form h
theorem RN.at {W : World} {a : Option Addr} {n c : Nat} {l : List Int} (h : RN W (.slice a n c) l) {i : Nat} {x : Int} (hi : l[i]? = some x) : ∃ b off, a = some ⟨b, off, none⟩ ∧ b < W.heap.size ∧ W.cell? ⟨b, off + i, none⟩ = some (.int .i64 x) := by
  have hl := (List.getElem?_eq_some_iff.1 hi).1
  rcases h with ⟨h0, _⟩ | ⟨b, off, cap, e, h1, h2, hc⟩
  · omega
  · simp at e
    obtain ⟨rfl, _⟩ := e
    exact ⟨b, off, rfl, h2, hc i _ (by simp [nC, hi])⟩
/-- a row of numbers of one's own -/
def OwN (W : World) (B : Nat) (v : Value) (l : List Int) : Prop := W.ownsRow B 3 1 v l.length (nC l)
theorem OwN.row {W : World} {B : Nat} {v : Value} {l : List Int} (h : OwN W B v l) : RN W v l := RC.of_owns h
theorem OwN.form {W : World} {B : Nat} {v : Value} {l : List Int} (h : OwN W B v l) : ∃ a c, v = .slice a l.length c := owns_form h

attribute [local go_sem] Oper.semAt_some

def SqS (Bs : Nat) (a : Option Addr) (c : Nat) (zs : List Int) (W : World) : Prop := W.cell? ⟨Bs, 0, none⟩ = some (.slice a zs.length c) ∧ RN W (.slice a zs.length c) zs
set_option maxRecDepth 100000 in
set_option maxHeartbeats 2000000 in
theorem values_seq (Bs : Nat) (a : Option Addr) (c : Nat) (zs : List Int) (hz : zs.length ≤ 1000000) : SeqE 59 #[.pointer (some ⟨Bs, 0, none⟩)] (fun (x : Int) _ args => args = #[.int .i64 x]) zs (SqS Bs a c zs) := by
  rintro l J Jx W hJ hS hY h0 n
  have h00 := (hS _ _ h0).1
  obtain ⟨len, hlen⟩ : ∃ len, zs.length = len := ⟨_, rfl⟩
  have Hlen := hide hlen
  rw [hlen] at hz h00
  clear hlen
  refine callsIn_of_wp Try.func59 rfl trivial ?_ rfl
  simp only [Try.ntmps59, List.size_toArray, List.length_cons, List.length_nil, Nat.reduceAdd, Nat.reduceSub, Array.replicate_succ, Array.replicate_zero, List.push_toArray, List.append_toArray, List.nil_append, List.cons_append]
  have HY := hide hY
  have HS := hide hS
  clear hY hS hJ
  gi_wp2
  gi_loopw [7] (fun i wr => ∃ k : Nat, k ≤ len ∧ i = .int .i64 k ∧ Hid (J (zs.take k) wr)) (fun i _ => len - (RowKit.intOf i).toNat)
  case atStart => exact ⟨0, Nat.zero_le _, rfl, by simpa using hide h0⟩
  case round =>
    obtain ⟨k, hk, rfl, hJs⟩ := hrel
    by_cases hlt : k < len
    · have hlt' : (k : Int) < (len : Int) := by omega
      have hkz : k < zs.length := by rw [unhide Hlen]; exact hlt
      obtain ⟨_, hrow⟩ := unhide HS _ _ (unhide hJs)
      obtain ⟨b, off, rfl, hb, hc⟩ := RN.at hrow (List.getElem?_eq_getElem hkz)
      have hsp : zs.take k ++ zs[k] :: zs.drop (k + 1) = zs := by simp
      have hyy := unhide HY (zs.take k) zs[k] (zs.drop (k + 1)) wr _ hsp (unhide hJs) rfl (n - 1)
      have htk : zs.take k ++ [zs[k]] = zs.take (k + 1) := by rw [List.take_add_one, List.getElem?_eq_getElem hkz]; rfl
      rw [htk] at hyy
      obtain ⟨fn, tmps, assign, body, hy, hR⟩ := hyy
      generalize zs[k] = x at *
      clear hrow hsp htk
      gi_wp2
      refine ⟨fun h => (by cases h), hR.mono ?_⟩
      rintro e W3 ⟨bb, rfl, hj⟩
      cases bb
      · simp only [Bool.false_eq_true, if_false] at hj
        have hj' := hide hj
        clear hj
        gi_wp2
        refine bodyPost_ret (results_none rfl _ _ _) rfl ?_
        exact ⟨⟨_, rfl⟩, .inr ⟨_, zs.drop (k + 1), by simp, unhide hj'⟩⟩
      · simp only [if_true] at hj
        have hj' := hide hj
        clear hj
        gi_wp2
        go_roundw
        case rel => exact ⟨k + 1, by omega, by go_num, hj'⟩
        case measure => show len - ((k : Int) + 1).toNat < len - ((k : Nat) : Int).toNat; omega
    · obtain rfl : k = len := by omega
      have hlt' : ¬ (k : Int) < (k : Int) := by omega
      gi_wp2
      go_end0
      refine ⟨⟨_, rfl⟩, .inl ?_⟩
      have := unhide hJs
      rwa [List.take_of_length_le (by rw [unhide Hlen]; exact Nat.le_refl _)] at this

end Go.Proofs.Ytjiphechhfifgaa

/-
  slices.AppendSeq, Collect, Sorted.
-/
set_option linter.unusedSimpArgs false
set_option linter.unusedVariables false
namespace Go.Proofs.Ytjiphechhfifgaa
open Go.RowKit Go.Lib Go.Shelf

attribute [local go_sem] Oper.semAt_some
theorem wpListIn_append_eq {F : Fence} {n : Nat} {w w' : World} {ops : Array Oper} {rest : List Oper} {o : Oper} {a : Act} {Q : Exit → Act → World → Prop} (hg : o.guard = none) (s x : Operand) (t : TypeId)
    (hop : o.op = .call { callee := .builtin .append, args := #[s, x], argTypes := #[t, t] }) (v u v' : Value) (hs : a.eval s = v) (hx : a.eval x = u) (hrun : (Builtin.append_ #[t, t] o.type #[v, u]).run Try.prog w = .ok v' w')
    (hK : wpListIn F n Try.prog ops Q rest (a.put o.dst v') w') : wpListIn F n Try.prog ops Q (o :: rest) a w := by
  refine wpListIn_plain hg fun K hK' => ?_
  unfold Oper.wpIn
  refine ⟨?_, ?_⟩
  · simp [Oper.about, hop, resolve, Target.leads, Sem.run_pure]
  · rw [Oper.semAt_plain F _ _ (by rw [hop]; intro c hc'; cases hc')]
    simp [execOp, hop, resolve, invoke, builtin, hs, hx, hrun, Result.andThen]
    exact hK' _ _ hK
theorem infoN : (Try.prog.info? 3).map (fun i => (i.zero, i.size, i.bytes)) = some (some (.int .i64 0), 1, 8) := by kernel_rfl
/-- append(l, x) of a number -/
theorem append_int (w : World) (ty : TypeId) (N : Nat) (v : Value) (l : List Int) (x : Int) (h : OwN w N v l) (hN : N ≤ w.heap.size) (hl : l.length ≤ 1000000) :
    ∃ v' w', (Builtin.append_ #[32, 32] ty #[v, .slice (some ⟨w.heap.size, 0, none⟩) 1 1]).run Try.prog (w.alloc (.cells #[.int .i64 x] 3)) = .ok v' w' ∧ OwN w' N v' (l ++ [x]) ∧ (w.alloc (.cells #[.int .i64 x] 3)).grownBy w' v.ownBlock ∧ (v'.ownBlock = v.ownBlock ∨ v'.ownBlock = some (w.heap.size + 1)) := by
  obtain ⟨i0, hi, hz0, hz1, hz2⟩ := info_parts infoN
  have hbx := Bx.new w 3 #[.int .i64 x]
  obtain ⟨v', w', h1, h2, h3, h4, h5⟩ := run_append_own_at (P := Try.prog) (w.alloc (.cells #[.int .i64 x] 3)) N 32 ty 3 i0 _ 1 8 Try.underlying32 hi hz0 hz1 hz2 rfl (by decide) v l.length _ (World.ownsRow.alloc h _) ⟨w.heap.size, 0, none⟩ 1 1 [.int .i64 x] rfl (fun j u hu => by
    rw [Addr.add_lit, Nat.zero_add]
    exact hbx.cell j u (by rw [← hu]; simp)) (fun u hu => by simp at hu; subst hu; rfl) (by unfold maxLen; omega) (by omega) (by simp; omega)
  refine ⟨v', w', h1, ?_, h3, ?_⟩
  · unfold OwN
    rw [nC_app]
    simpa [nC] using h2
  · simpa using h5

def sqV (Bs : Nat) : Value := .func (.func 59) #[] #[.pointer (some ⟨Bs, 0, none⟩)]
theorem SqS.below {Bs : Nat} {a : Option Addr} {c : Nat} {zs : List Int} {W W' : World} (h : SqS Bs a c zs W) (hb : Below W.heap.size W W') : SqS Bs a c zs W' := ⟨cell_below h.1 hb, h.2.below hb⟩
structure AQ (w W : World) (v : Value) (pre : List Int) : Prop where
  box : Bx W w.heap.size 32 #[v]
  row : OwN W w.heap.size v pre
  hi : ∀ i, v.ownBlock = some i → w.heap.size + 3 ≤ i
  bel : Below w.heap.size w W

set_option maxRecDepth 100000 in
set_option maxHeartbeats 4000000 in
theorem AppendSeq_in (w : World) (Bs : Nat) (a : Option Addr) (c : Nat) (zs : List Int) (hz : zs.length ≤ 1000000) (hS : SqS Bs a c zs w) :
    Calls Try.prog 62 #[.slice none 0 0, sqV Bs] w fun e W => ∃ v', e = .returned v' ∧ OwN W w.heap.size v' zs ∧ Below w.heap.size w W := by
  refine (callsIn_wide (n := 6)).1 ?_
  refine callsIn_of_wp_marks Try.func62 rfl trivial ?_ rfl
  simp only [Try.ntmps62, List.size_toArray, List.length_cons, List.length_nil, Nat.reduceAdd, Nat.reduceSub, Array.replicate_succ, Array.replicate_zero, List.push_toArray, List.append_toArray, List.nil_append, List.cons_append]
  have al := ballc (Below.refl w.heap.size w) (.cells #[.slice none 0 0] 32)
  have bx1 := Bx.new w 32 #[.slice none 0 0]
  have hsz : (w.alloc (.cells #[.slice none 0 0] 32)).heap.size = w.heap.size + 1 := by simp
  unfold sqV
  gi_wp2
  refine range_E (gf := 59) (lb := #[.pointer (some ⟨Bs, 0, none⟩)]) rfl (enters_of Try.func59 (by kernel_rfl) rfl) (values_seq Bs a c zs hz) (fun x W args h => by subst h; rfl)
    (fun pre W => ∃ v, AQ w W v pre) (fun _ _ _ => False) ?hI (fun _ _ _ _ _ hs _ _ => hs) (fun pre W h => by obtain ⟨v, h⟩ := h; exact hS.below h.bel) ⟨_, bx1, World.ownsRow_nil _ _ _ _, fun i hi => (by cases hi), al⟩
    (fun x args => { tmps := #[.slice none 0 0, .func (.func 59) #[] #[.pointer (some ⟨Bs, 0, none⟩)], .pointer (some ⟨w.heap.size, 0, none⟩), undef, .slice none 0 0, .int .i64 x, .func (.func 59) #[] #[.pointer (some ⟨Bs, 0, none⟩)], .int .i64 x, undef, undef, undef, undef, undef], defers := [] }) ?assign ?body ?done ?stop
  case hI =>
    rintro s A B row ⟨v, h⟩ hg hr
    rw [hsz] at hr
    have k := Kp.of_grown (N := fun k => row = some k) hg (fun k e => e)
    exact ⟨v, h.box.kp k (fun e => by have := hr _ e; omega), owns_kp h.row k (fun i hi e => by have := hr _ e; have := h.hi i hi; omega), h.hi, k.below h.bel (fun i e => by have := hr _ e; omega)⟩
  case assign =>
    rintro l x args W K rfl hK
    gi_wp2
    simpa using hK
  case body =>
    rintro l pre x rest args W hpre hzW ⟨v, h⟩
    rw [hsz] at hzW
    have hlen : pre.length < 1000000 := by have := congrArg List.length hpre; simp at this; omega
    obtain ⟨v', W2, hr, hown, hgr, hat⟩ := append_int W 32 w.heap.size v pre x h.row h.bel.size (by omega)
    obtain ⟨av, cv, rfl⟩ := OwN.form h.row
    obtain ⟨a', c', rfl⟩ := OwN.form hown
    have bA := ballc (Below.refl W.heap.size W) (.cells #[.int .i64 x] 3)
    have xA := h.box.below bA
    have K2 := Kp.of_grown (N := fun k => (Value.slice av pre.length cv).ownBlock = some k) hgr (fun k e => e)
    have hh := h.hi
    have x2 := xA.kp K2 (fun e => by have := hh _ e; omega)
    have c0 := h.box.cell 0 _ rfl
    have c0' := xA.cell 0 _ rfl
    have c2 := x2.cell 0 _ rfl
    have f2 := x2.frozen 0
    have l0 := h.box.lt
    have Hr := hide hr
    have ks := Kp.set (N := fun i => i = w.heap.size) W2 ⟨w.heap.size, 0, none⟩ (.slice a' (pre ++ [x]).length c') rfl
    have hz2 := K2.size
    have hzA : (W.alloc (.cells #[.int .i64 x] 3)).heap.size = W.heap.size + 1 := by simp
    have R : Hid ((∀ k, w.heap.size + 1 ≤ k → k < w.heap.size + 1 + 2 → (W2.setCell ⟨w.heap.size, 0, none⟩ (.slice a' (pre ++ [x]).length c')).heap[k]? = W.heap[k]?) ∧ ∃ v, AQ w (W2.setCell ⟨w.heap.size, 0, none⟩ (.slice a' (pre ++ [x]).length c')) v (pre ++ [x])) := by
      have hlo : ∀ i, (Value.slice a' (pre ++ [x]).length c').ownBlock = some i → w.heap.size + 3 ≤ i := fun i hi => by
        rcases hat with e | e
        · exact hh i (by rw [← e]; exact hi)
        · rw [e] at hi; cases hi; omega
      refine ⟨fun k h1 h2 => ?_, _, by simpa using x2.set 0 (.slice a' (pre ++ [x]).length c'), owns_kp hown ks (fun i hi e => by have := hlo i hi; omega), hlo, ks.below (K2.below (bnext h.bel bA) (fun i hi => by have := hh i hi; omega)) (fun i e => by omega)⟩
      rw [ks.block k (by omega) (by omega), K2.block k (by omega) (fun e => by have := hh k e; omega), bA.block k (by omega)]
    rw [hsz]
    have e9 : (pre ++ [x]).length = pre.length + 1 := by simp
    rw [e9] at Hr R
    clear hr hown hgr hat bA xA K2 x2 ks e9
    gi_wp2_with (gi_at_builtin; refine wpListIn_append_eq rfl _ _ 32 rfl _ _ _ rfl rfl (unhide Hr) ?_)
    exact unhide R
  case done =>
    rintro D W hD hzW ⟨v, h⟩ hdd
    subst hD
    obtain ⟨av, cv, rfl⟩ := OwN.form h.row
    have c0 := h.box.cell 0 _ rfl
    have l0 := h.box.lt
    have H := hide h
    clear h
    gi_wp2
    refine ⟨by simp, .inl ⟨_, _, rfl, run_takeDeferred hdd, ?_⟩⟩
    have h := unhide H
    have kk := Kp.of_grown (N := fun k => k = w.heap.size + 1) (grownBy_putObj' W (w.heap.size + 1) (.deferred none)) (fun k e => by cases e; rfl)
    rw [hsz]
    refine ⟨_, results_tmp rfl _ _ _, ?_⟩
    refine ⟨.slice av zs.length cv, rfl, owns_kp h.row kk (fun i hi e => by have := h.hi i hi; omega), kk.below h.bel (fun i e => by omega)⟩
  case stop => rintro D c pre rest W hD hp h _; exact h.elim


theorem Collect_in (w : World) (Bs : Nat) (a : Option Addr) (c : Nat) (zs : List Int) (hz : zs.length ≤ 1000000) (hS : SqS Bs a c zs w) :
    Calls Try.prog 57 #[sqV Bs] w fun e W => ∃ v', e = .returned v' ∧ OwN W w.heap.size v' zs ∧ Below w.heap.size w W := by
  have H := hide (AppendSeq_in w Bs a c zs hz hS)
  unfold sqV at H ⊢
  go_enter Try.func57, Try.ntmps57
  go_wp2_with fail
  refine (unhide H).mono ?_
  rintro e W1 ⟨v, rfl, ho, hb⟩
  replace ho := hide ho
  replace hb := hide hb
  go_wp2
  go_ret
  exact ⟨_, rfl, unhide ho, unhide hb⟩


end Go.Proofs.Ytjiphechhfifgaa

/-
  slices.Sorted, Compact, DeleteFunc; others.
-/
set_option linter.unusedSimpArgs false
set_option linter.unusedVariables false
namespace Go.Proofs.Ytjiphechhfifgaa
open Go.RowKit Go.Lib Go.Shelf

theorem below_grow {B : Nat} {w0 w : World} (h : Below B w0 w) (os : Array Obj) (hB : B ≤ w.heap.size) : Below B w0 (Sort.grow w os) :=
  ⟨h.os, h.tape, h.output, by show w0.heap.size ≤ (w.heap ++ os).size; have := h.size; rw [Array.size_append]; omega, fun k hk => by
    rw [← h.block k hk]
    exact Sort.heap_grow_old w os (by omega)⟩
theorem own_grow {W : World} {B : Nat} {v : Value} {l : List Int} (h : OwN W B v l) (os : Array Obj) : OwN (Sort.grow W os) B v l :=
  owns_kp (N := fun _ => False) h (Kp.of_below (below_grow (Below.refl W.heap.size W) os (Nat.le_refl _))) (fun _ _ e => e)
theorem OwN.nil {W : World} {B : Nat} {l : List Int} (h : OwN W B (.slice none 0 0) l) : l = [] := by
  have := h.form
  obtain ⟨a, c, e⟩ := this
  simp at e
  exact List.eq_nil_of_length_eq_zero e.2.1.symm
theorem OwN.nilv {W : World} {B : Nat} {a : Option Addr} {c : Nat} (h : OwN W B (.slice a 0 c) []) : True := trivial

/-- slices.Sort of one's own -/
theorem Sort_in {B : Nat} {w0 : World} (w : World) (v : Value) (l : List Int) (h : OwN w B v l) (hb : Below B w0 w) (hl : l.length ≤ 1000000) :
    Calls Try.prog 58 #[v] w fun e W => e = .returned (.tuple #[]) ∧ OwN W B v (l.mergeSort fun x y => decide (x ≤ y)) ∧ Below B w0 W := by
  by_cases h0 : l = []
  · subst h0
    obtain ⟨a, c, rfl⟩ := h.form
    refine (Any.slices_Sort_int_none shSort a c w).mono ?_
    rintro e W ⟨rfl, rfl⟩
    exact ⟨rfl, by simpa using h, hb⟩
  · have hv : v ≠ .slice none 0 0 := fun e => h0 (by subst e; exact h.nil)
    obtain ⟨g, cap, rfl, hg1, hg2, hg3, hg4, hg5, hH⟩ := holds_of_ownsRow (enc := Value.int .i64) h hv
    refine (Any.slices_Sort_int shSort g 0 cap l w hH hg2 (by omega)).mono ?_
    rintro e W ⟨rfl, n, os, rfl⟩
    refine ⟨rfl, own_grow ?_ os, below_grow (below_putRow hb hg1) os ?_⟩
    · have q := ownsRow_putRow (q := n) (k := l.length) h (ys := l.mergeSort fun x y => decide (x ≤ y)) (by simp) (Nat.le_refl _)
      rw [List.take_of_length_le (by simp)] at q
      unfold OwN
      rw [List.length_mergeSort]
      exact q
    · show B ≤ (Sort.putRow _ _ _ _ _).heap.size
      simp [Sort.putRow, Sort.mapBlock, Sort.ahead]
      omega


theorem compact_mem (zs : List Int) (x : Int) : x ∈ Lib.compact zs ↔ x ∈ zs := by
  unfold Lib.compact Lib.compactUpTo
  constructor
  · intro h
    obtain ⟨j, hj, rfl⟩ := List.mem_map.1 h
    have hj' : j < zs.length := by simpa using (List.mem_filter.1 hj).1
    rw [getElem!_pos zs.toArray j (by simpa using hj')]
    simp
  · intro h
    have key : ∀ j, j < zs.length → zs.toArray[j]! ∈ ((List.range zs.length).filter (Lib.keeps zs.toArray)).map (zs.toArray[·]!) := by
      intro j
      induction j with
      | zero => intro hj; exact List.mem_map.2 ⟨0, List.mem_filter.2 ⟨List.mem_range.2 hj, by simp [Lib.keeps]⟩, rfl⟩
      | succ j ih =>
        intro hj
        cases hk : Lib.keeps zs.toArray (j + 1) with
        | true => exact List.mem_map.2 ⟨j + 1, List.mem_filter.2 ⟨List.mem_range.2 hj, hk⟩, rfl⟩
        | false =>
          have e : zs.toArray[j + 1]! = zs.toArray[j]! := by
            unfold Lib.keeps at hk
            simpa using hk
          rw [e]
          exact ih (by omega)
    obtain ⟨j, hj, rfl⟩ := List.getElem_of_mem h
    have := key j hj
    rwa [getElem!_pos zs.toArray j (by simpa using hj), List.getElem_toArray] at this

/-- slices.Compact of one's own -/
theorem Compact_in {B : Nat} {w0 : World} (w : World) (v : Value) (l : List Int) (h : OwN w B v l) (hb : Below B w0 w) (hl : l.length ≤ 1000000) :
    Calls Try.prog 50 #[v] w fun e W => ∃ v', e = .returned v' ∧ OwN W B v' (Lib.compact l) ∧ Below B w0 W := by
  by_cases h0 : l = []
  · subst h0
    obtain ⟨a, c, rfl⟩ := h.form
    refine (Any.slices_Compact_int_empty shCompact a c w).mono ?_
    rintro e W ⟨rfl, rfl⟩
    exact ⟨_, rfl, h, hb⟩
  · have hv : v ≠ .slice none 0 0 := fun e => h0 (by subst e; exact h.nil)
    obtain ⟨g, cap, rfl, hg1, hg2, hg3, hg4, hg5, hH⟩ := holds_of_ownsRow (enc := Value.int .i64) h hv
    refine (Any.slices_Compact_int shCompact g 0 cap l w hH (by omega) hg3).mono ?_
    rintro e W ⟨rfl, q, rfl⟩
    have hc : (Lib.compact l).length ≤ l.length := by
      unfold Lib.compact Lib.compactUpTo
      rw [List.length_map]
      have := List.length_filter_le (Lib.keeps l.toArray) (List.range l.length)
      rw [List.length_range] at this
      exact this
    refine ⟨_, rfl, ?_, below_putRow hb hg1⟩
    have k := ownsRow_putRow (q := q) (k := (Lib.compact l).length) h (ys := Lib.compact l ++ List.replicate (l.length - (Lib.compact l).length) 0) (by simp; omega) hc
    rw [List.take_left] at k
    exact k

theorem pred_gives (self x : Int) (bx : Nat) (W : World) (hc : W.cell? ⟨bx, 0, none⟩ = some (.int .i64 self)) : FnGives Try.prog 54 #[.pointer (some ⟨bx, 0, none⟩)] #[.int .i64 x] (.bool (x == self)) W := by
  show Calls Try.prog 54 #[.int .i64 x, .pointer (some ⟨bx, 0, none⟩)] W _
  generalize hq : (x == self) = q
  go_enter Try.func54, Try.ntmps54
  go_wp2
  go_ret
  exact ⟨by rw [← hq]; rfl, 0, rfl⟩
theorem IndexFunc_none (a : Option Addr) (c : Nat) (f : Value) (w : World) : Calls Try.prog 60 #[.slice a 0 c, f] w fun e W => e = .returned (.int .i64 (-1)) ∧ w = W := by
  go_enter Try.func60, Try.ntmps60
  go_wp2
  go_loopw [8] (fun i wr => i = .int .i64 0 ∧ w = wr) (fun _ _ => 0)
  case atStart => exact ⟨rfl, rfl⟩
  case round =>
    obtain ⟨rfl, rfl⟩ := hrel
    go_wp2
    go_ret
    exact ⟨rfl, rfl⟩
/-- slices.DeleteFunc of one's own, by 'it is self' -/
theorem Delete_in {B : Nat} {w0 : World} (w : World) (v : Value) (l : List Int) (h : OwN w B v l) (hb : Below B w0 w) (hl : l.length ≤ 1000000) (self : Int) (bx : Nat) (hx : Bx w bx 3 #[.int .i64 self]) (hne : ∀ i, v.ownBlock = some i → i ≠ bx) :
    Calls Try.prog 53 #[v, .func (.func 54) #[] #[.pointer (some ⟨bx, 0, none⟩)]] w fun e W => ∃ v', e = .returned v' ∧ OwN W B v' (l.filter fun x => !(x == self)) ∧ Below B w0 W := by
  have eg : ∀ args w, (callFunc 54 args).run Try.prog w = .ok (.enter 54 args) w := enters_of Try.func54 (by kernel_rfl) rfl
  have c0 := hx.cell 0 _ rfl
  by_cases h0 : l = []
  · subst h0
    obtain ⟨a, c, rfl⟩ := h.form
    have HI := hide (IndexFunc_none a c (.func (.func 54) #[] #[.pointer (some ⟨bx, 0, none⟩)]) w)
    replace h := hide h
    replace hb := hide hb
    simp only [List.length_nil]
    clear hx c0 hne eg
    go_enter Try.func53, Try.ntmps53
    go_wp2_with fail
    refine (unhide HI).mono ?_
    rintro e W ⟨rfl, rfl⟩
    go_wp2
    go_ret
    exact ⟨_, rfl, unhide h, unhide hb⟩
  · have hv : v ≠ .slice none 0 0 := fun e => h0 (by subst e; exact h.nil)
    obtain ⟨g, cap, rfl, hg1, hg2, hg3, hg4, hg5, hH⟩ := holds_of_ownsRow (enc := Value.int .i64) h hv
    have hne' : bx ≠ g := fun e => hne g rfl e.symm
    have hcon := AnyE.slices_DeleteFunc shDel (Value.int .i64) (fun _ => rfl) (fun x => x == self) 54 #[.pointer (some ⟨bx, 0, none⟩)] eg 0 Try.zeroValue3 g 0 cap l.toArray w
      (fun W x hb => pred_gives self x bx W ((hb.cell (p := ⟨bx, 0, none⟩) hx.lt).trans c0))
      (fun n os dk x _ => pred_gives self x bx _ (by
        unfold sortWorld
        rw [Sort.cell?_grow _ _ _ (by show bx < (Sort.putRow _ _ _ _ _).heap.size; rw [Sort.size_putRow]; exact hx.lt), Sort.cell?_putRow_other _ _ g 0 _ _ (Or.inl hne')]
        exact c0)) hH (by simp; omega) (by simpa using hg3)
    have hsz : l.toArray.size = l.length := by simp
    rw [hsz] at hcon
    simp only [List.toList_toArray] at hcon
    refine hcon.mono ?_
    rintro e W ⟨rfl, q, rfl⟩
    have hc : (l.filter fun x => !(x == self)).length ≤ l.length := List.length_filter_le _ _
    refine ⟨_, rfl, ?_, below_putRow hb hg1⟩
    have k := ownsRow_putRow (q := q) (k := (l.filter fun x => !(x == self)).length) h (ys := (l.filter fun x => !(x == self)) ++ List.replicate (l.length - (l.filter fun x => !(x == self)).length) 0) (by rw [List.length_append, List.length_replicate]; omega) hc
    rw [List.take_left] at k
    exact k


theorem Sorted_in (w : World) (Bs : Nat) (a : Option Addr) (c : Nat) (zs : List Int) (hz : zs.length ≤ 1000000) (hS : SqS Bs a c zs w) :
    Calls Try.prog 51 #[sqV Bs] w fun e W => ∃ v', e = .returned v' ∧ OwN W w.heap.size v' (zs.mergeSort fun x y => decide (x ≤ y)) ∧ Below w.heap.size w W := by
  have H := hide (Collect_in w Bs a c zs hz hS)
  unfold sqV at H ⊢
  go_enter Try.func51, Try.ntmps51
  go_wp2_with fail
  refine (unhide H).mono ?_
  rintro e W1 ⟨v, rfl, ho, hb⟩
  have HS := hide (Sort_in W1 v zs ho hb hz)
  obtain ⟨av, cv, rfl⟩ := ho.form
  clear ho hb H
  go_wp2_with fail
  refine (unhide HS).mono ?_
  rintro e W2 ⟨rfl, ho, hb⟩
  replace ho := hide ho
  replace hb := hide hb
  go_wp2
  go_ret
  exact ⟨_, rfl, unhide ho, unhide hb⟩

/-- the members but self -/
def OthA (w : World) (ms : List Int) (self : Int) (e : Ending) (W : World) : Prop := ∃ v' l', e = .returned v' ∧ OwN W w.heap.size v' l' ∧ Below w.heap.size w W ∧ l'.length ≤ ms.length ∧ ∀ x, x ∈ l' ↔ x ∈ ms ∧ x ≠ self
set_option maxRecDepth 100000 in
set_option maxHeartbeats 2000000 in
theorem others_in (w : World) (v : Value) (ms : List Int) (self : Int) (h : RN w v ms) (hl : ms.length ≤ 1000000) : Calls Try.prog 38 #[v, .int .i64 self] w (OthA w ms self) := by
  obtain ⟨a, c, rfl⟩ := h.form
  have H := hide h
  clear h
  obtain ⟨n, hn⟩ : ∃ n, ms.length = n := ⟨_, rfl⟩
  have Hn := hide hn
  rw [hn] at hl H ⊢
  clear hn
  have hmf : ∀ (fn : Fn) (first cap : Array Value) (w : World), (Instr.makeFunc fn first cap).run Try.prog w = .ok (.func fn first cap) w := fun _ _ _ _ => rfl
  have HV : Hid (∀ W : World, Calls Try.prog 52 #[.slice a n c] W fun e W' => e = .returned (sqV W.heap.size) ∧ W' = W.alloc (.cells #[.slice a n c] 32)) := by
    intro W
    unfold sqV
    go_enter Try.func52, Try.ntmps52
    go_wp2
    go_ret
    exact ⟨rfl, rfl⟩
  go_enter Try.func38, Try.ntmps38
  go_wp2_with fail
  refine (unhide HV _).mono ?_
  rintro e W1 ⟨rfl, rfl⟩
  obtain ⟨X, hX⟩ : ∃ X, (w.alloc (.cells #[.int .i64 self] 3)).alloc (.cells #[.slice a n c] 32) = X := ⟨_, rfl⟩
  have x0 : Bx X w.heap.size 3 #[.int .i64 self] := by rw [← hX]; exact (Bx.new w _ _).below (ballc (Below.refl _ _) _)
  have x1 : Bx X (w.alloc (.cells #[.int .i64 self] 3)).heap.size 32 #[.slice a n c] := by rw [← hX]; exact Bx.new _ _ _
  have bX : Below w.heap.size w X := by rw [← hX]; exact ballc (ballc (Below.refl _ _) _) _
  have hzX : w.heap.size + 2 = X.heap.size := by rw [← hX]; simp
  have sq : SqS (w.alloc (.cells #[.int .i64 self] 3)).heap.size a c ms X := by
    have e := unhide Hn
    refine ⟨by rw [e]; exact x1.cell 0 _ rfl, ?_⟩
    have := (unhide H).below bX
    rwa [← e] at this
  have HS := hide (Sorted_in X _ a c ms (by rw [unhide Hn]; exact hl) sq)
  rw [hX]
  have X0 := hide x0
  have BX := hide bX
  replace hzX := hide hzX
  generalize (w.alloc (.cells #[.int .i64 self] 3)).heap.size = q1 at *
  clear x0 x1 bX sq hX HV
  go_wp2_with fail
  refine (unhide HS).mono ?_
  rintro e W2 ⟨v2, rfl, ho, hb⟩
  obtain ⟨L2, hL2⟩ : ∃ L2, (ms.mergeSort fun x y => decide (x ≤ y)) = L2 := ⟨_, rfl⟩
  rw [hL2] at ho
  have HL2 : Hid (L2.length ≤ 1000000 ∧ L2.length = n ∧ ∀ x, x ∈ L2 ↔ x ∈ ms) := by
    have e := unhide Hn
    rw [← hL2]
    refine ⟨by rw [List.length_mergeSort, e]; exact hl, by rw [List.length_mergeSort, e], fun x => List.mem_mergeSort⟩
  have HC := hide (Compact_in W2 v2 _ ho hb (unhide HL2).1)
  obtain ⟨a2, c2, rfl⟩ := ho.form
  clear HS ho hb hL2
  go_wp2_with fail
  refine (unhide HC).mono ?_
  rintro e W3 ⟨v3, rfl, ho, hb⟩
  obtain ⟨L3, hL3⟩ : ∃ L3, Lib.compact L2 = L3 := ⟨_, rfl⟩
  rw [hL3] at ho
  have HL3 : Hid (L3.length ≤ n ∧ ∀ x, x ∈ L3 ↔ x ∈ ms) := by
    obtain ⟨q1, q2, q3⟩ := unhide HL2
    rw [← hL3]
    refine ⟨?_, fun x => by rw [compact_mem]; exact q3 x⟩
    unfold Lib.compact Lib.compactUpTo
    rw [List.length_map]
    have := List.length_filter_le (Lib.keeps L2.toArray) (List.range L2.length)
    rw [List.length_range, q2] at this
    rw [q2]
    exact this
  have HD := hide (Delete_in W3 v3 _ ho hb (by have := (unhide HL3).1; omega) self w.heap.size ((unhide X0).below hb) (fun i hi e => by have := (ho.lt i hi).1; have := unhide hzX; omega))
  obtain ⟨a3, c3, rfl⟩ := ho.form
  clear HC ho hb hL3
  go_wp2_with fail
  refine (unhide HD).mono ?_
  rintro e W4 ⟨v4, rfl, ho, hb⟩
  obtain ⟨L4, hL4⟩ : ∃ L4, (L3.filter fun x => !(x == self)) = L4 := ⟨_, rfl⟩
  rw [hL4] at ho
  have R : Hid (OthA w ms self (.returned v4) W4) := by
    have hz := unhide hzX
    obtain ⟨q1, q2⟩ := unhide HL3
    refine ⟨v4, L4, rfl, ?_, bnext (unhide BX) hb, ?_, fun x => ?_⟩
    · obtain ⟨h1, h2⟩ := ho
      refine ⟨h1, h2.imp id ?_⟩
      rintro ⟨g, cap, cur, e1, e2, e3⟩
      exact ⟨g, cap, cur, e1, by omega, e3⟩
    · have := List.length_filter_le (fun x => !(x == self)) L3
      rw [hL4] at this
      rw [unhide Hn]
      omega
    · rw [← hL4, List.mem_filter, q2]
      simp
  obtain ⟨a4, c4, rfl⟩ := ho.form
  clear HD ho hb hL4
  go_wp2
  go_ret
  exact unhide R

end Go.Proofs.Ytjiphechhfifgaa
