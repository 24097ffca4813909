/-
  slices.AppendSeq, Collect, Sorted.
-/
import Derived.Test.YtmglnaldpcmakaaZFF5
set_option linter.unusedSimpArgs false
set_option linter.unusedVariables false
namespace Go.Proofs.Ytmglnaldpcmakaa
open Go.RowKit Go.Lib Go.Shelf

attribute [local go_sem] Oper.semAt_some
theorem wpListIn_append_eq {F : Fence} {n : Nat} {w w' : World} {ops : Array Oper} {rest : List Oper} {o : Oper} {a : Act} {Q : Exit → Act → World → Prop} (hg : o.guard = none) (s x : Operand) (t : TypeId)
    (hop : o.op = .call { callee := .builtin .append, args := #[s, x], argTypes := #[t, t] }) (v u v' : Value) (hs : a.eval s = v) (hx : a.eval x = u) (hrun : (Builtin.append_ #[t, t] o.type #[v, u]).run Try.prog w = .ok v' w')
    (hK : wpListIn F n Try.prog ops Q rest (a.put o.dst v') w') : wpListIn F n Try.prog ops Q (o :: rest) a w := by
  refine wpListIn_plain hg fun K hK' => ?_
  unfold Oper.wpIn
  refine ⟨?_, ?_⟩
  · simp [Oper.about, hop, resolve, Target.leads, Sem.run_pure]
  · rw [Oper.semAt_plain F _ _ (by rw [hop]; intro c hc'; cases hc')]
    simp [execOp, hop, resolve, invoke, builtin, hs, hx, hrun, Result.andThen]
    exact hK' _ _ hK
/-- append(l, x) of a number -/
theorem append_int (w : World) (ty : TypeId) (N : Nat) (v : Value) (l : List Int) (x : Int) (h : OwN w N v l) (hN : N ≤ w.heap.size) (hl : l.length ≤ 1000000) :
    ∃ v' w', (Builtin.append_ #[23, 23] ty #[v, .slice (some ⟨w.heap.size, 0, none⟩) 1 1]).run Try.prog (w.alloc (.cells #[.int .i64 x] 3)) = .ok v' w' ∧ OwN w' N v' (l ++ [x]) ∧ (w.alloc (.cells #[.int .i64 x] 3)).grownBy w' v.ownBlock ∧ (v'.ownBlock = v.ownBlock ∨ v'.ownBlock = some (w.heap.size + 1)) := by
  obtain ⟨i0, hi, hz0, hz1, hz2⟩ := info_parts infoN
  have hbx := Bx.new w 3 #[.int .i64 x]
  obtain ⟨v', w', h1, h2, h3, h4, h5⟩ := run_append_own_at (P := Try.prog) (w.alloc (.cells #[.int .i64 x] 3)) N 23 ty 3 i0 _ 1 8 Try.underlying23 hi hz0 hz1 hz2 rfl (by decide) v l.length _ (World.ownsRow.alloc h _) ⟨w.heap.size, 0, none⟩ 1 1 [.int .i64 x] rfl (fun j u hu => by
    rw [Addr.add_lit, Nat.zero_add]
    exact hbx.cell j u (by rw [← hu]; simp)) (fun u hu => by simp at hu; subst hu; rfl) (by unfold maxLen; omega) (by omega) (by simp; omega)
  refine ⟨v', w', h1, ?_, h3, ?_⟩
  · unfold OwN
    rw [nC_app]
    simpa [nC] using h2
  · simpa using h5

def sqV (Bs : Nat) : Value := .func (.func 36) #[] #[.pointer (some ⟨Bs, 0, none⟩)]
theorem SqS.below {Bs : Nat} {a : Option Addr} {c : Nat} {zs : List Int} {W W' : World} (h : SqS Bs a c zs W) (hb : Below W.heap.size W W') : SqS Bs a c zs W' := ⟨cell_below h.1 hb, h.2.below hb⟩
structure AQ (w W : World) (v : Value) (pre : List Int) : Prop where
  box : Bx W w.heap.size 23 #[v]
  row : OwN W w.heap.size v pre
  hi : ∀ i, v.ownBlock = some i → w.heap.size + 3 ≤ i
  bel : Below w.heap.size w W

set_option maxRecDepth 100000 in
set_option maxHeartbeats 4000000 in
theorem AppendSeq_in (w : World) (Bs : Nat) (a : Option Addr) (c : Nat) (zs : List Int) (hz : zs.length ≤ 1000000) (hS : SqS Bs a c zs w) :
    Calls Try.prog 43 #[.slice none 0 0, sqV Bs] w fun e W => ∃ v', e = .returned v' ∧ OwN W w.heap.size v' zs ∧ Below w.heap.size w W := by
  refine (callsIn_wide (n := 6)).1 ?_
  refine callsIn_of_wp_marks Try.func43 rfl trivial ?_ rfl
  simp only [Try.ntmps43, List.size_toArray, List.length_cons, List.length_nil, Nat.reduceAdd, Nat.reduceSub, Array.replicate_succ, Array.replicate_zero, List.push_toArray, List.append_toArray, List.nil_append, List.cons_append]
  have al := ballc (Below.refl w.heap.size w) (.cells #[.slice none 0 0] 23)
  have bx1 := Bx.new w 23 #[.slice none 0 0]
  have hsz : (w.alloc (.cells #[.slice none 0 0] 23)).heap.size = w.heap.size + 1 := by simp
  unfold sqV
  gi_wp2
  refine range_E (gf := 36) (lb := #[.pointer (some ⟨Bs, 0, none⟩)]) rfl (enters_of Try.func36 (by kernel_rfl) rfl) (values_seq Bs a c zs hz) (fun x W args h => by subst h; rfl)
    (fun pre W => ∃ v, AQ w W v pre) (fun _ _ _ => False) ?hI (fun _ _ _ _ _ hs _ _ => hs) (fun pre W h => by obtain ⟨v, h⟩ := h; exact hS.below h.bel) ⟨_, bx1, World.ownsRow_nil _ _ _ _, fun i hi => (by cases hi), al⟩
    (fun x args => { tmps := #[.slice none 0 0, .func (.func 36) #[] #[.pointer (some ⟨Bs, 0, none⟩)], .pointer (some ⟨w.heap.size, 0, none⟩), undef, .slice none 0 0, .int .i64 x, .func (.func 36) #[] #[.pointer (some ⟨Bs, 0, none⟩)], .int .i64 x, undef, undef, undef, undef, undef], defers := [] }) ?assign ?body ?done ?stop
  case hI =>
    rintro s A B row ⟨v, h⟩ hg hr
    rw [hsz] at hr
    have k := Kp.of_grown (N := fun k => row = some k) hg (fun k e => e)
    exact ⟨v, h.box.kp k (fun e => by have := hr _ e; omega), owns_kp h.row k (fun i hi e => by have := hr _ e; have := h.hi i hi; omega), h.hi, k.below h.bel (fun i e => by have := hr _ e; omega)⟩
  case assign =>
    rintro l x args W K rfl hK
    gi_wp2
    simpa using hK
  case body =>
    rintro l pre x rest args W hpre hzW ⟨v, h⟩
    rw [hsz] at hzW
    have hlen : pre.length < 1000000 := by have := congrArg List.length hpre; simp at this; omega
    obtain ⟨v', W2, hr, hown, hgr, hat⟩ := append_int W 23 w.heap.size v pre x h.row h.bel.size (by omega)
    obtain ⟨av, cv, rfl⟩ := OwN.form h.row
    obtain ⟨a', c', rfl⟩ := OwN.form hown
    have bA := ballc (Below.refl W.heap.size W) (.cells #[.int .i64 x] 3)
    have xA := h.box.below bA
    have K2 := Kp.of_grown (N := fun k => (Value.slice av pre.length cv).ownBlock = some k) hgr (fun k e => e)
    have hh := h.hi
    have x2 := xA.kp K2 (fun e => by have := hh _ e; omega)
    have c0 := h.box.cell 0 _ rfl
    have c0' := xA.cell 0 _ rfl
    have c2 := x2.cell 0 _ rfl
    have f2 := x2.frozen 0
    have l0 := h.box.lt
    have Hr := hide hr
    have ks := Kp.set (N := fun i => i = w.heap.size) W2 ⟨w.heap.size, 0, none⟩ (.slice a' (pre ++ [x]).length c') rfl
    have hz2 := K2.size
    have hzA : (W.alloc (.cells #[.int .i64 x] 3)).heap.size = W.heap.size + 1 := by simp
    have R : Hid ((∀ k, w.heap.size + 1 ≤ k → k < w.heap.size + 1 + 2 → (W2.setCell ⟨w.heap.size, 0, none⟩ (.slice a' (pre ++ [x]).length c')).heap[k]? = W.heap[k]?) ∧ ∃ v, AQ w (W2.setCell ⟨w.heap.size, 0, none⟩ (.slice a' (pre ++ [x]).length c')) v (pre ++ [x])) := by
      have hlo : ∀ i, (Value.slice a' (pre ++ [x]).length c').ownBlock = some i → w.heap.size + 3 ≤ i := fun i hi => by
        rcases hat with e | e
        · exact hh i (by rw [← e]; exact hi)
        · rw [e] at hi; cases hi; omega
      refine ⟨fun k h1 h2 => ?_, _, by simpa using x2.set 0 (.slice a' (pre ++ [x]).length c'), owns_kp hown ks (fun i hi e => by have := hlo i hi; omega), hlo, ks.below (K2.below (bnext h.bel bA) (fun i hi => by have := hh i hi; omega)) (fun i e => by omega)⟩
      rw [ks.block k (by omega) (by omega), K2.block k (by omega) (fun e => by have := hh k e; omega), bA.block k (by omega)]
    rw [hsz]
    have e9 : (pre ++ [x]).length = pre.length + 1 := by simp
    rw [e9] at Hr R
    clear hr hown hgr hat bA xA K2 x2 ks e9
    gi_wp2_with (gi_at_builtin; refine wpListIn_append_eq rfl _ _ 23 rfl _ _ _ rfl rfl (unhide Hr) ?_)
    exact unhide R
  case done =>
    rintro D W hD hzW ⟨v, h⟩ hdd
    subst hD
    obtain ⟨av, cv, rfl⟩ := OwN.form h.row
    have c0 := h.box.cell 0 _ rfl
    have l0 := h.box.lt
    have H := hide h
    clear h
    gi_wp2
    refine ⟨by simp, .inl ⟨_, _, rfl, run_takeDeferred hdd, ?_⟩⟩
    have h := unhide H
    have kk := Kp.of_grown (N := fun k => k = w.heap.size + 1) (grownBy_putObj' W (w.heap.size + 1) (.deferred none)) (fun k e => by cases e; rfl)
    rw [hsz]
    refine ⟨_, results_tmp rfl _ _ _, ?_⟩
    refine ⟨.slice av zs.length cv, rfl, owns_kp h.row kk (fun i hi e => by have := h.hi i hi; omega), kk.below h.bel (fun i e => by omega)⟩
  case stop => rintro D c pre rest W hD hp h _; exact h.elim


theorem Collect_in (w : World) (Bs : Nat) (a : Option Addr) (c : Nat) (zs : List Int) (hz : zs.length ≤ 1000000) (hS : SqS Bs a c zs w) :
    Calls Try.prog 34 #[sqV Bs] w fun e W => ∃ v', e = .returned v' ∧ OwN W w.heap.size v' zs ∧ Below w.heap.size w W := by
  have H := hide (AppendSeq_in w Bs a c zs hz hS)
  unfold sqV at H ⊢
  go_enter Try.func34, Try.ntmps34
  go_wp2_with fail
  refine (unhide H).mono ?_
  rintro e W1 ⟨v, rfl, ho, hb⟩
  replace ho := hide ho
  replace hb := hide hb
  go_wp2
  go_ret
  exact ⟨_, rfl, unhide ho, unhide hb⟩


end Go.Proofs.Ytmglnaldpcmakaa
