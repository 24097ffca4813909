/-
  Rows with a mark behind them; rows that are written over.
-/
import Derived.Test.YtjiphechhfifgaaZXD
import Derived.Test.YtjiphechhfifgaaZFN1

set_option linter.unusedSimpArgs false
set_option linter.unusedVariables false
namespace Go.Proofs.Ytjiphechhfifgaa
open Go.RowKit Go.Lib

/-- append(nil, l...) -/
theorem app_nil (TS E : TypeId) (k bytes : Nat) (z : Value) (ht : Try.prog.underlying TS = some (.slice E)) (hinf : (Try.prog.info? E).map (fun i => (i.zero, i.size, i.bytes)) = some (some z, k, bytes)) (hzs : z.cells.size = k) (k0 : 0 < k)
    (w : World) (base : Nat) (ty : TypeId) (v : Value) (n : Nat) (C : List Value) (h : RC w v n C) (hC : C.length = n * k) (h1 : ∀ u ∈ C, u.oneCell' = true) (hb : base ≤ w.heap.size) (hn : n ≤ maxLen) (hby : n * bytes ≤ 140737488355328) :
    ∃ v' w', (Builtin.append_ #[TS, TS] ty #[.slice none 0 0, v]).run Try.prog w = .ok v' w' ∧ w'.ownsRow base E k v' n C ∧ w.grownBy w' none := by
  obtain ⟨i0, hi, hz0, hz1, hz2⟩ := info_parts hinf
  have step : ∀ (ad : Addr) (cc : Nat), v = .slice (some ad) n cc → (∀ j x, C[j]? = some x → w.cell? (ad.add j) = some x) → ∃ v' w', (Builtin.append_ #[TS, TS] ty #[.slice none 0 0, v]).run Try.prog w = .ok v' w' ∧ w'.ownsRow base E k v' n C ∧ w.grownBy w' none := by
    rintro ad cc rfl hc
    obtain ⟨v', w', q1, q2, q3, _⟩ := run_append_own (P := Try.prog) w base TS ty E i0 z k bytes ht hi hz0 hz1 hz2 hzs k0 (.slice none 0 0) 0 [] (World.ownsRow_nil _ _ _ _) ad n cc C hC hc h1 (by omega) (by rw [Nat.zero_add]; exact hby) hb
    exact ⟨v', w', q1, by simpa using q2, q3⟩
  rcases h with ⟨h0, a, cap, rfl⟩ | ⟨b, off, cap, rfl, _, _, hc⟩
  · subst h0
    have e : C = [] := List.eq_nil_of_length_eq_zero (by simpa using hC)
    subst e
    cases a with
    | some ad => exact step ad cap rfl (fun j x hx => by simp at hx)
    | none =>
      refine ⟨.slice none 0 0, w, ?_, World.ownsRow_nil _ _ _ _, ⟨rfl, rfl, rfl, Nat.le_refl _, fun _ _ _ => rfl⟩⟩
      simp [Builtin.append_, run_underlying ht, sizeOf, typeInfo, hi, Builtin.lenOf, Builtin.firstCells, storeCells]
  · exact step ⟨b, off, none⟩ cap rfl (fun j x hx => by rw [Addr.add_lit]; exact hc j x hx)

theorem RC.take1 {W : World} {a : Option Addr} {n c : Nat} {C D : List Value} (h : RC W (.slice a (n + 1) c) (n + 1) C) (hD : ∀ (j : Nat) (x : Value), D[j]? = some x → C[j]? = some x) : RC W (.slice a n c) n D := by
  rcases h with ⟨h0, _⟩ | ⟨b, off, cap, e, h1, h2, h3⟩
  · omega
  · simp at e
    obtain ⟨rfl, rfl⟩ := e
    exact .inr ⟨b, off, c, rfl, by omega, h2, fun j x hx => h3 j x (hD j x hx)⟩
theorem own_cap {W : World} {B E k n : Nat} {a : Option Addr} {c : Nat} {C : List Value} (h : W.ownsRow B E k (.slice a (n + 1) c) (n + 1) C) : ∃ g, a = some ⟨g, 0, none⟩ ∧ n + 1 ≤ c := by
  obtain ⟨_, (⟨_, h0⟩ | ⟨g, cap, cur, e, _, _, h1, _⟩)⟩ := h
  · omega
  · simp at e
    obtain ⟨rfl, rfl⟩ := e
    exact ⟨g, rfl, h1⟩

theorem owns_wk {W : World} {B B' E k n : Nat} {v : Value} {C : List Value} (h : W.ownsRow B E k v n C) (hb : B' ≤ B) : W.ownsRow B' E k v n C := by
  obtain ⟨h1, h2⟩ := h
  refine ⟨h1, ?_⟩
  rcases h2 with h2 | ⟨g, cap, cur, e, hbg, hg, hc1, hc2, hc3, hc4⟩
  · exact .inl h2
  · exact .inr ⟨g, cap, cur, e, Nat.le_trans hb hbg, hg, hc1, hc2, hc3, hc4⟩
theorem sl_toVt (w : World) (a : Option Addr) (n c k : Nat) (hk : k ≤ c) :
    (Instr.sliceAt 31 (.slice a n c) none (some (.int .i64 (k : Nat))) none).run Try.prog w = .ok (.slice a k c) w := by
  obtain ⟨i0, hi, hz0, hz1, hz2⟩ := info_parts infoD
  have h1 : (k : Int) ≤ (c : Int) := by omega
  simp [Instr.sliceAt, Instr.slice, run_underlying Try.underlying31, sizeOf, typeInfo, hi, hz1, go_sem, h1, hk]
theorem sl_toNt (w : World) (a : Option Addr) (n c k : Nat) (hk : k ≤ c) :
    (Instr.sliceAt 32 (.slice a n c) none (some (.int .i64 (k : Nat))) none).run Try.prog w = .ok (.slice a k c) w := by
  obtain ⟨i0, hi, hz0, hz1, hz2⟩ := info_parts infoN
  have h1 : (k : Int) ≤ (c : Int) := by omega
  simp [Instr.sliceAt, Instr.slice, run_underlying Try.underlying32, sizeOf, typeInfo, hi, hz1, go_sem, h1, hk]
/-- each block is of the type and of the size that it was -/
def SS (W W' : World) : Prop := ∀ i t cur, Bx W i t cur → ∃ cur', Bx W' i t cur' ∧ cur'.size = cur.size
theorem SS.refl (W : World) : SS W W := fun i t cur h => ⟨cur, h, rfl⟩
theorem SS.trans {a b c : World} (h : SS a b) (k : SS b c) : SS a c := fun i t cur hx => by
  obtain ⟨c1, h1, e1⟩ := h i t cur hx
  obtain ⟨c2, h2, e2⟩ := k i t c1 h1
  exact ⟨c2, h2, e2.trans e1⟩
theorem SS.below {W W' : World} (hb : Below W.heap.size W W') : SS W W' := fun i t cur hx => ⟨cur, hx.below hb, rfl⟩
theorem SS.set (W : World) (b j : Nat) (v : Value) : SS W (W.setCell ⟨b, j, none⟩ v) := fun i t cur hx => by
  by_cases e : i = b
  · subst e; exact ⟨_, hx.set j v, by simp⟩
  · exact ⟨cur, hx.kp (Kp.set (N := fun k => k = b) W ⟨b, j, none⟩ v rfl) e, rfl⟩
theorem SS.grown {W W' : World} (h : W.grownBy W' none) : SS W W' := fun i t cur hx => ⟨cur, (h.block i hx.lt (by simp)).trans hx, rfl⟩

/-- a row of one's own -/
def OwX (W : World) (t : TypeId) (k : Nat) (v : Value) (n : Nat) : Prop := ∃ C, W.ownsRow 0 t k v n C
theorem OwX.ss {W W' : World} {t : TypeId} {k n : Nat} {v : Value} (h : OwX W t k v n) (s : SS W W') : OwX W' t k v n := by
  obtain ⟨C, h1, h2 | ⟨g, cap, cur, rfl, hb, hg, hc1, hc2, hc3, hc4⟩⟩ := h
  · exact ⟨C, h1, .inl h2⟩
  · obtain ⟨cur', hx, hs⟩ := s g t cur hg
    refine ⟨cur'.toList.take (n * k), ?_, .inr ⟨g, cap, cur', rfl, hb, hx, hc1, hc2, hs.trans hc3, rfl⟩⟩
    rw [List.length_take, Array.length_toList, hs, hc3]
    exact Nat.min_eq_left (Nat.mul_le_mul_right _ hc1)
theorem OwX.form {W : World} {t : TypeId} {k n : Nat} {v : Value} (h : OwX W t k v n) : ∃ a c, v = .slice a n c := by
  obtain ⟨C, h⟩ := h
  rcases h.2 with ⟨rfl, rfl⟩ | ⟨g, cap, cur, rfl, _⟩
  · exact ⟨_, _, rfl⟩
  · exact ⟨_, _, rfl⟩
theorem OwX.at {W : World} {t : TypeId} {k n c : Nat} {a : Option Addr} (h : OwX W t k (.slice a n c) n) (hn : 0 < n) : ∃ g, a = some ⟨g, 0, none⟩ ∧ g < W.heap.size ∧ (∀ x, W.frozen? ⟨g, x, none⟩ = false) ∧ (∀ q, q < n * k → ∃ u, W.cell? ⟨g, q, none⟩ = some u) ∧ ∃ cur, Bx W g t cur := by
  obtain ⟨C, h⟩ := h
  have h0 := h
  obtain ⟨h1, (⟨e, h2⟩ | ⟨g, cap, cur, e, hb, hg, hc1, hc2, hc3, hc4⟩)⟩ := h
  · omega
  simp at e
  obtain ⟨rfl, rfl⟩ := e
  have hbx : Bx W g t cur := hg
  refine ⟨g, rfl, hbx.lt, fun x => hbx.frozen x, fun q hq => ?_, cur, hbx⟩
  have := h0.cellAt q hq
  exact ⟨_, this.trans (List.getElem?_eq_getElem (by omega))⟩
theorem OwX.of {W : World} {B : Nat} {t : TypeId} {k n : Nat} {v : Value} {C : List Value} (h : W.ownsRow B t k v n C) : OwX W t k v n := ⟨C, owns_wk h (Nat.zero_le _)⟩

/-- a list in a row of its own, a mark behind it -/
def Mk (W : World) (N : Nat) (l : List (Int × Int)) (g c : Nat) : Prop := W.ownsRow N 56 2 (.slice (some ⟨g, 0, none⟩) (l.length + 1) c) (l.length + 1) (flat encI (l ++ [(77, 77)]))
theorem Mk.kp {N : Nat → Prop} {W W' : World} {B : Nat} {l : List (Int × Int)} {g c : Nat} (h : Mk W B l g c) (k : Kp N W W') (hn : ¬ N g) : Mk W' B l g c := owns_kp h k (fun i hi e => by simp [Value.ownBlock] at hi; subst hi; exact hn e)
theorem Mk.ri {W : World} {B : Nat} {l : List (Int × Int)} {g c : Nat} (h : Mk W B l g c) : RI W (.slice (some ⟨g, 0, none⟩) l.length c) l :=
  RC.take1 (RC.of_owns h) (fun j x hx => by rw [flat_append]; exact (List.getElem?_append_left (List.getElem?_eq_some_iff.1 hx).1).trans hx)
theorem Mk.cap {W : World} {B : Nat} {l : List (Int × Int)} {g c : Nat} (h : Mk W B l g c) : l.length + 1 ≤ c := by
  obtain ⟨_, _, h1⟩ := own_cap h
  exact h1
theorem Mk.lo {W : World} {B : Nat} {l : List (Int × Int)} {g c : Nat} (h : Mk W B l g c) : B ≤ g ∧ g < W.heap.size := h.lt g rfl
theorem Mk.md {W : World} {B : Nat} {l : List (Int × Int)} {g c : Nat} (h : Mk W B l g c) : W.cell? ⟨g, l.length * 2, none⟩ = some (.int .i64 77) ∧ W.cell? ⟨g, l.length * 2 + 1, none⟩ = some (.int .i64 77) := by
  have hx : (l ++ [((77 : Int), (77 : Int))])[l.length]? = some (77, 77) := by simp
  have h0 := h.cellAt (l.length * 2) (by omega)
  have h1 := h.cellAt (l.length * 2 + 1) (by omega)
  rw [show l.length * 2 = l.length * 2 + 0 from rfl, flat_get encI_len _ l.length 0 _ hx (by omega)] at h0
  rw [flat_get encI_len _ l.length 1 _ hx (by omega)] at h1
  exact ⟨h0, h1⟩
theorem mark_row (W : World) (a : Option Addr) (c : Nat) (l : List (Int × Int)) (hr : RI W (.slice a l.length c) l) (hl : l.length ≤ 100000) :
    ∃ a1 c1 W1 g c2 W2, (Builtin.append_ #[31, 31] 31 #[.slice none 0 0, .slice a l.length c]).run Try.prog W = .ok (.slice a1 l.length c1) W1 ∧ (Builtin.append_ #[31, 31] 31 #[.slice a1 l.length c1, .slice (some ⟨W1.heap.size, 0, none⟩) 1 1]).run Try.prog (W1.alloc (.cells #[.int .i64 77, .int .i64 77] 56)) = .ok (.slice (some ⟨g, 0, none⟩) (l.length + 1) c2) W2 ∧ Mk W2 W.heap.size l g c2 ∧ Below W.heap.size W W1 ∧ Below W.heap.size W W2 := by
  obtain ⟨v1, W1, hap1, ho1, hg1⟩ := app_nil 31 56 2 16 _ Try.underlying31 infoD rfl (by decide) W W.heap.size 31 _ l.length (flat encI l) hr (flat_len encI_len l) encI_one (Nat.le_refl _) (by unfold maxLen; omega) (by omega)
  have b1 : Below W.heap.size W W1 := (Below.refl _ W).grown hg1 (Nat.le_refl _) (fun k hk => by cases hk)
  obtain ⟨v2, W2, hap2, ho2, hg2, -⟩ := append_dot W1 31 W.heap.size v1 l 77 77 ho1 b1.size (by omega)
  have b2 : Below W.heap.size W W2 := (ballc b1 _).grown hg2 (ballc b1 _).size (fun k hk => (ho1.lt k hk).1)
  obtain ⟨a1, c1, rfl⟩ := owns_form ho1
  have l2 : (l ++ [((77 : Int), (77 : Int))]).length = l.length + 1 := by simp
  rw [l2] at ho2
  obtain ⟨a2, c2, rfl⟩ := owns_form ho2
  obtain ⟨g, rfl, hc⟩ := own_cap ho2
  exact ⟨a1, c1, W1, g, c2, W2, hap1, hap2, ho2, b1, b2⟩

/-- numbers in a row of their own, a mark behind them -/
def MkN (W : World) (N : Nat) (l : List Int) (g c : Nat) : Prop := W.ownsRow N 3 1 (.slice (some ⟨g, 0, none⟩) (l.length + 1) c) (l.length + 1) (nC (l ++ [77]))
theorem MkN.kp {N : Nat → Prop} {W W' : World} {B : Nat} {l : List Int} {g c : Nat} (h : MkN W B l g c) (k : Kp N W W') (hn : ¬ N g) : MkN W' B l g c := owns_kp h k (fun i hi e => by simp [Value.ownBlock] at hi; subst hi; exact hn e)
theorem MkN.rn {W : World} {B : Nat} {l : List Int} {g c : Nat} (h : MkN W B l g c) : RN W (.slice (some ⟨g, 0, none⟩) l.length c) l :=
  RC.take1 (RC.of_owns h) (fun j x hx => by rw [nC_app]; exact (List.getElem?_append_left (List.getElem?_eq_some_iff.1 hx).1).trans hx)
theorem MkN.cap {W : World} {B : Nat} {l : List Int} {g c : Nat} (h : MkN W B l g c) : l.length + 1 ≤ c := by
  obtain ⟨_, _, h1⟩ := own_cap h
  exact h1
theorem MkN.lo {W : World} {B : Nat} {l : List Int} {g c : Nat} (h : MkN W B l g c) : B ≤ g ∧ g < W.heap.size := h.lt g rfl
theorem MkN.md {W : World} {B : Nat} {l : List Int} {g c : Nat} (h : MkN W B l g c) : W.cell? ⟨g, l.length, none⟩ = some (.int .i64 77) := by
  have h0 := h.cellAt l.length (by omega)
  rw [h0]
  simp [nC]
theorem nC_one (l : List Int) : ∀ u ∈ nC l, u.oneCell' = true := fun u hu => by
  unfold nC at hu
  obtain ⟨x, _, rfl⟩ := List.mem_map.1 hu
  rfl
theorem mark_nums (W : World) (a : Option Addr) (c : Nat) (l : List Int) (hr : RN W (.slice a l.length c) l) (hl : l.length ≤ 100000) :
    ∃ a1 c1 W1 g c2 W2, (Builtin.append_ #[32, 32] 32 #[.slice none 0 0, .slice a l.length c]).run Try.prog W = .ok (.slice a1 l.length c1) W1 ∧ (Builtin.append_ #[32, 32] 32 #[.slice a1 l.length c1, .slice (some ⟨W1.heap.size, 0, none⟩) 1 1]).run Try.prog (W1.alloc (.cells #[.int .i64 77] 3)) = .ok (.slice (some ⟨g, 0, none⟩) (l.length + 1) c2) W2 ∧ MkN W2 W.heap.size l g c2 ∧ Below W.heap.size W W1 ∧ Below W.heap.size W W2 := by
  obtain ⟨v1, W1, hap1, ho1, hg1⟩ := app_nil 32 3 1 8 _ Try.underlying32 infoN rfl (by decide) W W.heap.size 32 _ l.length (nC l) hr (by rw [nC_len]; omega) (nC_one l) (Nat.le_refl _) (by unfold maxLen; omega) (by omega)
  have b1 : Below W.heap.size W W1 := (Below.refl _ W).grown hg1 (Nat.le_refl _) (fun k hk => by cases hk)
  obtain ⟨v2, W2, hap2, ho2, hg2, -⟩ := append_int W1 32 W.heap.size v1 l 77 ho1 b1.size (by omega)
  have b2 : Below W.heap.size W W2 := (ballc b1 _).grown hg2 (ballc b1 _).size (fun k hk => (World.ownsRow.lt ho1 k hk).1)
  obtain ⟨a1, c1, rfl⟩ := owns_form ho1
  have l2 : (l ++ [(77 : Int)]).length = l.length + 1 := by simp
  unfold OwN at ho2
  rw [l2] at ho2
  obtain ⟨a2, c2, rfl⟩ := owns_form ho2
  obtain ⟨g, rfl, hc⟩ := own_cap ho2
  exact ⟨a1, c1, W1, g, c2, W2, hap1, hap2, ho2, b1, b2⟩

end Go.Proofs.Ytjiphechhfifgaa

/-
  The program's Front and the document's, side by side.
-/
set_option linter.unusedSimpArgs false
set_option linter.unusedVariables false
namespace Go.Proofs.Ytjiphechhfifgaa
open Go.RowKit Go.Lib

/-- both, in blocks of P or in new ones, apart from each other and from Q -/
def PX (P : Nat → Prop) (w : World) (Q : Nat → Prop) (W : World) (b n : Nat) (S : StF) (r : Nat) (T : StF) : Prop :=
  ∃ P1 P2, FR P1 W b n S ∧ DF P2 W r T ∧ (∀ i, P1 i → (P i ∨ w.heap.size ≤ i) ∧ i < W.heap.size ∧ ¬ P2 i ∧ ¬ Q i) ∧ (∀ i, P2 i → (P i ∨ w.heap.size ≤ i) ∧ i < W.heap.size ∧ ¬ P1 i ∧ ¬ Q i) ∧ (∀ i, Q i → i < W.heap.size) ∧ Kp P w W
variable {P Q : Nat → Prop} {w W W' : World} {b n r : Nat} {S T : StF}
theorem PX.kpw (h : PX P w Q W b n S r T) : Kp P w W := by obtain ⟨_, _, _, _, _, _, _, h⟩ := h; exact h
theorem PX.kp {Q' N : Nat → Prop} (h : PX P w Q W b n S r T) (k : Kp N W W') (hn : ∀ i, N i → Q i) (hw : ∀ i, N i → w.heap.size ≤ i) (hq : ∀ i, Q' i → Q i ∨ (W.heap.size ≤ i ∧ i < W'.heap.size)) : PX P w Q' W' b n S r T := by
  obtain ⟨P1, P2, h1, h2, h3, h4, h5, h6⟩ := h
  have hz := k.size
  refine ⟨P1, P2, h1.kp k (fun i hi e => (h3 i e).2.2.2 (hn i hi)), h2.kp k (fun i hi e => (h4 i e).2.2.2 (hn i hi)), fun i hi => ?_, fun i hi => ?_, fun i hi => ?_, h6.trans k (fun i hi => .inr (hw i hi))⟩
  · obtain ⟨a, b, c, d⟩ := h3 i hi
    exact ⟨a, by omega, c, fun q => by rcases hq i q with q | q; exact d q; omega⟩
  · obtain ⟨a, b, c, d⟩ := h4 i hi
    exact ⟨a, by omega, c, fun q => by rcases hq i q with q | q; exact d q; omega⟩
  · rcases hq i hi with q | q
    · have := h5 i q; omega
    · exact q.2
theorem PX.below (h : PX P w Q W b n S r T) (hb : Below W.heap.size W W') : PX P w Q W' b n S r T := h.kp (N := fun _ => False) (Kp.of_below hb) (fun _ h => h.elim) (fun _ h => h.elim) (fun i h => .inl h)
theorem PX.grow (h : PX P w Q W b n S r T) (hb : Below W.heap.size W W') : PX P w (fun i => Q i ∨ (W.heap.size ≤ i ∧ i < W'.heap.size)) W' b n S r T := h.kp (N := fun _ => False) (Kp.of_below hb) (fun _ h => h.elim) (fun _ h => h.elim) (fun i h => h)
theorem PX.wk {Q' : Nat → Prop} (h : PX P w Q W b n S r T) (hq : ∀ i, Q' i → Q i) : PX P w Q' W b n S r T := h.kp (N := fun _ => False) (Kp.refl _ _) (fun _ h => h.elim) (fun _ h => h.elim) (fun i h => .inl (hq i h))
theorem PX.good (h : PX P w Q W b n S r T) (k : Int) : Good (hdR S k) ∧ Good (usR S k) := by obtain ⟨_, _, h, _⟩ := h; exact h.good k

theorem PX.hear1 (h : PX P w Q W b n S r T) (hn : n ≤ 999999) (k : Int) (hk : in64 k) (v : Value) (l : List (Int × Int)) (hv : RI W v l) (hl : l.length ≤ 1000000) (hap : ∀ i, rb v l.length i → Q i) :
    Calls Try.prog 17 #[.pointer (some ⟨b, 0, none⟩), .int .i64 k, v] W fun e W' => e = .returned (.int .i64 (hearE k l)) ∧ PX P w Q W' b (n + 1) (hearS S k l) r T ∧ Kp (fun i => ¬ Q i) W W' := by
  obtain ⟨P1, P2, h1, h2, h3, h4, h5, h6⟩ := h
  refine (Hear_in h1 (fun i hi => (h3 i hi).2.1) hn k hk v l hv hl (fun i hi e => (h3 i e).2.2.2 (hap i hi))).mono ?_
  rintro e W' ⟨rfl, hf, kk⟩
  have hz := kk.size
  have hz6 := h6.size
  have hp : ∀ i, P1 i → (P i ∨ w.heap.size ≤ i) := fun i hi => (h3 i hi).1
  refine ⟨rfl, ⟨_, P2, hf.lt, h2.kp kk (fun i hi e => (h3 i hi).2.2.1 e), fun i hi => ?_, fun i hi => ?_, fun i hi => by have := h5 i hi; omega, h6.trans kk hp⟩, ⟨kk.os, kk.tape, kk.output, kk.size, fun i hi hn => kk.block i hi (fun e => hn (h3 i e).2.2.2)⟩⟩
  · obtain ⟨hi, hl⟩ := hi
    rcases hi with hi | hi
    · exact ⟨hp i hi, hl, (h3 i hi).2.2⟩
    · exact ⟨.inr (by omega), hl, fun q => by have := (h4 i q).2.1; omega, fun q => by have := h5 i q; omega⟩
  · obtain ⟨a, b, c, d⟩ := h4 i hi
    refine ⟨a, by omega, fun q => ?_, d⟩
    rcases q.1 with q | q
    · exact c q
    · omega
theorem PX.settle1 (h : PX P w Q W b n S r T) (v : Value) (l : List (Int × Int)) (hv : RI W v l) (hl : l.length ≤ 1000000) :
    Calls Try.prog 15 #[.pointer (some ⟨b, 0, none⟩), v] W fun e W' => e = .returned (.tuple #[]) ∧ PX P w Q W' b n (setS S l) r T ∧ Kp (fun i => ¬ Q i) W W' := by
  obtain ⟨P1, P2, h1, h2, h3, h4, h5, h6⟩ := h
  refine (Settle_in h1 (fun i hi => (h3 i hi).2.1) v l hv hl).mono ?_
  rintro e W' ⟨rfl, hf, kk⟩
  have hz := kk.size
  exact ⟨rfl, ⟨P1, P2, hf, h2.kp kk (fun i hi e => (h3 i hi).2.2.1 e), fun i hi => ⟨(h3 i hi).1, by have := (h3 i hi).2.1; omega, (h3 i hi).2.2⟩, fun i hi => ⟨(h4 i hi).1, by have := (h4 i hi).2.1; omega, (h4 i hi).2.2⟩, fun i hi => by have := h5 i hi; omega, h6.trans kk (fun i hi => (h3 i hi).1)⟩, ⟨kk.os, kk.tape, kk.output, kk.size, fun i hi hn => kk.block i hi (fun e => hn (h3 i e).2.2.2)⟩⟩
theorem DF.own {P2 : Nat → Prop} (h : DF P2 W r T) : P2 r := by obtain ⟨_, _, h, _⟩ := h; exact h.pr
theorem PX.step2 {P1 P2 : Nat → Prop} {T' : StF} (h1 : FR P1 W b n S) (h2 : DF P2 W r T) (h3 : ∀ i, P1 i → (P i ∨ w.heap.size ≤ i) ∧ i < W.heap.size ∧ ¬ P2 i ∧ ¬ Q i) (h4 : ∀ i, P2 i → (P i ∨ w.heap.size ≤ i) ∧ i < W.heap.size ∧ ¬ P1 i ∧ ¬ Q i) (h5 : ∀ i, Q i → i < W.heap.size) (h6 : Kp P w W) (hf : DF (fun i => P2 i ∨ W.heap.size ≤ i) W' r T') (kk : Kp (fun i => i = r) W W') : PX P w Q W' b n S r T' ∧ Kp (fun i => ¬ Q i) W W' := by
  have hz := kk.size
  have hz6 := h6.size
  have hr := h2.own
  refine ⟨⟨P1, _, h1.kp kk (fun i hi e => by subst hi; exact (h3 i e).2.2.1 hr), hf.lt, fun i hi => ?_, fun i hi => ?_, fun i hi => by have := h5 i hi; omega, h6.trans kk (fun i hi => by subst hi; exact (h4 i hr).1)⟩, ⟨kk.os, kk.tape, kk.output, kk.size, fun i hi hn => kk.block i hi (fun e => by subst e; exact hn (h4 i hr).2.2.2)⟩⟩
  · obtain ⟨a, b, c, d⟩ := h3 i hi
    refine ⟨a, by omega, fun q => ?_, d⟩
    rcases q.1 with q | q
    · exact c q
    · omega
  · obtain ⟨hi, hl⟩ := hi
    rcases hi with hi | hi
    · exact ⟨(h4 i hi).1, hl, (h4 i hi).2.2⟩
    · exact ⟨.inr (by omega), hl, fun q => by have := (h3 i q).2.1; omega, fun q => by have := h5 i q; omega⟩
theorem PX.hear2 (h : PX P w Q W b n S r T) (k : Int) (v : Value) (l : List (Int × Int)) (hv : RI W v l) (hl : l.length ≤ 1000000) (hap : ∀ i, rb v l.length i → i < w.heap.size ∧ ¬ P i) :
    Calls Try.prog 25 #[.pointer (some ⟨r, 0, none⟩), .int .i64 k, v] W fun e W' => e = .returned (.int .i64 (hearE k l)) ∧ PX P w Q W' b n S r (hearS T k l) ∧ Kp (fun i => ¬ Q i) W W' := by
  obtain ⟨P1, P2, h1, h2, h3, h4, h5, h6⟩ := h
  refine (refHear_in h2 k v l hv hl (fun i hi e => ?_)).mono ?_
  · subst e
    rcases (h4 i h2.own).1 with q | q
    · exact (hap i hi).2 q
    · have := (hap i hi).1; omega
  · rintro e W' ⟨rfl, hf, kk⟩
    exact ⟨rfl, PX.step2 h1 h2 h3 h4 h5 h6 hf kk⟩
theorem PX.settle2 (h : PX P w Q W b n S r T) (v : Value) (l : List (Int × Int)) (hv : RI W v l) (hl : l.length ≤ 1000000) (hap : ∀ i, rb v l.length i → i < w.heap.size ∧ ¬ P i) :
    Calls Try.prog 26 #[.pointer (some ⟨r, 0, none⟩), v] W fun e W' => e = .returned (.tuple #[]) ∧ PX P w Q W' b n S r (setS T l) ∧ Kp (fun i => ¬ Q i) W W' := by
  obtain ⟨P1, P2, h1, h2, h3, h4, h5, h6⟩ := h
  refine (refSettle_in h2 v l hv hl (fun i hi e => ?_)).mono ?_
  · subst e
    rcases (h4 i h2.own).1 with q | q
    · exact (hap i hi).2 q
    · have := (hap i hi).1; omega
  · rintro e W' ⟨rfl, hf, kk⟩
    exact ⟨rfl, PX.step2 h1 h2 h3 h4 h5 h6 hf kk⟩

/-- what a step goes by: K says where the two are, and the law's own rows -/
structure StepK (K : Nat → World → StF → StF → Prop) (Z : Nat → World → StF → StF → Prop) (b r : Nat) (kind site : Int) (vl : List (Int × Int)) (ml : List Int) (av : Option Addr) (cv : Nat) (am : Option Addr) (cm : Nat) (bx gv gc hv hc : Nat) : Prop where
  bel : ∀ n W W' S T, K n W S T → Below W.heap.size W W' → K n W' S T
  box : ∀ n W S T, K n W S T → Bx W bx 34 #[.int .i64 kind, .int .i64 site, .slice av vl.length cv, .slice am ml.length cm]
  mv : ∀ n W S T, K n W S T → Mk W 0 vl gv gc
  mn : ∀ n W S T, K n W S T → MkN W 0 ml hv hc
  hear1 : ∀ n W S T, K n W S T → n ≤ 999999 → Calls Try.prog 17 #[.pointer (some ⟨b, 0, none⟩), .int .i64 site, .slice (some ⟨gv, 0, none⟩) vl.length gc] W fun e W' => e = .returned (.int .i64 (hearE site vl)) ∧ K (n + 1) W' (hearS S site vl) T
  hear2 : ∀ n W S T, K n W S T → Calls Try.prog 25 #[.pointer (some ⟨r, 0, none⟩), .int .i64 site, .slice av vl.length cv] W fun e W' => e = .returned (.int .i64 (hearE site vl)) ∧ K n W' S (hearS T site vl)
  set1 : ∀ n W S T, K n W S T → Calls Try.prog 15 #[.pointer (some ⟨b, 0, none⟩), .slice (some ⟨gv, 0, none⟩) vl.length gc] W fun e W' => e = .returned (.tuple #[]) ∧ K n W' (setS S vl) T
  set2 : ∀ n W S T, K n W S T → Calls Try.prog 26 #[.pointer (some ⟨r, 0, none⟩), .slice av vl.length cv] W fun e W' => e = .returned (.tuple #[]) ∧ K n W' S (setS T vl)
  fro1 : ∀ n W S T, K n W S T → Calls Try.prog 19 #[.pointer (some ⟨b, 0, none⟩), .slice (some ⟨hv, 0, none⟩) ml.length hc, .int .i64 site, .slice (some ⟨gv, 0, none⟩) vl.length gc] W (FnA W (Fro S ml site vl))
  fro2 : ∀ n W S T, K n W S T → Calls Try.prog 27 #[.pointer (some ⟨r, 0, none⟩), .slice am ml.length cm, .int .i64 site, .slice av vl.length cv] W (FnA W (Fro T ml site vl))
  rm : ∀ n W W' S T, K n W S T → Kp (fun i => i = hv) W W' → RN W' (.slice am ml.length cm) ml ∧ RI W' (.slice av vl.length cv) vl ∧ Mk W' 0 vl gv gc ∧ Bx W' bx 34 #[.int .i64 kind, .int .i64 site, .slice av vl.length cv, .slice am ml.length cm]
  fin : ∀ n W W' S T, K n W S T → Kp (fun i => i = hv ∨ i = gv) W W' → Z n W' S T

theorem rc_lt {v : Value} {m i : Nat} {C : List Value} (h : RC W v m C) (hi : rb v m i) : i < W.heap.size := by
  rcases h with ⟨h0, _⟩ | ⟨b, off, cap, rfl, _, hlt, _⟩
  · exact absurd h0 hi.1
  · have := hi.2
    simp [Value.ownBlock] at this
    omega
theorem Mk.b0 {B : Nat} {l : List (Int × Int)} {g c : Nat} (h : Mk W B l g c) : Mk W 0 l g c := owns_wk h (Nat.zero_le _)
theorem MkN.b0 {B : Nat} {l : List Int} {g c : Nat} (h : MkN W B l g c) : MkN W 0 l g c := owns_wk h (Nat.zero_le _)
theorem stepK_make (P : Nat → Prop) (w : World) (hP : ∀ i, P i → i < w.heap.size) (b r : Nat) (kind site : Int) (vl : List (Int × Int)) (ml : List Int) (av : Option Addr) (cv : Nat) (am : Option Addr) (cm : Nat) (bx gv gc hv hc : Nat) (hs : in64 site) (h64 : ∀ x ∈ ml, in64 x) (rv : RI w (.slice av vl.length cv) vl) (rm : RN w (.slice am ml.length cm) ml) (hlv : vl.length ≤ 20000) (hlm : ml.length ≤ 20000) (hav : ∀ i, rb (.slice av vl.length cv) vl.length i → ¬ P i) (ham : ∀ i, rb (.slice am ml.length cm) ml.length i → ¬ P i)
    (hx : w.heap.size ≤ bx) (hg : bx < gv) (hh : gv < hv) :
    StepK (fun n W S T => PX P w (fun i => i = bx ∨ i = gv ∨ i = hv) W b n S r T ∧ Bx W bx 34 #[.int .i64 kind, .int .i64 site, .slice av vl.length cv, .slice am ml.length cm] ∧ Mk W 0 vl gv gc ∧ MkN W 0 ml hv hc) (fun n W S T => PX P w (fun _ => False) W b n S r T) b r kind site vl ml av cv am cm bx gv gc hv hc := by
  have qv := fun i (hi : rb (.slice av vl.length cv) vl.length i) => (⟨rb_lt rv hi, hav i hi⟩ : i < w.heap.size ∧ ¬ P i)
  have qm := fun i (hi : rb (.slice am ml.length cm) ml.length i) => (⟨rc_lt rm hi, ham i hi⟩ : i < w.heap.size ∧ ¬ P i)
  have kRV : ∀ {n W S T}, PX P w (fun i => i = bx ∨ i = gv ∨ i = hv) W b n S r T → RI W (.slice av vl.length cv) vl := fun h => rv.kp' h.kpw (fun i hi e => hav i hi e)
  have kRM : ∀ {n W S T}, PX P w (fun i => i = bx ∨ i = gv ∨ i = hv) W b n S r T → RN W (.slice am ml.length cm) ml := fun h => RC.kp' rm h.kpw (fun i hi e => ham i hi e)
  have nQ : ∀ {W W'}, Kp (fun i => ¬ (i = bx ∨ i = gv ∨ i = hv)) W W' → Bx W bx 34 #[.int .i64 kind, .int .i64 site, .slice av vl.length cv, .slice am ml.length cm] ∧ Mk W 0 vl gv gc ∧ MkN W 0 ml hv hc → Bx W' bx 34 #[.int .i64 kind, .int .i64 site, .slice av vl.length cv, .slice am ml.length cm] ∧ Mk W' 0 vl gv gc ∧ MkN W' 0 ml hv hc := fun k h => ⟨h.1.kp k (fun e => e (.inl rfl)), h.2.1.kp k (fun e => e (.inr (.inl rfl))), h.2.2.kp k (fun e => e (.inr (.inr rfl)))⟩
  refine ⟨fun n W W' S T h hb => ⟨h.1.below hb, h.2.1.below hb, h.2.2.1.kp (N := fun _ => False) (Kp.of_below hb) (fun e => e), h.2.2.2.kp (N := fun _ => False) (Kp.of_below hb) (fun e => e)⟩, fun n W S T h => h.2.1, fun n W S T h => h.2.2.1, fun n W S T h => h.2.2.2, fun n W S T h hn => ?_, fun n W S T h => ?_, fun n W S T h => ?_, fun n W S T h => ?_, fun n W S T h => ?_, fun n W S T h => ?_, fun n W W' S T h k => ?_, fun n W W' S T h k => ?_⟩
  · refine (h.1.hear1 hn site hs _ vl h.2.2.1.ri (by omega) (fun i hi => by have := hi.2; simp [Value.ownBlock] at this; exact .inr (.inl this.symm))).mono ?_
    rintro e W' ⟨rfl, h1, k⟩
    exact ⟨rfl, h1, nQ k h.2⟩
  · refine (h.1.hear2 site _ vl (kRV h.1) (by omega) qv).mono ?_
    rintro e W' ⟨rfl, h1, k⟩
    exact ⟨rfl, h1, nQ k h.2⟩
  · refine (h.1.settle1 _ vl h.2.2.1.ri (by omega)).mono ?_
    rintro e W' ⟨rfl, h1, k⟩
    exact ⟨rfl, h1, nQ k h.2⟩
  · refine (h.1.settle2 _ vl (kRV h.1) (by omega) qv).mono ?_
    rintro e W' ⟨rfl, h1, k⟩
    exact ⟨rfl, h1, nQ k h.2⟩
  · obtain ⟨P1, P2, h1, h2, _⟩ := h.1
    exact Frontier_in h1 _ ml h.2.2.2.rn (by omega) h64 site _ vl h.2.2.1.ri (by omega)
  · obtain ⟨P1, P2, h1, h2, _⟩ := h.1
    exact refFrontier_in h2 _ ml (kRM h.1) (by omega) site _ vl (kRV h.1) (by omega)
  · exact ⟨RC.kp' (kRM h.1) k (fun i hi e => by have := (qm i hi).1; omega), (kRV h.1).kp' k (fun i hi e => by have := (qv i hi).1; omega), h.2.2.1.kp k (by omega), h.2.1.kp k (by omega)⟩
  · exact h.1.kp k (fun i hi => by rcases hi with rfl | rfl; exact .inr (.inr rfl); exact .inr (.inl rfl)) (fun i hi => by rcases hi with rfl | rfl <;> omega) (fun i hi => hi.elim)

end Go.Proofs.Ytjiphechhfifgaa

/-
  What the law's step begins with.
-/
set_option linter.unusedSimpArgs false
set_option linter.unusedVariables false
namespace Go.Proofs.Ytjiphechhfifgaa
open Go.RowKit Go.Lib

def StpA (P : Nat → Prop) (w : World) (b n r : Nat) (T : StF) (e : Ending) (W : World) : Prop := e = .returned (.bool true) ∧ PX P w (fun _ => False) W b (n + 1) T r T
theorem Kp.wd {N M : Nat → Prop} {W W' : World} (k : Kp N W W') (h : ∀ i, N i → M i) : Kp M W W' := ⟨k.os, k.tape, k.output, k.size, fun i hi hn => k.block i hi (fun e => hn (h i e))⟩
theorem nC_at (l : List Int) {i : Nat} (h : i < l.length) : (nC (l ++ [77]))[i]? = some (.int .i64 l[i]) := by
  rw [nC_app, List.getElem?_append_left (by rw [nC_len]; exact h)]
  simp [nC, h]
theorem nC_last (l : List Int) : (nC (l ++ [77]))[l.length]? = some (.int .i64 77) := by
  rw [nC_app, List.getElem?_append_right (by rw [nC_len]; omega), nC_len]
  simp [nC]
theorem PX.more {P Q : Nat → Prop} {w W : World} {b n n' r : Nat} {S T : StF} (h : PX P w Q W b n S r T) (hn : n ≤ n') : PX P w Q W b n' S r T := by
  obtain ⟨P1, P2, h1, h2⟩ := h
  exact ⟨P1, P2, h1.more hn, h2⟩
theorem step_pre {P : Nat → Prop} {w : World} {b n r : Nat} {S : StF} (h : PX P w (fun _ => False) w b n S r S) (hP : ∀ i, P i → i < w.heap.size) (kind site : Int) (vl : List (Int × Int)) (ml : List Int) (av : Option Addr) (cv : Nat) (am : Option Addr) (cm : Nat) (hs : in64 site) (h64 : ∀ x ∈ ml, in64 x) (rv : RI w (.slice av vl.length cv) vl) (rm : RN w (.slice am ml.length cm) ml) (hlv : vl.length ≤ 20000) (hlm : ml.length ≤ 20000) (hav : ∀ i, rb (.slice av vl.length cv) vl.length i → ¬ P i) (ham : ∀ i, rb (.slice am ml.length cm) ml.length i → ¬ P i) :
    ∃ X a1 c1 W1 gv gc W2 a3 c3 W3 hv hc W4, ∃ K Z : Nat → World → StF → StF → Prop, w.alloc (.cells #[.int .i64 kind, .int .i64 site, .slice av vl.length cv, .slice am ml.length cm] 34) = X ∧
      Hid ((Builtin.append_ #[31, 31] 31 #[.slice none 0 0, .slice av vl.length cv]).run Try.prog X = .ok (.slice a1 vl.length c1) W1) ∧
      Hid ((Builtin.append_ #[31, 31] 31 #[.slice a1 vl.length c1, .slice (some ⟨W1.heap.size, 0, none⟩) 1 1]).run Try.prog (W1.alloc (.cells #[.int .i64 77, .int .i64 77] 56)) = .ok (.slice (some ⟨gv, 0, none⟩) (vl.length + 1) gc) W2) ∧
      Hid ((Builtin.append_ #[32, 32] 32 #[.slice none 0 0, .slice am ml.length cm]).run Try.prog W2 = .ok (.slice a3 ml.length c3) W3) ∧
      Hid ((Builtin.append_ #[32, 32] 32 #[.slice a3 ml.length c3, .slice (some ⟨W3.heap.size, 0, none⟩) 1 1]).run Try.prog (W3.alloc (.cells #[.int .i64 77] 3)) = .ok (.slice (some ⟨hv, 0, none⟩) (ml.length + 1) hc) W4) ∧
      (X.cell? ⟨w.heap.size, 2, none⟩ = some (.slice av vl.length cv) ∧ w.heap.size < X.heap.size) ∧ (W2.cell? ⟨w.heap.size, 3, none⟩ = some (.slice am ml.length cm) ∧ w.heap.size < W2.heap.size) ∧
      (vl.length + 1 ≤ gc ∧ ml.length + 1 ≤ hc) ∧ gv ≠ hv ∧
      StepK K Z b r kind site vl ml av cv am cm w.heap.size gv gc hv hc ∧ K n W4 S S ∧ (∀ m W T, m ≤ n + 1 → Z m W T T → StpA P w b n r T (.returned (.bool true)) W) := by
  obtain ⟨X, hX⟩ : ∃ X, w.alloc (.cells #[.int .i64 kind, .int .i64 site, .slice av vl.length cv, .slice am ml.length cm] 34) = X := ⟨_, rfl⟩
  have xX : Bx X w.heap.size 34 #[.int .i64 kind, .int .i64 site, .slice av vl.length cv, .slice am ml.length cm] := by rw [← hX]; exact Bx.new w _ _
  have bX : Below w.heap.size w X := by rw [← hX]; exact ballc (Below.refl _ _) _
  obtain ⟨a1, c1, W1, gv, gc, W2, hap1, hap2, hm, b1, b2⟩ := mark_row X av cv vl (rv.below bX) (by omega)
  have bW2 := bnext bX b2
  obtain ⟨a3, c3, W3, hv, hc, W4, hap3, hap4, hn, b3, b4⟩ := mark_nums W2 am cm ml (rm.below bW2) (by omega)
  have bW4 := bnext bW2 b4
  have x2 := xX.below b2
  have x4 := x2.below b4
  have g1 := hm.lo
  have g2 := hn.lo
  have lX := xX.lt
  have z2 := b2.size
  have z4 := b4.size
  refine ⟨X, a1, c1, W1, gv, gc, W2, a3, c3, W3, hv, hc, W4, _, _, hX, hap1, hap2, hap3, hap4, ⟨xX.cell 2 _ rfl, lX⟩, ⟨x2.cell 3 _ rfl, x2.lt⟩, ⟨hm.cap, hn.cap⟩, by omega, stepK_make P w hP b r kind site vl ml av cv am cm w.heap.size gv gc hv hc hs h64 rv rm hlv hlm hav ham (Nat.le_refl _) (by omega) (by omega), ⟨(h.grow bW4).wk (fun i hi => .inr ?_), x4, (hm.kp (N := fun _ => False) (Kp.of_below b4) (fun e => e)).b0, hn.b0⟩, fun m W T hm hz => ⟨rfl, hz.more hm⟩⟩
  rcases hi with rfl | rfl | rfl <;> omega

end Go.Proofs.Ytjiphechhfifgaa
