/-
  Lists with a mark behind them; rows that are written over.
-/
import Derived.Test.YtjcdfjnlpfineaaZRLd
set_option linter.unusedSimpArgs false
set_option linter.unusedVariables false
namespace Go.Proofs.Ytjcdfjnlpfineaa
open Go.RowKit Go.Lib

/-- append(nil, l...) -/
theorem app_nil (TS E : TypeId) (k bytes : Nat) (z : Value) (ht : Try.prog.underlying TS = some (.slice E)) (hinf : (Try.prog.info? E).map (fun i => (i.zero, i.size, i.bytes)) = some (some z, k, bytes)) (hzs : z.cells.size = k) (k0 : 0 < k)
    (w : World) (base : Nat) (ty : TypeId) (v : Value) (n : Nat) (C : List Value) (h : RC w v n C) (hC : C.length = n * k) (h1 : ∀ u ∈ C, u.oneCell' = true) (hb : base ≤ w.heap.size) (hn : n ≤ maxLen) (hby : n * bytes ≤ 140737488355328) :
    ∃ v' w', (Builtin.append_ #[TS, TS] ty #[.slice none 0 0, v]).run Try.prog w = .ok v' w' ∧ w'.ownsRow base E k v' n C ∧ w.grownBy w' none := by
  obtain ⟨i0, hi, hz0, hz1, hz2⟩ := info_parts hinf
  have step : ∀ (ad : Addr) (cc : Nat), v = .slice (some ad) n cc → (∀ j x, C[j]? = some x → w.cell? (ad.add j) = some x) → ∃ v' w', (Builtin.append_ #[TS, TS] ty #[.slice none 0 0, v]).run Try.prog w = .ok v' w' ∧ w'.ownsRow base E k v' n C ∧ w.grownBy w' none := by
    rintro ad cc rfl hc
    obtain ⟨v', w', q1, q2, q3, _⟩ := run_append_own (P := Try.prog) w base TS ty E i0 z k bytes ht hi hz0 hz1 hz2 hzs k0 (.slice none 0 0) 0 [] (World.ownsRow_nil _ _ _ _) ad n cc C hC hc h1 (by omega) (by rw [Nat.zero_add]; exact hby) hb
    exact ⟨v', w', q1, by simpa using q2, q3⟩
  rcases h with ⟨h0, a, cap, rfl⟩ | ⟨b, off, cap, rfl, _, _, hc⟩
  · subst h0
    have e : C = [] := List.eq_nil_of_length_eq_zero (by simpa using hC)
    subst e
    cases a with
    | some ad => exact step ad cap rfl (fun j x hx => by simp at hx)
    | none =>
      refine ⟨.slice none 0 0, w, ?_, World.ownsRow_nil _ _ _ _, ⟨rfl, rfl, rfl, Nat.le_refl _, fun _ _ _ => rfl⟩⟩
      simp [Builtin.append_, run_underlying ht, sizeOf, typeInfo, hi, Builtin.lenOf, Builtin.firstCells, storeCells]
  · exact step ⟨b, off, none⟩ cap rfl (fun j x hx => by rw [Addr.add_lit]; exact hc j x hx)

theorem RC.take1 {W : World} {a : Option Addr} {n c : Nat} {C D : List Value} (h : RC W (.slice a (n + 1) c) (n + 1) C) (hD : ∀ (j : Nat) (x : Value), D[j]? = some x → C[j]? = some x) : RC W (.slice a n c) n D := by
  rcases h with ⟨h0, _⟩ | ⟨b, off, cap, e, h1, h2, h3⟩
  · omega
  · simp at e
    obtain ⟨rfl, rfl⟩ := e
    exact .inr ⟨b, off, c, rfl, by omega, h2, fun j x hx => h3 j x (hD j x hx)⟩
theorem own_cap {W : World} {B E k n : Nat} {a : Option Addr} {c : Nat} {C : List Value} (h : W.ownsRow B E k (.slice a (n + 1) c) (n + 1) C) : ∃ g, a = some ⟨g, 0, none⟩ ∧ n + 1 ≤ c := by
  obtain ⟨_, (⟨_, h0⟩ | ⟨g, cap, cur, e, _, _, h1, _⟩)⟩ := h
  · omega
  · simp at e
    obtain ⟨rfl, rfl⟩ := e
    exact ⟨g, rfl, h1⟩

theorem sl_toNt (w : World) (a : Option Addr) (n c k : Nat) (hk : k ≤ c) :
    (Instr.sliceAt 34 (.slice a n c) none (some (.int .i64 (k : Nat))) none).run Try.prog w = .ok (.slice a k c) w := by
  obtain ⟨i0, hi, hz0, hz1, hz2⟩ := info_parts infoN
  have h1 : (k : Int) ≤ (c : Int) := by omega
  simp [Instr.sliceAt, Instr.slice, run_underlying Try.underlying34, sizeOf, typeInfo, hi, hz1, go_sem, h1, hk]
/-- each block is of the type and of the size that it was -/
def SS (W W' : World) : Prop := ∀ i t cur, Bx W i t cur → ∃ cur', Bx W' i t cur' ∧ cur'.size = cur.size
theorem SS.refl (W : World) : SS W W := fun i t cur h => ⟨cur, h, rfl⟩
theorem SS.trans {a b c : World} (h : SS a b) (k : SS b c) : SS a c := fun i t cur hx => by
  obtain ⟨c1, h1, e1⟩ := h i t cur hx
  obtain ⟨c2, h2, e2⟩ := k i t c1 h1
  exact ⟨c2, h2, e2.trans e1⟩
theorem SS.below {W W' : World} (hb : Below W.heap.size W W') : SS W W' := fun i t cur hx => ⟨cur, hx.below hb, rfl⟩
theorem SS.set (W : World) (b j : Nat) (v : Value) : SS W (W.setCell ⟨b, j, none⟩ v) := fun i t cur hx => by
  by_cases e : i = b
  · subst e; exact ⟨_, hx.set j v, by simp⟩
  · exact ⟨cur, hx.kp (Kp.set (N := fun k => k = b) W ⟨b, j, none⟩ v rfl) e, rfl⟩
theorem SS.grown {W W' : World} (h : W.grownBy W' none) : SS W W' := fun i t cur hx => ⟨cur, (h.block i hx.lt (by simp)).trans hx, rfl⟩

/-- a row of one's own -/
def OwX (W : World) (t : TypeId) (k : Nat) (v : Value) (n : Nat) : Prop := ∃ C, W.ownsRow 0 t k v n C
theorem OwX.ss {W W' : World} {t : TypeId} {k n : Nat} {v : Value} (h : OwX W t k v n) (s : SS W W') : OwX W' t k v n := by
  obtain ⟨C, h1, h2 | ⟨g, cap, cur, rfl, hb, hg, hc1, hc2, hc3, hc4⟩⟩ := h
  · exact ⟨C, h1, .inl h2⟩
  · obtain ⟨cur', hx, hs⟩ := s g t cur hg
    refine ⟨cur'.toList.take (n * k), ?_, .inr ⟨g, cap, cur', rfl, hb, hx, hc1, hc2, hs.trans hc3, rfl⟩⟩
    rw [List.length_take, Array.length_toList, hs, hc3]
    exact Nat.min_eq_left (Nat.mul_le_mul_right _ hc1)
theorem OwX.form {W : World} {t : TypeId} {k n : Nat} {v : Value} (h : OwX W t k v n) : ∃ a c, v = .slice a n c := by
  obtain ⟨C, h⟩ := h
  rcases h.2 with ⟨rfl, rfl⟩ | ⟨g, cap, cur, rfl, _⟩
  · exact ⟨_, _, rfl⟩
  · exact ⟨_, _, rfl⟩
theorem OwX.at {W : World} {t : TypeId} {k n c : Nat} {a : Option Addr} (h : OwX W t k (.slice a n c) n) (hn : 0 < n) : ∃ g, a = some ⟨g, 0, none⟩ ∧ g < W.heap.size ∧ (∀ x, W.frozen? ⟨g, x, none⟩ = false) ∧ (∀ q, q < n * k → ∃ u, W.cell? ⟨g, q, none⟩ = some u) ∧ ∃ cur, Bx W g t cur := by
  obtain ⟨C, h⟩ := h
  have h0 := h
  obtain ⟨h1, (⟨e, h2⟩ | ⟨g, cap, cur, e, hb, hg, hc1, hc2, hc3, hc4⟩)⟩ := h
  · omega
  simp at e
  obtain ⟨rfl, rfl⟩ := e
  have hbx : Bx W g t cur := hg
  refine ⟨g, rfl, hbx.lt, fun x => hbx.frozen x, fun q hq => ?_, cur, hbx⟩
  have := h0.cellAt q hq
  exact ⟨_, this.trans (List.getElem?_eq_getElem (by omega))⟩
theorem OwX.of {W : World} {B : Nat} {t : TypeId} {k n : Nat} {v : Value} {C : List Value} (h : W.ownsRow B t k v n C) : OwX W t k v n := ⟨C, owns_wk h (Nat.zero_le _)⟩

/-- numbers in a row of their own, a mark behind them -/
def MkN (W : World) (N : Nat) (l : List Int) (g c : Nat) : Prop := W.ownsRow N 3 1 (.slice (some ⟨g, 0, none⟩) (l.length + 1) c) (l.length + 1) (nC (l ++ [77]))
theorem MkN.kp {N : Nat → Prop} {W W' : World} {B : Nat} {l : List Int} {g c : Nat} (h : MkN W B l g c) (k : Kp N W W') (hn : ¬ N g) : MkN W' B l g c := owns_kp h k (fun i hi e => by simp [Value.ownBlock] at hi; subst hi; exact hn e)
theorem MkN.rn {W : World} {B : Nat} {l : List Int} {g c : Nat} (h : MkN W B l g c) : RN W (.slice (some ⟨g, 0, none⟩) l.length c) l :=
  RC.take1 (RC.of_owns h) (fun j x hx => by rw [nC_app]; exact (List.getElem?_append_left (List.getElem?_eq_some_iff.1 hx).1).trans hx)
theorem MkN.cap {W : World} {B : Nat} {l : List Int} {g c : Nat} (h : MkN W B l g c) : l.length + 1 ≤ c := by
  obtain ⟨_, _, h1⟩ := own_cap h
  exact h1
theorem MkN.lo {W : World} {B : Nat} {l : List Int} {g c : Nat} (h : MkN W B l g c) : B ≤ g ∧ g < W.heap.size := h.lt g rfl
theorem MkN.md {W : World} {B : Nat} {l : List Int} {g c : Nat} (h : MkN W B l g c) : W.cell? ⟨g, l.length, none⟩ = some (.int .i64 77) := by
  have h0 := h.cellAt l.length (by omega)
  rw [h0]
  simp [nC]
theorem nC_one (l : List Int) : ∀ u ∈ nC l, u.oneCell' = true := fun u hu => by
  unfold nC at hu
  obtain ⟨x, _, rfl⟩ := List.mem_map.1 hu
  rfl
theorem mark_nums (W : World) (a : Option Addr) (c : Nat) (l : List Int) (hr : RN W (.slice a l.length c) l) (hl : l.length ≤ 100000) :
    ∃ a1 c1 W1 g c2 W2, (Builtin.append_ #[34, 34] 34 #[.slice none 0 0, .slice a l.length c]).run Try.prog W = .ok (.slice a1 l.length c1) W1 ∧ (Builtin.append_ #[34, 34] 34 #[.slice a1 l.length c1, .slice (some ⟨W1.heap.size, 0, none⟩) 1 1]).run Try.prog (W1.alloc (.cells #[.int .i64 77] 3)) = .ok (.slice (some ⟨g, 0, none⟩) (l.length + 1) c2) W2 ∧ MkN W2 W.heap.size l g c2 ∧ Below W.heap.size W W1 ∧ Below W.heap.size W W2 := by
  obtain ⟨v1, W1, hap1, ho1, hg1⟩ := app_nil 34 3 1 8 _ Try.underlying34 infoN rfl (by decide) W W.heap.size 34 _ l.length (nC l) hr (by rw [nC_len]; omega) (nC_one l) (Nat.le_refl _) (by unfold maxLen; omega) (by omega)
  have b1 : Below W.heap.size W W1 := (Below.refl _ W).grown hg1 (Nat.le_refl _) (fun k hk => by cases hk)
  obtain ⟨v2, W2, hap2, ho2, hg2, -⟩ := append_n W1 34 W.heap.size v1 l 77 ho1 b1.size (by omega)
  have b2 : Below W.heap.size W W2 := (ballc b1 _).grown hg2 (ballc b1 _).size (fun k hk => (World.ownsRow.lt ho1 k hk).1)
  obtain ⟨a1, c1, rfl⟩ := owns_form ho1
  have l2 : (l ++ [(77 : Int)]).length = l.length + 1 := by simp
  unfold OwN at ho2
  rw [l2] at ho2
  obtain ⟨a2, c2, rfl⟩ := owns_form ho2
  obtain ⟨g, rfl, hc⟩ := own_cap ho2
  exact ⟨a1, c1, W1, g, c2, W2, hap1, hap2, ho2, b1, b2⟩

theorem MkN.below {W W' : World} {B : Nat} {l : List Int} {g c : Nat} (h : MkN W B l g c) (hb : Below W.heap.size W W') : MkN W' B l g c := h.kp (N := fun _ => False) (Kp.of_below hb) (fun e => e)
theorem OwX.below {W W' : World} {t : TypeId} {k n : Nat} {v : Value} (h : OwX W t k v n) (hb : Below W.heap.size W W') : OwX W' t k v n := h.ss (SS.below hb)
theorem MkN.ox {W : World} {B : Nat} {l : List Int} {g c : Nat} (h : MkN W B l g c) : OwX W 3 1 (.slice (some ⟨g, 0, none⟩) (l.length + 1) c) (l.length + 1) := OwX.of h
/-- a pair, and a cell of a row of numbers that is written -/
theorem PJ.put {w W : World} {b r g i : Nat} {s : St} {cur : Array Value} (h : PJ w W b r s) (hx : Bx W g 3 cur) (hlo : w.heap.size ≤ g) (v : Value) : PJ w (W.setCell ⟨g, i, none⟩ v) b r s := by
  have k := Kp.set (N := fun j => j = g) W ⟨g, i, none⟩ v rfl
  exact ⟨h.rb.kp k (Bx.apart h.rb hx (by decide)), h.db.kp k (Bx.apart h.db hx (by decide)), h.gd, h.lb, h.lr, h.ne, k.below h.bel (fun j hj => by omega)⟩
theorem load_pair {w W W' : World} {b c : Nat} {jl ll : List Int} {e : Int} {p q : Value} (h : LoadA W b jl ll e p) (hd : LoadD W' c jl ll e q) (hb : Below W.heap.size W W') (lb : w.heap.size ≤ b) (lc : W.heap.size ≤ c) (bel : Below w.heap.size w W') :
    (errL jl ll e ≠ 0 ∧ p = .pointer none ∧ q = .pointer none) ∨ (errL jl ll e = 0 ∧ p = .pointer (some ⟨b, 0, none⟩) ∧ q = .pointer (some ⟨c, 0, none⟩) ∧ ∃ s, PJ w W' b c s) := by
  rcases h with ⟨h1, h2⟩ | ⟨h1, h2, J, L, h3, h4, h5, h6⟩
  · rcases hd with ⟨d1, d2⟩ | ⟨d1, _⟩
    · exact .inl ⟨h1, h2, d2⟩
    · exact absurd d1 h1
  · rcases hd with ⟨d1, _⟩ | ⟨d1, d2, J', L', d3, d4, d5⟩
    · exact absurd h1 d1
    · rw [h3] at d3
      rw [h4] at d4
      cases d3
      cases d4
      have := Bx.lt h6
      exact .inr ⟨h1, h2, d2, ⟨J, L, e⟩, h6.below hb, d5, h5, lb, by omega, by omega, bel⟩

end Go.Proofs.Ytjcdfjnlpfineaa
