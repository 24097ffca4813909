/-
  The law's twin of an operation, and whether it stands.
-/
import Derived.Test.YtbnhfbdfjnigoaaGreatZXR8
import Derived.Test.YtbnhfbdfjnigoaaGreatZP4
import Derived.Test.YtbnhfbdfjnigoaaGreatZXQ2
set_option linter.unusedSimpArgs false
set_option linter.unusedVariables false
namespace Go.Proofs.YtbnhfbdfjnigoaaGreat
open Go.RowKit Go.Lib

/-- append(nil, l...) -/
theorem app_nil (TS E : TypeId) (k bytes : Nat) (z : Value) (ht : Tryz.prog.underlying TS = some (.slice E)) (hinf : (Tryz.prog.info? E).map (fun i => (i.zero, i.size, i.bytes)) = some (some z, k, bytes)) (hzs : z.cells.size = k) (k0 : 0 < k)
    (w : World) (base : Nat) (ty : TypeId) (v : Value) (n : Nat) (C : List Value) (h : RC w v n C) (hC : C.length = n * k) (h1 : ∀ u ∈ C, u.oneCell' = true) (hb : base ≤ w.heap.size) (hn : n ≤ maxLen) (hby : n * bytes ≤ 140737488355328) :
    ∃ v' w', (Builtin.append_ #[TS, TS] ty #[.slice none 0 0, v]).run Tryz.prog w = .ok v' w' ∧ w'.ownsRow base E k v' n C ∧ w.grownBy w' none := by
  obtain ⟨i0, hi, hz0, hz1, hz2⟩ := info_parts hinf
  have step : ∀ (ad : Addr) (cc : Nat), v = .slice (some ad) n cc → (∀ j x, C[j]? = some x → w.cell? (ad.add j) = some x) → ∃ v' w', (Builtin.append_ #[TS, TS] ty #[.slice none 0 0, v]).run Tryz.prog w = .ok v' w' ∧ w'.ownsRow base E k v' n C ∧ w.grownBy w' none := by
    rintro ad cc rfl hc
    obtain ⟨v', w', q1, q2, q3, _⟩ := run_append_own (P := Tryz.prog) w base TS ty E i0 z k bytes ht hi hz0 hz1 hz2 hzs k0 (.slice none 0 0) 0 [] (World.ownsRow_nil _ _ _ _) ad n cc C hC hc h1 (by omega) (by rw [Nat.zero_add]; exact hby) hb
    exact ⟨v', w', q1, by simpa using q2, q3⟩
  rcases h with ⟨h0, a, cap, rfl⟩ | ⟨b, off, cap, rfl, _, _, hc⟩
  · subst h0
    have e : C = [] := List.eq_nil_of_length_eq_zero (by simpa using hC)
    subst e
    cases a with
    | some ad => exact step ad cap rfl (fun j x hx => by simp at hx)
    | none =>
      refine ⟨.slice none 0 0, w, ?_, World.ownsRow_nil _ _ _ _, ⟨rfl, rfl, rfl, Nat.le_refl _, fun _ _ _ => rfl⟩⟩
      simp [Builtin.append_, run_underlying ht, sizeOf, typeInfo, hi, Builtin.lenOf, Builtin.firstCells, storeCells]
  · exact step ⟨b, off, none⟩ cap rfl (fun j x hx => by rw [Addr.add_lit]; exact hc j x hx)

theorem encI_oneT {l : List (Int × Int)} : ∀ u ∈ flat encI l, u.oneCell' = true := fun u hu => by
  obtain ⟨x, _, hx⟩ := flat_mem hu
  unfold encI at hx
  simp at hx
  rcases hx with rfl | rfl <;> rfl
theorem encR_oneT {l : List ((Int × Int) × Int)} : ∀ u ∈ flat encR l, u.oneCell' = true := fun u hu => by
  obtain ⟨x, _, hx⟩ := flat_mem hu
  unfold encR at hx
  simp at hx
  rcases hx with rfl | rfl | rfl <;> rfl
theorem sl_toVt (w : World) (a : Option Addr) (n c k : Nat) (hk : k ≤ c) :
    (Instr.sliceAt 27 (.slice a n c) none (some (.int .i64 (k : Nat))) none).run Tryz.prog w = .ok (.slice a k c) w := by
  obtain ⟨i0, hi, hz0, hz1, hz2⟩ := info_parts infoD
  have h1 : (k : Int) ≤ (c : Int) := by omega
  simp [Instr.sliceAt, Instr.slice, run_underlying Tryz.underlying27, sizeOf, typeInfo, hi, hz1, go_sem, h1, hk]
theorem sl_toRt (w : World) (a : Option Addr) (n c k : Nat) (hk : k ≤ c) :
    (Instr.sliceAt 30 (.slice a n c) none (some (.int .i64 (k : Nat))) none).run Tryz.prog w = .ok (.slice a k c) w := by
  obtain ⟨i0, hi, hz0, hz1, hz2⟩ := info_parts infoRu
  have h1 : (k : Int) ≤ (c : Int) := by omega
  simp [Instr.sliceAt, Instr.slice, run_underlying Tryz.underlying30, sizeOf, typeInfo, hi, hz1, go_sem, h1, hk]

/-- an operation's lists in rows of their own, a mark behind each -/
structure Tw (W : World) (B : Nat) (deps : List (Int × Int)) (gone : List ((Int × Int) × Int)) (gd cd gg cg : Nat) : Prop where
  d : W.ownsRow B 25 2 (.slice (some ⟨gd, 0, none⟩) (deps.length + 1) cd) (deps.length + 1) (flat encI (deps ++ [(77, 77)]))
  g : W.ownsRow B 58 3 (.slice (some ⟨gg, 0, none⟩) (gone.length + 1) cg) (gone.length + 1) (flat encR (gone ++ [((0, 0), 77)]))
theorem Tw.below {W W' : World} {B : Nat} {deps : List (Int × Int)} {gone : List ((Int × Int) × Int)} {gd cd gg cg : Nat} (h : Tw W B deps gone gd cd gg cg) (hb : Below W.heap.size W W') : Tw W' B deps gone gd cd gg cg :=
  ⟨owns_kp h.d (Kp.of_below (N := fun _ => False) hb) (fun _ _ e => e), owns_kp h.g (Kp.of_below (N := fun _ => False) hb) (fun _ _ e => e)⟩
theorem RC.take1 {W : World} {a : Option Addr} {n c : Nat} {C D : List Value} (h : RC W (.slice a (n + 1) c) (n + 1) C) (hD : ∀ (j : Nat) (x : Value), D[j]? = some x → C[j]? = some x) : RC W (.slice a n c) n D := by
  rcases h with ⟨h0, _⟩ | ⟨b, off, cap, e, h1, h2, h3⟩
  · omega
  · simp at e
    obtain ⟨rfl, rfl⟩ := e
    exact .inr ⟨b, off, c, rfl, by omega, h2, fun j x hx => h3 j x (hD j x hx)⟩
theorem Tw.ri {W : World} {B : Nat} {deps : List (Int × Int)} {gone : List ((Int × Int) × Int)} {gd cd gg cg : Nat} (h : Tw W B deps gone gd cd gg cg) : RI W (.slice (some ⟨gd, 0, none⟩) deps.length cd) deps :=
  RC.take1 (RC.of_owns h.d) (fun j x hx => by rw [flat_append]; exact (List.getElem?_append_left (List.getElem?_eq_some_iff.1 hx).1).trans hx)
theorem Tw.rr {W : World} {B : Nat} {deps : List (Int × Int)} {gone : List ((Int × Int) × Int)} {gd cd gg cg : Nat} (h : Tw W B deps gone gd cd gg cg) : RR W (.slice (some ⟨gg, 0, none⟩) gone.length cg) gone :=
  RC.take1 (RC.of_owns h.g) (fun j x hx => by rw [flat_append]; exact (List.getElem?_append_left (List.getElem?_eq_some_iff.1 hx).1).trans hx)
theorem own_cap {W : World} {B E k n : Nat} {a : Option Addr} {c : Nat} {C : List Value} (h : W.ownsRow B E k (.slice a (n + 1) c) (n + 1) C) : ∃ g, a = some ⟨g, 0, none⟩ ∧ n + 1 ≤ c := by
  obtain ⟨_, (⟨_, h0⟩ | ⟨g, cap, cur, e, _, _, h1, _⟩)⟩ := h
  · omega
  · simp at e
    obtain ⟨rfl, rfl⟩ := e
    exact ⟨g, rfl, h1⟩

theorem owns_wk {W : World} {B B' E k n : Nat} {v : Value} {C : List Value} (h : W.ownsRow B E k v n C) (hb : B' ≤ B) : W.ownsRow B' E k v n C := by
  obtain ⟨h1, h2⟩ := h
  refine ⟨h1, ?_⟩
  rcases h2 with h2 | ⟨g, cap, cur, e, hbg, hg, hc1, hc2, hc3, hc4⟩
  · exact .inl h2
  · exact .inr ⟨g, cap, cur, e, Nat.le_trans hb hbg, hg, hc1, hc2, hc3, hc4⟩
end Go.Proofs.YtbnhfbdfjnigoaaGreat
