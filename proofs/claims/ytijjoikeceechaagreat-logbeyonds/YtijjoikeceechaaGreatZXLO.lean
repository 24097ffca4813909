/-
  Rows of one's own, whatever is in them: blocks keep their types and sizes.
-/
import Derived.Test.YtijjoikeceechaaGreatZXLC
import Derived.ArgAppend
import Derived.Laws.OwnMore

set_option linter.unusedSimpArgs false
set_option linter.unusedVariables false
namespace Go.Proofs.YtijjoikeceechaaGreat
open Go.RowKit Go.Lib

theorem ck_len {l : List (Int × Int)} (h : chk l = 0) : l.length ≤ 17 := by
  have := vec_len (sy l)
  rwa [vec_of_chk h] at this
/-- each block is of the type and of the size that it was -/
def SS (W W' : World) : Prop := ∀ i t cur, Bx W i t cur → ∃ cur', Bx W' i t cur' ∧ cur'.size = cur.size
theorem SS.refl (W : World) : SS W W := fun i t cur h => ⟨cur, h, rfl⟩
theorem SS.trans {a b c : World} (h : SS a b) (k : SS b c) : SS a c := fun i t cur hx => by
  obtain ⟨c1, h1, e1⟩ := h i t cur hx
  obtain ⟨c2, h2, e2⟩ := k i t c1 h1
  exact ⟨c2, h2, e2.trans e1⟩
theorem SS.below {W W' : World} (hb : Below W.heap.size W W') : SS W W' := fun i t cur hx => ⟨cur, hx.below hb, rfl⟩
theorem SS.set (W : World) (b j : Nat) (v : Value) : SS W (W.setCell ⟨b, j, none⟩ v) := fun i t cur hx => by
  by_cases e : i = b
  · subst e; exact ⟨_, hx.set j v, by simp⟩
  · exact ⟨cur, hx.kp (Kp.set (N := fun k => k = b) W ⟨b, j, none⟩ v rfl) e, rfl⟩
theorem SS.grown {W W' : World} (h : W.grownBy W' none) : SS W W' := fun i t cur hx => ⟨cur, (h.block i hx.lt (by simp)).trans hx, rfl⟩

/-- a row of one's own -/
def OwX (W : World) (t : TypeId) (k : Nat) (v : Value) (n : Nat) : Prop := ∃ C, W.ownsRow 0 t k v n C
theorem OwX.ss {W W' : World} {t : TypeId} {k n : Nat} {v : Value} (h : OwX W t k v n) (s : SS W W') : OwX W' t k v n := by
  obtain ⟨C, h1, h2 | ⟨g, cap, cur, rfl, hb, hg, hc1, hc2, hc3, hc4⟩⟩ := h
  · exact ⟨C, h1, .inl h2⟩
  · obtain ⟨cur', hx, hs⟩ := s g t cur hg
    refine ⟨cur'.toList.take (n * k), ?_, .inr ⟨g, cap, cur', rfl, hb, hx, hc1, hc2, hs.trans hc3, rfl⟩⟩
    rw [List.length_take, Array.length_toList, hs, hc3]
    exact Nat.min_eq_left (Nat.mul_le_mul_right _ hc1)
theorem OwX.form {W : World} {t : TypeId} {k n : Nat} {v : Value} (h : OwX W t k v n) : ∃ a c, v = .slice a n c := by
  obtain ⟨C, h⟩ := h
  rcases h.2 with ⟨rfl, rfl⟩ | ⟨g, cap, cur, rfl, _⟩
  · exact ⟨_, _, rfl⟩
  · exact ⟨_, _, rfl⟩
theorem OwX.at {W : World} {t : TypeId} {k n c : Nat} {a : Option Addr} (h : OwX W t k (.slice a n c) n) (hn : 0 < n) : ∃ g, a = some ⟨g, 0, none⟩ ∧ g < W.heap.size ∧ (∀ x, W.frozen? ⟨g, x, none⟩ = false) ∧ (∀ q, q < n * k → ∃ u, W.cell? ⟨g, q, none⟩ = some u) ∧ ∃ cur, Bx W g t cur := by
  obtain ⟨C, h⟩ := h
  have h0 := h
  obtain ⟨h1, (⟨e, h2⟩ | ⟨g, cap, cur, e, hb, hg, hc1, hc2, hc3, hc4⟩)⟩ := h
  · omega
  simp at e
  obtain ⟨rfl, rfl⟩ := e
  have hbx : Bx W g t cur := hg
  refine ⟨g, rfl, hbx.lt, fun x => hbx.frozen x, fun q hq => ?_, cur, hbx⟩
  have := h0.cellAt q hq
  exact ⟨_, this.trans (List.getElem?_eq_getElem (by omega))⟩
theorem OwX.of {W : World} {B : Nat} {t : TypeId} {k n : Nat} {v : Value} {C : List Value} (h : W.ownsRow B t k v n C) : OwX W t k v n := ⟨C, own_base h (Nat.zero_le _)⟩

/-- append(row, x): the row has room, or not -/
theorem app_x (TS E : TypeId) (k bytes : Nat) (z : Value) (ht : Tryz.prog.underlying TS = some (.slice E)) (hinf : (Tryz.prog.info? E).map (fun i => (i.zero, i.size, i.bytes)) = some (some z, k, bytes)) (hzs : z.cells.size = k) (k0 : 0 < k)
    (W : World) (ty : TypeId) (v : Value) (n : Nat) (h : OwX W E k v n) (nb : Nat) (vs : List Value) (hbx : Bx W nb E vs.toArray) (hl : vs.length = k) (h1 : ∀ u ∈ vs, u.oneCell' = true) (hn : n ≤ 1000000) (hby : (n + 1) * bytes ≤ 140737488355328) :
    ∃ a' c' W', (Builtin.append_ #[TS, TS] ty #[v, .slice (some ⟨nb, 0, none⟩) 1 1]).run Tryz.prog W = .ok (.slice a' (n + 1) c') W' ∧ (∃ C, W'.ownsRow 0 E k (.slice a' (n + 1) c') (n + 1) (C ++ vs) ∧ C.length = n * k) ∧ SS W W' ∧ W.grownBy W' v.ownBlock ∧ (∀ i, (Value.slice a' (n + 1) c').ownBlock = some i → v.ownBlock = some i ∨ W.heap.size ≤ i) := by
  obtain ⟨i0, hi, hz0, hz1, hz2⟩ := info_parts hinf
  have hcn : ∀ j u, vs[j]? = some u → W.cell? ((⟨nb, 0, none⟩ : Addr).add j) = some u := fun j u hu => by
    rw [Addr.add_lit, Nat.zero_add]
    exact hbx.cell j u (by rw [← hu]; simp)
  have hl1 : vs.length = 1 * k := by omega
  obtain ⟨C, h⟩ := h
  have hC := h.1
  rcases h.2 with ⟨rfl, rfl⟩ | ⟨g, cap, cur, rfl, hb, hg, hc1, hc2, hc3, hc4⟩
  · obtain ⟨v', W', q1, q2, q3, q4, q5⟩ := run_append_own_at (P := Tryz.prog) W 0 TS ty E i0 z k bytes ht hi hz0 hz1 hz2 hzs k0 _ 0 C h ⟨nb, 0, none⟩ 1 1 vs hl1 hcn h1 (by unfold maxLen; omega) (by omega) (Nat.zero_le _)
    obtain ⟨a', c', rfl⟩ := owns_form q2
    refine ⟨a', c', W', q1, ⟨C, q2, hC⟩, SS.grown q3, q3, fun i hi => ?_⟩
    rcases q5 with q5 | q5
    · rw [q5] at hi; cases hi
    · rw [q5] at hi; simp at hi; exact .inr (by omega)
  · by_cases hf : n + 1 ≤ cap
    · obtain ⟨W', q1, q2, q3⟩ := run_append_fits (P := Tryz.prog) W 0 TS ty E i0 k ht hi hz1 g n cap C h ⟨nb, 0, none⟩ 1 1 vs hl1 hcn h1 hf
      refine ⟨_, _, W', q1, ⟨C, q2, hC⟩, fun i t cu hx => ?_, q3, fun i hi => .inl hi⟩
      by_cases e : i = g
      · subst e
        have hx' : W.heap[i]? = some (.cells cu t (0, 0)) := hx
        rw [hg] at hx'
        simp at hx'
        obtain ⟨rfl, rfl⟩ := hx'
        rcases q2.2 with ⟨e, _⟩ | ⟨g', cap', cur', e, _, hg', _, _, hc3', _⟩
        · cases e
        · simp at e
          obtain ⟨rfl, rfl⟩ := e
          exact ⟨cur', hg', hc3'.trans hc3.symm⟩
      · exact ⟨cu, (q3.block i hx.lt (by simpa using e)).trans hx, rfl⟩
    · obtain ⟨v', W', q1, q2, q3⟩ := run_append_arg_grows (P := Tryz.prog) W TS ty E i0 z k bytes ht hi hz0 hz1 hz2 hzs k0 ⟨g, 0, none⟩ n cap C hC (fun j u hj => by
        rw [Addr.add_lit, Nat.zero_add]
        have hjl := (List.getElem?_eq_some_iff.1 hj).1
        exact (h.cellAt j (by omega)).trans hj) ⟨nb, 0, none⟩ 1 1 vs hl1 hcn (by omega) (by unfold maxLen; omega) hby
      obtain ⟨a', c', rfl⟩ := owns_form q2
      exact ⟨a', c', W', q1, ⟨C, own_base q2 (Nat.zero_le _), hC⟩, SS.grown q3, ⟨q3.os, q3.tape, q3.output, q3.size, fun i hi _ => q3.block i hi (by simp)⟩, fun i hi => .inr ((q2.lt i hi).1)⟩

/-- what wipe has left: what it wrote lies in P; those from i on are told as they were -/
structure WP (P : Nat → Prop) (W0 W : World) (g : Nat) (ops : List (Opn × Value × Value)) (i : Nat) : Prop where
  kp : Kp P W0 W
  ss : SS W0 W
  bx : ∃ cur, Bx W g 45 cur
  at' : ∀ j e, i ≤ j → ops[j]? = some e → ∀ q x, (encO e)[q]? = some x → W.cell? ⟨g, j * 11 + q, none⟩ = some x
theorem cell_kp {N : Nat → Prop} {W W' : World} {b j : Nat} {u : Value} (h : W.cell? ⟨b, j, none⟩ = some u) (k : Kp N W W') (hn : ¬ N b) : W'.cell? ⟨b, j, none⟩ = some u := by
  have hl := World.block_lt_of_cell? W ⟨b, j, none⟩ h
  rw [← h]
  exact World.cell?_of_block (k.block b hl hn)
theorem cell_set_ne {w : World} {b p q : Nat} (x : Value) {u : Value} (hb : ∃ cur, Bx w b 45 cur) (h : w.cell? ⟨b, q, none⟩ = some u) (hne : p ≠ q) : (w.setCell ⟨b, p, none⟩ x).cell? ⟨b, q, none⟩ = some u := by
  obtain ⟨cur, hx⟩ := hb
  have h1 := hx.set p x
  have e : w.heap[b]? = some (.cells cur 45 (0, 0)) := hx
  simp [World.cell?, e] at h
  exact h1.cell q u (by rw [Array.getElem?_setIfInBounds_ne hne]; exact h)
theorem WP.go {P N : Nat → Prop} {W0 W W' : World} {g : Nat} {ops : List (Opn × Value × Value)} {i : Nat} (h : WP P W0 W g ops i) (k : Kp N W W') (s : SS W W') (hn : ∀ j, N j → P j ∨ W0.heap.size ≤ j) (hg : ¬ N g) : WP P W0 W' g ops i :=
  ⟨h.kp.trans k hn, h.ss.trans s, (by obtain ⟨cur, hx⟩ := h.bx; obtain ⟨c', h', _⟩ := s _ _ _ hx; exact ⟨c', h'⟩), fun j e hj he q x hx => cell_kp (h.at' j e hj he q x hx) k hg⟩
theorem WP.below {P : Nat → Prop} {W0 W W' : World} {g : Nat} {ops : List (Opn × Value × Value)} {i : Nat} (h : WP P W0 W g ops i) (hb : Below W.heap.size W W') : WP P W0 W' g ops i :=
  h.go (N := fun _ => False) (Kp.of_below hb) (SS.below hb) (fun _ e => e.elim) (fun e => e)

end Go.Proofs.YtijjoikeceechaaGreat

/-
  The law's wipe: it writes over what the lists have, and goes on from them; nothing else is changed.
-/
set_option linter.unusedSimpArgs false
set_option linter.unusedVariables false
namespace Go.Proofs.YtijjoikeceechaaGreat
open Go.RowKit Go.Lib

theorem WP.set2 {P : Nat → Prop} {W0 W : World} {g : Nat} {ops : List (Opn × Value × Value)} {i : Nat} (h : WP P W0 W g ops i) {b : Nat} {t : TypeId} {cur : Array Value} (hb : Bx W b t cur) (ht : t ≠ 45) (hp : P b) (p q : Nat) (x y : Value) : WP P W0 ((W.setCell ⟨b, p, none⟩ x).setCell ⟨b, q, none⟩ y) g ops i := by
  have hne : ¬ g = b := fun e => by subst e; obtain ⟨_, hg⟩ := h.bx; exact ne_types hb hg ht
  exact (h.go (N := fun k => k = b) (Kp.set _ _ _ rfl) (SS.set _ _ _ _) (fun j e => .inl (by rw [e]; exact hp)) hne).go (N := fun k => k = b) (Kp.set _ _ _ rfl) (SS.set _ _ _ _) (fun j e => .inl (by rw [e]; exact hp)) hne
theorem WP.set3 {P : Nat → Prop} {W0 W : World} {g : Nat} {ops : List (Opn × Value × Value)} {i : Nat} (h : WP P W0 W g ops i) {b : Nat} {t : TypeId} {cur : Array Value} (hb : Bx W b t cur) (ht : t ≠ 45) (hp : P b) (p q r : Nat) (x y z : Value) : WP P W0 (((W.setCell ⟨b, p, none⟩ x).setCell ⟨b, q, none⟩ y).setCell ⟨b, r, none⟩ z) g ops i := by
  have hne : ¬ g = b := fun e => by subst e; obtain ⟨_, hg⟩ := h.bx; exact ne_types hb hg ht
  exact (h.set2 hb ht hp p q x y).go (N := fun k => k = b) (Kp.set _ _ _ rfl) (SS.set _ _ _ _) (fun j e => .inl (by rw [e]; exact hp)) hne

theorem wp_set11 {P : Nat → Prop} {W0 W : World} {g : Nat} {ops : List (Opn × Value × Value)} {i : Nat} (h : WP P W0 W g ops i) (hp : P g) (x0 x1 x2 x3 x4 x5 x6 x7 x8 x9 x10 : Value) :
    WP P W0 (((((((((((W.setCell ⟨g, i * 11, none⟩ x0).setCell ⟨g, i * 11 + 1, none⟩ x1).setCell ⟨g, i * 11 + 2, none⟩ x2).setCell ⟨g, i * 11 + 3, none⟩ x3).setCell ⟨g, i * 11 + 4, none⟩ x4).setCell ⟨g, i * 11 + 5, none⟩ x5).setCell ⟨g, i * 11 + 6, none⟩ x6).setCell ⟨g, i * 11 + 7, none⟩ x7).setCell ⟨g, i * 11 + 8, none⟩ x8).setCell ⟨g, i * 11 + 9, none⟩ x9).setCell ⟨g, i * 11 + 10, none⟩ x10) g ops (i + 1) := by
  have one : ∀ {W : World} (h : WP P W0 W g ops (i + 1)) (q : Nat) (x : Value), q < 11 → WP P W0 (W.setCell ⟨g, i * 11 + q, none⟩ x) g ops (i + 1) := fun {W} h q x hq =>
    ⟨h.kp.trans (Kp.set (N := fun k => k = g) _ _ _ rfl) (fun j e => .inl (by rw [e]; exact hp)), h.ss.trans (SS.set _ _ _ _), (by obtain ⟨cur, hx⟩ := h.bx; exact ⟨_, hx.set _ _⟩), fun j e hj he q' u hu =>
      cell_set_ne x h.bx (h.at' j e hj he q' u hu) (by omega)⟩
  have h0 : WP P W0 W g ops (i + 1) := ⟨h.kp, h.ss, h.bx, fun j e hj => h.at' j e (by omega)⟩
  exact one (one (one (one (one (one (one (one (one (one (one h0 0 x0 (by omega)) 1 x1 (by omega)) 2 x2 (by omega)) 3 x3 (by omega)) 4 x4 (by omega)) 5 x5 (by omega)) 6 x6 (by omega)) 7 x7 (by omega)) 8 x8 (by omega)) 9 x9 (by omega)) 10 x10 (by omega)

/-- what there is of one that is not wiped as yet -/
theorem WP.one {P : Nat → Prop} {W0 W : World} {g : Nat} {ops : List (Opn × Value × Value)} {i : Nat} (h : WP P W0 W g ops i) (hre : ∀ e ∈ ops, OE P W0 e) {e : Opn × Value × Value} (he : ops[i]? = some e) :
    ∃ ad cd ag cg, e.2.1 = .slice ad e.1.deps.length cd ∧ e.2.2 = .slice ag e.1.gone.length cg ∧ W.cell? ⟨g, i * 11 + 2, none⟩ = some (.slice ad e.1.deps.length cd) ∧ W.cell? ⟨g, i * 11 + 9, none⟩ = some (.slice ag e.1.gone.length cg) ∧ OwX W 28 2 (.slice ad e.1.deps.length cd) e.1.deps.length ∧ OwX W 81 3 (.slice ag e.1.gone.length cg) e.1.gone.length ∧ (∀ k, (Value.slice ad e.1.deps.length cd).ownBlock = some k → P k) ∧ (∀ k, (Value.slice ag e.1.gone.length cg).ownBlock = some k → P k) ∧ e.1.deps.length ≤ 1000000 ∧ e.1.gone.length ≤ 1000000 ∧ (∃ cug, Bx W g 45 cug) := by
  have hoe := hre e (List.mem_of_getElem? he)
  have hc := h.at' i e (Nat.le_refl _) he
  obtain ⟨o, vd, vg⟩ := e
  obtain ⟨ad, cd, hvd⟩ := OwD.form hoe.d
  obtain ⟨ag, cg, hvg⟩ := OwR.form hoe.g
  simp only at hvd hvg
  subst hvd hvg
  have hd : OwX W0 28 2 (.slice ad o.deps.length cd) o.deps.length := OwX.of hoe.d
  have hg : OwX W0 81 3 (.slice ag o.gone.length cg) o.gone.length := OwX.of hoe.g
  refine ⟨ad, cd, ag, cg, rfl, rfl, hc 2 _ rfl, hc 9 _ rfl, hd.ss h.ss, hg.ss h.ss, hoe.pd, hoe.pg, hoe.s1, hoe.s2, h.bx⟩

set_option maxRecDepth 100000 in
set_option maxHeartbeats 8000000 in
theorem wipe_in {P : Nat → Prop} {w : World} (v : Value) (os : List Opn) (hr : RL P w v os) (hn : os.length ≤ 1000000) :
    Calls Tryz.prog 35 #[v] w fun e W => e = .returned (.tuple #[]) ∧ Kp P w W := by
  obtain ⟨ops, ho, hre, hpv, rfl⟩ := hr
  rw [List.length_map] at hn
  obtain ⟨a, c, rfl⟩ := owns_form ho
  have HO := hide ho
  have HE := hide hre
  obtain ⟨L, hL⟩ : ∃ L, ops.length = L := ⟨_, rfl⟩
  rw [hL] at hn HO hpv ⊢
  have HL := hide hL
  have HG : Hid (∃ g, (0 < L → a = some ⟨g, 0, none⟩ ∧ P g) ∧ (0 < L → WP P w w g ops 0)) := by
    rcases Nat.eq_zero_or_pos L with e | e
    · exact hide ⟨0, fun h => by omega, fun h => by omega⟩
    · obtain ⟨g, rfl, _, _, _, cur, hx⟩ := (OwX.of (unhide HO)).at e
      refine hide ⟨g, fun _ => ⟨rfl, hpv g rfl⟩, fun _ => ⟨Kp.refl _ _, SS.refl _, ⟨cur, hx⟩, fun j e _ he q x hx => ?_⟩⟩
      obtain ⟨b, off, e1, _, hc⟩ := RO.at (RC.of_owns (by rw [← hL] at HO; exact unhide HO)) he
      rcases (unhide HO).2 with ⟨e2, _⟩ | ⟨g', _, _, e2, _⟩
      · cases e2
      · simp at e1
        obtain ⟨rfl, rfl⟩ := e1
        have := hc q x hx
        rwa [Nat.zero_add] at this
  obtain ⟨g, hg1, hg2⟩ := unhide HG
  replace hg1 := hide hg1
  replace hg2 := hide hg2
  clear ho hre hpv hL HG HO
  go_enter Tryz.func35, Tryz.ntmps35
  go_wp2
  go_loopw [2] (fun iv wr => ∃ i : Nat, iv = .int .i64 (i : Nat) ∧ i ≤ L ∧ Hid (0 < L → WP P w wr g ops i) ∧ Hid (Kp P w wr)) (fun iv _ => L - (RowKit.intOf iv).toNat)
  case atStart => exact ⟨0, rfl, by omega, hg2, hide (Kp.refl _ _)⟩
  case round =>
    obtain ⟨i, rfl, hi, HW, HK⟩ := hrel
    by_cases hlt : i < L
    · have i1 : (i : Int) < (L : Int) := by omega
      obtain ⟨rfl, hpg⟩ := unhide hg1 (by omega)
      have H1 := hide (unhide HW (by omega))
      have hls : i < ops.length := by rw [unhide HL]; exact hlt
      obtain ⟨e, hx⟩ : ∃ e, ops[i]? = some e := ⟨_, List.getElem?_eq_getElem hls⟩
      replace hx := hide hx
      replace hpg := hide hpg
      clear HW HK hg1 hg2
      obtain ⟨D, hD⟩ : ∃ D, e.1.deps.length = D := ⟨_, rfl⟩
      obtain ⟨G, hG⟩ : ∃ G, e.1.gone.length = G := ⟨_, rfl⟩
      replace hD := hide hD
      replace hG := hide hG
      have HON := hide (fun (W : World) (h : WP P w W g ops i) => h.one (unhide HE) (unhide hx))
      rw [unhide hD, unhide hG] at HON
      go_wp2
      go_loopw [3] (fun kv wr => ∃ k : Nat, kv = .int .i64 (k : Nat) ∧ k ≤ D ∧ Hid (WP P w wr g ops i)) (fun kv _ => D - (RowKit.intOf kv).toNat)
      case atStart => exact ⟨0, rfl, by omega, H1⟩
      case round =>
        clear H1
        obtain ⟨k, rfl, hk, H1⟩ := hrel
        obtain ⟨ad, cd, ag, cg, e1, e2, c2, c9, xd, xg, pd, pg, s1, s2, cug, bg⟩ := unhide HON _ (unhide H1)
        have bl := bg.lt
        by_cases hkn : k < D
        · have k1 : (k : Int) < (D : Int) := by omega
          obtain ⟨b, rfl, l0, fz, cc, cur, bx⟩ := xd.at (by omega)
          obtain ⟨y0, d0⟩ := cc (k * 2) (by omega)
          obtain ⟨y1, d1⟩ := cc (k * 2 + 1) (by omega)
          have f0 := fz (k * 2)
          have f1 := fz (k * 2 + 1)
          have H2 := hide ((unhide H1).set2 bx (by decide) (pd b rfl) (k * 2) (k * 2 + 1) (.int .i64 (100 + (i : Int))) (.int .i64 0))
          clear H1 e1 e2 c9 xd xg pd pg bg fz cc bx
          go_wp2
          go_roundw
          case rel => exact ⟨k + 1, by go_num, by omega, H2⟩
          case measure => simp [RowKit.intOf]; omega
        · have k1 : ¬ (k : Int) < (D : Int) := by omega
          clear e1 e2 c9 xd xg pd pg bg
          go_wp2
          clear k1 hkn hk c2
          go_loopw [4] (fun kv wr => ∃ k : Nat, kv = .int .i64 (k : Nat) ∧ k ≤ G ∧ Hid (WP P w wr g ops i)) (fun kv _ => G - (RowKit.intOf kv).toNat)
          case atStart => exact ⟨0, rfl, by omega, H1⟩
          case round =>
            clear H1
            obtain ⟨k, rfl, hk, H1⟩ := hrel
            obtain ⟨ad, cd, ag, cg, e1, e2, c2, c9, xd, xg, pd, pg, s1, s2, cug, bg⟩ := unhide HON _ (unhide H1)
            have bl := bg.lt
            by_cases hkn : k < G
            · have k1 : (k : Int) < (G : Int) := by omega
              obtain ⟨b, rfl, l0, fz, cc, cur, bx⟩ := xg.at (by omega)
              obtain ⟨y0, d0⟩ := cc (k * 3) (by omega)
              obtain ⟨y1, d1⟩ := cc (k * 3 + 1) (by omega)
              obtain ⟨y2, d2⟩ := cc (k * 3 + 2) (by omega)
              have f0 := fz (k * 3)
              have f1 := fz (k * 3 + 1)
              have f2 := fz (k * 3 + 2)
              have H2 := hide ((unhide H1).set3 bx (by decide) (pg b rfl) (k * 3) (k * 3 + 1) (k * 3 + 2) (.int .i64 0) (.int .i64 0) (.int .i64 (100 + (i : Int))))
              clear H1 e1 e2 c2 xd xg pd pg bg fz cc bx
              go_wp2
              go_roundw
              case rel => exact ⟨k + 1, by go_num, by omega, H2⟩
              case measure => simp [RowKit.intOf]; omega
            · have k1 : ¬ (k : Int) < (G : Int) := by omega
              obtain ⟨X, hX⟩ : ∃ X, wr.alloc (.cells #[.int .i64 3, .int .i64 0] 28) = X := ⟨_, rfl⟩
              have bX : Below wr.heap.size wr X := by rw [← hX]; exact ballc (Below.refl _ _) _
              have xX := Bx.new wr 28 #[.int .i64 3, .int .i64 0]
              rw [hX] at xX
              have HX := (unhide H1).below bX
              obtain ⟨a1, n1, W1, hr1, _, ss1, gr1, _⟩ := app_x 23 28 2 16 _ Tryz.underlying23 infoD rfl (by omega) X 23 _ D (xd.ss (SS.below bX)) wr.heap.size [.int .i64 3, .int .i64 0] xX rfl (by simp [Value.oneCell']) (by omega) (by omega)
              have H2 := HX.go (Kp.of_grown (N := fun k => (Value.slice ad D cd).ownBlock = some k) gr1 (fun k hk => hk)) ss1 (fun j hj => .inl (pd j hj)) (fun hh => by
                obtain ⟨C, hC⟩ := xd
                exact own_ne_box hC bg (by decide) hh)
              obtain ⟨Y, hY⟩ : ∃ Y, W1.alloc (.cells #[.int .i64 0, .int .i64 0, .int .i64 3] 81) = Y := ⟨_, rfl⟩
              have bY : Below W1.heap.size W1 Y := by rw [← hY]; exact ballc (Below.refl _ _) _
              have xY := Bx.new W1 81 #[.int .i64 0, .int .i64 0, .int .i64 3]
              rw [hY] at xY
              have HY := H2.below bY
              obtain ⟨a2, n2, W2, hr2, _, ss2, gr2, _⟩ := app_x 43 81 3 24 _ Tryz.underlying43 infoRu rfl (by omega) Y 43 _ G (((xg.ss (SS.below bX)).ss ss1).ss (SS.below bY)) W1.heap.size [.int .i64 0, .int .i64 0, .int .i64 3] xY rfl (by simp [Value.oneCell']) (by omega) (by omega)
              have H3 := HY.go (Kp.of_grown (N := fun k => (Value.slice ag G cg).ownBlock = some k) gr2 (fun k hk => hk)) ss2 (fun j hj => .inl (pg j hj)) (fun hh => by
                obtain ⟨C, hC⟩ := xg
                exact own_ne_box hC bg (by decide) hh)
              have m9 := H2.at' i e (Nat.le_refl _) (unhide hx) 9 _ rfl
              rw [e2] at m9
              obtain ⟨_, bx3⟩ := H3.bx
              have l3 := bx3.lt
              have l2 := H2.bx.elim (fun _ h => h.lt)
              have q0 := H3.at' i e (Nat.le_refl _) (unhide hx) 0 _ rfl
              have q1 := H3.at' i e (Nat.le_refl _) (unhide hx) 1 _ rfl
              have q2 := H3.at' i e (Nat.le_refl _) (unhide hx) 2 _ rfl
              have q3 := H3.at' i e (Nat.le_refl _) (unhide hx) 3 _ rfl
              have q4 := H3.at' i e (Nat.le_refl _) (unhide hx) 4 _ rfl
              have q5 := H3.at' i e (Nat.le_refl _) (unhide hx) 5 _ rfl
              have q6 := H3.at' i e (Nat.le_refl _) (unhide hx) 6 _ rfl
              have q7 := H3.at' i e (Nat.le_refl _) (unhide hx) 7 _ rfl
              have q8 := H3.at' i e (Nat.le_refl _) (unhide hx) 8 _ rfl
              have q9 := H3.at' i e (Nat.le_refl _) (unhide hx) 9 _ rfl
              have q10 := H3.at' i e (Nat.le_refl _) (unhide hx) 10 _ rfl
              simp only [Nat.add_zero] at q0 q1 q2 q3 q4 q5 q6 q7 q8 q9 q10 m9
              have z0 := bx3.frozen (i * 11)
              have z1 := bx3.frozen (i * 11 + 1)
              have z2 := bx3.frozen (i * 11 + 2)
              have z3 := bx3.frozen (i * 11 + 3)
              have z4 := bx3.frozen (i * 11 + 4)
              have z5 := bx3.frozen (i * 11 + 5)
              have z6 := bx3.frozen (i * 11 + 6)
              have z7 := bx3.frozen (i * 11 + 7)
              have z8 := bx3.frozen (i * 11 + 8)
              have z9 := bx3.frozen (i * 11 + 9)
              have z10 := bx3.frozen (i * 11 + 10)
              replace hr1 := hide hr1
              replace hr2 := hide hr2
              replace H3 := hide H3
              clear H1 e1 e2 xd xg pd pg bg bX xX HX ss1 gr1 H2 bY xY HY ss2 gr2 bx3
              go_wp2_with (at_builtin; first | (refine wpList_append_eq rfl _ _ 23 rfl _ _ _ _ rfl rfl (unhide hr1) ?_; clear hr1) | (refine wpList_append_eq rfl _ _ 43 rfl _ _ _ _ rfl rfl (unhide hr2) ?_; clear hr2))
              go_roundw
              case rel => exact ⟨i + 1, by go_num, by omega, hide (fun _ => wp_set11 (unhide H3) (unhide hpg) _ _ _ _ _ _ _ _ _ _ _), hide (wp_set11 (unhide H3) (unhide hpg) _ _ _ _ _ _ _ _ _ _ _).kp⟩
              case measure => simp [RowKit.intOf]; omega
    · have i1 : ¬ (i : Int) < (L : Int) := by omega
      go_wp2
      refine bodyPost_end (results_none rfl _ _ _) rfl ?_
      exact ⟨rfl, unhide HK⟩

end Go.Proofs.YtijjoikeceechaaGreat

/-
  What LogOwn asks besides: logs that are new, what is written over, cuts of both.
-/
set_option linter.unusedSimpArgs false
set_option linter.unusedVariables false
namespace Go.Proofs.YtijjoikeceechaaGreat
open Go.RowKit Go.Lib

theorem LL.zero (W : World) : LL (fun i => W.heap.size ≤ i) (W.alloc (.cells #[.slice none 0 0, .slice none 0 0, .slice none 0 0] 51)) W.heap.size [] [] [] :=
  ⟨_, _, _, [], ⟨Bx.new _ _ _, World.ownsRow_nil _ _ _ _, World.ownsRow_nil _ _ _ _, World.ownsRow_nil _ _ _ _, fun e he => (by cases he), Nat.le_refl _, fun k hk => (by cases hk), fun k hk => (by cases hk), fun k hk => (by cases hk), by simp, by simp⟩, rfl⟩
theorem KBaseQ_in {w W : World} {b : Nat} {base hv : List (Int × Int)} {os : List Opn} (h : KS w W b base hv os) :
    Calls Tryz.prog 25 #[.pointer (some ⟨b, 0, none⟩)] W fun e W' => ∃ a c, e = .returned (.slice a base.length c) ∧ OwD W' W.heap.size (.slice a base.length c) base ∧ Below W.heap.size W W' := by
  obtain ⟨P, hL, hP, hb⟩ := h
  refine (Base_in hL).mono ?_
  rintro e W' ⟨v', rfl, ho, hb'⟩
  obtain ⟨a, c, rfl⟩ := ho.form
  exact ⟨a, c, rfl, ho, hb'⟩
variable {Q : Nat → Prop} {w W W' : World} {b1 : Nat} {B1 H1 : List (Int × Int)} {O1 : List Opn} {b2 : Nat} {B2 H2 : List (Int × Int)} {O2 : List Opn}
theorem KT.kpQ {N : Nat → Prop} (h : KT Q w W b1 B1 H1 O1 b2 B2 H2 O2) (k : Kp N W W') (hn : ∀ i, N i → Q i ∧ w.heap.size ≤ i) : KT Q w W' b1 B1 H1 O1 b2 B2 H2 O2 := by
  obtain ⟨P1, P2, g1, g2, g3, g4, g5, g6⟩ := h
  have hz := k.size
  exact ⟨P1, P2, g1.kp k (fun i hi e => (g3 i e).2.2.2 (hn i hi).1), g2.kp k (fun i hi e => (g4 i e).2.2.2 (hn i hi).1), fun i hi => ⟨(g3 i hi).1, by have := (g3 i hi).2.1; omega, (g3 i hi).2.2⟩, fun i hi => ⟨(g4 i hi).1, by have := (g4 i hi).2.1; omega, (g4 i hi).2.2⟩, fun i hi => by have := g5 i hi; omega, k.below g6 (fun i hi => (hn i hi).2)⟩
theorem cut2_in (h : KT Q w W b1 B1 H1 O1 b2 B2 H2 O2) (hn : O1.length ≤ 1000000) (v : Value) (l : List (Int × Int)) (hr : RI W v l) (hl : l.length ≤ 1000000) (hap : ∀ k, rb v l.length k → Q k ∨ k < w.heap.size) :
    Calls Tryz.prog 23 #[.pointer (some ⟨b1, 0, none⟩), v] W fun e W' => ∃ a c M, e = .returned (.tuple #[.slice a (if cutE H1 l = 0 then prL l true O1 else []).length c, .int .i64 (cutE H1 l)]) ∧ W.heap.size ≤ M ∧ M ≤ W'.heap.size ∧ RL (fun i => W.heap.size ≤ i ∧ i < M) W' (.slice a (if cutE H1 l = 0 then prL l true O1 else []).length c) (if cutE H1 l = 0 then prL l true O1 else []) ∧ KT (fun i => Q i ∨ (W.heap.size ≤ i ∧ i < M)) w W' b1 (if cutE H1 l = 0 then vec (mrg (sy B1) (sy l)) else B1) H1 (if cutE H1 l = 0 then prL l false O1 else O1) b2 B2 H2 O2 ∧ Kp (fun i => ¬ Q i) W W' := by
  obtain ⟨P1, P2, g1, g2, g3, g4, g5, g6⟩ := h
  refine (Cut_in g1 (fun i hi => (g3 i hi).2.1) hn v l hr hl (fun k hk e => by
    rcases hap k hk with h | h
    · exact (g3 k e).2.2.2 h
    · have := (g3 k e).1; omega)).mono ?_
  rintro e W' ⟨v', M, rfl, hM1, hM2, hrl, hll, k⟩
  obtain ⟨a, c, rfl⟩ := rl_form hrl
  have hz := k.size
  have hz6 := g6.size
  refine ⟨a, c, M, rfl, hM1, hM2, hrl, ⟨_, P2, hll.lt, g2.kp k (fun i hi => (g3 i hi).2.2.1), fun i hi => ?_, fun i hi => ?_, fun i hi => ?_, k.below g6 (fun i hi => (g3 i hi).1)⟩, k.wk (fun i hi => (g3 i hi).2.2.2)⟩
  · rcases hi.1 with h | h
    · obtain ⟨q1, q2, q3, q4⟩ := g3 i h
      exact ⟨q1, hi.2, q3, fun e => by rcases e with e | e; exact q4 e; omega⟩
    · exact ⟨by omega, hi.2, fun e => by have := (g4 i e).2.1; omega, fun e => by
        rcases e with e | e
        · have := g5 i e; omega
        · omega⟩
  · obtain ⟨q1, q2, q3, q4⟩ := g4 i hi
    refine ⟨q1, by omega, fun e => ?_, fun e => by rcases e with e | e; exact q4 e; omega⟩
    rcases e.1 with h | h
    · exact q3 h
    · omega
  · rcases hi with e | e
    · have := g5 i e; omega
    · omega

/-- only what is new since M was written, and each block is of its size -/
def GO (M : Nat) (W W' : World) : Prop := Kp (fun i => M ≤ i) W W' ∧ SS W W'
theorem GO.refl (M : Nat) (W : World) : GO M W W := ⟨Kp.refl _ _, SS.refl _⟩
theorem GO.set2 {M : Nat} {W W' : World} (h : GO M W W') {g : Nat} (hg : M ≤ g) (p q : Nat) (x y : Value) : GO M W ((W'.setCell ⟨g, p, none⟩ x).setCell ⟨g, q, none⟩ y) :=
  ⟨(h.1.trans (Kp.set (N := fun k => M ≤ k) _ _ _ hg) (fun i e => .inl e)).trans (Kp.set (N := fun k => M ≤ k) _ _ _ hg) (fun i e => .inl e), (h.2.trans (SS.set _ _ _ _)).trans (SS.set _ _ _ _)⟩
theorem GO.below {M : Nat} {W W' W'' : World} (h : GO M W W') (hb : Below W'.heap.size W' W'') : GO M W W'' := ⟨h.1.trans (Kp.of_below (N := fun k => M ≤ k) hb) (fun i e => .inl e), h.2.trans (SS.below hb)⟩
theorem GO.go {M : Nat} {W W' W'' : World} {N : Nat → Prop} (h : GO M W W') (k : Kp N W' W'') (s : SS W' W'') (hn : ∀ i, N i → M ≤ i) : GO M W W'' := ⟨h.1.trans k (fun i e => .inl (hn i e)), h.2.trans s⟩

/-- append(v, Dot): the last one -/
theorem app_dot {M : Nat} {W0 W : World} (h : GO M W0 W) (a : Option Addr) (c n : Nat) (hx : OwX W 28 2 (.slice a n c) n) (hp : ∀ k, (Value.slice a n c).ownBlock = some k → M ≤ k) (hn : n ≤ 1000000) (x y : Int) (X : World) (hX : W.alloc (.cells #[.int .i64 x, .int .i64 y] 28) = X) :
    ∃ g c' W', (Builtin.append_ #[23, 23] 23 #[.slice a n c, .slice (some ⟨W.heap.size, 0, none⟩) 1 1]).run Tryz.prog X = .ok (.slice (some ⟨g, 0, none⟩) (n + 1) c') W' ∧ GO M W0 W' ∧ OwX W' 28 2 (.slice (some ⟨g, 0, none⟩) (n + 1) c') (n + 1) ∧ W'.cell? ⟨g, n * 2, none⟩ = some (.int .i64 x) ∧ ((Value.slice a n c).ownBlock = some g ∨ W.heap.size ≤ g) ∧ Kp (fun k => (Value.slice a n c).ownBlock = some k) W W' := by
  have bX : Below W.heap.size W X := by rw [← hX]; exact ballc (Below.refl _ _) _
  have xX := Bx.new W 28 #[.int .i64 x, .int .i64 y]
  rw [hX] at xX
  obtain ⟨a', c', W', hr, ⟨C, ho, hC⟩, ss, gr, ow⟩ := app_x 23 28 2 16 _ Tryz.underlying23 infoD rfl (by omega) X 23 _ n (hx.ss (SS.below bX)) W.heap.size [.int .i64 x, .int .i64 y] xX rfl (by simp [Value.oneCell']) hn (by omega)
  obtain ⟨g, rfl, _⟩ := (OwX.of ho).at (by omega)
  have kk := Kp.of_grown (N := fun k => (Value.slice a n c).ownBlock = some k) gr (fun k hk => hk)
  refine ⟨g, c', W', hr, (h.below bX).go kk ss hp, OwX.of ho, ?_, ?_, (Kp.of_below bX).trans kk (fun i e => .inl e)⟩
  · rw [ho.cellAt (n * 2) (by omega), List.getElem?_append_right (by omega), show n * 2 - C.length = 0 from by omega]
    rfl
  · rcases ow g rfl with e | e
    · exact .inl e
    · exact .inr (by have := bX.size; omega)

end Go.Proofs.YtijjoikeceechaaGreat
