/-
  Rows of operations: how they lie, how one is put behind them.
-/
import Derived.Test.YtknnfahbpekmoabZQ5
import Derived.Test.YtknnfahbpekmoabZQ7
import Derived.Test.YtknnfahbpekmoabZXN
set_option linter.unusedSimpArgs false
set_option linter.unusedVariables false
namespace Go.Proofs.Ytknnfahbpekmoab
open Go.RowKit Go.Lib

def encO (e : Opn × Value × Value) : List Value := [.int .i64 e.1.ds, .int .i64 e.1.dq, e.2.1, .int .i64 e.1.kind, .int .i64 e.1.it, .int .i64 e.1.is, .int .i64 e.1.rt, .int .i64 e.1.rs, .string e.1.text, e.2.2, .int .i64 e.1.site]
theorem encO_len (e : Opn × Value × Value) : (encO e).length = 11 := rfl
/-- an operation whose lists lie somewhere -/
structure ElW (W : World) (e : Opn × Value × Value) : Prop where
  vd : ∃ a c, e.2.1 = .slice a e.1.deps.length c
  vg : ∃ a c, e.2.2 = .slice a e.1.gone.length c
  rd : RI W e.2.1 e.1.deps
  rg : RR W e.2.2 e.1.gone
  inn : InA e.1
theorem ElW.below {W W' : World} {e : Opn × Value × Value} (h : ElW W e) (hb : Below W.heap.size W W') : ElW W' e := ⟨h.vd, h.vg, h.rd.below hb, RC.below h.rg hb, h.inn⟩
theorem ElW.one {W : World} {e : Opn × Value × Value} (h : ElW W e) : ∀ u ∈ encO e, u.oneCell' = true := by
  obtain ⟨a, c, h1⟩ := h.vd
  obtain ⟨a', c', h2⟩ := h.vg
  intro u hu
  unfold encO at hu
  rw [h1, h2] at hu
  simp at hu
  rcases hu with rfl | rfl | rfl | rfl | rfl | rfl | rfl | rfl | rfl | rfl | rfl <;> rfl

/-- a row of operations -/
def RO (W : World) (v : Value) (l : List (Opn × Value × Value)) : Prop := RC W v l.length (flat encO l)
theorem RO.at {W : World} {a : Option Addr} {n c : Nat} {l : List (Opn × Value × Value)} (h : RO W (.slice a n c) l) {i : Nat} {e : Opn × Value × Value} (hi : l[i]? = some e) : ∃ b off, a = some ⟨b, off, none⟩ ∧ b < W.heap.size ∧ ∀ q v, (encO e)[q]? = some v → W.cell? ⟨b, off + i * 11 + q, none⟩ = some v := by
  have hl := (List.getElem?_eq_some_iff.1 hi).1
  rcases h with ⟨h0, _⟩ | ⟨b, off, cap, e', h1, h2, hc⟩
  · omega
  · simp at e'
    obtain ⟨rfl, _⟩ := e'
    refine ⟨b, off, rfl, h2, fun q v hv => ?_⟩
    have hq : q < 11 := by have := (List.getElem?_eq_some_iff.1 hv).1; rwa [encO_len] at this
    have := hc (i * 11 + q) v ((flat_get encO_len l i q e hi hq).trans hv)
    rwa [← Nat.add_assoc] at this

set_option maxRecDepth 100000 in
theorem open_opL {H : Type} {enc : TypeId × Value → H} {w : World} {base : Nat} {spare : Nat → Bool} {held : Bool} {fuel : Nat} {c0 c1 c2 c3 c4 c5 c6 c7 c8 c9 c10 : Value} {x : DataW H × List MemPlace}
    (hf : DataW.trod enc Try.prog w base spare held fuel 38 [c0, c1, c2, c3, c4, c5, c6, c7, c8, c9, c10] = some x) : ∃ e, [c0, c1, c2, c3, c4, c5, c6, c7, c8, c9, c10] = encO e ∧ ElW w e := by
  obtain ⟨xs, n, _, _, _, hxl, hfs⟩ := DataW.trod_struct Try.underlying38 hf
  have hx : ∀ i, i < 8 → ∃ y, xs[i]? = some y := fun i hi => ⟨xs[i]'(by rw [hxl]; exact hi), List.getElem?_eq_getElem _⟩
  have ci : Try.prog.cellsOf 3 = 1 := by kernel_rfl
  have cD : Try.prog.cellsOf 31 = 2 := by kernel_rfl
  have cI : Try.prog.cellsOf 35 = 2 := by kernel_rfl
  have cV : Try.prog.cellsOf 33 = 1 := by kernel_rfl
  have cS : Try.prog.cellsOf 9 = 1 := by kernel_rfl
  have cR : Try.prog.cellsOf 36 = 1 := by kernel_rfl
  obtain ⟨y0, e0⟩ := hx 0 (by omega)
  have g0 := (hfs 0 _ rfl).trans e0
  obtain ⟨y1, e1⟩ := hx 1 (by omega)
  have g1 := (hfs 1 _ rfl).trans e1
  obtain ⟨y2, e2⟩ := hx 2 (by omega)
  have g2 := (hfs 2 _ rfl).trans e2
  obtain ⟨y3, e3⟩ := hx 3 (by omega)
  have g3 := (hfs 3 _ rfl).trans e3
  obtain ⟨y4, e4⟩ := hx 4 (by omega)
  have g4 := (hfs 4 _ rfl).trans e4
  obtain ⟨y5, e5⟩ := hx 5 (by omega)
  have g5 := (hfs 5 _ rfl).trans e5
  obtain ⟨y6, e6⟩ := hx 6 (by omega)
  have g6 := (hfs 6 _ rfl).trans e6
  obtain ⟨y7, e7⟩ := hx 7 (by omega)
  have g7 := (hfs 7 _ rfl).trans e7
  simp at g0
  rw [cD] at g0
  try simp at g0
  simp at g1
  rw [cV] at g1
  try simp at g1
  simp at g2
  rw [ci] at g2
  try simp at g2
  simp at g3
  rw [cI] at g3
  try simp at g3
  simp at g4
  rw [cI] at g4
  try simp at g4
  simp at g5
  rw [cS] at g5
  try simp at g5
  simp at g6
  rw [cR] at g6
  try simp at g6
  simp at g7
  rw [ci] at g7
  try simp at g7
  obtain ⟨a0, a1, rfl, rfl, w0, w1⟩ := open_two ⟨_, _, Try.underlying31, rfl, rfl, rfl, rfl⟩ g0
  obtain ⟨a3, q3, _, w3⟩ := DataW.trod_int Try.underlying3 g2
  obtain ⟨a4, a5, rfl, rfl, w4, w5⟩ := open_two ⟨_, _, Try.underlying35, rfl, rfl, rfl, rfl⟩ g3
  obtain ⟨a6, a7, rfl, rfl, w6, w7⟩ := open_two ⟨_, _, Try.underlying35, rfl, rfl, rfl, rfl⟩ g4
  obtain ⟨a8, q8, _, w8⟩ := DataW.trod_string Try.underlying9 g5
  obtain ⟨a10, q10, _, w10⟩ := DataW.trod_int Try.underlying3 g7
  simp only [List.cons.injEq, and_true] at q3 q8 q10
  subst q3 q8 q10
  obtain ⟨ad, ld, cd, rfl⟩ : ∃ a l c, c2 = .slice a l c := by
    rcases Go.Deep.open_slice Try.underlying33 g1 with ⟨h0, _⟩ | ⟨ad, ln, cp, m, n, D, Pl, h0, _⟩
    · simp at h0; exact ⟨_, _, _, h0⟩
    · simp at h0; exact ⟨_, _, _, h0⟩
  obtain ⟨ag, lg, cg, rfl⟩ : ∃ a l c, c9 = .slice a l c := by
    rcases Go.Deep.open_slice Try.underlying36 g6 with ⟨h0, _⟩ | ⟨ad, ln, cp, m, n, D, Pl, h0, _⟩
    · simp at h0; exact ⟨_, _, _, h0⟩
    · simp at h0; exact ⟨_, _, _, h0⟩
  obtain ⟨l, h1, rfl, h3, h4⟩ := open_dots g1
  obtain ⟨g, k1, rfl, k3, k4⟩ := open_runs g6
  unfold maxLen at h3 k3 w8
  exact ⟨(⟨a0, a1, l, a3, a4, a5, a6, a7, a8, g, a10⟩, .slice ad l.length cd, .slice ag g.length cg), rfl, ⟨_, _, rfl⟩, ⟨_, _, rfl⟩, h1, k1, ⟨w0, w1, wf64 w3, w4, w5, w6, w7, wf64 w10, k4, w8⟩⟩

theorem open_ops {H : Type} {enc : TypeId × Value → H} {w : World} {base : Nat} {spare : Nat → Bool} {held : Bool} {fuel : Nat} {a : Option Addr} {len cap : Nat} {x : DataW H × List MemPlace}
    (h : DataW.trod enc Try.prog w base spare held fuel 22 [.slice a len cap] = some x) : ∃ l : List (Opn × Value × Value), RO w (.slice a len cap) l ∧ l.length = len ∧ len ≤ maxLen ∧ ∀ e ∈ l, ElW w e := by
  rcases Go.Deep.open_slice Try.underlying22 h with ⟨h0, _⟩ | ⟨ad, ln, cp, m, n, D, Pl, h0, hb, hl, hm, hmm, _, hx⟩
  · simp only [List.cons.injEq, Value.slice.injEq, and_true] at h0
    obtain ⟨rfl, rfl, rfl⟩ := h0
    exact ⟨[], .inl ⟨rfl, _, _, rfl⟩, rfl, by unfold maxLen; omega, fun e he => by cases he⟩
  · simp only [List.cons.injEq, Value.slice.injEq, and_true] at h0
    obtain ⟨rfl, rfl, rfl⟩ := h0
    have hlm : len ≤ m := by rw [hmm]; split <;> omega
    obtain ⟨l, h1, h2, h3⟩ := @mk_each (Opn × Value × Value) ⟨(zO, .slice none 0 0, .slice none 0 0)⟩ encO 11 encO_len (by omega) (ElW w) w ad len cap hl (fun i hi => by
      obtain ⟨cs', h1, h2⟩ := hx i (by omega)
      have ce : Try.prog.cellsOf 38 = 11 := by kernel_rfl
      rw [ce] at h1
      obtain ⟨_, hlen, hcell⟩ := World.cells?_some h1
      match cs', hlen with
      | [v0, v1, v2, v3, v4, v5, v6, v7, v8, v9, v10], _ =>
        obtain ⟨e, he, hw⟩ := open_opL h2
        refine ⟨e, fun q x hx => ?_, hw⟩
        rw [← he] at hx
        have hq := (List.getElem?_eq_some_iff.1 hx).1
        have := hcell q (by simpa using hq)
        rw [Go.Deep.add_add] at this
        rw [this]
        exact hx)
    exact ⟨l, by rw [← h2] at h1 ⊢; exact h1, h2, by omega, h3⟩

theorem infoO : (Try.prog.info? 38).map (fun i => (i.zero, i.size, i.bytes)) = some (some (.agg #[.int .i64 0, .int .i64 0, .slice none 0 0, .int .i64 0, .int .i64 0, .int .i64 0, .int .i64 0, .int .i64 0, .string ⟨#[]⟩, .slice none 0 0, .int .i64 0]), 11, 128) := by kernel_rfl
/-- append(l, o) of an operation -/
theorem append_op (w : World) (ty : TypeId) (N : Nat) (v : Value) (l : List (Opn × Value × Value)) (e : Opn × Value × Value) (nb : Nat) (h : w.ownsRow N 38 11 v l.length (flat encO l)) (hbx : Bx w nb 38 (encO e).toArray) (h1 : ∀ u ∈ encO e, u.oneCell' = true) (hN : N ≤ w.heap.size) (hl : l.length ≤ 1000000) :
    ∃ v' w', (Builtin.append_ #[22, 22] ty #[v, .slice (some ⟨nb, 0, none⟩) 1 1]).run Try.prog w = .ok v' w' ∧ w'.ownsRow N 38 11 v' (l ++ [e]).length (flat encO (l ++ [e])) ∧ w.grownBy w' v.ownBlock ∧ (v'.ownBlock = v.ownBlock ∨ v'.ownBlock = some w.heap.size) := by
  obtain ⟨i0, hi, hz0, hz1, hz2⟩ := info_parts infoO
  obtain ⟨v', w', q1, q2, q3, q4, q5⟩ := run_append_own_at (P := Try.prog) w N 22 ty 38 i0 _ 11 128 Try.underlying22 hi hz0 hz1 hz2 rfl (by decide) v l.length _ h ⟨nb, 0, none⟩ 1 1 (encO e) (by rw [encO_len]) (fun j u hu => by
    rw [Addr.add_lit, Nat.zero_add]
    exact hbx.cell j u (by rw [← hu]; simp)) h1 (by unfold maxLen; omega) (by omega) hN
  refine ⟨v', w', q1, ?_, q3, q5⟩
  rw [flat_append, List.length_append]
  have : flat encO [e] = encO e := by simp [flat]
  rw [this]
  exact q2

/-- the bytes of operations, one behind the other -/
def obs (ks : List (Opn × Value × Value)) : List Nat := ks.flatMap fun e => ob e.1
theorem obs_snoc (ks : List (Opn × Value × Value)) (e : Opn × Value × Value) : obs (ks ++ [e]) = obs ks ++ ob e.1 := by simp [obs]
/-- a Writer and the operations that were kept -/
structure StS (w W : World) (p : Nat) (wv kv : Value) (ks : List (Opn × Value × Value)) : Prop where
  wr : Wr W p wv (obs ks) 0
  kr : W.ownsRow (p + 1) 38 11 kv ks.length (flat encO ks)
  bel : Below w.heap.size w W
  ap : ∀ k, kv.ownBlock = some k → wv.ownBlock ≠ some k
  le : w.heap.size ≤ p
theorem StS.below {w W W' : World} {p : Nat} {wv kv : Value} {ks : List (Opn × Value × Value)} (h : StS w W p wv kv ks) (hb : Below W.heap.size W W') : StS w W' p wv kv ks :=
  ⟨h.wr.below hb, owns_kp (N := fun _ => False) h.kr (Kp.of_below hb) (fun _ _ e => e), bnext h.bel hb, h.ap, h.le⟩
theorem StS.put {w W W' : World} {p : Nat} {wv wv' kv : Value} {ks ks' : List (Opn × Value × Value)} (h : StS w W p wv kv ks) (hw : Wr W' p wv' (obs ks') 0) (hk : Kp (wOwn p wv) W W') (ho : OwnAt W wv wv') :
    (W'.ownsRow (p + 1) 38 11 kv ks.length (flat encO ks)) ∧ Below w.heap.size w W' ∧ (∀ k, kv.ownBlock = some k → wv'.ownBlock ≠ some k) := by
  have hkr := owns_kp h.kr hk (fun i hi e => by
    rcases e with e | e
    · have := (h.kr.lt i hi).1; omega
    · exact h.ap i hi e)
  refine ⟨hkr, hk.below h.bel (fun i e => ?_), fun k hk' e => ?_⟩
  · rcases e with e | e
    · have := h.le; omega
    · have := (h.wr.row.lt i e).1; have := h.le; omega
  · rcases ho k e with e | e
    · exact h.ap k hk' e
    · have := (h.kr.lt k hk').2; omega

end Go.Proofs.Ytknnfahbpekmoab
