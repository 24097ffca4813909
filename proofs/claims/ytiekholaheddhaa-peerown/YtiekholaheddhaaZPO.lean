/-
  Two Peers of the program side by side, and two rows that were told: for PeerOwn.
-/
import Derived.Test.YtiekholaheddhaaZPW
set_option linter.unusedSimpArgs false
set_option linter.unusedVariables false
namespace Go.Proofs.Ytiekholaheddhaa
open Go.RowKit Go.Lib

/-- two in new memory -/
def OJ (w W : World) (b b' : Nat) (s : St) : Prop := QA (fun i => w.heap.size ≤ i) W 39 b 39 b' s s ∧ Below w.heap.size w W
variable {w W W' V X X' : World} {b b' bx : Nat} {s s' : St} {x : Stp} {g h : Value} {l : List Int}
theorem OJ.bel (o : OJ w W b b' s) : Below w.heap.size w W := o.2
theorem OJ.below (o : OJ w W b b' s) (hb : Below W.heap.size W W') : OJ w W' b b' s := ⟨o.1.below hb, bnext o.2 hb⟩
theorem OJ.ln (o : OJ w W b b' s) : s.fl.length ≤ 64 := by have := o.1.gd.ln; have := o.1.gd.w1; omega
theorem OJ.new {W1 W2 : World} {x y : Int} (b1 : Below w.heap.size w W1) (b2 : Below W1.heap.size W1 W2) (f1 : PL (fun i => w.heap.size ≤ i) W1 39 b s) (f2 : PL (fun i => W1.heap.size ≤ i) W2 39 b' s) : OJ w W2 b b' s := by
  have z1 := b1.size
  have z2 := b2.size
  refine ⟨⟨_, _, f1.lt.below b2, f2.lt, fun i hi => ⟨?_, ?_, fun e => ?_⟩, fun i hi => ⟨?_, ?_, fun e => ?_⟩⟩, bnext b1 b2⟩ <;> omega
theorem OJ.flg1 (o : OJ w W b b' s) {n : Nat} (hn : s.fl.length = n) : Calls Try.prog 16 #[.pointer (some ⟨b, 0, none⟩)] W fun e W' => ∃ a c, e = .returned (.slice a n c) ∧ OwN W' W.heap.size (.slice a n c) s.fl ∧ Below W.heap.size W W' := by
  subst hn
  obtain ⟨⟨P1, P2, h1, h2, _⟩, _⟩ := o
  exact Flight_in h1
theorem OJ.flg2 (o : OJ w W b b' s) {n : Nat} (hn : s.fl.length = n) : Calls Try.prog 16 #[.pointer (some ⟨b', 0, none⟩)] W fun e W' => ∃ a c, e = .returned (.slice a n c) ∧ OwN W' W.heap.size (.slice a n c) s.fl ∧ Below W.heap.size W W' := by
  subst hn
  obtain ⟨⟨P1, P2, h1, h2, _⟩, _⟩ := o
  exact Flight_in h2
/-- a step's box beside them -/
theorem OJ.start (o : OJ w W b b' s) (hV : Below W.heap.size W V) (hB : Bx V W.heap.size 31 (stC x)) : DK (fun i => w.heap.size ≤ i ∧ i < W.heap.size) W x 39 b 39 b' s s V := ⟨(o.1.mono (Pb := fun i => (w.heap.size ≤ i ∧ i < W.heap.size) ∨ W.heap.size < i) (fun i hi hl => .inl ⟨hi, hl⟩)).below hV, hB, Kp.of_below hV⟩
theorem DK.oj (h : DK (fun i => w.heap.size ≤ i ∧ i < W.heap.size) W x 39 b 39 b' s s X) (hb : Below w.heap.size w W) : OJ w X b b' s := by
  have hz := hb.size
  refine ⟨h.q.mono (fun i hi _ => ?_), h.kp.below hb (fun i hi => hi.1)⟩
  rcases hi with e | e
  · exact e.1
  · omega
/-- both, and two rows of one's own apart from them and from each other -/
structure OR (w W : World) (b b' : Nat) (s : St) (g : Value) (l : List Int) (h : Value) : Prop where
  q : QA (fun i => w.heap.size ≤ i ∧ g.ownBlock ≠ some i ∧ h.ownBlock ≠ some i) W 39 b 39 b' s s
  rg : OwN W w.heap.size g l
  rh : OwN W w.heap.size h s.fl
  ap : ∀ i, g.ownBlock = some i → h.ownBlock ≠ some i
  bel : Below w.heap.size w W
theorem OR.oj (o : OR w W b b' s g l h) : OJ w W b b' s := ⟨o.q.mono (fun i hi _ => hi.1), o.bel⟩
theorem OR.below (o : OR w W b b' s g l h) (hb : Below W.heap.size W W') : OR w W' b b' s g l h := ⟨o.q.below hb, own_below o.rg hb, own_below o.rh hb, o.ap, bnext o.bel hb⟩
theorem OR.make {W1 W2 : World} (o : OJ w W b b' s) (b1 : Below W.heap.size W W1) (hg : OwN W1 W.heap.size g s.fl) (b2 : Below W1.heap.size W1 W2) (hh : OwN W2 W1.heap.size h s.fl) : OR w W2 b b' s g s.fl h := by
  have z0 := o.2.size
  have z1 := b1.size
  have z2 := b2.size
  refine ⟨(QA.mono (Pb := fun i => w.heap.size ≤ i ∧ g.ownBlock ≠ some i ∧ h.ownBlock ≠ some i) o.1 (fun i hi hl => ⟨hi, fun e => by have := (World.ownsRow.lt hg i e).1; omega, fun e => by have := (World.ownsRow.lt hh i e).1; omega⟩)).below (bnext b1 b2), owns_wk (own_below hg b2) z0, owns_wk hh (by omega), fun i hi e => ?_, bnext (bnext o.2 b1) b2⟩
  have := (World.ownsRow.lt hg i hi).2
  have := (World.ownsRow.lt hh i e).1
  omega
theorem nC_set (l : List Int) (i : Nat) (x : Int) : nC (l.set i x) = (nC l).set i (.int .i64 x) := by unfold nC; rw [List.map_set]
/-- a cell of the first row is written -/
theorem OR.set {gb n c : Nat} (o : OR w W b b' s (.slice (some ⟨gb, 0, none⟩) n c) l h) (k : Nat) (y : Int) : OR w (W.setCell ⟨gb, k, none⟩ (.int .i64 y)) b b' s (.slice (some ⟨gb, 0, none⟩) n c) (l.set k y) h := by
  have kp := Kp.set (N := fun j => j = gb) W ⟨gb, k, none⟩ (.int .i64 y) rfl
  have hgb : (Value.slice (some ⟨gb, 0, none⟩) n c).ownBlock = some gb := rfl
  have hlo := (World.ownsRow.lt o.rg gb rfl).1
  refine ⟨o.q.kp kp (fun i hi e => e.2.1 (by rw [hi]; rfl)), ?_, owns_kp o.rh kp (fun i hi e => o.ap gb rfl (by rw [← e]; exact hi)), o.ap, kp.below o.bel (fun i hi => by omega)⟩
  have h1 := o.rg
  have hn : l.length = n := by
    obtain ⟨a', c', e'⟩ := OwN.form h1
    simp at e'
    exact e'.2.1.symm
  unfold OwN at h1 ⊢
  rw [List.length_set, nC_set]
  rw [hn] at h1 ⊢
  exact (h1.stored k (.int .i64 y)).1
theorem OR.at {a : Option Addr} {n c k : Nat} (o : OR w W b b' s (.slice a n c) l h) (hk : k < n) : ∃ gb u, a = some ⟨gb, 0, none⟩ ∧ W.cell? ⟨gb, k, none⟩ = some u ∧ W.frozen? ⟨gb, k, none⟩ = false ∧ l.length = n := by
  have h1 := o.rg
  have hn : l.length = n := by
    obtain ⟨a', c', e'⟩ := OwN.form h1
    simp at e'
    exact e'.2.1.symm
  obtain ⟨gb, cc, e, _, cur, hbx⟩ := owns_some h1 (by omega)
  simp at e
  obtain ⟨rfl, _⟩ := e
  have h3 : W.ownsRow w.heap.size 3 1 (.slice (some ⟨gb, 0, none⟩) n c) n (nC l) := by rw [← hn]; rw [← hn] at h1; exact h1
  have h2 := h3.cellAt k (by omega)
  exact ⟨gb, _, rfl, h2.trans (List.getElem?_eq_getElem (by rw [nC_len]; omega)), hbx.frozen k, hn⟩
/-- the first row is gone on from -/
theorem OR.app (o : OR w W b b' s g l h) (hl : l.length ≤ 1000) (y : Int) : ∃ a' c' W', (Builtin.append_ #[37, 37] 37 #[g, .slice (some ⟨W.heap.size, 0, none⟩) 1 1]).run Try.prog (W.alloc (.cells #[.int .i64 y] 3)) = .ok (.slice a' (l.length + 1) c') W' ∧ OR w W' b b' s (.slice a' (l.length + 1) c') (l ++ [y]) h := by
  have z0 := o.bel.size
  obtain ⟨v', W', h1, h2, h3, h5⟩ := append_n W 37 w.heap.size g l y o.rg z0 (by omega)
  have al := ballc (Below.refl W.heap.size W) (.cells #[.int .i64 y] 3)
  have hll : (l ++ [y]).length = l.length + 1 := by simp
  obtain ⟨a', c', rfl⟩ := OwN.form h2
  rw [hll] at h1 h2 h5
  have oa := o.below al
  have kg : Kp (fun i => g.ownBlock = some i) (W.alloc (.cells #[.int .i64 y] 3)) W' := Kp.of_grown h3 (fun j hj => hj)
  have hnew : ∀ i, (Value.slice a' (l.length + 1) c').ownBlock = some i → g.ownBlock = some i ∨ W.heap.size ≤ i := fun i hi => by
    rcases h5 with e | e
    · exact .inl (by rw [← e]; exact hi)
    · rw [e] at hi; cases hi; exact .inr (by omega)
  obtain ⟨P1, P2, p1, p2, p3, p4⟩ := o.q
  have zz := al.size
  have zk := kg.size
  have big : ∀ i, (w.heap.size ≤ i ∧ g.ownBlock ≠ some i ∧ h.ownBlock ≠ some i) → i < W.heap.size → (w.heap.size ≤ i ∧ (Value.slice a' (l.length + 1) c').ownBlock ≠ some i ∧ h.ownBlock ≠ some i) := fun i hi hlt => ⟨hi.1, fun e => by rcases hnew i e with q | q; exact hi.2.1 q; omega, hi.2.2⟩
  refine ⟨a', c', W', h1, ⟨P1, P2, (p1.below al).kp kg (fun i hi e => (p3 i e).1.2.1 hi), (p2.below al).kp kg (fun i hi e => (p4 i e).1.2.1 hi), fun i hi => ⟨big i (p3 i hi).1 (p3 i hi).2.1, by have := (p3 i hi).2.1; omega, (p3 i hi).2.2⟩, fun i hi => ⟨big i (p4 i hi).1 (p4 i hi).2.1, by have := (p4 i hi).2.1; omega, (p4 i hi).2.2⟩⟩, h2, owns_kp oa.rh kg (fun i hi e => o.ap i e hi), fun i hi e => ?_, kg.below (bnext o.bel al) (fun i hi => (World.ownsRow.lt o.rg i hi).1)⟩
  rcases hnew i hi with q | q
  · exact o.ap i q e
  · have := (World.ownsRow.lt o.rh i e).2; omega
/-- the second's Flight against the row that was kept -/
theorem OR.flg2 (o : OR w W b b' s g l h) {n : Nat} (hn : s.fl.length = n) : Calls Try.prog 16 #[.pointer (some ⟨b', 0, none⟩)] W fun e W' => ∃ a c, e = .returned (.slice a n c) ∧ OwN W' W.heap.size (.slice a n c) s.fl ∧ Below W.heap.size W W' := o.oj.flg2 hn

end Go.Proofs.Ytiekholaheddhaa
