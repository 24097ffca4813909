/-
  For RollOwn: six rows of one's own in a slice of six, written over and gone on from.
-/
import Derived.Test.YtjcdfjnlpfineabZRS
set_option linter.unusedSimpArgs false
set_option linter.unusedVariables false
namespace Go.Proofs.Ytjcdfjnlpfineab
open Go.RowKit Go.Lib

def upd {α : Type} (f : Nat → α) (k : Nat) (x : α) : Nat → α := fun j => if j = k then x else f j
theorem upd_same {α : Type} (f : Nat → α) (k : Nat) (x : α) : upd f k x k = x := by unfold upd; rw [if_pos rfl]
theorem upd_ne {α : Type} (f : Nat → α) {k j : Nat} (x : α) (h : j ≠ k) : upd f k x j = f j := by unfold upd; rw [if_neg h]
structure R6 (B : Nat) (W : World) (O : Nat) (v : Nat → Value) (C : Nat → List Int) : Prop where
  out : Bx W O 29 #[v 0, v 1, v 2, v 3, v 4, v 5]
  row : ∀ k, k < 6 → OwN W B (v k) (C k)
  ap : ∀ p q, p < 6 → q < 6 → p ≠ q → ∀ i, (v p).ownBlock = some i → (v q).ownBlock ≠ some i
  lo : B ≤ O
variable {B O : Nat} {W W' : World} {v : Nat → Value} {C : Nat → List Int}
theorem own_ne_box {b : Nat} {ws : Array Value} {u : Value} {l : List Int} (h : OwN W B u l) {t : TypeId} (hx : Bx W b t ws) (ht : t ≠ 3) : u.ownBlock ≠ some b := fun e => by
  obtain ⟨_, (⟨rfl, _⟩ | ⟨g, cap, cur, rfl, _, hg, _⟩)⟩ := h
  · cases e
  · simp [Value.ownBlock] at e
    subst e
    unfold Bx at hx
    rw [hx] at hg
    simp at hg
    exact ht hg.2
theorem R6.below (h : R6 B W O v C) (hb : Below W.heap.size W W') : R6 B W' O v C := ⟨h.out.below hb, fun k hk => owns_kp (N := fun _ => False) (h.row k hk) (Kp.of_below hb) (fun _ _ e => e), h.ap, h.lo⟩
theorem box6_at (v : Nat → Value) (q : Nat) (hq : q < 6) : (#[v 0, v 1, v 2, v 3, v 4, v 5] : Array Value)[q]? = some (v q) := by
  match q, hq with
  | 0, _ => rfl
  | 1, _ => rfl
  | 2, _ => rfl
  | 3, _ => rfl
  | 4, _ => rfl
  | 5, _ => rfl
theorem box6_set (v : Nat → Value) (q : Nat) (hq : q < 6) (x : Value) : (#[v 0, v 1, v 2, v 3, v 4, v 5] : Array Value).setIfInBounds q x = #[upd v q x 0, upd v q x 1, upd v q x 2, upd v q x 3, upd v q x 4, upd v q x 5] := by
  match q, hq with
  | 0, _ => simp [upd]
  | 1, _ => simp [upd]
  | 2, _ => simp [upd]
  | 3, _ => simp [upd]
  | 4, _ => simp [upd]
  | 5, _ => simp [upd]
theorem nC_set (l : List Int) (i : Nat) (x : Int) : nC (l.set i x) = (nC l).set i (.int .i64 x) := by unfold nC; rw [List.map_set]
/-- a cell of one row is written -/
theorem R6.set (h : R6 B W O v C) {k g n c : Nat} (hk : k < 6) (hv : v k = .slice (some ⟨g, 0, none⟩) n c) (i : Nat) (x : Int) : R6 B (W.setCell ⟨g, i, none⟩ (.int .i64 x)) O v (upd C k ((C k).set i x)) := by
  have kp := Kp.set (N := fun j => j = g) W ⟨g, i, none⟩ (.int .i64 x) rfl
  have hg : (v k).ownBlock = some g := by rw [hv]; rfl
  refine ⟨h.out.kp kp (fun e => own_ne_box (h.row k hk) h.out (by decide) (by rw [hg, e])), fun p hp => ?_, h.ap, h.lo⟩
  by_cases e : p = k
  · subst e
    rw [upd_same]
    have h1 := h.row p hp
    have hn : (C p).length = n := by
      obtain ⟨a', c', e'⟩ := OwN.form h1
      rw [hv] at e'
      simp at e'
      exact e'.2.1.symm
    unfold OwN at h1 ⊢
    rw [List.length_set, nC_set]
    rw [hv, hn] at h1 ⊢
    exact (h1.stored i (.int .i64 x)).1
  · rw [upd_ne _ _ e]
    exact owns_kp (h.row p hp) kp (fun j hj ej => h.ap p k hp hk e j hj (by rw [hg, ej]))
/-- one row is gone on from -/
theorem R6.app (h : R6 B W O v C) (hB : B ≤ W.heap.size) {k : Nat} (hk : k < 6) (hn : (C k).length ≤ 100000) (x : Int) :
    ∃ a' c' W', (Builtin.append_ #[29, 29] 29 #[v k, .slice (some ⟨W.heap.size, 0, none⟩) 1 1]).run Try.prog (W.alloc (.cells #[.int .i64 x] 3)) = .ok (.slice a' ((C k).length + 1) c') W' ∧ Bx W' O 29 #[v 0, v 1, v 2, v 3, v 4, v 5] ∧ Kp (fun i => B ≤ i) W W' ∧
      R6 B (W'.setCell ⟨O, k, none⟩ (.slice a' ((C k).length + 1) c')) O (upd v k (.slice a' ((C k).length + 1) c')) (upd C k (C k ++ [x])) := by
  have hr := h.row k hk
  obtain ⟨v', W', h1, h2, h3, h5⟩ := append_n W 29 B (v k) (C k) x hr hB (by omega)
  have al := ballc (Below.refl W.heap.size W) (.cells #[.int .i64 x] 3)
  have hl : (C k ++ [x]).length = (C k).length + 1 := by simp
  obtain ⟨a', c', rfl⟩ := OwN.form h2
  rw [hl] at h1 h2 h5
  have hal := h.below al
  have kg : Kp (fun i => (v k).ownBlock = some i) (W.alloc (.cells #[.int .i64 x] 3)) W' := Kp.of_grown h3 (fun j hj => hj)
  have b' : Bx W' O 29 #[v 0, v 1, v 2, v 3, v 4, v 5] := hal.out.kp kg (fun e => own_ne_box (hal.row k hk) hal.out (by decide) e)
  have ks := Kp.set (N := fun i => i = O) W' ⟨O, k, none⟩ (.slice a' ((C k).length + 1) c') rfl
  have hnew : ∀ i, (Value.slice a' ((C k).length + 1) c').ownBlock = some i → (v k).ownBlock = some i ∨ W.heap.size ≤ i := fun i hi => by
    rcases h5 with e | e
    · exact .inl (by rw [← e]; exact hi)
    · rw [e] at hi; cases hi; exact .inr (by omega)
  refine ⟨a', c', W', h1, b', (Kp.of_below al).trans kg (fun i hi => .inl (World.ownsRow.lt hr i hi).1), ?_, fun p hp => ?_, fun p q hp hq hne i hpi hqi => ?_, h.lo⟩
  · have := b'.set k (.slice a' ((C k).length + 1) c')
    rw [box6_set _ _ hk] at this
    exact this
  · by_cases e : p = k
    · subst e
      rw [upd_same, upd_same]
      exact owns_kp h2 ks (fun i hi ei => own_ne_box h2 b' (by decide) (by rw [hi, ei]))
    · rw [upd_ne _ _ e, upd_ne _ _ e]
      have g3 : OwN W' B (v p) (C p) := owns_kp (hal.row p hp) kg (fun i hi ei => h.ap p k hp hk e i hi ei)
      exact owns_kp g3 ks (fun i hi ei => own_ne_box g3 b' (by decide) (by rw [hi, ei]))
  · by_cases ep : p = k
    · rw [ep, upd_same] at hpi
      rw [upd_ne _ _ (by omega)] at hqi
      rcases hnew i hpi with e | e
      · exact h.ap q k hq hk (by omega) i hqi e
      · have := (World.ownsRow.lt (h.row q hq) i hqi).2; omega
    · rw [upd_ne _ _ ep] at hpi
      by_cases eq : q = k
      · rw [eq, upd_same] at hqi
        rcases hnew i hqi with e | e
        · exact h.ap p k hp hk ep i hpi e
        · have := (World.ownsRow.lt (h.row p hp) i hpi).2; omega
      · rw [upd_ne _ _ eq] at hqi
        exact h.ap p q hp hq hne i hpi hqi
def v6 {α : Type} (a b c d e f : α) : Nat → α := fun q => if q = 0 then a else if q = 1 then b else if q = 2 then c else if q = 3 then d else if q = 4 then e else f
theorem R6.make {W0 W1 W2 W3 W4 W5 W6 : World} {a b c d e f : Value} {la lb lc ld le lf : List Int} (b1 : Below W0.heap.size W0 W1) (b2 : Below W1.heap.size W1 W2) (b3 : Below W2.heap.size W2 W3) (b4 : Below W3.heap.size W3 W4) (b5 : Below W4.heap.size W4 W5) (b6 : Below W5.heap.size W5 W6)
    (h1 : OwN W1 W0.heap.size a la) (h2 : OwN W2 W1.heap.size b lb) (h3 : OwN W3 W2.heap.size c lc) (h4 : OwN W4 W3.heap.size d ld) (h5 : OwN W5 W4.heap.size e le) (h6 : OwN W6 W5.heap.size f lf) :
    R6 W0.heap.size (W6.alloc (.cells #[a, b, c, d, e, f] 29)) W6.heap.size (v6 a b c d e f) (v6 la lb lc ld le lf) := by
  have z1 := b1.size
  have z2 := b2.size
  have z3 := b3.size
  have z4 := b4.size
  have z5 := b5.size
  have z6 := b6.size
  have al := ballc (Below.refl W6.heap.size W6) (.cells #[a, b, c, d, e, f] 29)
  have kb : ∀ {X Y : World} {u : Value} {l : List Int} {N : Nat}, OwN X N u l → Below X.heap.size X Y → W0.heap.size ≤ N → OwN Y W0.heap.size u l := fun h hb hn => owns_wk (owns_kp (N := fun _ => False) h (Kp.of_below hb) (fun _ _ e => e)) hn
  have g1 := kb h1 (bnext (bnext (bnext (bnext (bnext b2 b3) b4) b5) b6) al) (Nat.le_refl _)
  have g2 := kb h2 (bnext (bnext (bnext (bnext b3 b4) b5) b6) al) (by omega)
  have g3 := kb h3 (bnext (bnext (bnext b4 b5) b6) al) (by omega)
  have g4 := kb h4 (bnext (bnext b5 b6) al) (by omega)
  have g5 := kb h5 (bnext b6 al) (by omega)
  have g6 := kb h6 al (by omega)
  have k0 := fun i (hi : a.ownBlock = some i) => World.ownsRow.lt h1 i hi
  have k1 := fun i (hi : b.ownBlock = some i) => World.ownsRow.lt h2 i hi
  have k2 := fun i (hi : c.ownBlock = some i) => World.ownsRow.lt h3 i hi
  have k3 := fun i (hi : d.ownBlock = some i) => World.ownsRow.lt h4 i hi
  have k4 := fun i (hi : e.ownBlock = some i) => World.ownsRow.lt h5 i hi
  have k5 := fun i (hi : f.ownBlock = some i) => World.ownsRow.lt h6 i hi
  refine ⟨Bx.new W6 _ _, fun q hq => ?_, fun p q hp hq hne i hpi hqi => ?_, by omega⟩
  · match q, hq with
    | 0, _ => exact g1
    | 1, _ => exact g2
    | 2, _ => exact g3
    | 3, _ => exact g4
    | 4, _ => exact g5
    | 5, _ => exact g6
  · match p, hp, q, hq with
    | 0, _, 0, _ => exact hne rfl
    | 0, _, 1, _ => have := k0 i hpi; have := k1 i hqi; omega
    | 0, _, 2, _ => have := k0 i hpi; have := k2 i hqi; omega
    | 0, _, 3, _ => have := k0 i hpi; have := k3 i hqi; omega
    | 0, _, 4, _ => have := k0 i hpi; have := k4 i hqi; omega
    | 0, _, 5, _ => have := k0 i hpi; have := k5 i hqi; omega
    | 1, _, 0, _ => have := k1 i hpi; have := k0 i hqi; omega
    | 1, _, 1, _ => exact hne rfl
    | 1, _, 2, _ => have := k1 i hpi; have := k2 i hqi; omega
    | 1, _, 3, _ => have := k1 i hpi; have := k3 i hqi; omega
    | 1, _, 4, _ => have := k1 i hpi; have := k4 i hqi; omega
    | 1, _, 5, _ => have := k1 i hpi; have := k5 i hqi; omega
    | 2, _, 0, _ => have := k2 i hpi; have := k0 i hqi; omega
    | 2, _, 1, _ => have := k2 i hpi; have := k1 i hqi; omega
    | 2, _, 2, _ => exact hne rfl
    | 2, _, 3, _ => have := k2 i hpi; have := k3 i hqi; omega
    | 2, _, 4, _ => have := k2 i hpi; have := k4 i hqi; omega
    | 2, _, 5, _ => have := k2 i hpi; have := k5 i hqi; omega
    | 3, _, 0, _ => have := k3 i hpi; have := k0 i hqi; omega
    | 3, _, 1, _ => have := k3 i hpi; have := k1 i hqi; omega
    | 3, _, 2, _ => have := k3 i hpi; have := k2 i hqi; omega
    | 3, _, 3, _ => exact hne rfl
    | 3, _, 4, _ => have := k3 i hpi; have := k4 i hqi; omega
    | 3, _, 5, _ => have := k3 i hpi; have := k5 i hqi; omega
    | 4, _, 0, _ => have := k4 i hpi; have := k0 i hqi; omega
    | 4, _, 1, _ => have := k4 i hpi; have := k1 i hqi; omega
    | 4, _, 2, _ => have := k4 i hpi; have := k2 i hqi; omega
    | 4, _, 3, _ => have := k4 i hpi; have := k3 i hqi; omega
    | 4, _, 4, _ => exact hne rfl
    | 4, _, 5, _ => have := k4 i hpi; have := k5 i hqi; omega
    | 5, _, 0, _ => have := k5 i hpi; have := k0 i hqi; omega
    | 5, _, 1, _ => have := k5 i hpi; have := k1 i hqi; omega
    | 5, _, 2, _ => have := k5 i hpi; have := k2 i hqi; omega
    | 5, _, 3, _ => have := k5 i hpi; have := k3 i hqi; omega
    | 5, _, 4, _ => have := k5 i hpi; have := k4 i hqi; omega
    | 5, _, 5, _ => exact hne rfl
/-- a row that is done -/
def Done6 (q : Nat) (l : List Int) : Prop := ∃ n, l = List.replicate n (100 + (q : Int)) ++ [200 + (q : Int)]
theorem done_of {k : Nat} {l : List Int} (h : ∀ q, q < l.length → l[q]? = some (100 + (k : Int))) : Done6 k (l ++ [200 + (k : Int)]) := by
  refine ⟨l.length, ?_⟩
  congr 1
  apply List.ext_getElem?
  intro i
  by_cases hi : i < l.length
  · rw [h i hi, List.getElem?_replicate, if_pos hi]
  · rw [List.getElem?_eq_none (by omega), List.getElem?_eq_none (by simp; omega)]
theorem done_at {k : Nat} {l : List Int} (h : Done6 k l) {i : Nat} (hi : i < l.length) : l[i]? = some (if i + 1 < l.length then 100 + (k : Int) else 200 + (k : Int)) := by
  obtain ⟨n, rfl⟩ := h
  simp at hi
  by_cases e : i < n
  · rw [List.getElem?_append_left (by simpa using e), if_pos (by simp; omega), List.getElem?_replicate, if_pos e]
  · obtain rfl : i = n := by omega
    rw [List.getElem?_append_right (by simp), if_neg (by simp)]
    simp
/-- rows below j are done; of row j what is below i is written -/
structure O6 (B : Nat) (W : World) (O : Nat) (j i : Nat) (v : Nat → Value) (C : Nat → List Int) : Prop where
  r : R6 B W O v C
  dn : ∀ q, q < j → q < 6 → Done6 q (C q)
  wr : ∀ q, q < i → j < 6 → (C j)[q]? = some (100 + (j : Int))
  ln : ∀ q, q < 6 → (C q).length ≤ 100 + j
theorem O6.below {j i : Nat} (h : O6 B W O j i v C) (hb : Below W.heap.size W W') : O6 B W' O j i v C := ⟨h.r.below hb, h.dn, h.wr, h.ln⟩
theorem O6.put {j i g n c : Nat} (h : O6 B W O j i v C) (hj : j < 6) (hv : v j = .slice (some ⟨g, 0, none⟩) n c) (hi : i < (C j).length) : O6 B (W.setCell ⟨g, i, none⟩ (.int .i64 (100 + (j : Int)))) O j (i + 1) v (upd C j ((C j).set i (100 + (j : Int)))) := by
  refine ⟨h.r.set hj hv i _, fun q hq hq6 => ?_, fun q hq _ => ?_, fun q hq => ?_⟩
  · rw [upd_ne _ _ (by omega)]; exact h.dn q hq hq6
  · rw [upd_same]
    by_cases e : q = i
    · subst e; exact List.getElem?_set_self hi
    · rw [List.getElem?_set_ne (by omega)]; exact h.wr q (by omega) hj
  · by_cases e : q = j
    · subst e; rw [upd_same, List.length_set]; exact h.ln q hq
    · rw [upd_ne _ _ e]; exact h.ln q hq
theorem O6.app {j : Nat} (h : O6 B W O j (C j).length v C) (hB : B ≤ W.heap.size) (hj : j < 6) :
    ∃ a' c' W', (Builtin.append_ #[29, 29] 29 #[v j, .slice (some ⟨W.heap.size, 0, none⟩) 1 1]).run Try.prog (W.alloc (.cells #[.int .i64 (200 + (j : Int))] 3)) = .ok (.slice a' ((C j).length + 1) c') W' ∧ Bx W' O 29 #[v 0, v 1, v 2, v 3, v 4, v 5] ∧ Kp (fun i => B ≤ i) W W' ∧
      ∃ v' C', O6 B (W'.setCell ⟨O, j, none⟩ (.slice a' ((C j).length + 1) c')) O (j + 1) 0 v' C' := by
  have hln := h.ln j hj
  obtain ⟨a', c', W', h1, h2, h3, h4⟩ := h.r.app hB hj (by omega) (200 + (j : Int))
  refine ⟨a', c', W', h1, h2, h3, _, _, h4, fun q hq hq6 => ?_, fun q hq _ => by omega, fun q hq => ?_⟩
  · by_cases e : q = j
    · subst e; rw [upd_same]; exact done_of (fun p hp => h.wr p hp hj)
    · rw [upd_ne _ _ e]; exact h.dn q (by omega) hq6
  · by_cases e : q = j
    · subst e; rw [upd_same]; simp; omega
    · rw [upd_ne _ _ e]; have := h.ln q hq; omega
theorem O6.start (h : R6 B W O v C) (hl : ∀ q, q < 6 → (C q).length ≤ 16) : O6 B W O 0 0 v C := ⟨h, fun q hq _ => by omega, fun q hq _ => by omega, fun q hq => by have := hl q hq; omega⟩
theorem O6.fresh {j : Nat} (h : O6 B W O j 0 v C) : ∃ v' C', O6 B W O j 0 v' C' := ⟨v, C, h⟩
/-- the row of number j -/
theorem O6.at {j i k : Nat} (h : O6 B W O j i v C) (hk : k < 6) : ∃ a c, v k = .slice a (C k).length c ∧ W.cell? ⟨O, k, none⟩ = some (.slice a (C k).length c) ∧ W.frozen? ⟨O, k, none⟩ = false ∧ O < W.heap.size ∧ (C k).length ≤ 100 + j := by
  obtain ⟨a, c, e⟩ := OwN.form (h.r.row k hk)
  refine ⟨a, c, e, ?_, h.r.out.frozen k, h.r.out.lt, h.ln k hk⟩
  rw [h.r.out.cell k _ (box6_at v k hk), e]
theorem O6.el {j i k n c : Nat} {a : Option Addr} (h : O6 B W O j i v C) (hk : k < 6) (hv : v k = .slice a n c) {q : Nat} {x : Int} (hq : (C k)[q]? = some x) : ∃ g, a = some ⟨g, 0, none⟩ ∧ W.cell? ⟨g, q, none⟩ = some (.int .i64 x) ∧ W.frozen? ⟨g, q, none⟩ = false ∧ B ≤ g ∧ g < W.heap.size := by
  have hr := h.r.row k hk
  have hl := (List.getElem?_eq_some_iff.1 hq).1
  obtain ⟨g, c', e, _, cur, hb⟩ := owns_some hr (by omega)
  rw [hv] at e
  simp at e
  obtain ⟨rfl, _, _⟩ := e
  have e1 : (v k).ownBlock = some g := by rw [hv]; rfl
  have := World.ownsRow.lt hr g e1
  obtain ⟨a', c'', e'⟩ := OwN.form hr
  rw [hv] at e'
  simp at e'
  have hn := e'.2.1
  unfold OwN at hr
  rw [hv, hn] at hr
  refine ⟨g, rfl, ?_, hb.frozen q, this.1, this.2⟩
  have h2 := World.ownsRow.cellAt hr q (by omega)
  rw [h2]
  unfold nC
  rw [List.getElem?_map, hq]
  rfl
end Go.Proofs.Ytjcdfjnlpfineab
