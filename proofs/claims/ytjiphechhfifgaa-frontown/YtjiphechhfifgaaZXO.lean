/-
  For FrontOwn: what is done to one of two Fronts; four rows of one's own, each of its colour.
-/
import Derived.Test.YtjiphechhfifgaaZFG1
import Derived.Test.YtjiphechhfifgaaZFS0

set_option linter.unusedSimpArgs false
set_option linter.unusedVariables false
namespace Go.Proofs.Ytjiphechhfifgaa
open Go.RowKit Go.Lib

theorem KGdo_in {Q : Nat → Prop} {w W : World} {b1 n1 : Nat} {S1 : StF} {b2 n2 : Nat} {S2 : StF} (h : KG Q w W b1 n1 S1 b2 n2 S2) (hn : n1 ≤ 999999) (s : Stp) (hs : StW w s) (hl : s.vec.length ≤ 20000) :
    Calls Try.prog 20 #[.pointer (some ⟨b1, 0, none⟩), stA s] W fun e W' => e = .returned (.tuple #[]) ∧ KG Q w W' b1 (n1 + 1) (doS s S1) b2 n2 S2 := by
  have mor : ∀ {T W1}, KG Q w W1 b1 n1 T b2 n2 S2 → KG Q w W1 b1 (n1 + 1) T b2 n2 S2 := fun {T W1} h => by
    obtain ⟨P1, P2, h1, h2⟩ := h
    exact ⟨P1, P2, h1.more (by omega), h2⟩
  refine do_any (n := n1) s (hs.below h.bel) (fun T W1 => KG Q w W1 b1 (n1 + 1) T b2 n2 S2) (fun T W1 W2 h hb => h.below hb) (mor h) (fun W1 hb => ?_) (fun W1 hb => ?_)
  · refine (hear1_in (h.below hb) hn s.site hs.sin s.vv s.vec ((hs.rv.below h.bel).below hb) (by omega) (fun i hi => .inr (rb_lt hs.rv hi))).mono ?_
    rintro e W' ⟨rfl, h1, h2⟩
    exact ⟨rfl, h1⟩
  · refine (settle1_in (h.below hb) s.vv s.vec ((hs.rv.below h.bel).below hb) (by omega)).mono ?_
    rintro e W' ⟨rfl, h1, h2⟩
    exact ⟨rfl, mor h1⟩

/-- four rows behind B, in a slice of four; col: what is in them -/
structure R4 (B : Nat) (W : World) (bl : Nat) (vs : Nat → Value) (ns : Nat → Nat) (col : Nat → List Value → Prop) : Prop where
  box : Bx W bl 31 #[vs 0, vs 1, vs 2, vs 3]
  row : ∀ q, q < 4 → ∃ C, W.ownsRow B 56 2 (vs q) (ns q) C ∧ col q C
  ap : ∀ p q, p < 4 → q < 4 → p ≠ q → ∀ i, (vs p).ownBlock = some i → (vs q).ownBlock ≠ some i
  lo : B ≤ bl
variable {B : Nat} {W W' : World} {bl : Nat} {vs : Nat → Value} {ns : Nat → Nat} {col col' : Nat → List Value → Prop}
theorem owd_ne_row {E k n b : Nat} {ws : Array Value} {v : Value} {C : List Value} (h : W.ownsRow B E k v n C) {t : TypeId} (hx : Bx W b t ws) (ht : t ≠ E) : v.ownBlock ≠ some b := fun e => by
  obtain ⟨c, fz, hc⟩ := ownsRow_kind h b e
  unfold Bx at hx
  rw [hx] at hc
  simp at hc
  exact ht hc.2.1
theorem R4.below (h : R4 B W bl vs ns col) (hb : Below W.heap.size W W') : R4 B W' bl vs ns col :=
  ⟨h.box.below hb, fun q hq => by obtain ⟨C, h1, h2⟩ := h.row q hq; exact ⟨C, owns_kp (N := fun _ => False) h1 (Kp.of_below hb) (fun _ _ e => e), h2⟩, h.ap, h.lo⟩
/-- a cell of one row is written -/
theorem R4.set (h : R4 B W bl vs ns col) {q g n c : Nat} (hq : q < 4) (hv : vs q = .slice (some ⟨g, 0, none⟩) n c) (o : Nat) (x : Value) (hc : ∀ p C, p < 4 → p ≠ q → col p C → col' p C) (hcq : ∀ C, C.length = ns q * 2 → col q C → col' q (C.set o x)) : R4 B (W.setCell ⟨g, o, none⟩ x) bl vs ns col' := by
  have k := Kp.set (N := fun i => i = g) W ⟨g, o, none⟩ x rfl
  have hg : (vs q).ownBlock = some g := by rw [hv]; rfl
  refine ⟨h.box.kp k (fun e => ?_), fun p hp => ?_, h.ap, h.lo⟩
  · obtain ⟨C, h1, _⟩ := h.row q hq
    exact owd_ne_row h1 h.box (by decide) (by rw [hg, e])
  · obtain ⟨C, h1, h2⟩ := h.row p hp
    by_cases e : p = q
    · subst e
      have hl := h1.1
      have hn : ns p = n := by
        obtain ⟨a', c', e'⟩ := owns_form h1
        rw [hv] at e'
        simp at e'
        exact e'.2.1.symm
      rw [hv, hn] at h1
      exact ⟨_, by rw [hv, hn]; exact (h1.stored o x).1, hcq C hl h2⟩
    · exact ⟨C, owns_kp h1 k (fun i hi ei => h.ap p q hp hq e i hi (by rw [hg, ei])), hc p C hp e h2⟩

end Go.Proofs.Ytjiphechhfifgaa

/-
  For FrontOwn: rows written over, gone on from, each of its colour.
-/
set_option linter.unusedSimpArgs false
set_option linter.unusedVariables false
namespace Go.Proofs.Ytjiphechhfifgaa
open Go.RowKit Go.Lib

/-- a row that is done: all of its colour, the last that was put behind it -/
def Done4 (q : Nat) (C : List Value) : Prop := ∀ k, k * 2 < C.length → C[k * 2]? = some (.int .i64 (if (k + 1) * 2 < C.length then 20 + (q : Int) else 50 + (q : Int)))
/-- rows below j are done; of row j what is below i is written -/
def Col4 (j i : Nat) (q : Nat) (C : List Value) : Prop := if q < j then Done4 q C else if q = j then ∀ k, k < i → C[k * 2]? = some (.int .i64 (20 + (q : Int))) else True
variable {B : Nat} {W W' : World} {bl : Nat} {vs : Nat → Value} {ns : Nat → Nat} {col col' : Nat → List Value → Prop}
theorem R4.start (h : R4 B W bl vs ns (fun _ _ => True)) : R4 B W bl vs ns (Col4 0 0) := ⟨h.box, fun q hq => by
  obtain ⟨C, h1, _⟩ := h.row q hq
  refine ⟨C, h1, ?_⟩
  unfold Col4
  rw [if_neg (by omega)]
  split
  · intro k hk; omega
  · trivial, h.ap, h.lo⟩
theorem Col4.other {j i q : Nat} {C : List Value} (i' : Nat) (hq : q ≠ j) (h : Col4 j i q C) : Col4 j i' q C := by
  unfold Col4 at *
  by_cases e : q < j
  · rw [if_pos e] at *; exact h
  · rw [if_neg e, if_neg hq] at *; trivial
theorem R4.put {j i g n c : Nat} (h : R4 B W bl vs ns (Col4 j i)) (hj : j < 4) (hv : vs j = .slice (some ⟨g, 0, none⟩) n c) (hi : i < ns j) : R4 B ((W.setCell ⟨g, i * 2, none⟩ (.int .i64 (20 + (j : Int)))).setCell ⟨g, i * 2 + 1, none⟩ (.int .i64 9)) bl vs ns (Col4 j (i + 1)) := by
  refine (h.set (col' := Col4 j (i + 1)) hj hv (i * 2) _ (fun p C hp e hc => hc.other _ e) (fun C hl hc => ?_)).set hj hv (i * 2 + 1) _ (fun p C hp e hc => hc) (fun C hl hc => ?_)
  · unfold Col4 at *
    rw [if_neg (by omega), if_pos rfl] at *
    intro k hk
    by_cases e : k = i
    · subst e
      exact List.getElem?_set_self (by omega)
    · rw [List.getElem?_set_ne (by omega)]
      exact hc k (by omega)
  · unfold Col4 at *
    rw [if_neg (by omega), if_pos rfl] at *
    intro k hk
    rw [List.getElem?_set_ne (by omega)]
    exact hc k hk
theorem box4_set (vs : Nat → Value) (q : Nat) (hq : q < 4) (x : Value) : (#[vs 0, vs 1, vs 2, vs 3] : Array Value).setIfInBounds q x = #[upd vs q x 0, upd vs q x 1, upd vs q x 2, upd vs q x 3] := by
  match q, hq with
  | 0, _ => simp [upd]
  | 1, _ => simp [upd]
  | 2, _ => simp [upd]
  | 3, _ => simp [upd]
theorem box4_at (vs : Nat → Value) (q : Nat) (hq : q < 4) : (#[vs 0, vs 1, vs 2, vs 3] : Array Value)[q]? = some (vs q) := by
  match q, hq with
  | 0, _ => rfl
  | 1, _ => rfl
  | 2, _ => rfl
  | 3, _ => rfl
theorem R4.app {j : Nat} (h : R4 B W bl vs ns (Col4 j (ns j))) (hB : B ≤ W.heap.size) (hj : j < 4) (hn : ns j ≤ 100000) (ty : TypeId) :
    ∃ a' c' W', (Builtin.append_ #[31, 31] ty #[vs j, .slice (some ⟨W.heap.size, 0, none⟩) 1 1]).run Try.prog (W.alloc (.cells #[.int .i64 (50 + (j : Int)), .int .i64 0] 56)) = .ok (.slice a' (ns j + 1) c') W' ∧ Bx W' bl 31 #[vs 0, vs 1, vs 2, vs 3] ∧ Kp (fun i => B ≤ i) W W' ∧
      R4 B (W'.setCell ⟨bl, j, none⟩ (.slice a' (ns j + 1) c')) bl (upd vs j (.slice a' (ns j + 1) c')) (upd ns j (ns j + 1)) (Col4 (j + 1) 0) := by
  obtain ⟨C, hr, hcl⟩ := h.row j hj
  have hlen := hr.1
  obtain ⟨i0, hi, hz0, hz1, hz2⟩ := info_parts infoD
  have hbx := Bx.new W 56 #[.int .i64 (50 + (j : Int)), .int .i64 0]
  have al := ballc (Below.refl W.heap.size W) (.cells #[.int .i64 (50 + (j : Int)), .int .i64 0] 56)
  obtain ⟨v', W', h1, h2, h3, h4, h5⟩ := run_append_own_at (P := Try.prog) (W.alloc (.cells #[.int .i64 (50 + (j : Int)), .int .i64 0] 56)) B 31 ty 56 i0 _ 2 16 Try.underlying31 hi hz0 hz1 hz2 rfl (by decide) (vs j) (ns j) C (World.ownsRow.alloc hr _) ⟨W.heap.size, 0, none⟩ 1 1 [.int .i64 (50 + (j : Int)), .int .i64 0] rfl (fun k u hu => by
    rw [Addr.add_lit, Nat.zero_add]
    exact hbx.cell k u (by rw [← hu]; simp)) (fun u hu => by simp at hu; rcases hu with rfl | rfl <;> rfl) (by unfold maxLen; omega) (by omega) (by simp; omega)
  obtain ⟨a', c', rfl⟩ := owns_form h2
  have hal := h.below al
  have kg : Kp (fun i => (vs j).ownBlock = some i) (W.alloc (.cells #[.int .i64 (50 + (j : Int)), .int .i64 0] 56)) W' := Kp.of_grown h3 (fun k hk => hk)
  have b' : Bx W' bl 31 #[vs 0, vs 1, vs 2, vs 3] := hal.box.kp kg (fun e => owd_ne_row (World.ownsRow.alloc hr _) hal.box (by decide) e)
  have ks := Kp.set (N := fun i => i = bl) W' ⟨bl, j, none⟩ (.slice a' (ns j + 1) c') rfl
  have hnew : ∀ i, (Value.slice a' (ns j + 1) c').ownBlock = some i → (vs j).ownBlock = some i ∨ W.heap.size ≤ i := fun i hi => by
    rcases h5 with e | e
    · exact .inl (by rw [← e]; exact hi)
    · rw [e] at hi
      simp at hi
      exact .inr (by omega)
  refine ⟨a', c', W', h1, b', (Kp.of_below al).trans kg (fun i hi => .inl (hr.lt i hi).1), ?_, fun p hp => ?_, fun p q hp hq hne i hpi hqi => ?_, h.lo⟩
  · have := b'.set j (.slice a' (ns j + 1) c')
    rw [box4_set _ _ hj] at this
    exact this
  · unfold upd
    by_cases e : p = j
    · subst e
      rw [if_pos rfl, if_pos rfl]
      refine ⟨C ++ [.int .i64 (50 + (p : Int)), .int .i64 0], owns_kp h2 ks (fun i hi ei => owd_ne_row h2 b' (by decide) (by rw [hi, ei])), ?_⟩
      unfold Col4 at hcl ⊢
      rw [if_neg (by omega), if_pos rfl] at hcl
      rw [if_pos (by omega)]
      intro k hk
      rw [List.length_append] at hk ⊢
      simp only [List.length_cons, List.length_nil] at hk ⊢
      by_cases ek : k < ns p
      · rw [if_pos (by omega), List.getElem?_append_left (by omega)]
        exact hcl k ek
      · rw [if_neg (by omega), List.getElem?_append_right (by omega), show k * 2 - C.length = 0 by omega]
        rfl
    · rw [if_neg e, if_neg e]
      obtain ⟨D, g1, g2⟩ := hal.row p hp
      have nb : ∀ i, (vs p).ownBlock = some i → (vs j).ownBlock ≠ some i := fun i hi => h.ap p j hp hj e i hi
      have g3 := owns_kp g1 kg (fun i hi ei => nb i hi ei)
      refine ⟨D, owns_kp g3 ks (fun i hi ei => owd_ne_row g3 b' (by decide) (by rw [hi, ei])), ?_⟩
      unfold Col4 at g2 ⊢
      by_cases e2 : p < j
      · rw [if_pos e2] at g2
        rw [if_pos (by omega)]
        exact g2
      · rw [if_neg (by omega)]
        split
        · intro k hk; omega
        · trivial
  · unfold upd at hpi hqi
    by_cases ep : p = j
    · rw [if_pos ep] at hpi
      rw [if_neg (by omega)] at hqi
      rcases hnew i hpi with e | e
      · exact h.ap q j hq hj (by omega) i hqi e
      · obtain ⟨D, g1, _⟩ := h.row q hq
        have := (g1.lt i hqi).2
        omega
    · rw [if_neg ep] at hpi
      by_cases eq : q = j
      · rw [if_pos eq] at hqi
        rcases hnew i hqi with e | e
        · exact h.ap p j hp hj (by omega) i hpi e
        · obtain ⟨D, g1, _⟩ := h.row p hp
          have := (g1.lt i hpi).2
          omega
      · rw [if_neg eq] at hqi
        exact h.ap p q hp hq hne i hpi hqi

end Go.Proofs.Ytjiphechhfifgaa

/-
  For FrontOwn: the four rows laid; what two Fronts answer.
-/
set_option linter.unusedSimpArgs false
set_option linter.unusedVariables false
namespace Go.Proofs.Ytjiphechhfifgaa
open Go.RowKit Go.Lib

def vs4 {α : Type} (x y z t : α) : Nat → α := fun q => if q = 0 then x else if q = 1 then y else if q = 2 then z else t
theorem R4.make {B : Nat} {W W1 W2 : World} {v u f v' : Value} {l1 l2 l3 l4 : List (Int × Int)} (h1 : OwD W B v l1) (h4 : OwD W B v' l4) (hap : ∀ i, v.ownBlock = some i → v'.ownBlock ≠ some i) (hB : B ≤ W.heap.size) (b1 : Below W.heap.size W W1) (hu : OwD W1 W.heap.size u l2) (b2 : Below W1.heap.size W1 W2) (hf : OwD W2 W1.heap.size f l3) :
    R4 B (W2.alloc (.cells #[v, u, f, v'] 31)) W2.heap.size (vs4 v u f v') (vs4 l1.length l2.length l3.length l4.length) (fun _ _ => True) := by
  have z1 := b1.size
  have z2 := b2.size
  have al := ballc (Below.refl W2.heap.size W2) (.cells #[v, u, f, v'] 31)
  have g1 := owd_below h1 (bnext (bnext b1 b2) al)
  have g2 := OwD.base (owd_below hu (bnext b2 al)) hB
  have g3 := OwD.base (owd_below hf al) (show B ≤ W1.heap.size by omega)
  have g4 := owd_below h4 (bnext (bnext b1 b2) al)
  have k1 := fun i (hi : v.ownBlock = some i) => h1.lt i hi
  have k2 := fun i (hi : u.ownBlock = some i) => hu.lt i hi
  have k3 := fun i (hi : f.ownBlock = some i) => hf.lt i hi
  have k4 := fun i (hi : v'.ownBlock = some i) => h4.lt i hi
  refine ⟨Bx.new W2 _ _, fun q hq => ?_, fun p q hp hq hne i hpi hqi => ?_, by omega⟩
  · match q, hq with
    | 0, _ => exact ⟨_, g1, trivial⟩
    | 1, _ => exact ⟨_, g2, trivial⟩
    | 2, _ => exact ⟨_, g3, trivial⟩
    | 3, _ => exact ⟨_, g4, trivial⟩
  · match p, hp, q, hq with
    | 0, _, 0, _ => exact hne rfl
    | 0, _, 1, _ => have := k1 i hpi; have := k2 i hqi; omega
    | 0, _, 2, _ => have := k1 i hpi; have := k3 i hqi; omega
    | 0, _, 3, _ => exact hap i hpi hqi
    | 1, _, 0, _ => have := k2 i hpi; have := k1 i hqi; omega
    | 1, _, 1, _ => exact hne rfl
    | 1, _, 2, _ => have := k2 i hpi; have := k3 i hqi; omega
    | 1, _, 3, _ => have := k2 i hpi; have := k4 i hqi; omega
    | 2, _, 0, _ => have := k3 i hpi; have := k1 i hqi; omega
    | 2, _, 1, _ => have := k3 i hpi; have := k2 i hqi; omega
    | 2, _, 2, _ => exact hne rfl
    | 2, _, 3, _ => have := k3 i hpi; have := k4 i hqi; omega
    | 3, _, 0, _ => exact hap i hqi hpi
    | 3, _, 1, _ => have := k4 i hpi; have := k2 i hqi; omega
    | 3, _, 2, _ => have := k4 i hpi; have := k3 i hqi; omega
    | 3, _, 3, _ => exact hne rfl

/-- what the two Fronts answer, where G holds -/
structure TwoK (G : World → Prop) (bA bB : Nat) (S : StF) (mv : Value) (ms : List Int) (ov : Value) (own : List (Int × Int)) : Prop where
  bel : ∀ W W', G W → Below W.heap.size W W' → G W'
  row : ∀ (b : Nat), b = bA ∨ b = bB → ∀ W, G W → ∀ x : Int, in64 x → Calls Try.prog 16 #[.pointer (some ⟨b, 0, none⟩), .int .i64 x] W fun e W' => ∃ a' n' c', e = .returned (.tuple #[.slice a' n' c', .bool (S x).isSome]) ∧ Hid (OwD W' W.heap.size (.slice a' n' c') (vec (hdR S x)) ∧ Below W.heap.size W W')
  us : ∀ (b : Nat), b = bA ∨ b = bB → ∀ W, G W → ∀ x : Int, in64 x → Calls Try.prog 18 #[.pointer (some ⟨b, 0, none⟩), .int .i64 x] W fun e W' => ∃ a' n' c', e = .returned (.slice a' n' c') ∧ Hid (OwD W' W.heap.size (.slice a' n' c') (vec (usR S x)) ∧ Below W.heap.size W W')
  fro : ∀ (b : Nat), b = bA ∨ b = bB → ∀ W, G W → ∀ x : Int, Calls Try.prog 19 #[.pointer (some ⟨b, 0, none⟩), mv, .int .i64 x, ov] W fun e W' => ∃ a' n' c', e = .returned (.slice a' n' c') ∧ Hid (OwD W' W.heap.size (.slice a' n' c') (Fro S ms x own) ∧ Below W.heap.size W W')
theorem twoK_make {w : World} {bA bB n : Nat} {S : StF} {mv ov : Value} {ms : List Int} {own : List (Int × Int)} (hm : RN w mv ms) (hml : ms.length ≤ 1000000) (h64 : ∀ x ∈ ms, in64 x) (ho : RI w ov own) (hol : own.length ≤ 1000000) : TwoK (fun W => KG (fun _ => False) w W bA n S bB n S) bA bB S mv ms ov own := by
  have one : ∀ b, b = bA ∨ b = bB → ∀ W, KG (fun _ => False) w W bA n S bB n S → ∃ P, FR P W b n S := fun b hb W h => by
    rcases hb with rfl | rfl
    · obtain ⟨P, h1, _⟩ := h.one; exact ⟨P, h1⟩
    · obtain ⟨P, h1, _⟩ := h.swap.one; exact ⟨P, h1⟩
  refine ⟨fun W W' h hb => h.below hb, fun b hb W h x hx => ?_, fun b hb W h x hx => ?_, fun b hb W h x => ?_⟩
  · obtain ⟨P, h1⟩ := one b hb W h
    refine (Row_in h1 x hx).mono ?_
    rintro e W' ⟨v', rfl, q, hb'⟩
    obtain ⟨a', c', rfl⟩ := OwD.form q
    exact ⟨_, _, _, rfl, q, hb'⟩
  · obtain ⟨P, h1⟩ := one b hb W h
    refine (Usable_in h1 x hx).mono ?_
    rintro e W' ⟨v', rfl, q, hb'⟩
    obtain ⟨a', c', rfl⟩ := OwD.form q
    exact ⟨_, _, _, rfl, q, hb'⟩
  · obtain ⟨P, h1⟩ := one b hb W h
    refine (Frontier_in h1 mv ms (hm.below h.bel) hml h64 x ov own (ho.below h.bel) hol).mono ?_
    rintro e W' ⟨v', rfl, q, hb'⟩
    obtain ⟨a', c', rfl⟩ := OwD.form q
    exact ⟨_, _, _, rfl, q, hb'⟩
/-- the rows that go round: in memory behind a world where G holds -/
def RP (G : World → Prop) (W : World) (v v' : Value) (l : List (Int × Int)) : Prop := ∃ WB, G WB ∧ Below WB.heap.size WB W ∧ OwD W WB.heap.size v l ∧ OwD W WB.heap.size v' l ∧ ∀ i, v.ownBlock = some i → v'.ownBlock ≠ some i
theorem RP.make {G : World → Prop} {W W1 W2 : World} {v v' : Value} {l : List (Int × Int)} (h : G W) (b1 : Below W.heap.size W W1) (h1 : OwD W1 W.heap.size v l) (b2 : Below W1.heap.size W1 W2) (h2 : OwD W2 W1.heap.size v' l) : RP G W2 v v' l :=
  ⟨W, h, bnext b1 b2, owd_below h1 b2, OwD.base h2 b1.size, fun i hi hi' => by have := (h1.lt i hi).2; have := (h2.lt i hi').1; omega⟩
theorem fro_len (S : StF) (ms : List Int) (x : Int) (own : List (Int × Int)) : (Fro S ms x own).length ≤ 1000 := by
  unfold Fro
  split
  · have := vec_len (frR S (ms.filter fun y => !(y == x)) (sy own)); omega
  · simp

end Go.Proofs.Ytjiphechhfifgaa
