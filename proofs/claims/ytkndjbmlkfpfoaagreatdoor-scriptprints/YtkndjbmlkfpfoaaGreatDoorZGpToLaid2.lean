/-
  QuoteWords' own small parts.
-/
import Derived.Test.YtkndjbmlkfpfoaaGreatDoorZSwToSr
import Derived.Test.YtkndjbmlkfpfoaaGreatDoorZSr2ToSn
import Derived.Maps.AppendAt
import Derived.Deep.Slices
import Derived.OpenShut
import Derived.ChangeSame
import Derived.ChangeArms
import Derived.OwnWalk
import Derived.Test.YtkndjbmlkfpfoaaGreatDoorZQuToHx
import Derived.Shelf.Strconv.Itoa4
import Derived.Test.YtkndjbmlkfpfoaaGreatDoorProg
import Derived.Test.YtkndjbmlkfpfoaaGreatDoorZSc5ToSp
import Derived.Test.YtkndjbmlkfpfoaaGreatDoorRows
import Derived.Lib.LaidTab
import Derived.Stop.LaidErr
import Derived.MakeChecks
import Derived.LaidMore
import Derived.Test.YtkndjbmlkfpfoaaGreatDoorZSc2ToSc4
import Derived.LaidLaws

set_option linter.unusedSimpArgs false
set_option linter.unusedVariables false
namespace Go.Proofs.YtkndjbmlkfpfoaaGreatDoor
open Go.RowKit Go.Lib

/-- what stands ahead of a word -/
def gapL : Nat → List UInt8
  | 0 => []
  | 1 => [32]
  | 2 => [9]
  | 3 => [32, 32]
  | _ => [32, 9]
/-- a number's rest, from zero up -/
def upM (q k : Int) : Nat := if q < 0 then (q + k).toNat else q.toNat
def gapK (n : Int) (m : Bool) : Nat := if m = true ∧ upM (n.tmod 5) 5 = 0 then 1 else upM (n.tmod 5) 5
theorem gapL_bl (k : Nat) : ∀ b ∈ gapL k, isBl b.toNat = true := by
  unfold gapL
  split <;> decide
theorem gapL_ne (n : Int) : gapL (gapK n true) ≠ [] := by
  unfold gapK
  split
  · simp [gapL]
  · rename_i h
    have h0 : upM (n.tmod 5) 5 ≠ 0 := fun q => h ⟨rfl, q⟩
    unfold gapL
    split
    · exact absurd ‹_› h0
    all_goals simp
theorem str_l {a l : List UInt8} (h : a = l) : Ending.returned (.string ⟨a.toArray⟩) = Ending.returned (.string (ofL l)) := by rw [h]; rfl
theorem below_al (w : World) (o : Obj) : Below w.heap.size w (w.alloc o) := (Below.refl _ _).alloc (Nat.le_refl _) _
/-- how a line ends, by a number -/
def endK (n : Int) : Nat := upM (n.tmod 7) 7
theorem endK_lt (n : Int) : endK n < 7 := by
  have hr1 := Int.tmod_lt_of_pos n (show (0 : Int) < 7 by decide)
  have hr2 := Int.lt_tmod_of_pos n (show (0 : Int) < 7 by decide)
  unfold endK upM
  split <;> omega

end Go.Proofs.YtkndjbmlkfpfoaaGreatDoor

/-
  Rows of words, rows of items.
-/
set_option linter.unusedSimpArgs false
set_option linter.unusedVariables false
namespace Go.Proofs.YtkndjbmlkfpfoaaGreatDoor
open Go.RowKit Go.Lib

theorem bnext {w W W' : World} (h : Below w.heap.size w W) (k : Below W.heap.size W W') : Below w.heap.size w W' := h.trans (k.mono h.size)
theorem bdrew {w W : World} (h : Below w.heap.size w W) (n : Nat) : Below w.heap.size w (W.drewN n) := ⟨h.os, h.tape, h.output, h.size, h.block⟩
theorem ballc {w W : World} (h : Below w.heap.size w W) (o : Obj) : Below w.heap.size w (W.alloc o) := h.alloc h.size _
theorem bset {w W : World} (h : Below w.heap.size w W) (p : Addr) (hp : w.heap.size ≤ p.block) (u : Value) : Below w.heap.size w (W.setCell p u) := h.setCell hp u

theorem cell_lt {W : World} {p : Addr} {v : Value} (h : W.cell? p = some v) : p.block < W.heap.size := World.block_lt_of_cell? _ _ h
theorem cell_below {W W' : World} {a : Addr} {v : Value} (h : W.cell? a = some v) (hb : Below W.heap.size W W') : W'.cell? a = some v := by
  have hl := World.block_lt_of_cell? _ _ h
  rw [← h]
  unfold World.cell?
  rw [hb.block _ hl]

/-- the cells of some, one behind the other -/
def flat {α : Type} (enc : α → List Value) (l : List α) : List Value := l.flatMap enc
theorem flat_nil {α : Type} (enc : α → List Value) : flat enc [] = [] := rfl
theorem flat_cons {α : Type} (enc : α → List Value) (x : α) (l : List α) : flat enc (x :: l) = enc x ++ flat enc l := rfl
theorem flat_append {α : Type} (enc : α → List Value) (l m : List α) : flat enc (l ++ m) = flat enc l ++ flat enc m := by simp [flat]
theorem flat_len {α : Type} {enc : α → List Value} {k : Nat} (hk : ∀ x, (enc x).length = k) : ∀ l : List α, (flat enc l).length = l.length * k
  | [] => by simp [flat]
  | x :: l => by rw [flat_cons, List.length_append, hk, flat_len hk l, List.length_cons, Nat.add_mul]; omega
theorem flat_get {α : Type} {enc : α → List Value} {k : Nat} (hk : ∀ x, (enc x).length = k) : ∀ (l : List α) (j i : Nat) (x : α), l[j]? = some x → i < k → (flat enc l)[j * k + i]? = (enc x)[i]?
  | [], j, i, x, h, _ => by simp at h
  | y :: l, 0, i, x, h, hi => by
    simp at h
    subst h
    rw [flat_cons, Nat.zero_mul, Nat.zero_add, List.getElem?_append_left (by rw [hk]; exact hi)]
  | y :: l, j + 1, i, x, h, hi => by
    rw [flat_cons, List.getElem?_append_right (by rw [hk, Nat.add_mul]; omega), hk, show (j + 1) * k + i - k = j * k + i by rw [Nat.add_mul]; omega]
    exact flat_get hk l j i x (by simpa using h) hi
theorem flat_at {α : Type} {enc : α → List Value} {k : Nat} (hk : ∀ x, (enc x).length = k) (k0 : 0 < k) {l : List α} {j : Nat} {v : Value} (h : (flat enc l)[j]? = some v) : ∃ x, l[j / k]? = some x ∧ (enc x)[j % k]? = some v := by
  have hj := (List.getElem?_eq_some_iff.1 h).1
  rw [flat_len hk] at hj
  have hlt : j / k < l.length := Nat.div_lt_of_lt_mul (by rw [Nat.mul_comm]; exact hj)
  refine ⟨l[j / k], List.getElem?_eq_getElem hlt, ?_⟩
  rw [← flat_get hk l (j / k) (j % k) _ (List.getElem?_eq_getElem hlt) (Nat.mod_lt _ k0), show j / k * k + j % k = j by have := Nat.div_add_mod j k; rw [Nat.mul_comm] at this; exact this]
  exact h
theorem flat_mem {α : Type} {enc : α → List Value} {l : List α} {v : Value} (h : v ∈ flat enc l) : ∃ x ∈ l, v ∈ enc x := by simpa [flat] using h
theorem flat_take {α : Type} {enc : α → List Value} {k : Nat} (hk : ∀ x, (enc x).length = k) : ∀ (l : List α) (n : Nat), flat enc (l.take n) = (flat enc l).take (n * k)
  | [], n => by simp [flat]
  | x :: l, 0 => by simp [flat]
  | x :: l, n + 1 => by
    rw [List.take_succ_cons, flat_cons, flat_cons, flat_take hk l n, List.take_append, hk, show (n + 1) * k - k = n * k by rw [Nat.add_mul]; omega]
    congr 1
    exact (List.take_of_length_le (by rw [hk, Nat.add_mul]; omega)).symm

/-- a slice of n things holds these cells -/
def RC (W : World) (v : Value) (n : Nat) (C : List Value) : Prop :=
  (n = 0 ∧ ∃ a cap, v = .slice a 0 cap) ∨ ∃ b off cap, v = .slice (some ⟨b, off, none⟩) n cap ∧ n ≤ cap ∧ b < W.heap.size ∧ ∀ j x, C[j]? = some x → W.cell? ⟨b, off + j, none⟩ = some x
theorem RC.below {W W' : World} {v : Value} {n : Nat} {C : List Value} (h : RC W v n C) (hb : Below W.heap.size W W') : RC W' v n C := by
  rcases h with h | ⟨b, off, cap, e, hn, hl, hc⟩
  · exact .inl h
  · exact .inr ⟨b, off, cap, e, hn, Nat.lt_of_lt_of_le hl hb.size, fun j x hx => cell_below (hc j x hx) hb⟩
theorem RC.form {W : World} {v : Value} {n : Nat} {C : List Value} (h : RC W v n C) : ∃ a cap, v = .slice a n cap := by
  rcases h with ⟨rfl, a, c, e⟩ | ⟨b, off, c, e, _⟩
  · exact ⟨a, c, e⟩
  · exact ⟨_, _, e⟩
theorem RC.nil (W : World) (a : Option Addr) (c : Nat) : RC W (.slice a 0 c) 0 [] := .inl ⟨rfl, _, _, rfl⟩
theorem RC.of_owns {W : World} {B E k n : Nat} {v : Value} {C : List Value} (h : W.ownsRow B E k v n C) : RC W v n C := by
  have h0 := h
  obtain ⟨hl, (⟨rfl, hn⟩ | ⟨g, cap, cur, rfl, hbg, hg, hc1, hc2, hc3, hc4⟩)⟩ := h
  · exact .inl ⟨hn, _, _, rfl⟩
  · refine .inr ⟨g, 0, cap, rfl, by omega, (Array.getElem?_eq_some_iff.1 hg).1, fun j x hx => ?_⟩
    have hj := (List.getElem?_eq_some_iff.1 hx).1
    rw [Nat.zero_add]
    exact (h0.cellAt j (by omega)).trans hx
theorem RC.len {W : World} {a : Option Addr} {n m cap : Nat} {C : List Value} (h : RC W (.slice a m cap) n C) : m = n := by
  obtain ⟨a', c', e⟩ := h.form
  simp at e
  exact e.2.1

/-- all blocks stay but those of N, and new ones come -/
structure Kp (N : Nat → Prop) (W W' : World) : Prop where
  os : W'.os = W.os
  tape : W'.tape = W.tape
  output : W'.output = W.output
  size : W.heap.size ≤ W'.heap.size
  block : ∀ k, k < W.heap.size → ¬ N k → W'.heap[k]? = W.heap[k]?
theorem Kp.refl (N : Nat → Prop) (W : World) : Kp N W W := ⟨rfl, rfl, rfl, Nat.le_refl _, fun _ _ _ => rfl⟩
theorem Kp.trans {N M : Nat → Prop} {a b c : World} (h : Kp N a b) (k : Kp M b c) (hm : ∀ i, M i → N i ∨ a.heap.size ≤ i) : Kp N a c :=
  ⟨k.os.trans h.os, k.tape.trans h.tape, k.output.trans h.output, Nat.le_trans h.size k.size, fun i hi hn =>
    (k.block i (Nat.lt_of_lt_of_le hi h.size) (fun e => by rcases hm i e with h' | h'; exact hn h'; omega)).trans (h.block i hi hn)⟩
theorem Kp.of_below {N : Nat → Prop} {W W' : World} (h : Below W.heap.size W W') : Kp N W W' := ⟨h.os, h.tape, h.output, h.size, fun k hk _ => h.block k hk⟩
theorem Kp.of_grown {N : Nat → Prop} {W W' : World} {row : Option Nat} (h : W.grownBy W' row) (hr : ∀ k, row = some k → N k) : Kp N W W' :=
  ⟨h.os, h.tape, h.output, h.size, fun k hk hn => h.block k hk (fun e => hn (hr k e.symm))⟩
theorem Kp.set {N : Nat → Prop} (W : World) (a : Addr) (v : Value) (h : N a.block) : Kp N W (W.setCell a v) := by
  have b := Below.setCell (Below.refl 0 W) (Nat.zero_le a.block) v
  exact ⟨b.os, b.tape, b.output, b.size, fun k hk hn => Below.heap_setCell W a v k (fun e => hn (e ▸ h))⟩
theorem Kp.drew {N : Nat → Prop} {W W' : World} (h : Kp N W W') : Kp N W W'.drew := ⟨h.os, h.tape, h.output, h.size, h.block⟩
theorem Kp.wk {N N' : Nat → Prop} {W W' : World} (h : Kp N W W') (hn : ∀ i, N i → N' i) : Kp N' W W' := ⟨h.os, h.tape, h.output, h.size, fun k hk hk' => h.block k hk (fun e => hk' (hn k e))⟩
theorem Kp.below {N : Nat → Prop} {w W W' : World} (k : Kp N W W') (h : Below w.heap.size w W) (hn : ∀ i, N i → w.heap.size ≤ i) : Below w.heap.size w W' :=
  ⟨k.os.trans h.os, k.tape.trans h.tape, k.output.trans h.output, Nat.le_trans h.size k.size, fun i hi => (k.block i (Nat.lt_of_lt_of_le hi h.size) (fun e => by have := hn i e; omega)).trans (h.block i hi)⟩
theorem Bq.kp {N : Nat → Prop} {W W' : World} {b : Nat} {t : TypeId} {vs : Array Value} (h : Bq W b t vs) (k : Kp N W W') (hn : ¬ N b) : Bq W' b t vs := (k.block b h.lt hn).trans h

theorem owns_kp {N : Nat → Prop} {W W' : World} {B E k n : Nat} {v : Value} {C : List Value} (h : W.ownsRow B E k v n C) (kp : Kp N W W') (hn : ∀ i, v.ownBlock = some i → ¬ N i) : W'.ownsRow B E k v n C := by
  obtain ⟨hl, (h | ⟨g, cap, cur, rfl, hbg, hg, hr⟩)⟩ := h
  · exact ⟨hl, .inl h⟩
  · exact ⟨hl, .inr ⟨g, cap, cur, rfl, hbg, (kp.block g (Array.getElem?_eq_some_iff.1 hg).1 (hn g rfl)).trans hg, hr⟩⟩
theorem owns_form {W : World} {B E k n : Nat} {v : Value} {C : List Value} (h : W.ownsRow B E k v n C) : ∃ a c, v = .slice a n c := by
  obtain ⟨_, (⟨rfl, hn⟩ | ⟨g, cap, cur, rfl, _⟩)⟩ := h
  · exact ⟨none, 0, by rw [hn]⟩
  · exact ⟨_, _, rfl⟩

theorem owns_wk {W : World} {B B' E k n : Nat} {v : Value} {C : List Value} (h : W.ownsRow B E k v n C) (hb : B' ≤ B) : W.ownsRow B' E k v n C := by
  obtain ⟨h1, h2⟩ := h
  refine ⟨h1, ?_⟩
  rcases h2 with h2 | ⟨g, cap, cur, e, hbg, hg, hc1, hc2, hc3, hc4⟩
  · exact .inl h2
  · exact .inr ⟨g, cap, cur, e, Nat.le_trans hb hbg, hg, hc1, hc2, hc3, hc4⟩
theorem owns_some {W : World} {B E k n : Nat} {v : Value} {C : List Value} (h : W.ownsRow B E k v n C) (hn : 0 < n) : ∃ g c, v = .slice (some ⟨g, 0, none⟩) n c ∧ n ≤ c ∧ ∃ cur, Bq W g E cur := by
  obtain ⟨_, (⟨_, h0⟩ | ⟨g, cap, cur, e, _, hg, hc, _⟩)⟩ := h
  · omega
  · exact ⟨g, cap, e, hc, cur, hg⟩
theorem wpList_append_eq {w : World} {ops : Array Oper} {rest : List Oper} {o : Oper} {a : Act} {Q : Exit → Act → World → Prop} (hgd : o.guard = none) (s x : Operand) (t t' : TypeId)
    (ho : o.op = .call { callee := .builtin .append, args := #[s, x], argTypes := #[t, t'] }) (v u v' : Value) (w' : World) (hs : a.eval s = v) (hx : a.eval x = u) (hr : (Builtin.append_ #[t, t'] o.type #[v, u]).run Tryz.prog w = .ok v' w')
    (h : wpList Tryz.prog ops Q rest (a.put o.dst v') w') : wpList Tryz.prog ops Q (o :: rest) a w := by
  refine wpList_plain hgd fun K hK => ?_
  unfold Oper.wp execOp
  simp only [ho, resolve, invoke, builtin, Sem.run_bind, Sem.run_pure, Result.andThen_ok, List.map_toArray, List.map_cons, List.map_nil, hs, hx, hr]
  exact hK _ _ h
def in64 (n : Int) : Prop := -9223372036854775808 ≤ n ∧ n ≤ 9223372036854775807
theorem wf64 {n : Int} (h : (Lit.int .i64 n).wf = true) : in64 n := by
  simp [Lit.wf, IntKind.min, IntKind.max, IntKind.bits, IntKind.signed] at h
  unfold in64
  omega
theorem mk_each {α : Type} [Inhabited α] {enc : α → List Value} {k : Nat} (hk : ∀ x, (enc x).length = k) (k0 : 0 < k) {Pr : α → Prop} {w : World} {ad : Addr} {len cap : Nat} (hlc : len ≤ cap)
    (each : ∀ i, i < len → ∃ e : α, (∀ q x, (enc e)[q]? = some x → w.cell? (ad.add (i * k + q)) = some x) ∧ Pr e) : ∃ l : List α, RC w (.slice (some ad) len cap) l.length (flat enc l) ∧ l.length = len ∧ ∀ e ∈ l, Pr e := by
  obtain ⟨q, hq⟩ := Go.Deep.choose_lt each
  have hll : ((List.range len).map q).length = len := by simp
  refine ⟨(List.range len).map q, ?_, hll, fun e he => ?_⟩
  · by_cases h0 : len = 0
    · subst h0; exact .inl ⟨by simp, _, _, rfl⟩
    · obtain ⟨b, off, spot⟩ := ad
      have h00 : ∃ x, (enc (q 0))[0]? = some x := ⟨(enc (q 0))[0]'(by rw [hk]; exact k0), List.getElem?_eq_getElem _⟩
      obtain ⟨x0, hx0⟩ := h00
      have hc0 := (hq 0 (by omega)).1 0 x0 hx0
      have hspot : spot = none := by simpa [Addr.add] using World.cell?_spot hc0
      subst hspot
      rw [Go.WideShapes.add_plain] at hc0
      rw [hll]
      refine .inr ⟨b, off, cap, rfl, hlc, cell_lt hc0, fun j x hx => ?_⟩
      obtain ⟨e, he1, he2⟩ := flat_at hk k0 hx
      have hj : j / k < len := by have := (List.getElem?_eq_some_iff.1 he1).1; rwa [hll] at this
      have hje : q (j / k) = e := by
        rw [List.getElem?_map, List.getElem?_range hj] at he1
        simpa using he1
      have := (hq (j / k) hj).1 (j % k) x (by rw [hje]; exact he2)
      rw [Go.WideShapes.add_plain, show j / k * k + j % k = j by have := Nat.div_add_mod j k; rw [Nat.mul_comm] at this; exact this] at this
      exact this
  · obtain ⟨j, hj, rfl⟩ := List.mem_map.1 he
    exact (hq j (List.mem_range.1 hj)).2


/-- a word's cells -/
def encW (x : It) : List Value := [.int .i64 (x.w.k : Int), .string x.w.t, .int .i64 x.w.n, .int .i64 (x.w.a : Int), .int .i64 (x.ln : Int)]
theorem encW_len (x : It) : (encW x).length = 5 := rfl
/-- a row of words of one's own -/
def OwW (W : World) (B : Nat) (v : Value) (l : List It) : Prop := W.ownsRow B 73 5 v l.length (flat encW l)
theorem info_parts5 {P : Program} {t : TypeId} {z : Value} {a b : Nat} (h : (P.info? t).map (fun i => (i.zero, i.size, i.bytes)) = some (some z, a, b)) : ∃ i, P.info? t = some i ∧ i.zero = some z ∧ i.size = a ∧ i.bytes = b := by
  cases hi : P.info? t with
  | none => rw [hi] at h; cases h
  | some i =>
    rw [hi] at h
    simp at h
    exact ⟨i, rfl, h.1, h.2.1, h.2.2⟩
theorem infoWd : (Tryz.prog.info? 73).map (fun i => (i.zero, i.size, i.bytes)) = some (some (.agg #[.int .i64 0, .string ⟨#[]⟩, .int .i64 0, .int .i64 0, .int .i64 0]), 5, 48) := by kernel_rfl
/-- append(l, x) of a word -/
theorem append_word (w : World) (ty : TypeId) (N : Nat) (v : Value) (l : List It) (x : It) (nb : Nat) (h : OwW w N v l) (hbx : Bq w nb 73 (encW x).toArray) (hN : N ≤ w.heap.size) (hl : l.length ≤ 1000000) :
    ∃ v' w', (Builtin.append_ #[66, 66] ty #[v, .slice (some ⟨nb, 0, none⟩) 1 1]).run Tryz.prog w = .ok v' w' ∧ OwW w' N v' (l ++ [x]) ∧ w.grownBy w' v.ownBlock ∧ (v'.ownBlock = v.ownBlock ∨ v'.ownBlock = some w.heap.size) := by
  obtain ⟨i0, hi, hz0, hz1, hz2⟩ := info_parts5 infoWd
  obtain ⟨v', w', h1, h2, h3, h4, h5⟩ := run_append_own_at (P := Tryz.prog) w N 66 ty 73 i0 _ 5 48 Tryz.underlying66 hi hz0 hz1 hz2 rfl (by decide) v l.length _ h ⟨nb, 0, none⟩ 1 1 (encW x) rfl (fun j u hu => by
    rw [Addr.add_lit, Nat.zero_add]
    exact hbx.cell j u (by rw [← hu]; simp)) (fun u hu => by simp [encW] at hu; rcases hu with rfl | rfl | rfl | rfl | rfl <;> rfl) (by unfold maxLen; omega) (by omega) (by first | omega | (simp; omega))
  refine ⟨v', w', h1, ?_, h3, h5⟩
  unfold OwW
  rw [flat_append, List.length_append]
  simpa [flat] using h2

/-- an item of the law's -/
structure Im where
  kind : Int
  text : ByteArray
  num : Int
  ahead : Int
  en : Int
def encI (s : Im) : List Value := [.int .i64 s.kind, .string s.text, .int .i64 s.num, .int .i64 s.ahead, .int .i64 s.en]
theorem encI_len (s : Im) : (encI s).length = 5 := rfl
structure ImW (s : Im) : Prop where
  kin : in64 s.kind
  num : in64 s.num
  ahe : in64 s.ahead
  en : in64 s.en
  txt : s.text.size ≤ maxLen
def RIm (W : World) (v : Value) (l : List Im) : Prop := RC W v l.length (flat encI l)
theorem RIm.below {W W' : World} {v : Value} {l : List Im} (h : RIm W v l) (hb : Below W.heap.size W W') : RIm W' v l := RC.below h hb
theorem RIm.at {W : World} {a : Option Addr} {n c : Nat} {l : List Im} (h : RIm W (.slice a n c) l) {i : Nat} {e : Im} (hi : l[i]? = some e) : ∃ b off, a = some ⟨b, off, none⟩ ∧ b < W.heap.size ∧ W.cell? ⟨b, off + i * 5, none⟩ = some (.int .i64 e.kind) ∧ W.cell? ⟨b, off + i * 5 + 1, none⟩ = some (.string e.text) ∧ W.cell? ⟨b, off + i * 5 + 2, none⟩ = some (.int .i64 e.num) ∧ W.cell? ⟨b, off + i * 5 + 3, none⟩ = some (.int .i64 e.ahead) ∧ W.cell? ⟨b, off + i * 5 + 4, none⟩ = some (.int .i64 e.en) := by
  have hl := (List.getElem?_eq_some_iff.1 hi).1
  rcases h with ⟨h0, _⟩ | ⟨b, off, cap, e', h1, h2, hc⟩
  · omega
  · simp at e'
    obtain ⟨rfl, _⟩ := e'
    have f := fun q (hq : q < 5) v (hv : (encI e)[q]? = some v) => hc (i * 5 + q) v ((flat_get encI_len l i q e hi hq).trans hv)
    exact ⟨b, off, rfl, h2, f 0 (by omega) _ rfl, f 1 (by omega) _ rfl, f 2 (by omega) _ rfl, f 3 (by omega) _ rfl, f 4 (by omega) _ rfl⟩
end Go.Proofs.YtkndjbmlkfpfoaaGreatDoor

/-
  The words that are wanted, in memory, one by one.
-/
set_option linter.unusedSimpArgs false
set_option linter.unusedVariables false
namespace Go.Proofs.YtkndjbmlkfpfoaaGreatDoor
open Go.RowKit Go.Lib

structure WS (w W : World) (v : Value) (l : List It) : Prop where
  bel : Below w.heap.size w W
  bx : Bq W w.heap.size 66 #[v]
  ow : OwW W (w.heap.size + 1) v l
variable {w W W' : World} {v : Value} {l : List It}
theorem WS.lt (h : WS w W v l) {k : Nat} (hk : v.ownBlock = some k) : w.heap.size < k ∧ k < W.heap.size := by
  have := h.ow.lt k hk
  omega
theorem WS.below (h : WS w W v l) (hb : Below W.heap.size W W') : WS w W' v l :=
  ⟨bnext h.bel hb, h.bx.keep hb h.bx.lt, owns_kp (N := fun _ => False) h.ow (Kp.of_below hb) (fun _ _ e => e)⟩
theorem WS.set (h : WS w W v l) (p : Addr) (hp : w.heap.size < p.block) (hv : ∀ k, v.ownBlock = some k → k ≠ p.block) (u : Value) : WS w (W.setCell p u) v l :=
  ⟨h.bel.setCell (by omega) u, h.bx.setO p (by omega) u, owns_kp (N := fun i => i = p.block) h.ow (Kp.set W p u rfl) (fun i hi e => hv i hi e)⟩
theorem WS.new (w : World) : WS w (w.alloc (.cells #[.slice none 0 0] 66)) (.slice none 0 0) [] :=
  ⟨(Below.refl _ _).alloc (Nat.le_refl _) _, Bq.new _ _ _, World.ownsRow_nil _ _ _ _⟩
theorem WS.form (h : WS w W v l) : ∃ a c, v = .slice a l.length c := owns_form h.ow
/-- one word more -/
theorem WS.push (h : WS w W v l) (ty : TypeId) (x : It) {X : World} {nb : Nat} (hX : Below W.heap.size W X) (hbx : Bq X nb 73 (encW x).toArray) (hl : l.length ≤ 1000000) {L : Nat} (hL : l.length = L) :
    ∃ (a' : Option Addr) (c' : Nat) (X' X2 : World), (Builtin.append_ #[66, 66] ty #[v, .slice (some ⟨nb, 0, none⟩) 1 1]).run Tryz.prog X = .ok (.slice a' (L + 1) c') X' ∧ X'.cell? ⟨w.heap.size, 0, none⟩ = some v ∧ X'.frozen? ⟨w.heap.size, 0, none⟩ = false ∧ w.heap.size < X'.heap.size ∧
      X'.setCell ⟨w.heap.size, 0, none⟩ (.slice a' (L + 1) c') = X2 ∧ Hid (WS w X2 (.slice a' (L + 1) c') (l ++ [x]) ∧ Kp (fun i => i = w.heap.size ∨ v.ownBlock = some i) X X2) := by
  subst hL
  have h' := h.below hX
  have hN := h'.bx.lt
  obtain ⟨v', X', h1, h2, h3, h4⟩ := append_word X ty (w.heap.size + 1) v l x nb h'.ow hbx (by omega) hl
  have k := Kp.of_grown (N := fun k => v.ownBlock = some k) h3 (fun k hk => hk)
  have B' : Bq X' w.heap.size 66 #[v] := (k.block _ hN (fun e => by have := h'.lt e; omega)).trans h'.bx
  obtain ⟨a', c', e⟩ := owns_form h2
  rw [List.length_append] at e
  have e' : v' = .slice a' (l.length + 1) c' := e
  subst e'
  have k2 : Kp (fun i => i = w.heap.size) X' (X'.setCell ⟨w.heap.size, 0, none⟩ (.slice a' (l.length + 1) c')) := Kp.set X' _ _ rfl
  refine ⟨a', c', X', _, h1, B'.cell 0 _ rfl, B'.frozen 0, B'.lt, rfl, hide ⟨⟨?_, B'.set _, ?_⟩, ?_⟩⟩
  · exact (k.below h'.bel (fun i hi => by have := h'.lt hi; omega)).setCell (Nat.le_refl _) _
  · exact owns_kp h2 k2 (fun i hi e => by have := h2.lt i hi; omega)
  · exact (k.wk (fun i hi => .inr hi)).trans k2 (fun i hi => .inl (.inl hi))
theorem WS.row {a : Option Addr} {L c : Nat} (h : WS w W (.slice a L c) l) : ∀ j u, (flat encW l)[j]? = some u → ∃ g, g < W.heap.size ∧ a = some ⟨g, 0, none⟩ ∧ W.cell? ⟨g, j, none⟩ = some u := by
  intro j u hu
  have h0 := h.ow
  obtain ⟨hl, (⟨e, hn⟩ | ⟨g, cap, cur, e, hbg, hg, hc1, hc2, hc3, hc4⟩)⟩ := h.ow
  · have hj := (List.getElem?_eq_some_iff.1 hu).1
    rw [hl, hn] at hj
    omega
  · have hj := (List.getElem?_eq_some_iff.1 hu).1
    cases e
    exact ⟨g, (Array.getElem?_eq_some_iff.1 hg).1, rfl, (World.ownsRow.cellAt h0 j (by omega)).trans hu⟩
theorem Bq.sets {W : World} {b : Nat} {t : TypeId} {vs : Array Value} (h : Bq W b t vs) (j : Nat) (v : Value) : Bq (W.setCell ⟨b, j, none⟩ v) b t (vs.setIfInBounds j v) := by
  have e : W.heap[b]? = some (.cells vs t (0, 0)) := h
  unfold Bq
  simp [World.setCell, e, Array.getElem?_modify]
theorem step_append_eq {ops : Array Oper} {o : Oper} {a : Act} {w w' : World} {K : Act → World → Prop} {Q : Exit → Act → World → Prop} {E : Prop} (hg : o.guard = none) (s x : Operand) (t : TypeId) (hop : o.op = Op.call { callee := Callee.builtin Builtin.append, args := #[s, x], argTypes := #[t, t] })
    (v u v' : Value) (hs : a.eval s = v) (hx : a.eval x = u) (hr : (Builtin.append_ #[t, t] o.type #[v, u]).run Tryz.prog w = .ok v' w') (hK : K (a.put o.dst v') w') : if Region.wanted o (yielded ops a.tmps) = true then Oper.wp Tryz.prog o a w K Q else E := by
  have hw : Region.wanted o (yielded ops a.tmps) = true := by simp [Region.wanted, hg]
  rw [if_pos hw]
  unfold Oper.wp
  simp [execOp, hop, resolve, invoke, builtin, hs, hx, hr, Result.andThen]
  exact hK
theorem size_set (W : World) (p : Addr) (v : Value) : (W.setCell p v).heap.size = W.heap.size := by simp

end Go.Proofs.YtkndjbmlkfpfoaaGreatDoor

/-
  Rows of strings: what they are in memory, one more, many more.
-/
set_option linter.unusedSimpArgs false
set_option linter.unusedVariables false
namespace Go.Proofs.YtkndjbmlkfpfoaaGreatDoor
open Go.RowKit Go.Lib

def enT (t : List UInt8) : List Value := [.string (ofL t)]
theorem enT_len (t : List UInt8) : (enT t).length = 1 := rfl
def RT (W : World) (v : Value) (l : List (List UInt8)) : Prop := RC W v l.length (flat enT l)
def OT (W : World) (B : Nat) (v : Value) (l : List (List UInt8)) : Prop := W.ownsRow B 9 1 v l.length (flat enT l)
theorem RT.below {W W' : World} {v : Value} {l : List (List UInt8)} (h : RT W v l) (hb : Below W.heap.size W W') : RT W' v l := RC.below h hb
theorem OT.rt {W : World} {B : Nat} {v : Value} {l : List (List UInt8)} (h : OT W B v l) : RT W v l := RC.of_owns h
theorem OT.kp {N : Nat → Prop} {W W' : World} {B : Nat} {v : Value} {l : List (List UInt8)} (h : OT W B v l) (k : Kp N W W') (hn : ∀ i, B ≤ i → ¬ N i) : OT W' B v l :=
  owns_kp h k (fun i hi => hn i (World.ownsRow.lt h i hi).1)
theorem OT.below {W W' : World} {B : Nat} {v : Value} {l : List (List UInt8)} (h : OT W B v l) (hb : Below W.heap.size W W') : OT W' B v l := owns_kp (N := fun _ => False) h (Kp.of_below hb) (fun _ _ e => e)
theorem OT.nil (W : World) (B : Nat) : OT W B (.slice none 0 0) [] := World.ownsRow_nil _ _ _ _
theorem OT.one (W : World) (t : List UInt8) : OT (W.alloc (.cells #[.string (ofL t)] 9)) W.heap.size (.slice (some ⟨W.heap.size, 0, none⟩) 1 1) [t] := by
  refine ⟨rfl, .inr ⟨W.heap.size, 1, #[.string (ofL t)], rfl, Nat.le_refl _, (Bq.new W 9 #[.string (ofL t)]), ?_⟩⟩
  simp [flat, enT]
  unfold maxLen
  omega
theorem flat_one (l : List (List UInt8)) : ∀ u ∈ flat enT l, u.oneCell' = true := fun u hu => by
  obtain ⟨x, _, h⟩ := flat_mem hu
  simp [enT] at h
  subst h
  rfl
theorem flatT_len (l : List (List UInt8)) : (flat enT l).length = l.length := by rw [flat_len enT_len, Nat.mul_one]
theorem infoT : (Tryz.prog.info? 9).map (fun i => (i.zero, i.size, i.bytes)) = some (some (.string ⟨#[]⟩), 1, 16) := by kernel_rfl
/-- append(l, x) -/
theorem append_txt (w : World) (ty : TypeId) (N : Nat) (v : Value) (l : List (List UInt8)) (t : List UInt8) (nb : Nat) (h : OT w N v l) (hbx : Bq w nb 9 #[.string (ofL t)]) (hN : N ≤ w.heap.size) (hl : l.length ≤ 100000000) :
    ∃ v' w', (Builtin.append_ #[96, 96] ty #[v, .slice (some ⟨nb, 0, none⟩) 1 1]).run Tryz.prog w = .ok v' w' ∧ OT w' N v' (l ++ [t]) ∧ w.grownBy w' v.ownBlock ∧ (v'.ownBlock = v.ownBlock ∨ v'.ownBlock = some w.heap.size) := by
  obtain ⟨i0, hi, hz0, hz1, hz2⟩ := info_parts5 infoT
  obtain ⟨v', w', h1, h2, h3, h4, h5⟩ := run_append_own_at (P := Tryz.prog) w N 96 ty 9 i0 _ 1 16 Tryz.underlying96 hi hz0 hz1 hz2 rfl (by decide) v l.length _ h ⟨nb, 0, none⟩ 1 1 (enT t) rfl (fun j u hu => by
    rw [Addr.add_lit, Nat.zero_add]
    exact hbx.cell j u (by rw [← hu]; simp [enT])) (fun u hu => by simp [enT] at hu; subst hu; rfl) (by unfold maxLen; omega) (by omega) (by first | omega | (simp; omega))
  refine ⟨v', w', h1, ?_, h3, h5⟩
  unfold OT
  rw [flat_append, List.length_append]
  simpa [flat] using h2
/-- append(l, m...) -/
theorem append_txts (w : World) (ty : TypeId) (N : Nat) (v u : Value) (l m : List (List UInt8)) (h : OT w N v l) (hu : RT w u m) (hN : N ≤ w.heap.size) (hl : l.length ≤ 100000000) (hm : m.length ≤ 100000000) :
    ∃ v' w', (Builtin.append_ #[96, 96] ty #[v, u]).run Tryz.prog w = .ok v' w' ∧ OT w' N v' (l ++ m) ∧ w.grownBy w' v.ownBlock := by
  obtain ⟨i0, hi, hz0, hz1, hz2⟩ := info_parts5 infoT
  have step : ∀ (ad : Addr) (cc : Nat), u = .slice (some ad) m.length cc → (∀ j x, (flat enT m)[j]? = some x → w.cell? (ad.add j) = some x) → ∃ v' w', (Builtin.append_ #[96, 96] ty #[v, u]).run Tryz.prog w = .ok v' w' ∧ OT w' N v' (l ++ m) ∧ w.grownBy w' v.ownBlock := by
    rintro ad cc rfl hc
    obtain ⟨v', w', q1, q2, q3, q4, _⟩ := run_append_own_at (P := Tryz.prog) w N 96 ty 9 i0 _ 1 16 Tryz.underlying96 hi hz0 hz1 hz2 rfl (by decide) v l.length (flat enT l) h ad m.length cc (flat enT m) (by rw [flatT_len]; omega) hc (flat_one m) (by unfold maxLen; omega) (by omega) hN
    refine ⟨v', w', q1, ?_, q3⟩
    unfold OT
    rw [flat_append, List.length_append]
    exact q2
  rcases hu with ⟨h0, a, cap, rfl⟩ | ⟨b, off, cap, rfl, _, _, hc⟩
  · have e : m = [] := List.eq_nil_of_length_eq_zero h0
    subst e
    cases a with
    | some ad => exact step ad cap rfl (fun j x hx => by simp [flat] at hx)
    | none =>
      rcases h.2 with ⟨rfl, e0⟩ | ⟨g, cg, cur, rfl, hbg, hg, h1, h2, h3, h4⟩
      · refine ⟨.slice none 0 0, w, ?_, by simpa using h, ⟨rfl, rfl, rfl, Nat.le_refl _, fun _ _ _ => rfl⟩⟩
        simp [Builtin.append_, run_underlying Tryz.underlying96, sizeOf, typeInfo, hi, Builtin.lenOf, Builtin.firstCells, storeCells]
      · refine ⟨.slice (some ⟨g, 0, none⟩) l.length cg, w, ?_, by simpa using h, ⟨rfl, rfl, rfl, Nat.le_refl _, fun _ _ _ => rfl⟩⟩
        simp [Builtin.append_, run_underlying Tryz.underlying96, sizeOf, typeInfo, hi, Builtin.lenOf, Builtin.firstCells, storeCells, h1]
  · exact step ⟨b, off, none⟩ cap rfl (fun j x hx => by rw [Addr.add_lit]; exact hc j x hx)
theorem RT.at {W : World} {a : Option Addr} {n c : Nat} {l : List (List UInt8)} (h : RT W (.slice a n c) l) {i : Nat} {t : List UInt8} (hi : l[i]? = some t) : ∃ b off, a = some ⟨b, off, none⟩ ∧ b < W.heap.size ∧ W.cell? ⟨b, off + i, none⟩ = some (.string (ofL t)) := by
  rcases h with ⟨h0, _⟩ | ⟨b, off, cap, e, hn, hlt, hc⟩
  · have := (List.getElem?_eq_some_iff.1 hi).1; omega
  · simp at e
    exact ⟨b, off, e.1, hlt, hc i _ (by have := flat_get enT_len l i 0 t hi (by omega); rw [Nat.mul_one, Nat.add_zero] at this; rw [this]; rfl)⟩
end Go.Proofs.YtkndjbmlkfpfoaaGreatDoor

/-
  The library's contract of strconv.Itoa, laid at this program's numbers.
-/
namespace Go.Proofs.YtkndjbmlkfpfoaaGreatDoor
open Go.Shelf Go.RowKit

set_option maxRecDepth 100000

def sh171_ren : Go.Shelf.Ren := ⟨fun | 129 => 140 | 171 => 73 | 243 => 93 | 246 => 112 | 283 => 123 | 284 => 124 | 285 => 125 | 286 => 126 | 317 => 139 | 318 => 141 | 319 => 142 | 320 => 143 | 337 => 152 | 338 => 153 | n => n, fun | 0 => 0 | 2 => 2 | 3 => 3 | 4 => 4 | 5 => 5 | 9 => 9 | 20 => 20 | 37 => 38 | 46 => 198 | 51 => 214 | 53 => 179 | 171 => 193 | 173 => 196 | 212 => 213 | 213 => 215 | 232 => 232 | 233 => 233 | n => n, fun | 17 => 0 | 18 => 3 | 19 => 4 | n => n⟩
theorem sh171 : Go.Proofs.LaysM.n171 Tryz.prog sh171_ren := {
  mixed := by kernel_rfl
  f129 := Tryz.func140.trans (congrArg some (by kernel_rfl))
  f171 := Tryz.func73.trans (congrArg some (by kernel_rfl))
  f243 := Tryz.func93.trans (congrArg some (by kernel_rfl))
  f246 := Tryz.func112.trans (congrArg some (by kernel_rfl))
  f283 := Tryz.func123.trans (congrArg some (by kernel_rfl))
  f284 := Tryz.func124.trans (congrArg some (by kernel_rfl))
  f285 := Tryz.func125.trans (congrArg some (by kernel_rfl))
  f286 := Tryz.func126.trans (congrArg some (by kernel_rfl))
  f317 := Tryz.func139.trans (congrArg some (by kernel_rfl))
  f318 := Tryz.func141.trans (congrArg some (by kernel_rfl))
  f319 := Tryz.func142.trans (congrArg some (by kernel_rfl))
  f320 := Tryz.func143.trans (congrArg some (by kernel_rfl))
  f337 := Tryz.func152.trans (congrArg some (by kernel_rfl))
  f338 := Tryz.func153.trans (congrArg some (by kernel_rfl))
  t0 := Tryz.underlying0
  a0 := Tryz.isAgg0
  z0 := Tryz.sizeOf0
  v0 := Tryz.zeroValue0
  t2 := Tryz.underlying2
  a2 := Tryz.isAgg2
  z2 := Tryz.sizeOf2
  v2 := Tryz.zeroValue2
  t3 := Tryz.underlying3
  a3 := Tryz.isAgg3
  z3 := Tryz.sizeOf3
  v3 := Tryz.zeroValue3
  t4 := Tryz.underlying4
  a4 := Tryz.isAgg4
  z4 := Tryz.sizeOf4
  v4 := Tryz.zeroValue4
  t5 := Tryz.underlying5
  a5 := Tryz.isAgg5
  z5 := Tryz.sizeOf5
  v5 := Tryz.zeroValue5
  t9 := Tryz.underlying9
  a9 := Tryz.isAgg9
  z9 := Tryz.sizeOf9
  v9 := Tryz.zeroValue9
  t20 := Tryz.underlying20
  a20 := Tryz.isAgg20
  z20 := Tryz.sizeOf20
  v20 := Tryz.zeroValue20
  t37 := Tryz.underlying38
  a37 := Tryz.isAgg38
  z37 := Tryz.sizeOf38
  v37 := Tryz.zeroValue38
  t46 := Tryz.underlying198
  a46 := Tryz.isAgg198
  z46 := Tryz.sizeOf198
  v46 := Tryz.zeroValue198
  t51 := Tryz.underlying214
  a51 := Tryz.isAgg214
  z51 := Tryz.sizeOf214
  v51 := Tryz.zeroValue214
  t53 := Tryz.underlying179
  a53 := Tryz.isAgg179
  z53 := Tryz.sizeOf179
  v53 := Tryz.zeroValue179
  t171 := Tryz.underlying193
  a171 := Tryz.isAgg193
  z171 := Tryz.sizeOf193
  v171 := Tryz.zeroValue193
  t173 := Tryz.underlying196
  a173 := Tryz.isAgg196
  z173 := Tryz.sizeOf196
  v173 := Tryz.zeroValue196
  t212 := Tryz.underlying213
  a212 := Tryz.isAgg213
  z212 := Tryz.sizeOf213
  v212 := Tryz.zeroValue213
  t213 := Tryz.underlying215
  a213 := Tryz.isAgg215
  z213 := Tryz.sizeOf215
  t232 := Tryz.underlying232
  a232 := Tryz.isAgg232
  z232 := Tryz.sizeOf232
  v232 := Tryz.zeroValue232
  t233 := Tryz.underlying233
  a233 := Tryz.isAgg233
  z233 := Tryz.sizeOf233
  v233 := Tryz.zeroValue233
  g17 := by kernel_rfl
  g18 := by kernel_rfl
  g19 := by kernel_rfl
  i0 := by kernel_rfl
  i2 := by kernel_rfl
  i3 := by kernel_rfl
  i4 := by kernel_rfl
  i5 := by kernel_rfl
  i9 := by kernel_rfl
  i20 := by kernel_rfl
  i37 := by kernel_rfl
  i46 := by kernel_rfl
  i51 := by kernel_rfl
  i53 := by kernel_rfl
  i171 := by kernel_rfl
  i173 := by kernel_rfl
  i212 := by kernel_rfl
  i232 := by kernel_rfl
  i233 := by kernel_rfl
  m17 := by kernel_rfl
  m18 := by kernel_rfl
  m19 := by kernel_rfl }

end Go.Proofs.YtkndjbmlkfpfoaaGreatDoor

/-
  What script.numbers, named, when, quoted and dots answer.
-/
set_option linter.unusedSimpArgs false
set_option linter.unusedVariables false
namespace Go.Proofs.YtkndjbmlkfpfoaaGreatDoor
open Go.RowKit Go.Lib

/-- rows of numbers, of Dots -/
def enN (n : Int) : List Value := [.int .i64 n]
def enD (d : Int × Int) : List Value := [.int .i64 d.1, .int .i64 d.2]
def RNm (W : World) (v : Value) (l : List Int) : Prop := RC W v l.length (flat enN l)
def RDt (W : World) (v : Value) (l : List (Int × Int)) : Prop := RC W v l.length (flat enD l)
theorem RNm.at {W : World} {a : Option Addr} {n c : Nat} {l : List Int} (h : RNm W (.slice a n c) l) {i : Nat} {x : Int} (hi : l[i]? = some x) : ∃ b off, a = some ⟨b, off, none⟩ ∧ b < W.heap.size ∧ W.cell? ⟨b, off + i, none⟩ = some (.int .i64 x) := by
  rcases h with ⟨h0, _⟩ | ⟨b, off, cap, e, hn, hlt, hc⟩
  · have := (List.getElem?_eq_some_iff.1 hi).1; omega
  · simp at e
    exact ⟨b, off, e.1, hlt, hc i _ (by have := flat_get (enc := enN) (k := 1) (fun _ => rfl) l i 0 x hi (by omega); rw [Nat.mul_one, Nat.add_zero] at this; rw [this]; rfl)⟩
theorem RDt.at {W : World} {a : Option Addr} {n c : Nat} {l : List (Int × Int)} (h : RDt W (.slice a n c) l) {i : Nat} {x : Int × Int} (hi : l[i]? = some x) : ∃ b off, a = some ⟨b, off, none⟩ ∧ b < W.heap.size ∧ W.cell? ⟨b, off + i * 2, none⟩ = some (.int .i64 x.1) ∧ W.cell? ⟨b, off + i * 2 + 1, none⟩ = some (.int .i64 x.2) := by
  rcases h with ⟨h0, _⟩ | ⟨b, off, cap, e, hn, hlt, hc⟩
  · have := (List.getElem?_eq_some_iff.1 hi).1; omega
  · simp at e
    refine ⟨b, off, e.1, hlt, ?_, ?_⟩
    · exact hc _ _ ((flat_get (enc := enD) (k := 2) (fun _ => rfl) l i 0 x hi (by omega)).trans rfl)
    · rw [Nat.add_assoc]; exact hc _ _ ((flat_get (enc := enD) (k := 2) (fun _ => rfl) l i 1 x hi (by omega)).trans rfl)

theorem Itoa_in (n : Int) (h : in64 n) (w : World) (hL : Lw w) : Calls Tryz.prog 73 #[.int .i64 n] w fun e W => e = .returned (.string (ofL (itoa n))) ∧ Below w.heap.size w W := by
  obtain ⟨ty, lk, hP⟩ := hL.2.2.2.1
  refine (Any.strconv_Itoa sh171 n h.1 h.2 w ?_).mono ?_
  · unfold Lib.TabIs World.var?
    rw [sh171.m17]
    show (match w.heap[0]? with | some (.cells cs _ _) => some cs | _ => none) = _
    rw [hP]
  · rintro e w' ⟨rfl, k, os, rfl⟩
    exact ⟨rfl, below_grow w k os⟩

/-- what a call that makes a row of words answers -/
def MkT (w : World) (l : List (List UInt8)) (e : Ending) (W : World) : Prop := ∃ u, e = .returned u ∧ OT W w.heap.size u l ∧ Below w.heap.size w W

set_option maxRecDepth 100000 in
set_option maxHeartbeats 2000000 in
theorem numbers_in (l : List Int) (v : Value) (w : World) (h : RNm w v l) (hl : l.length ≤ 1000000) (hi : ∀ x ∈ l, in64 x) (hL : Lw w) :
    Calls Tryz.prog 34 #[v] w (MkT w (l.map itoa)) := by
  obtain ⟨a0, c0, rfl⟩ := h.form
  obtain ⟨L, hLn⟩ : ∃ L, l.length = L := ⟨_, rfl⟩
  have hat := fun i x hx => RNm.at h (i := i) (x := x) hx
  rw [hLn] at hl ⊢
  have HAT := hide hat
  have HLn := hide hLn
  have HI := hide hi
  have HL := hide hL
  clear hat hLn h hi hL
  go_enter Tryz.func34, Tryz.ntmps34
  go_wp2_with fail
  go_loopw [3, 5, 8] (fun v3 v5 v8 wr => ∃ (j c : Nat) (a : Option Addr), v8 = .int .i64 (j : Int) ∧ v3 = .slice a j c ∧ j ≤ L ∧ Hid (OT wr w.heap.size (.slice a j c) ((l.take j).map itoa) ∧ Below w.heap.size w wr)) (fun _ _ v8 _ => L - (RowKit.intOf v8).toNat)
  case atStart => exact ⟨0, 0, none, rfl, rfl, Nat.zero_le _, hide ⟨OT.nil _ _, Below.refl _ _⟩⟩
  case round =>
    obtain ⟨j, c, a, rfl, rfl, hj, H⟩ := hrel
    by_cases hjl : j < L
    · obtain ⟨x, hx⟩ : ∃ x, l[j]? = some x := ⟨_, List.getElem?_eq_getElem (by rw [unhide HLn]; exact hjl)⟩
      obtain ⟨b, off, rfl, hblt, hcell⟩ := unhide HAT j x hx
      have hc2 := cell_below hcell (unhide H).2
      have k1 : (j : Int) < (L : Int) := by omega
      have k2 : (0 : Int) ≤ (j : Int) := by omega
      have hit := hide (Itoa_in x (unhide HI x (List.mem_of_getElem? hx)) wr ((unhide HL).below (unhide H).2))
      have HX := hide hx
      clear hcell hx
      go_wp2_with fail
      refine (unhide hit).mono ?_
      rintro e W2 ⟨rfl, hb2⟩
      have hb3 := bnext (unhide H).2 hb2
      have ho3 := (unhide H).1.below hb2
      have hb4 := ballc hb3 (.cells #[.string (ofL (itoa x))] 9)
      have ho4 := ho3.below (ballc (Below.refl _ W2) (.cells #[.string (ofL (itoa x))] 9))
      have hbx := Bq.new W2 9 #[.string (ofL (itoa x))]
      obtain ⟨v', w', q1, q2, q3, q4⟩ := append_txt (W2.alloc (.cells #[.string (ofL (itoa x))] 9)) 96 w.heap.size (.slice a j c) ((l.take j).map itoa) (itoa x) W2.heap.size ho4 hbx hb4.size (by simp; omega)
      obtain ⟨a', c', e'⟩ := owns_form q2
      have e2 : (l.take j).map itoa ++ [itoa x] = (l.take (j + 1)).map itoa := by rw [List.take_add_one, unhide HX]; simp
      have e3 : ((l.take (j + 1)).map itoa).length = j + 1 := by simp; have := unhide HLn; omega
      rw [e2] at q2 e'
      rw [e3] at e'
      subst e'
      have HN := hide (show OT w' w.heap.size (.slice a' (j + 1) c') ((l.take (j + 1)).map itoa) ∧ Below w.heap.size w w' from ⟨q2, (Kp.of_grown (N := fun k => w.heap.size ≤ k) q3 (fun k hk => (World.ownsRow.lt ho4 k hk).1)).below hb4 (fun i hi => hi)⟩)
      have HA := hide q1
      clear q1 q2 q3 q4 e2 e3 hb3 ho3 hb4 ho4 hbx hb2 hit H HX
      go_wp2_with (at_builtin; refine wpList_append_eq rfl _ _ 96 96 rfl _ _ _ _ rfl rfl (unhide HA) ?_)
      go_roundw
      case rel => exact ⟨j + 1, c', a', by go_num, rfl, by omega, HN⟩
      case measure => simp [RowKit.intOf]; omega
    · obtain rfl : j = L := by omega
      have k1 : decide ((j : Int) < (j : Int)) = false := by simp
      have e1 : l.take j = l := List.take_of_length_le (by rw [unhide HLn]; exact Nat.le_refl _)
      rw [e1] at H
      go_wp2
      go_ret
      exact ⟨_, rfl, (unhide H).1, (unhide H).2⟩
end Go.Proofs.YtkndjbmlkfpfoaaGreatDoor

/-
  What the rows' condition gives: the one cell of the library's table that is read.
-/
namespace Go.Proofs.YtkndjbmlkfpfoaaGreatDoor
open Go.RowKit Go.Lib

theorem t64 : (Tryz.prog.globals[4]?).map (·.type) = some 233 := by kernel_rfl
def zs64 : List Int := [0, 1, 56, 2, 57, 49, 28, 3, 61, 58, 42, 50, 38, 29, 17, 4, 62, 47, 59, 36, 45, 43, 51, 22, 53, 39, 33, 30, 24, 18, 12, 5, 63, 55, 48, 27, 60, 41, 37, 16, 46, 35, 44, 21, 52, 32, 23, 11, 54, 26, 40, 15, 34, 20, 31, 10, 25, 14, 19, 9, 13, 8, 7, 6]
theorem tab_of {W : World} {nm : String} {x : String × DataW Unit} {r : List (String × DataW Unit)} (g64 : Tryz.prog.globalNamed nm = some 4) (h : laidMet Tryz.prog (x :: (nm, Rows.laid_math_bits_deBruijn64tab) :: r) W) : Tab W := by
  have h1 : laidMet Tryz.prog ((nm, tabData .u8 zs64) :: r) W := h.tail
  have h2 := tabIs_of_head g64 t64 Tryz.underlying233 Tryz.underlying5 (by kernel_rfl) (by kernel_rfl) h1
  have h3 := h2.cell g64 15 (by decide)
  refine ⟨h3, ?_⟩
  unfold World.cell? at h3
  by_cases hlt : 4 < W.heap.size
  · exact hlt
  · have : W.heap[4]? = none := by simp; omega
    simp [this] at h3

end Go.Proofs.YtkndjbmlkfpfoaaGreatDoor

/-
  What the rows' condition gives: all that the scanner asks of the library's variables.
-/
set_option linter.unusedSimpArgs false
set_option linter.unusedVariables false
namespace Go.Proofs.YtkndjbmlkfpfoaaGreatDoor
open Go.RowKit Go.Lib Go.ChangeShapes

theorem t10 : (Tryz.prog.globals[0]?).map (·.type) = some 213 := by kernel_rfl
theorem tER : (Tryz.prog.globals[2]?).map (·.type) = some 137 := by kernel_rfl
theorem tES : (Tryz.prog.globals[1]?).map (·.type) = some 137 := by kernel_rfl
theorem heap_of_var {W : World} {nm : String} {g : Nat} {cs : Array Value} (hg : Tryz.prog.globalNamed nm = some g) (h : W.var? Tryz.prog nm = some cs) : ∃ ty lk, W.heap[g]? = some (.cells cs ty lk) := by
  unfold World.var? at h
  rw [hg] at h
  simp only [Option.bind_some] at h
  split at h
  · rename_i c ty lk e
    cases h
    exact ⟨ty, lk, e⟩
  · cases h
theorem lt_of_heap {W : World} {g : Nat} {o : Obj} (h : W.heap[g]? = some o) : g < W.heap.size := (Array.getElem?_eq_some_iff.1 h).1
theorem err_of {W : World} {nm tn : String} {g : Nat} {d : DataW Unit} {r : List (String × DataW Unit)} (hg : Tryz.prog.globalNamed nm = some g) (ht : (Tryz.prog.globals[g]?).map (·.type) = some 137) (h : laidMet Tryz.prog ((nm, .iface tn d) :: r) W) : ErrAt g W ∧ g < W.heap.size := by
  obtain ⟨ps, ⟨g', t', cs, fuel, p, q, hg', ht', hvar, hd, _, _⟩, _⟩ := h
  obtain rfl := Option.some.inj (hg.symm.trans hg')
  obtain rfl := Option.some.inj (ht.symm.trans ht')
  obtain ⟨ty, lk, hh⟩ := heap_of_var hg hvar
  refine ⟨?_, lt_of_heap hh⟩
  obtain ⟨_, u, v, hcs, _⟩ := iface_of_trod Tryz.underlying137 hd
  refine ⟨.iface u v, ?_, .inr ⟨u, v, rfl⟩⟩
  have hc := World.var?_cell hg hvar 0
  rw [hc]
  obtain ⟨l⟩ := cs
  simp at hcs
  subst hcs
  rfl
theorem errS_of {W : World} {nm tn : String} {d : DataW Unit} {r : List (String × DataW Unit)} (hg : Tryz.prog.globalNamed nm = some 1) (h : laidMet Tryz.prog ((nm, .iface tn d) :: r) W) : ErrS W ∧ 1 < W.heap.size := by
  obtain ⟨ps, ⟨g', t', cs, fuel, p, q, hg', ht', hvar, hd, _, _⟩, _⟩ := h
  obtain rfl := Option.some.inj (hg.symm.trans hg')
  obtain rfl := Option.some.inj (tES.symm.trans ht')
  obtain ⟨ty, lk, hh⟩ := heap_of_var hg hvar
  obtain ⟨_, u, v, hcs, _⟩ := iface_of_trod Tryz.underlying137 hd
  obtain ⟨l⟩ := cs
  simp at hcs
  subst hcs
  exact ⟨⟨u, v, ty, lk, hh⟩, lt_of_heap hh⟩
theorem lw_of {W : World} {x : String × DataW Unit} {n2 n3 n4 n5 : String} (g64 : Tryz.prog.globalNamed n2 = some 4) (g10 : Tryz.prog.globalNamed n3 = some 0) (gR : Tryz.prog.globalNamed n4 = some 2) (gS : Tryz.prog.globalNamed n5 = some 1)
    (h : laidMet Tryz.prog (x :: (n2, Rows.laid_math_bits_deBruijn64tab) :: (n3, Rows.laid_internal_strconv_uint64pow10) :: (n4, Rows.laid_strconv_ErrRange) :: (n5, Rows.laid_strconv_ErrSyntax) :: []) W) : Lw W := by
  have hT := tab_of g64 h
  have h10 : laidMet Tryz.prog ((n3, tabData .u64 Lib.pow10Tab) :: (n4, Rows.laid_strconv_ErrRange) :: (n5, Rows.laid_strconv_ErrSyntax) :: []) W := h.tail.tail
  have hP := tabIs_of_head g10 t10 Tryz.underlying213 Tryz.underlying179 (by kernel_rfl) (by kernel_rfl) h10
  unfold TabIs at hP
  obtain ⟨ty, lk, hh⟩ := heap_of_var g10 hP
  have hR := err_of gR tER h.tail.tail.tail
  have hS := errS_of gS h.tail.tail.tail.tail
  exact ⟨hT, hS.1, hR.1, ⟨ty, lk, hh⟩, hT.2, hS.2, hR.2, lt_of_heap hh⟩

end Go.Proofs.YtkndjbmlkfpfoaaGreatDoor
