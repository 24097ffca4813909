/-
  Writers: numbers and texts as bytes; what a call leaves as it was.
-/
import Derived.Test.YtkffonoifbaifaaGreatZB0
import Derived.Maps.AppendAt
import Derived.Lib.AppendStr
import Derived.Lib.Varint
set_option linter.unusedSimpArgs false
set_option linter.unusedVariables false
namespace Go.Proofs.YtkffonoifbaifaaGreat
open Go.RowKit Go.Lib

/-- all blocks stay but those of N, and new ones come -/
structure Kp (N : Nat → Prop) (W W' : World) : Prop where
  os : W'.os = W.os
  tape : W'.tape = W.tape
  output : W'.output = W.output
  size : W.heap.size ≤ W'.heap.size
  block : ∀ k, k < W.heap.size → ¬ N k → W'.heap[k]? = W.heap[k]?
theorem Kp.refl (N : Nat → Prop) (W : World) : Kp N W W := ⟨rfl, rfl, rfl, Nat.le_refl _, fun _ _ _ => rfl⟩
theorem Kp.trans {N M : Nat → Prop} {a b c : World} (h : Kp N a b) (k : Kp M b c) (hm : ∀ i, M i → N i ∨ a.heap.size ≤ i) : Kp N a c :=
  ⟨k.os.trans h.os, k.tape.trans h.tape, k.output.trans h.output, Nat.le_trans h.size k.size, fun i hi hn =>
    (k.block i (Nat.lt_of_lt_of_le hi h.size) (fun e => by rcases hm i e with h' | h'; exact hn h'; omega)).trans (h.block i hi hn)⟩
theorem Kp.of_below {N : Nat → Prop} {W W' : World} (h : Below W.heap.size W W') : Kp N W W' := ⟨h.os, h.tape, h.output, h.size, fun k hk _ => h.block k hk⟩
theorem Kp.of_grown {N : Nat → Prop} {W W' : World} {row : Option Nat} (h : W.grownBy W' row) (hr : ∀ k, row = some k → N k) : Kp N W W' :=
  ⟨h.os, h.tape, h.output, h.size, fun k hk hn => h.block k hk (fun e => hn (hr k e.symm))⟩
theorem Kp.set {N : Nat → Prop} (W : World) (a : Addr) (v : Value) (h : N a.block) : Kp N W (W.setCell a v) := by
  have b := Below.setCell (Below.refl 0 W) (Nat.zero_le a.block) v
  exact ⟨b.os, b.tape, b.output, b.size, fun k hk hn => Below.heap_setCell W a v k (fun e => hn (e ▸ h))⟩
theorem Kp.below {N : Nat → Prop} {w W W' : World} (k : Kp N W W') (h : Below w.heap.size w W) (hn : ∀ i, N i → w.heap.size ≤ i) : Below w.heap.size w W' :=
  ⟨k.os.trans h.os, k.tape.trans h.tape, k.output.trans h.output, Nat.le_trans h.size k.size, fun i hi => (k.block i (Nat.lt_of_lt_of_le hi h.size) (fun e => by have := hn i e; omega)).trans (h.block i hi)⟩
theorem Bx.kp {N : Nat → Prop} {W W' : World} {b : Nat} {t : TypeId} {vs : Array Value} (h : Bx W b t vs) (k : Kp N W W') (hn : ¬ N b) : Bx W' b t vs := (k.block b h.lt hn).trans h

/-- bytes as cells -/
def bC (L : List Nat) : List Value := L.map fun b => Value.int .u8 (b : Nat)
theorem bC_len (L : List Nat) : (bC L).length = L.length := by simp [bC]
theorem bC_app (L M : List Nat) : bC (L ++ M) = bC L ++ bC M := by simp [bC]
theorem bC_get (L : List Nat) (j b : Nat) (h : L[j]? = some b) : (bC L)[j]? = some (.int .u8 (b : Nat)) := by simp [bC, h]
/-- a text's bytes -/
def sB (s : ByteArray) : List Nat := s.data.toList.map (·.toNat)
theorem sB_len (s : ByteArray) : (sB s).length = s.size := by
  unfold sB
  rw [List.length_map]
  rfl
theorem sB_cells (s : ByteArray) : bC (sB s) = strCells s := by
  unfold bC sB strCells
  rw [List.map_map]
  rfl
theorem sB_lt (s : ByteArray) : ∀ b ∈ sB s, b < 256 := by
  intro b hb
  simp only [sB, List.mem_map] at hb
  obtain ⟨x, _, rfl⟩ := hb
  exact x.toNat_lt

/-- a number in groups of seven binary digits -/
def numF : Nat → Nat → List Nat
  | 0, n => [n]
  | f + 1, n => if n < 128 then [n] else (n % 128 + 128) :: numF f (n / 128)
def num (n : Nat) : List Nat := numF 10 n
theorem numF_more : ∀ (f g n : Nat), n < 128 ^ (f + 1) → f ≤ g → numF f n = numF g n
  | 0, 0, n, _, _ => rfl
  | 0, g + 1, n, h, _ => by rw [numF, numF, if_pos (by simpa using h)]
  | f + 1, 0, n, _, h => absurd h (by omega)
  | f + 1, g + 1, n, h, hg => by
    rw [numF, numF]
    by_cases h1 : n < 128
    · rw [if_pos h1, if_pos h1]
    · rw [if_neg h1, if_neg h1, numF_more f g (n / 128) (Nat.div_lt_of_lt_mul (by rw [Nat.mul_comm, ← Nat.pow_succ]; exact h)) (by omega)]
theorem num_step (n : Nat) (h : n < 9223372036854775808) (h1 : 128 ≤ n) : num n = (n % 128 + 128) :: num (n / 128) := by
  unfold num
  rw [numF, if_neg (by omega), numF_more 9 10 (n / 128) (by have : (128 : Nat) ^ 10 = 1180591620717411303424 := by decide
                                                            omega) (by omega)]
theorem num_last (n : Nat) (h1 : n < 128) : num n = [n] := by
  unfold num
  rw [numF, if_pos h1]
theorem numF_lt : ∀ (f n : Nat), n < 128 ^ (f + 1) → ∀ b ∈ numF f n, b < 256
  | 0, n, h => by simp [numF]; omega
  | f + 1, n, h => by
    rw [numF]
    split
    · simp; omega
    · intro b hb
      rcases List.mem_cons.1 hb with rfl | hb
      · omega
      · exact numF_lt f (n / 128) (Nat.div_lt_of_lt_mul (by rw [Nat.mul_comm, ← Nat.pow_succ]; exact h)) b hb
theorem num_lt (n : Nat) (h : n < 9223372036854775808) : ∀ b ∈ num n, b < 256 := numF_lt 10 n (by have : (128 : Nat) ^ 11 = 151115727451828646838272 := by decide
                                                                                                  omega)
theorem numF_len : ∀ (f n : Nat), (numF f n).length ≤ f + 1
  | 0, n => by simp [numF]
  | f + 1, n => by
    rw [numF]
    split
    · simp
    · simp; have := numF_len f (n / 128); omega
theorem num_len (n : Nat) : (num n).length ≤ 11 := numF_len 10 n

/-- what was laid, and the error, when a number is laid -/
def wNum (s : List Nat × Int) (v : Int) : List Nat × Int := if s.2 ≠ 0 then s else if v < 0 then (s.1, 1) else (s.1 ++ num v.toNat, 0)
def wTxt (s : List Nat × Int) (t : ByteArray) : List Nat × Int := if s.2 ≠ 0 then s else (s.1 ++ num t.size ++ sB t, 0)

/-- a Writer in memory -/
structure Wr (W : World) (p : Nat) (v : Value) (L : List Nat) (e : Int) : Prop where
  box : Bx W p 67 #[v, .int .i64 e]
  row : W.ownsRow (p + 1) 5 1 v L.length (bC L)
def wOwn (p : Nat) (v : Value) (k : Nat) : Prop := k = p ∨ v.ownBlock = some k
def OwnAt (w : World) (v v' : Value) : Prop := ∀ k, v'.ownBlock = some k → v.ownBlock = some k ∨ w.heap.size ≤ k
theorem OwnAt.refl (w : World) (v : Value) : OwnAt w v v := fun _ h => .inl h
theorem OwnAt.trans {w w' : World} {v v' v'' : Value} (h : OwnAt w v v') (k : OwnAt w' v' v'') (hs : w.heap.size ≤ w'.heap.size) : OwnAt w v v'' := fun i hi => by
  rcases k i hi with h' | h'
  · exact h i h'
  · exact .inr (by omega)
theorem wOwn_at {w : World} {p : Nat} {v v' : Value} (h : OwnAt w v v') : ∀ i, wOwn p v' i → wOwn p v i ∨ w.heap.size ≤ i := fun i hi => by
  rcases hi with rfl | hi
  · exact .inl (.inl rfl)
  · rcases h i hi with h' | h'
    · exact .inl (.inr h')
    · exact .inr h'

theorem owns_kp {N : Nat → Prop} {W W' : World} {B E k n : Nat} {v : Value} {C : List Value} (h : W.ownsRow B E k v n C) (kp : Kp N W W') (hn : ∀ i, v.ownBlock = some i → ¬ N i) : W'.ownsRow B E k v n C := by
  obtain ⟨hl, (h | ⟨g, cap, cur, rfl, hbg, hg, hr⟩)⟩ := h
  · exact ⟨hl, .inl h⟩
  · exact ⟨hl, .inr ⟨g, cap, cur, rfl, hbg, (kp.block g (Array.getElem?_eq_some_iff.1 hg).1 (hn g rfl)).trans hg, hr⟩⟩
theorem Wr.kp {N : Nat → Prop} {W W' : World} {p : Nat} {v : Value} {L : List Nat} {e : Int} (h : Wr W p v L e) (k : Kp N W W') (h1 : ¬ N p) (h2 : ∀ i, v.ownBlock = some i → ¬ N i) : Wr W' p v L e :=
  ⟨h.box.kp k h1, owns_kp h.row k h2⟩
theorem Wr.below {W W' : World} {p : Nat} {v : Value} {L : List Nat} {e : Int} (h : Wr W p v L e) (hb : Below W.heap.size W W') : Wr W' p v L e := h.kp (N := fun _ => False) (Kp.of_below hb) (fun h => h) (fun _ _ h => h)
theorem Wr.form {W : World} {p : Nat} {v : Value} {L : List Nat} {e : Int} (h : Wr W p v L e) : ∃ a c, v = .slice a L.length c := by
  obtain ⟨_, (⟨rfl, hn⟩ | ⟨g, cap, cur, rfl, _⟩)⟩ := h.row
  · exact ⟨none, 0, by rw [hn]⟩
  · exact ⟨_, _, rfl⟩
theorem Wr.ne {W : World} {p : Nat} {v : Value} {L : List Nat} {e : Int} (h : Wr W p v L e) : ∀ k, v.ownBlock = some k → k ≠ p := fun k hk e => by
  have := (h.row.lt k hk).1
  omega
/-- the row is put into the box -/
theorem Wr.put {W : World} {p : Nat} {v v' : Value} {L : List Nat} {e : Int} (hb : Bx W p 67 #[v, .int .i64 e]) (hr : W.ownsRow (p + 1) 5 1 v' L.length (bC L)) : Wr (W.setCell ⟨p, 0, none⟩ v') p v' L e :=
  ⟨by simpa using hb.set 0 v', owns_kp hr (Kp.set (N := fun k => k = p) W ⟨p, 0, none⟩ v' rfl) (fun i hi e => by have := (hr.lt i hi).1; omega)⟩

theorem owns_form {W : World} {B E k n : Nat} {v : Value} {C : List Value} (h : W.ownsRow B E k v n C) : ∃ a c, v = .slice a n c := by
  obtain ⟨_, (⟨rfl, hn⟩ | ⟨g, cap, cur, rfl, _⟩)⟩ := h
  · exact ⟨none, 0, by rw [hn]⟩
  · exact ⟨_, _, rfl⟩

theorem ownAt_of {w : World} {o : Obj} {v v' : Value} (h : v'.ownBlock = v.ownBlock ∨ v'.ownBlock = some (w.alloc o).heap.size) : OwnAt w v v' := fun k hk => by
  rcases h with h | h
  · exact .inl (by rw [← h]; exact hk)
  · rw [hk] at h
    simp at h
    exact .inr (by omega)

/-- the box behind an append -/
theorem Wr.grown {wr w1 : World} {p : Nat} {v1 : Value} {L : List Nat} {e : Int} {o : Obj} (h : Wr wr p v1 L e) (hg : (wr.alloc o).grownBy w1 v1.ownBlock) : Bx w1 p 67 #[v1, .int .i64 e] := by
  have h1 := h.box.below (ballc (Below.refl _ wr) o)
  refine (hg.block p h1.lt ?_).trans h1
  intro e'
  exact h.ne p e'.symm rfl

theorem wr_step {w wr w1 : World} {p : Nat} {v v1 v' : Value} {L M : List Nat} {e : Int} {o : Obj} {n : Nat} (HW : Wr wr p v1 L e) (HK : Kp (wOwn p v) w wr) (HO : OwnAt w v v1) (hown : w1.ownsRow (p + 1) 5 1 v' n (bC M)) (hn : n = M.length) (hg : (wr.alloc o).grownBy w1 v1.ownBlock) (hat : OwnAt wr v1 v') :
    Wr (w1.setCell ⟨p, 0, none⟩ v') p v' M e ∧ Kp (wOwn p v) w (w1.setCell ⟨p, 0, none⟩ v') ∧ OwnAt w v v' := by
  subst hn
  refine ⟨Wr.put (HW.grown hg) hown, ?_, HO.trans hat HK.size⟩
  refine HK.trans (M := wOwn p v1) ?_ (wOwn_at HO)
  refine Kp.trans (N := wOwn p v1) (M := wOwn p v1) (Kp.of_below (ballc (Below.refl _ wr) o)) ?_ (fun i h => .inl h)
  refine Kp.trans (N := wOwn p v1) (M := wOwn p v1) (Kp.of_grown hg (fun k hk => .inr hk)) ?_ (fun i h => .inl h)
  exact Kp.set _ _ _ (.inl rfl)

theorem Wr.grown0 {wr w1 : World} {p : Nat} {v1 : Value} {L : List Nat} {e : Int} (h : Wr wr p v1 L e) (hg : wr.grownBy w1 v1.ownBlock) : Bx w1 p 67 #[v1, .int .i64 e] := by
  refine (hg.block p h.box.lt ?_).trans h.box
  intro e'
  exact h.ne p e'.symm rfl

theorem wr_step0 {w wr w1 : World} {p : Nat} {v v1 v' : Value} {L M : List Nat} {e : Int} {n : Nat} (HW : Wr wr p v1 L e) (HK : Kp (wOwn p v) w wr) (HO : OwnAt w v v1) (hown : w1.ownsRow (p + 1) 5 1 v' n (bC M)) (hn : n = M.length) (hg : wr.grownBy w1 v1.ownBlock) (hat : OwnAt wr v1 v') :
    Wr (w1.setCell ⟨p, 0, none⟩ v') p v' M e ∧ Kp (wOwn p v) w (w1.setCell ⟨p, 0, none⟩ v') ∧ OwnAt w v v' := by
  subst hn
  refine ⟨Wr.put (HW.grown0 hg) hown, ?_, HO.trans hat HK.size⟩
  refine HK.trans (M := wOwn p v1) ?_ (wOwn_at HO)
  refine Kp.trans (N := wOwn p v1) (M := wOwn p v1) (Kp.of_grown hg (fun k hk => .inr hk)) ?_ (fun i h => .inl h)
  exact Kp.set _ _ _ (.inl rfl)

theorem infoB : (Tryz.prog.info? 5).map (fun i => (i.zero, i.size, i.bytes)) = some (some (.int .u8 0), 1, 1) := by kernel_rfl

/-- append of a text's bytes: where it lies -/
theorem append_text_at (w : World) (ty : TypeId) (base : Nat) (v : Value) (n : Nat) (xs : List Value) (hown : w.ownsRow base 5 1 v n xs) (s : ByteArray) (hbytes : n + s.size ≤ 140737488355328) (hbase : base ≤ w.heap.size) :
    ∃ v' w', (Builtin.append_ #[22, 9] ty #[v, .string s]).run Tryz.prog w = .ok v' w' ∧ w'.ownsRow base 5 1 v' (n + s.size) (xs ++ strCells s) ∧ w.grownBy w' v.ownBlock ∧ OwnAt w v v' := by
  obtain ⟨i0, hi, hz0, hz1, hz2⟩ := info_parts infoB
  obtain ⟨v', w', h1, h2, h3, h4⟩ := run_append_own_string (P := Tryz.prog) w base 22 9 ty 5 i0 Tryz.underlying22 Tryz.underlying9 hi hz0 hz1 hz2 v n xs hown s (by unfold maxLen; omega) hbytes hbase
  refine ⟨v', w', h1, h2, h3, ?_⟩
  rcases hown.2 with ⟨rfl, rfl⟩ | ⟨g, cap, cur, rfl, hbg, hg, hnc, hcm, hcs, htake⟩
  · have hx : xs = [] := List.eq_nil_of_length_eq_zero (by simpa using hown.1)
    subst hx
    obtain ⟨v2, w2, k1, k2, k3, k4⟩ := run_append_own_string (P := Tryz.prog) w w.heap.size 22 9 ty 5 i0 Tryz.underlying22 Tryz.underlying9 hi hz0 hz1 hz2 (.slice none 0 0) 0 [] (World.ownsRow_nil _ _ _ _) s (by unfold maxLen; omega) hbytes (Nat.le_refl _)
    rw [h1] at k1
    simp only [Result.ok.injEq] at k1
    obtain ⟨rfl, rfl⟩ := k1
    exact fun k hk => .inr (k2.lt k hk).1
  · by_cases hroom : n + s.size ≤ cap
    · have hr := run_append_room_string (P := Tryz.prog) w 22 9 ty 5 i0 Tryz.underlying22 Tryz.underlying9 hi hz1 g n cap cur hg s hroom (by simp at hcs; omega)
      rw [h1] at hr
      simp only [Result.ok.injEq] at hr
      obtain ⟨rfl, rfl⟩ := hr
      exact fun k hk => .inl hk
    · have holds : ∀ j u, xs[j]? = some u → w.cell? ((⟨g, 0, none⟩ : Addr).add j) = some u := hown.cells (g := g) rfl
      have hr := run_append_grow_string (P := Tryz.prog) w 22 9 ty 5 i0 (.int .u8 0) Tryz.underlying22 Tryz.underlying9 hi hz0 ⟨g, 0, none⟩ n cap xs (by rw [hz1]; exact hown.1) holds s (by omega) (by omega) (by rw [hz2]; exact growslice_fits (by omega) (by omega))
      rw [h1] at hr
      simp only [Result.ok.injEq] at hr
      obtain ⟨rfl, rfl⟩ := hr
      intro k hk
      simp [Value.ownBlock] at hk
      exact .inr (by omega)

theorem wpList_append_text_at {w : World} {ops : Array Oper} {rest : List Oper} {o : Oper} {a : Act} {Q : Exit → Act → World → Prop} (hgd : o.guard = none) (sl x : Operand)
    (ho : o.op = .call { callee := .builtin .append, args := #[sl, x], argTypes := #[22, 9] })
    (base : Nat) (v : Value) (n : Nat) (xs : List Value) (hs : a.eval sl = v) (hown : w.ownsRow base 5 1 v n xs) (s : ByteArray) (hx : a.eval x = .string s) (hbytes : n + s.size ≤ 140737488355328) (hbase : base ≤ w.heap.size)
    (h : ∀ v' w', w'.ownsRow base 5 1 v' (n + s.size) (xs ++ strCells s) → w.grownBy w' v.ownBlock → OwnAt w v v' → wpList Tryz.prog ops Q rest (a.put o.dst v') w') : wpList Tryz.prog ops Q (o :: rest) a w := by
  refine wpList_plain hgd fun K hK => ?_
  obtain ⟨v', w', hr, h2, h3, h4⟩ := append_text_at w o.type base v n xs hown s hbytes hbase
  unfold Oper.wp execOp
  simp only [ho, resolve, invoke, builtin, Sem.run_bind, Sem.run_pure, Result.andThen_ok, List.map_toArray, List.map_cons, List.map_nil, hs, hx, hr]
  exact hK _ _ (h v' w' h2 h3 h4)

end Go.Proofs.YtkffonoifbaifaaGreat
