/-
  The law's closure: words rise.
-/
import Derived.Test.YticjilkcobpcjaaDoorZSr
import Derived.WalkMore
import Derived.Deep.RegionLaw
import Derived.Deep.RegionWith

set_option linter.unusedSimpArgs false
set_option linter.unusedVariables false
namespace Go.Proofs.YticjilkcobpcjaaDoor
open Go.RowKit Go.Lib

/-- a block of cells of one's own -/
def Bq (W : World) (b : Nat) (t : TypeId) (vs : Array Value) : Prop := W.heap[b]? = some (.cells vs t (0, 0))
theorem Bq.new (W : World) (t : TypeId) (vs : Array Value) : Bq (W.alloc (.cells vs t)) W.heap.size t vs := heap_alloc_new W _
theorem Bq.lt {W : World} {b : Nat} {t : TypeId} {vs : Array Value} (h : Bq W b t vs) : b < W.heap.size := (Array.getElem?_eq_some_iff.1 h).1
theorem Bq.keep {W W' : World} {B b : Nat} {t : TypeId} {vs : Array Value} (h : Bq W b t vs) (hb : Below B W W') (hl : b < B) : Bq W' b t vs := (hb.block _ hl).trans h
theorem Bq.cell {W : World} {b : Nat} {t : TypeId} {vs : Array Value} (h : Bq W b t vs) (j : Nat) (v : Value) (hj : vs[j]? = some v) : W.cell? ⟨b, j, none⟩ = some v := by
  have e : W.heap[b]? = some (.cells vs t (0, 0)) := h
  simp [World.cell?, e, hj]
theorem Bq.frozen {W : World} {b : Nat} {t : TypeId} {vs : Array Value} (h : Bq W b t vs) (j : Nat) : W.frozen? ⟨b, j, none⟩ = false := by
  have e : W.heap[b]? = some (.cells vs t (0, 0)) := h
  simp [World.frozen?, e]
theorem Bq.set {W : World} {b : Nat} {t : TypeId} {v0 : Value} (h : Bq W b t #[v0]) (v : Value) : Bq (W.setCell ⟨b, 0, none⟩ v) b t #[v] := by
  have e : W.heap[b]? = some (.cells #[v0] t (0, 0)) := h
  unfold Bq
  simp [World.setCell, e, Array.getElem?_modify]
theorem Bq.setO {W : World} {b : Nat} {t : TypeId} {vs : Array Value} (h : Bq W b t vs) (p : Addr) (hp : b ≠ p.block) (v : Value) : Bq (W.setCell p v) b t vs := (Below.heap_setCell W p v b hp).trans h
theorem Bq.same {W : World} {b t : Nat} {v : Value} (h : Bq W b t #[v]) : W.setCell ⟨b, 0, none⟩ v = W := by
  have hb := h.lt
  have he : W.heap.modify b (fun o => match o with | .cells c elem frozen => .cells (if (none : Option Nat).isSome then c else c.setIfInBounds 0 v) elem frozen | o => o) = W.heap := by
    apply Array.ext
    · simp
    · intro i h1 h2
      rw [Array.getElem_modify]
      split
      · rename_i e
        subst e
        have : W.heap[b] = .cells #[v] t (0, 0) := by
          have := h
          unfold Bq at this
          rw [Array.getElem?_eq_getElem hb] at this
          simpa using this
        rw [this]
        simp
      · rfl
  cases W
  unfold World.setCell
  congr 1
/-- the law's variables -/
structure RB (W : World) (b : Nat) (s : ByteArray) (st : Rs) : Prop where
  s_ : Bq W b 9 #[.string s]
  a : Bq W (b + 1) 3 #[.int .i64 st.a]
  l : Bq W (b + 2) 3 #[.int .i64 (st.ln : Int)]
  k : Bq W (b + 3) 3 #[.int .i64 (st.kd : Int)]
  o : Bq W (b + 4) 4 #[.bool st.ov]
  y : Bq W (b + 5) 4 #[.bool true]
theorem RB.keep {W W' : World} {B b : Nat} {s : ByteArray} {st : Rs} (h : RB W b s st) (hb : Below B W W') (hl : b + 5 < B) : RB W' b s st :=
  ⟨h.s_.keep hb (by omega), h.a.keep hb (by omega), h.l.keep hb (by omega), h.k.keep hb (by omega), h.o.keep hb (by omega), h.y.keep hb (by omega)⟩
theorem RB.seta {W : World} {b : Nat} {s : ByteArray} {st : Rs} (h : RB W b s st) (x : Int) : RB (W.setCell ⟨b + 1, 0, none⟩ (.int .i64 x)) b s ⟨x, st.ln, st.kd, st.ov⟩ :=
  ⟨h.s_.setO _ (by simp) _, h.a.set _, h.l.setO _ (by simp) _, h.k.setO _ (by simp) _, h.o.setO _ (by simp) _, h.y.setO _ (by simp) _⟩
theorem RB.setl {W : World} {b : Nat} {s : ByteArray} {st : Rs} (h : RB W b s st) (x : Nat) : RB (W.setCell ⟨b + 2, 0, none⟩ (.int .i64 (x : Int))) b s ⟨st.a, x, st.kd, st.ov⟩ :=
  ⟨h.s_.setO _ (by simp) _, h.a.setO _ (by simp) _, h.l.set _, h.k.setO _ (by simp) _, h.o.setO _ (by simp) _, h.y.setO _ (by simp) _⟩
theorem RB.setk {W : World} {b : Nat} {s : ByteArray} {st : Rs} (h : RB W b s st) (x : Nat) : RB (W.setCell ⟨b + 3, 0, none⟩ (.int .i64 (x : Int))) b s ⟨st.a, st.ln, x, st.ov⟩ :=
  ⟨h.s_.setO _ (by simp) _, h.a.setO _ (by simp) _, h.l.setO _ (by simp) _, h.k.set _, h.o.setO _ (by simp) _, h.y.setO _ (by simp) _⟩
theorem RB.seto {W : World} {b : Nat} {s : ByteArray} {st : Rs} (h : RB W b s st) (x : Bool) : RB (W.setCell ⟨b + 4, 0, none⟩ (.bool x)) b s ⟨st.a, st.ln, st.kd, x⟩ :=
  ⟨h.s_.setO _ (by simp) _, h.a.setO _ (by simp) _, h.l.setO _ (by simp) _, h.k.setO _ (by simp) _, h.o.set _, h.y.setO _ (by simp) _⟩
/-- a store keeps all other blocks -/
def Kq (b : Nat) (W W' : World) : Prop := W.heap.size ≤ W'.heap.size ∧ W'.os = W.os ∧ W'.tape = W.tape ∧ W'.output = W.output ∧ ∀ i, i < W.heap.size → (i < b ∨ b + 5 < i) → W'.heap[i]? = W.heap[i]?
theorem Kq.refl (b : Nat) (W : World) : Kq b W W := ⟨Nat.le_refl _, rfl, rfl, rfl, fun _ _ _ => rfl⟩
theorem Kq.set {b : Nat} {W W' : World} (h : Kq b W W') {j : Nat} (hj : b ≤ j ∧ j ≤ b + 5) (v : Value) : Kq b W (W'.setCell ⟨j, 0, none⟩ v) := by
  have q := Below.setCell (Below.refl 0 W') (Nat.zero_le j) (p := ⟨j, 0, none⟩) v
  exact ⟨Nat.le_trans h.1 q.size, q.os.trans h.2.1, q.tape.trans h.2.2.1, q.output.trans h.2.2.2.1, fun i hi hn => (Below.heap_setCell W' ⟨j, 0, none⟩ v i (by simp; omega)).trans (h.2.2.2.2 i hi hn)⟩
theorem Kq.of_below {b : Nat} {W W' : World} (h : Below W.heap.size W W') : Kq b W W' := ⟨h.size, h.os, h.tape, h.output, fun i hi _ => h.block i hi⟩
theorem Kq.below {b : Nat} {W W' W'' : World} (h : Kq b W W') (hb : Below W'.heap.size W' W'') : Kq b W W'' := ⟨Nat.le_trans h.1 hb.size, hb.os.trans h.2.1, hb.tape.trans h.2.2.1, hb.output.trans h.2.2.2.1, fun i hi hn => (hb.block i (Nat.lt_of_lt_of_le hi h.1)).trans (h.2.2.2.2 i hi hn)⟩
def RsA (b : Nat) (s : ByteArray) (st : Rs) (W : World) (e : Ending) (W' : World) : Prop := e = .returned (.bool true) ∧ RB W' b s st ∧ Kq b W W'

set_option maxRecDepth 100000 in
set_option maxHeartbeats 4000000 in
theorem rises_err (W : World) (b : Nat) (s : ByteArray) (hs : s.size ≤ 20000) (sa : Int) (sl sk : Nat) (h : RB W b s ⟨sa, sl, sk, false⟩) (k : Nat) (t : ByteArray) (n : Int) (a ln e : Nat) (hk : k = 0) (ht : t = ⟨#[]⟩) (hn : n = 0) (he : e = 18 ∨ e = 2 ∨ e = 6) (h1 : sl ≤ ln) (h2 : a ≤ s.size) (h3 : sa < (a : Int)) :
    Calls Tryd.prog 19 (#[wV k t n a ln, .int .i64 (e : Int)] ++ #[.pointer (some ⟨b + 5, 0, none⟩), .pointer (some ⟨b + 4, 0, none⟩), .pointer (some ⟨b + 2, 0, none⟩), .pointer (some ⟨b, 0, none⟩), .pointer (some ⟨b + 1, 0, none⟩), .pointer (some ⟨b + 3, 0, none⟩)]) W (RsA b s ⟨sa, sl, sk, true⟩ W) := by
  subst hk ht hn
  obtain ⟨X0, hX0⟩ : ∃ X0, W.alloc (.cells #[.int .i64 0, .string ⟨#[]⟩, .int .i64 0, .int .i64 (a : Int), .int .i64 (ln : Int)] 29) = X0 := ⟨_, rfl⟩
  have b0 : Below W.heap.size W X0 := by rw [← hX0]; exact (Below.refl _ _).alloc (Nat.le_refl _) _
  have B0 : Bq X0 W.heap.size 29 #[.int .i64 0, .string ⟨#[]⟩, .int .i64 0, .int .i64 (a : Int), .int .i64 (ln : Int)] := by rw [← hX0]; exact Bq.new _ _ _
  have R0 := h.keep b0 h.y.lt
  have hq := h.y.lt
  obtain ⟨X1, hX1⟩ : ∃ X1, X0.setCell ⟨b + 4, 0, none⟩ (.bool true) = X1 := ⟨_, rfl⟩
  have R1 : RB X1 b s ⟨sa, sl, sk, true⟩ := by rw [← hX1]; exact R0.seto true
  have HF : Hid (RB X1 b s ⟨sa, sl, sk, true⟩ ∧ Kq b W X1) := hide ⟨R1, by rw [← hX1]; exact (Kq.of_below b0).set ⟨by omega, by omega⟩ _⟩
  have y0 := (R0).y.cell 0 _ rfl
  have o0 := (R0).o.cell 0 _ rfl
  have l0 := (R0).l.cell 0 _ rfl
  have s0 := (R0).s_.cell 0 _ rfl
  have a0 := (R0).a.cell 0 _ rfl
  have k0 := (R0).k.cell 0 _ rfl
  have fy := (R0).y.frozen 0
  have fo := (R0).o.frozen 0
  have fl := (R0).l.frozen 0
  have fa := (R0).a.frozen 0
  have fk := (R0).k.frozen 0
  have ey := (R0).y.same
  have w0 := (B0).cell 0 _ rfl
  have w1 := (B0).cell 1 _ rfl
  have w2 := (B0).cell 2 _ rfl
  have w3 := (B0).cell 3 _ rfl
  have w4 := (B0).cell 4 _ rfl
  have y1 := R1.y.cell 0 _ rfl
  have hqe : ∀ W, (binOp .eql 29 (.agg #[.int .i64 0, .string ⟨#[]⟩, .int .i64 0, .int .i64 (a : Int), .int .i64 (ln : Int)]) (.agg #[.int .i64 0, .string ⟨#[]⟩, .int .i64 0, .int .i64 (a : Int), .int .i64 (ln : Int)])).run Tryd.prog W = .ok (.bool true) W := fun W => by simp [go_sem]
  have d1 : (sl : Int) ≤ (ln : Int) := by omega
  have d2 : (a : Int) ≤ (s.size : Int) := by omega
  have hxl : W.heap.size < X0.heap.size := B0.lt
  change Calls Tryd.prog 19 #[.agg #[.int .i64 0, .string ⟨#[]⟩, .int .i64 0, .int .i64 (a : Int), .int .i64 (ln : Int)], .int .i64 (e : Int), .pointer (some ⟨b + 5, 0, none⟩), .pointer (some ⟨b + 4, 0, none⟩), .pointer (some ⟨b + 2, 0, none⟩), .pointer (some ⟨b, 0, none⟩), .pointer (some ⟨b + 1, 0, none⟩), .pointer (some ⟨b + 3, 0, none⟩)] W _
  clear h b0 B0 R0 R1 h1 h2 hq
  rcases he with rfl | rfl | rfl
  · go_enter Tryd.func19, Tryd.ntmps19
    go_wp2
    go_ret
    exact ⟨rfl, (unhide HF).1, (unhide HF).2⟩
  · go_enter Tryd.func19, Tryd.ntmps19
    go_wp2
    go_ret
    exact ⟨rfl, (unhide HF).1, (unhide HF).2⟩
  · go_enter Tryd.func19, Tryd.ntmps19
    go_wp2
    go_ret
    exact ⟨rfl, (unhide HF).1, (unhide HF).2⟩

set_option maxRecDepth 100000 in
set_option maxHeartbeats 8000000 in
theorem rises_wd2 (W : World) (b : Nat) (s : ByteArray) (hs : s.size ≤ 20000) (sa : Int) (sl sk : Nat) (h : RB W b s ⟨sa, sl, sk, false⟩) (t : ByteArray) (a ln : Nat) (h1 : sl ≤ ln) (h2 : a ≤ s.size) (h3 : sa < (a : Int)) (h4 : sk = 4 → (sa < 0 ∨ sl < ln)) (h5 : sk ≠ 4 → ln = sl) :
    Calls Tryd.prog 19 (#[wV 2 t 0 a ln, .int .i64 0] ++ #[.pointer (some ⟨b + 5, 0, none⟩), .pointer (some ⟨b + 4, 0, none⟩), .pointer (some ⟨b + 2, 0, none⟩), .pointer (some ⟨b, 0, none⟩), .pointer (some ⟨b + 1, 0, none⟩), .pointer (some ⟨b + 3, 0, none⟩)]) W (RsA b s ⟨(a : Int), ln, 2, false⟩ W) := by
  obtain ⟨X0, hX0⟩ : ∃ X0, W.alloc (.cells #[.int .i64 2, .string t, .int .i64 0, .int .i64 (a : Int), .int .i64 (ln : Int)] 29) = X0 := ⟨_, rfl⟩
  have b0 : Below W.heap.size W X0 := by rw [← hX0]; exact (Below.refl _ _).alloc (Nat.le_refl _) _
  have B0 : Bq X0 W.heap.size 29 #[.int .i64 2, .string t, .int .i64 0, .int .i64 (a : Int), .int .i64 (ln : Int)] := by rw [← hX0]; exact Bq.new _ _ _
  have R0 := h.keep b0 h.y.lt
  have hq := h.y.lt
  obtain ⟨X1, hX1⟩ : ∃ X1, X0.setCell ⟨b + 1, 0, none⟩ (.int .i64 (a : Int)) = X1 := ⟨_, rfl⟩
  have R1 : RB X1 b s ⟨(a : Int), sl, sk, false⟩ := by rw [← hX1]; exact R0.seta _
  have B1 : Bq X1 W.heap.size 29 #[.int .i64 2, .string t, .int .i64 0, .int .i64 (a : Int), .int .i64 (ln : Int)] := by rw [← hX1]; exact B0.setO _ (by simp; omega) _
  obtain ⟨X2, hX2⟩ : ∃ X2, X1.setCell ⟨b + 2, 0, none⟩ (.int .i64 (ln : Int)) = X2 := ⟨_, rfl⟩
  have R2 : RB X2 b s ⟨(a : Int), ln, sk, false⟩ := by rw [← hX2]; exact R1.setl _
  have B2 : Bq X2 W.heap.size 29 #[.int .i64 2, .string t, .int .i64 0, .int .i64 (a : Int), .int .i64 (ln : Int)] := by rw [← hX2]; exact B1.setO _ (by simp; omega) _
  obtain ⟨X3, hX3⟩ : ∃ X3, X2.setCell ⟨b + 3, 0, none⟩ (.int .i64 2) = X3 := ⟨_, rfl⟩
  have R3 : RB X3 b s ⟨(a : Int), ln, 2, false⟩ := by rw [← hX3]; exact R2.setk 2
  have HF : Hid (RB X3 b s ⟨(a : Int), ln, 2, false⟩ ∧ Kq b W X3) := hide ⟨R3, by rw [← hX3, ← hX2, ← hX1]; exact (((Kq.of_below b0).set ⟨by omega, by omega⟩ _).set ⟨by omega, by omega⟩ _).set ⟨by omega, by omega⟩ _⟩
  have y0 := (R0).y.cell 0 _ rfl
  have o0 := (R0).o.cell 0 _ rfl
  have l0 := (R0).l.cell 0 _ rfl
  have s0 := (R0).s_.cell 0 _ rfl
  have a0 := (R0).a.cell 0 _ rfl
  have k0 := (R0).k.cell 0 _ rfl
  have fy := (R0).y.frozen 0
  have fo := (R0).o.frozen 0
  have fl := (R0).l.frozen 0
  have fa := (R0).a.frozen 0
  have fk := (R0).k.frozen 0
  have ey := (R0).y.same
  have w0 := (B0).cell 0 _ rfl
  have w1 := (B0).cell 1 _ rfl
  have w2 := (B0).cell 2 _ rfl
  have w3 := (B0).cell 3 _ rfl
  have w4 := (B0).cell 4 _ rfl
  have y0p := (R1).y.cell 0 _ rfl
  have o0p := (R1).o.cell 0 _ rfl
  have l0p := (R1).l.cell 0 _ rfl
  have s0p := (R1).s_.cell 0 _ rfl
  have a0p := (R1).a.cell 0 _ rfl
  have k0p := (R1).k.cell 0 _ rfl
  have fyp := (R1).y.frozen 0
  have fop := (R1).o.frozen 0
  have flp := (R1).l.frozen 0
  have fap := (R1).a.frozen 0
  have fkp := (R1).k.frozen 0
  have eyp := (R1).y.same
  have w0p := (B1).cell 0 _ rfl
  have w1p := (B1).cell 1 _ rfl
  have w2p := (B1).cell 2 _ rfl
  have w3p := (B1).cell 3 _ rfl
  have w4p := (B1).cell 4 _ rfl
  have y0q := (R2).y.cell 0 _ rfl
  have o0q := (R2).o.cell 0 _ rfl
  have l0q := (R2).l.cell 0 _ rfl
  have s0q := (R2).s_.cell 0 _ rfl
  have a0q := (R2).a.cell 0 _ rfl
  have k0q := (R2).k.cell 0 _ rfl
  have fyq := (R2).y.frozen 0
  have foq := (R2).o.frozen 0
  have flq := (R2).l.frozen 0
  have faq := (R2).a.frozen 0
  have fkq := (R2).k.frozen 0
  have eyq := (R2).y.same
  have w0q := (B2).cell 0 _ rfl
  have w1q := (B2).cell 1 _ rfl
  have w2q := (B2).cell 2 _ rfl
  have w3q := (B2).cell 3 _ rfl
  have w4q := (B2).cell 4 _ rfl
  have y1 := R3.y.cell 0 _ rfl
  have d1 : (sl : Int) ≤ (ln : Int) := by omega
  have d2 : (a : Int) ≤ (s.size : Int) := by omega
  have hxl : W.heap.size < X0.heap.size := B0.lt
  change Calls Tryd.prog 19 #[.agg #[.int .i64 2, .string t, .int .i64 0, .int .i64 (a : Int), .int .i64 (ln : Int)], .int .i64 0, .pointer (some ⟨b + 5, 0, none⟩), .pointer (some ⟨b + 4, 0, none⟩), .pointer (some ⟨b + 2, 0, none⟩), .pointer (some ⟨b, 0, none⟩), .pointer (some ⟨b + 1, 0, none⟩), .pointer (some ⟨b + 3, 0, none⟩)] W _
  clear h b0 B0 R0 B1 R1 B2 R2 R3 h1 h2 hq
  by_cases hs4 : sk = 4
  · have hor := h4 hs4
    clear h4 h5
    subst hs4
    by_cases hneg : sa < 0
    · clear hor
      go_enter Tryd.func19, Tryd.ntmps19
      go_wp2
      go_ret
      exact ⟨rfl, (unhide HF).1, (unhide HF).2⟩
    · have hgt : (sl : Int) < (ln : Int) := by rcases hor with q | q; exact absurd q hneg; omega
      clear hor
      go_enter Tryd.func19, Tryd.ntmps19
      go_wp2
      go_ret
      exact ⟨rfl, (unhide HF).1, (unhide HF).2⟩
  · have hln := h5 hs4
    have hs4' : ((sk : Int) == 4) = false := by rw [beq_eq_false_iff_ne]; omega
    have hll : ((ln : Int) == (sl : Int)) = true := by rw [beq_iff_eq]; omega
    clear h4 h5 hs4 hln
    go_enter Tryd.func19, Tryd.ntmps19
    go_wp2
    go_ret
    exact ⟨rfl, (unhide HF).1, (unhide HF).2⟩

set_option maxRecDepth 100000 in
set_option maxHeartbeats 8000000 in
theorem rises_wd3 (W : World) (b : Nat) (s : ByteArray) (hs : s.size ≤ 20000) (sa : Int) (sl sk : Nat) (h : RB W b s ⟨sa, sl, sk, false⟩) (n : Int) (a ln : Nat) (h1 : sl ≤ ln) (h2 : a ≤ s.size) (h3 : sa < (a : Int)) (h4 : sk = 4 → (sa < 0 ∨ sl < ln)) (h5 : sk ≠ 4 → ln = sl) :
    Calls Tryd.prog 19 (#[wV 3 ⟨#[]⟩ n a ln, .int .i64 0] ++ #[.pointer (some ⟨b + 5, 0, none⟩), .pointer (some ⟨b + 4, 0, none⟩), .pointer (some ⟨b + 2, 0, none⟩), .pointer (some ⟨b, 0, none⟩), .pointer (some ⟨b + 1, 0, none⟩), .pointer (some ⟨b + 3, 0, none⟩)]) W (RsA b s ⟨(a : Int), ln, 3, false⟩ W) := by
  obtain ⟨X0, hX0⟩ : ∃ X0, W.alloc (.cells #[.int .i64 3, .string ⟨#[]⟩, .int .i64 n, .int .i64 (a : Int), .int .i64 (ln : Int)] 29) = X0 := ⟨_, rfl⟩
  have b0 : Below W.heap.size W X0 := by rw [← hX0]; exact (Below.refl _ _).alloc (Nat.le_refl _) _
  have B0 : Bq X0 W.heap.size 29 #[.int .i64 3, .string ⟨#[]⟩, .int .i64 n, .int .i64 (a : Int), .int .i64 (ln : Int)] := by rw [← hX0]; exact Bq.new _ _ _
  have R0 := h.keep b0 h.y.lt
  have hq := h.y.lt
  obtain ⟨X1, hX1⟩ : ∃ X1, X0.setCell ⟨b + 1, 0, none⟩ (.int .i64 (a : Int)) = X1 := ⟨_, rfl⟩
  have R1 : RB X1 b s ⟨(a : Int), sl, sk, false⟩ := by rw [← hX1]; exact R0.seta _
  have B1 : Bq X1 W.heap.size 29 #[.int .i64 3, .string ⟨#[]⟩, .int .i64 n, .int .i64 (a : Int), .int .i64 (ln : Int)] := by rw [← hX1]; exact B0.setO _ (by simp; omega) _
  obtain ⟨X2, hX2⟩ : ∃ X2, X1.setCell ⟨b + 2, 0, none⟩ (.int .i64 (ln : Int)) = X2 := ⟨_, rfl⟩
  have R2 : RB X2 b s ⟨(a : Int), ln, sk, false⟩ := by rw [← hX2]; exact R1.setl _
  have B2 : Bq X2 W.heap.size 29 #[.int .i64 3, .string ⟨#[]⟩, .int .i64 n, .int .i64 (a : Int), .int .i64 (ln : Int)] := by rw [← hX2]; exact B1.setO _ (by simp; omega) _
  obtain ⟨X3, hX3⟩ : ∃ X3, X2.setCell ⟨b + 3, 0, none⟩ (.int .i64 3) = X3 := ⟨_, rfl⟩
  have R3 : RB X3 b s ⟨(a : Int), ln, 3, false⟩ := by rw [← hX3]; exact R2.setk 3
  have HF : Hid (RB X3 b s ⟨(a : Int), ln, 3, false⟩ ∧ Kq b W X3) := hide ⟨R3, by rw [← hX3, ← hX2, ← hX1]; exact (((Kq.of_below b0).set ⟨by omega, by omega⟩ _).set ⟨by omega, by omega⟩ _).set ⟨by omega, by omega⟩ _⟩
  have y0 := (R0).y.cell 0 _ rfl
  have o0 := (R0).o.cell 0 _ rfl
  have l0 := (R0).l.cell 0 _ rfl
  have s0 := (R0).s_.cell 0 _ rfl
  have a0 := (R0).a.cell 0 _ rfl
  have k0 := (R0).k.cell 0 _ rfl
  have fy := (R0).y.frozen 0
  have fo := (R0).o.frozen 0
  have fl := (R0).l.frozen 0
  have fa := (R0).a.frozen 0
  have fk := (R0).k.frozen 0
  have ey := (R0).y.same
  have w0 := (B0).cell 0 _ rfl
  have w1 := (B0).cell 1 _ rfl
  have w2 := (B0).cell 2 _ rfl
  have w3 := (B0).cell 3 _ rfl
  have w4 := (B0).cell 4 _ rfl
  have y0p := (R1).y.cell 0 _ rfl
  have o0p := (R1).o.cell 0 _ rfl
  have l0p := (R1).l.cell 0 _ rfl
  have s0p := (R1).s_.cell 0 _ rfl
  have a0p := (R1).a.cell 0 _ rfl
  have k0p := (R1).k.cell 0 _ rfl
  have fyp := (R1).y.frozen 0
  have fop := (R1).o.frozen 0
  have flp := (R1).l.frozen 0
  have fap := (R1).a.frozen 0
  have fkp := (R1).k.frozen 0
  have eyp := (R1).y.same
  have w0p := (B1).cell 0 _ rfl
  have w1p := (B1).cell 1 _ rfl
  have w2p := (B1).cell 2 _ rfl
  have w3p := (B1).cell 3 _ rfl
  have w4p := (B1).cell 4 _ rfl
  have y0q := (R2).y.cell 0 _ rfl
  have o0q := (R2).o.cell 0 _ rfl
  have l0q := (R2).l.cell 0 _ rfl
  have s0q := (R2).s_.cell 0 _ rfl
  have a0q := (R2).a.cell 0 _ rfl
  have k0q := (R2).k.cell 0 _ rfl
  have fyq := (R2).y.frozen 0
  have foq := (R2).o.frozen 0
  have flq := (R2).l.frozen 0
  have faq := (R2).a.frozen 0
  have fkq := (R2).k.frozen 0
  have eyq := (R2).y.same
  have w0q := (B2).cell 0 _ rfl
  have w1q := (B2).cell 1 _ rfl
  have w2q := (B2).cell 2 _ rfl
  have w3q := (B2).cell 3 _ rfl
  have w4q := (B2).cell 4 _ rfl
  have y1 := R3.y.cell 0 _ rfl
  have d1 : (sl : Int) ≤ (ln : Int) := by omega
  have d2 : (a : Int) ≤ (s.size : Int) := by omega
  have hxl : W.heap.size < X0.heap.size := B0.lt
  change Calls Tryd.prog 19 #[.agg #[.int .i64 3, .string ⟨#[]⟩, .int .i64 n, .int .i64 (a : Int), .int .i64 (ln : Int)], .int .i64 0, .pointer (some ⟨b + 5, 0, none⟩), .pointer (some ⟨b + 4, 0, none⟩), .pointer (some ⟨b + 2, 0, none⟩), .pointer (some ⟨b, 0, none⟩), .pointer (some ⟨b + 1, 0, none⟩), .pointer (some ⟨b + 3, 0, none⟩)] W _
  clear h b0 B0 R0 B1 R1 B2 R2 R3 h1 h2 hq
  by_cases hs4 : sk = 4
  · have hor := h4 hs4
    clear h4 h5
    subst hs4
    by_cases hneg : sa < 0
    · clear hor
      go_enter Tryd.func19, Tryd.ntmps19
      go_wp2
      go_ret
      exact ⟨rfl, (unhide HF).1, (unhide HF).2⟩
    · have hgt : (sl : Int) < (ln : Int) := by rcases hor with q | q; exact absurd q hneg; omega
      clear hor
      go_enter Tryd.func19, Tryd.ntmps19
      go_wp2
      go_ret
      exact ⟨rfl, (unhide HF).1, (unhide HF).2⟩
  · have hln := h5 hs4
    have hs4' : ((sk : Int) == 4) = false := by rw [beq_eq_false_iff_ne]; omega
    have hll : ((ln : Int) == (sl : Int)) = true := by rw [beq_iff_eq]; omega
    clear h4 h5 hs4 hln
    go_enter Tryd.func19, Tryd.ntmps19
    go_wp2
    go_ret
    exact ⟨rfl, (unhide HF).1, (unhide HF).2⟩

set_option maxRecDepth 100000 in
set_option maxHeartbeats 8000000 in
theorem rises_wd4 (W : World) (b : Nat) (s : ByteArray) (hs : s.size ≤ 20000) (sa : Int) (sl sk : Nat) (h : RB W b s ⟨sa, sl, sk, false⟩)  (a ln : Nat) (h1 : sl ≤ ln) (h2 : a ≤ s.size) (h3 : sa < (a : Int)) (h4 : sk = 4 → (4 ≠ 4) ∧ (sa < 0 ∨ sl < ln)) (h5 : sk ≠ 4 → ln = sl) :
    Calls Tryd.prog 19 (#[wV 4 ⟨#[]⟩ 0 a ln, .int .i64 0] ++ #[.pointer (some ⟨b + 5, 0, none⟩), .pointer (some ⟨b + 4, 0, none⟩), .pointer (some ⟨b + 2, 0, none⟩), .pointer (some ⟨b, 0, none⟩), .pointer (some ⟨b + 1, 0, none⟩), .pointer (some ⟨b + 3, 0, none⟩)]) W (RsA b s ⟨(a : Int), ln, 4, false⟩ W) := by
  obtain ⟨X0, hX0⟩ : ∃ X0, W.alloc (.cells #[.int .i64 4, .string ⟨#[]⟩, .int .i64 0, .int .i64 (a : Int), .int .i64 (ln : Int)] 29) = X0 := ⟨_, rfl⟩
  have b0 : Below W.heap.size W X0 := by rw [← hX0]; exact (Below.refl _ _).alloc (Nat.le_refl _) _
  have B0 : Bq X0 W.heap.size 29 #[.int .i64 4, .string ⟨#[]⟩, .int .i64 0, .int .i64 (a : Int), .int .i64 (ln : Int)] := by rw [← hX0]; exact Bq.new _ _ _
  have R0 := h.keep b0 h.y.lt
  have hq := h.y.lt
  obtain ⟨X1, hX1⟩ : ∃ X1, X0.setCell ⟨b + 1, 0, none⟩ (.int .i64 (a : Int)) = X1 := ⟨_, rfl⟩
  have R1 : RB X1 b s ⟨(a : Int), sl, sk, false⟩ := by rw [← hX1]; exact R0.seta _
  have B1 : Bq X1 W.heap.size 29 #[.int .i64 4, .string ⟨#[]⟩, .int .i64 0, .int .i64 (a : Int), .int .i64 (ln : Int)] := by rw [← hX1]; exact B0.setO _ (by simp; omega) _
  obtain ⟨X2, hX2⟩ : ∃ X2, X1.setCell ⟨b + 2, 0, none⟩ (.int .i64 (ln : Int)) = X2 := ⟨_, rfl⟩
  have R2 : RB X2 b s ⟨(a : Int), ln, sk, false⟩ := by rw [← hX2]; exact R1.setl _
  have B2 : Bq X2 W.heap.size 29 #[.int .i64 4, .string ⟨#[]⟩, .int .i64 0, .int .i64 (a : Int), .int .i64 (ln : Int)] := by rw [← hX2]; exact B1.setO _ (by simp; omega) _
  obtain ⟨X3, hX3⟩ : ∃ X3, X2.setCell ⟨b + 3, 0, none⟩ (.int .i64 4) = X3 := ⟨_, rfl⟩
  have R3 : RB X3 b s ⟨(a : Int), ln, 4, false⟩ := by rw [← hX3]; exact R2.setk 4
  have HF : Hid (RB X3 b s ⟨(a : Int), ln, 4, false⟩ ∧ Kq b W X3) := hide ⟨R3, by rw [← hX3, ← hX2, ← hX1]; exact (((Kq.of_below b0).set ⟨by omega, by omega⟩ _).set ⟨by omega, by omega⟩ _).set ⟨by omega, by omega⟩ _⟩
  have y0 := (R0).y.cell 0 _ rfl
  have o0 := (R0).o.cell 0 _ rfl
  have l0 := (R0).l.cell 0 _ rfl
  have s0 := (R0).s_.cell 0 _ rfl
  have a0 := (R0).a.cell 0 _ rfl
  have k0 := (R0).k.cell 0 _ rfl
  have fy := (R0).y.frozen 0
  have fo := (R0).o.frozen 0
  have fl := (R0).l.frozen 0
  have fa := (R0).a.frozen 0
  have fk := (R0).k.frozen 0
  have ey := (R0).y.same
  have w0 := (B0).cell 0 _ rfl
  have w1 := (B0).cell 1 _ rfl
  have w2 := (B0).cell 2 _ rfl
  have w3 := (B0).cell 3 _ rfl
  have w4 := (B0).cell 4 _ rfl
  have y0p := (R1).y.cell 0 _ rfl
  have o0p := (R1).o.cell 0 _ rfl
  have l0p := (R1).l.cell 0 _ rfl
  have s0p := (R1).s_.cell 0 _ rfl
  have a0p := (R1).a.cell 0 _ rfl
  have k0p := (R1).k.cell 0 _ rfl
  have fyp := (R1).y.frozen 0
  have fop := (R1).o.frozen 0
  have flp := (R1).l.frozen 0
  have fap := (R1).a.frozen 0
  have fkp := (R1).k.frozen 0
  have eyp := (R1).y.same
  have w0p := (B1).cell 0 _ rfl
  have w1p := (B1).cell 1 _ rfl
  have w2p := (B1).cell 2 _ rfl
  have w3p := (B1).cell 3 _ rfl
  have w4p := (B1).cell 4 _ rfl
  have y0q := (R2).y.cell 0 _ rfl
  have o0q := (R2).o.cell 0 _ rfl
  have l0q := (R2).l.cell 0 _ rfl
  have s0q := (R2).s_.cell 0 _ rfl
  have a0q := (R2).a.cell 0 _ rfl
  have k0q := (R2).k.cell 0 _ rfl
  have fyq := (R2).y.frozen 0
  have foq := (R2).o.frozen 0
  have flq := (R2).l.frozen 0
  have faq := (R2).a.frozen 0
  have fkq := (R2).k.frozen 0
  have eyq := (R2).y.same
  have w0q := (B2).cell 0 _ rfl
  have w1q := (B2).cell 1 _ rfl
  have w2q := (B2).cell 2 _ rfl
  have w3q := (B2).cell 3 _ rfl
  have w4q := (B2).cell 4 _ rfl
  have y1 := R3.y.cell 0 _ rfl
  have d1 : (sl : Int) ≤ (ln : Int) := by omega
  have d2 : (a : Int) ≤ (s.size : Int) := by omega
  have hxl : W.heap.size < X0.heap.size := B0.lt
  change Calls Tryd.prog 19 #[.agg #[.int .i64 4, .string ⟨#[]⟩, .int .i64 0, .int .i64 (a : Int), .int .i64 (ln : Int)], .int .i64 0, .pointer (some ⟨b + 5, 0, none⟩), .pointer (some ⟨b + 4, 0, none⟩), .pointer (some ⟨b + 2, 0, none⟩), .pointer (some ⟨b, 0, none⟩), .pointer (some ⟨b + 1, 0, none⟩), .pointer (some ⟨b + 3, 0, none⟩)] W _
  clear h b0 B0 R0 B1 R1 B2 R2 R3 h1 h2 hq
  by_cases hs4 : sk = 4
  · have hor := h4 hs4
    clear h4 h5
    subst hs4
    exact absurd rfl hor.1
  · have hln := h5 hs4
    have hs4' : ((sk : Int) == 4) = false := by rw [beq_eq_false_iff_ne]; omega
    have hll : ((ln : Int) == (sl : Int)) = true := by rw [beq_iff_eq]; omega
    clear h4 h5 hs4 hln
    go_enter Tryd.func19, Tryd.ntmps19
    go_wp2
    go_ret
    exact ⟨rfl, (unhide HF).1, (unhide HF).2⟩

end Go.Proofs.YticjilkcobpcjaaDoor

/-
  The law's closure: a plain word.
-/
set_option linter.unusedSimpArgs false
set_option linter.unusedVariables false
namespace Go.Proofs.YticjilkcobpcjaaDoor
open Go.RowKit Go.Lib

set_option maxRecDepth 100000 in
set_option maxHeartbeats 8000000 in
theorem rises_pl (W : World) (b : Nat) (s : ByteArray) (hs : s.size ≤ 20000) (sa : Int) (sl sk : Nat) (h : RB W b s ⟨sa, sl, sk, false⟩) (t : ByteArray) (a ln : Nat) (z : Nat) (hz : t.size = z) (hz0 : 0 < z) (hz1 : a + z ≤ s.size) (hx : s.extract a (a + z) = t) (h1 : sl ≤ ln) (h3 : sa < (a : Int)) (h4 : sk = 4 → (sa < 0 ∨ sl < ln)) (h5 : sk ≠ 4 → ln = sl) :
    Calls Tryd.prog 19 (#[wV 1 t 0 a ln, .int .i64 0] ++ #[.pointer (some ⟨b + 5, 0, none⟩), .pointer (some ⟨b + 4, 0, none⟩), .pointer (some ⟨b + 2, 0, none⟩), .pointer (some ⟨b, 0, none⟩), .pointer (some ⟨b + 1, 0, none⟩), .pointer (some ⟨b + 3, 0, none⟩)]) W (RsA b s ⟨(a : Int) + (z : Int) - 1, ln, 1, false⟩ W) := by
  obtain ⟨X0, hX0⟩ : ∃ X0, W.alloc (.cells #[.int .i64 1, .string t, .int .i64 0, .int .i64 (a : Int), .int .i64 (ln : Int)] 29) = X0 := ⟨_, rfl⟩
  have b0 : Below W.heap.size W X0 := by rw [← hX0]; exact (Below.refl _ _).alloc (Nat.le_refl _) _
  have B0 : Bq X0 W.heap.size 29 #[.int .i64 1, .string t, .int .i64 0, .int .i64 (a : Int), .int .i64 (ln : Int)] := by rw [← hX0]; exact Bq.new _ _ _
  have R0 := h.keep b0 h.y.lt
  have hq := h.y.lt
  obtain ⟨X1, hX1⟩ : ∃ X1, X0.setCell ⟨b + 1, 0, none⟩ (.int .i64 (a : Int)) = X1 := ⟨_, rfl⟩
  have R1 : RB X1 b s ⟨(a : Int), sl, sk, false⟩ := by rw [← hX1]; exact R0.seta _
  have B1 : Bq X1 W.heap.size 29 #[.int .i64 1, .string t, .int .i64 0, .int .i64 (a : Int), .int .i64 (ln : Int)] := by rw [← hX1]; exact B0.setO _ (by simp; omega) _
  obtain ⟨X2, hX2⟩ : ∃ X2, X1.setCell ⟨b + 1, 0, none⟩ (.int .i64 ((a : Int) + (z : Int) - 1)) = X2 := ⟨_, rfl⟩
  have R2 : RB X2 b s ⟨(a : Int) + (z : Int) - 1, sl, sk, false⟩ := by rw [← hX2]; exact R1.seta _
  have B2 : Bq X2 W.heap.size 29 #[.int .i64 1, .string t, .int .i64 0, .int .i64 (a : Int), .int .i64 (ln : Int)] := by rw [← hX2]; exact B1.setO _ (by simp; omega) _
  obtain ⟨X3, hX3⟩ : ∃ X3, X2.setCell ⟨b + 2, 0, none⟩ (.int .i64 (ln : Int)) = X3 := ⟨_, rfl⟩
  have R3 : RB X3 b s ⟨(a : Int) + (z : Int) - 1, ln, sk, false⟩ := by rw [← hX3]; exact R2.setl _
  have B3 : Bq X3 W.heap.size 29 #[.int .i64 1, .string t, .int .i64 0, .int .i64 (a : Int), .int .i64 (ln : Int)] := by rw [← hX3]; exact B2.setO _ (by simp; omega) _
  obtain ⟨X4, hX4⟩ : ∃ X4, X3.setCell ⟨b + 3, 0, none⟩ (.int .i64 1) = X4 := ⟨_, rfl⟩
  have R4 : RB X4 b s ⟨(a : Int) + (z : Int) - 1, ln, 1, false⟩ := by rw [← hX4]; exact R3.setk 1
  have HF : Hid (RB X4 b s ⟨(a : Int) + (z : Int) - 1, ln, 1, false⟩ ∧ Kq b W X4) := hide ⟨R4, by rw [← hX4, ← hX3, ← hX2, ← hX1]; exact ((((Kq.of_below b0).set ⟨by omega, by omega⟩ _).set ⟨by omega, by omega⟩ _).set ⟨by omega, by omega⟩ _).set ⟨by omega, by omega⟩ _⟩
  have y0 := (R0).y.cell 0 _ rfl
  have o0 := (R0).o.cell 0 _ rfl
  have l0 := (R0).l.cell 0 _ rfl
  have s0 := (R0).s_.cell 0 _ rfl
  have a0 := (R0).a.cell 0 _ rfl
  have k0 := (R0).k.cell 0 _ rfl
  have fy := (R0).y.frozen 0
  have fo := (R0).o.frozen 0
  have fl := (R0).l.frozen 0
  have fa := (R0).a.frozen 0
  have fk := (R0).k.frozen 0
  have ey := (R0).y.same
  have w0 := (B0).cell 0 _ rfl
  have w1 := (B0).cell 1 _ rfl
  have w2 := (B0).cell 2 _ rfl
  have w3 := (B0).cell 3 _ rfl
  have w4 := (B0).cell 4 _ rfl
  have y0p := (R1).y.cell 0 _ rfl
  have o0p := (R1).o.cell 0 _ rfl
  have l0p := (R1).l.cell 0 _ rfl
  have s0p := (R1).s_.cell 0 _ rfl
  have a0p := (R1).a.cell 0 _ rfl
  have k0p := (R1).k.cell 0 _ rfl
  have fyp := (R1).y.frozen 0
  have fop := (R1).o.frozen 0
  have flp := (R1).l.frozen 0
  have fap := (R1).a.frozen 0
  have fkp := (R1).k.frozen 0
  have eyp := (R1).y.same
  have w0p := (B1).cell 0 _ rfl
  have w1p := (B1).cell 1 _ rfl
  have w2p := (B1).cell 2 _ rfl
  have w3p := (B1).cell 3 _ rfl
  have w4p := (B1).cell 4 _ rfl
  have y0q := (R2).y.cell 0 _ rfl
  have o0q := (R2).o.cell 0 _ rfl
  have l0q := (R2).l.cell 0 _ rfl
  have s0q := (R2).s_.cell 0 _ rfl
  have a0q := (R2).a.cell 0 _ rfl
  have k0q := (R2).k.cell 0 _ rfl
  have fyq := (R2).y.frozen 0
  have foq := (R2).o.frozen 0
  have flq := (R2).l.frozen 0
  have faq := (R2).a.frozen 0
  have fkq := (R2).k.frozen 0
  have eyq := (R2).y.same
  have w0q := (B2).cell 0 _ rfl
  have w1q := (B2).cell 1 _ rfl
  have w2q := (B2).cell 2 _ rfl
  have w3q := (B2).cell 3 _ rfl
  have w4q := (B2).cell 4 _ rfl
  have y0z := (R3).y.cell 0 _ rfl
  have o0z := (R3).o.cell 0 _ rfl
  have l0z := (R3).l.cell 0 _ rfl
  have s0z := (R3).s_.cell 0 _ rfl
  have a0z := (R3).a.cell 0 _ rfl
  have k0z := (R3).k.cell 0 _ rfl
  have fyz := (R3).y.frozen 0
  have foz := (R3).o.frozen 0
  have flz := (R3).l.frozen 0
  have faz := (R3).a.frozen 0
  have fkz := (R3).k.frozen 0
  have eyz := (R3).y.same
  have w0z := (B3).cell 0 _ rfl
  have w1z := (B3).cell 1 _ rfl
  have w2z := (B3).cell 2 _ rfl
  have w3z := (B3).cell 3 _ rfl
  have w4z := (B3).cell 4 _ rfl
  have y1 := R4.y.cell 0 _ rfl
  have d1 : (sl : Int) ≤ (ln : Int) := by omega
  have d2 : (a : Int) ≤ (s.size : Int) := by omega
  have d3 : (a : Int) + (z : Int) ≤ (s.size : Int) := by omega
  have d4 : (0 : Int) < (z : Int) := by omega
  have hxl : W.heap.size < X0.heap.size := B0.lt
  have tne : (t.toList == (⟨#[]⟩ : ByteArray).toList) = false := by
    rw [beq_eq_false_iff_ne]
    intro e
    rw [ByteArray.toList_eq, ByteArray.toList_eq] at e
    have : t.data.toList.length = 0 := by rw [e]; rfl
    have h2 : t.data.toList.length = t.size := rfl
    omega
  have tne' : (t.toList != (⟨#[]⟩ : ByteArray).toList) = true := by rw [bne, tne]; rfl
  change Calls Tryd.prog 19 #[.agg #[.int .i64 1, .string t, .int .i64 0, .int .i64 (a : Int), .int .i64 (ln : Int)], .int .i64 0, .pointer (some ⟨b + 5, 0, none⟩), .pointer (some ⟨b + 4, 0, none⟩), .pointer (some ⟨b + 2, 0, none⟩), .pointer (some ⟨b, 0, none⟩), .pointer (some ⟨b + 1, 0, none⟩), .pointer (some ⟨b + 3, 0, none⟩)] W _
  clear h b0 B0 R0 B1 R1 B2 R2 B3 R3 R4 h1 hq
  by_cases hs4 : sk = 4
  · have hor := h4 hs4
    clear h4 h5
    subst hs4
    by_cases hneg : sa < 0
    · clear hor
      go_enter Tryd.func19, Tryd.ntmps19
      go_upto_region 12 with fail
      have t1 : (t.toList == []) = false := by
        rw [beq_eq_false_iff_ne]
        intro e
        rw [ByteArray.toList_eq] at e
        have q : t.data.toList.length = 0 := by rw [e]; rfl
        have q2 : t.data.toList.length = t.size := rfl
        omega
      have t2 : ¬ t.toList = [] := by simpa using t1
      have t3 : (t.toList != []) = true := by rw [bne, t1]; rfl
      have t4 : (t.toList == t.toList) = true := by simp
      have hzw : IntKind.i64.wrap ((a : Int) + (z : Int)) = (a : Int) + (z : Int) := by simp only [IntKind.wrap_i64]; omega
      have hzd : decide ((a : Int) + (z : Int) ≤ (s.size : Int)) = true := decide_eq_true d3
      go_region
      go_wp2
      go_ret
      exact ⟨rfl, (unhide HF).1.keep (Below.refl _ _).drew (unhide HF).1.y.lt, (unhide HF).2.below (Below.refl _ _).drew⟩
    · have hgt : (sl : Int) < (ln : Int) := by rcases hor with q | q; exact absurd q hneg; omega
      clear hor
      go_enter Tryd.func19, Tryd.ntmps19
      go_upto_region 12 with fail
      have t1 : (t.toList == []) = false := by
        rw [beq_eq_false_iff_ne]
        intro e
        rw [ByteArray.toList_eq] at e
        have q : t.data.toList.length = 0 := by rw [e]; rfl
        have q2 : t.data.toList.length = t.size := rfl
        omega
      have t2 : ¬ t.toList = [] := by simpa using t1
      have t3 : (t.toList != []) = true := by rw [bne, t1]; rfl
      have t4 : (t.toList == t.toList) = true := by simp
      have hzw : IntKind.i64.wrap ((a : Int) + (z : Int)) = (a : Int) + (z : Int) := by simp only [IntKind.wrap_i64]; omega
      have hzd : decide ((a : Int) + (z : Int) ≤ (s.size : Int)) = true := decide_eq_true d3
      go_region
      go_wp2
      go_ret
      exact ⟨rfl, (unhide HF).1.keep (Below.refl _ _).drew (unhide HF).1.y.lt, (unhide HF).2.below (Below.refl _ _).drew⟩
  · have hln := h5 hs4
    have hs4' : ((sk : Int) == 4) = false := by rw [beq_eq_false_iff_ne]; omega
    have hll : ((ln : Int) == (sl : Int)) = true := by rw [beq_iff_eq]; omega
    clear h4 h5 hs4 hln
    go_enter Tryd.func19, Tryd.ntmps19
    go_upto_region 12 with fail
    have t1 : (t.toList == []) = false := by
      rw [beq_eq_false_iff_ne]
      intro e
      rw [ByteArray.toList_eq] at e
      have q : t.data.toList.length = 0 := by rw [e]; rfl
      have q2 : t.data.toList.length = t.size := rfl
      omega
    have t2 : ¬ t.toList = [] := by simpa using t1
    have t3 : (t.toList != []) = true := by rw [bne, t1]; rfl
    have t4 : (t.toList == t.toList) = true := by simp
    have hzw : IntKind.i64.wrap ((a : Int) + (z : Int)) = (a : Int) + (z : Int) := by simp only [IntKind.wrap_i64]; omega
    have hzd : decide ((a : Int) + (z : Int) ≤ (s.size : Int)) = true := decide_eq_true d3
    go_region
    go_wp2
    go_ret
    exact ⟨rfl, (unhide HF).1.keep (Below.refl _ _).drew (unhide HF).1.y.lt, (unhide HF).2.below (Below.refl _ _).drew⟩

end Go.Proofs.YticjilkcobpcjaaDoor
