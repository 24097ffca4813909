/-
  Words rise. Pure.
-/
import Derived.Test.YtkndjbmlkfpfoaaGreatDoorZSp
import Derived.WalkMore

set_option linter.unusedSimpArgs false
set_option linter.unusedVariables false
namespace Go.Proofs.YtkndjbmlkfpfoaaGreatDoor
open Go.RowKit Go.Lib

/-- what the law keeps: the last byte of the last word, its line and kind; an error came -/
structure Rs where
  a : Int
  ln : Nat
  kd : Nat
  ov : Bool
def Rs.next (st : Rs) (x : It) : Rs := if x.w.e ≠ 0 then ⟨st.a, st.ln, st.kd, true⟩ else ⟨if x.w.k = 1 then (x.w.a : Int) + (x.w.t.size : Int) - 1 else (x.w.a : Int), x.ln, x.w.k, false⟩
/-- a word is as it should be -/
structure WdOk (s : ByteArray) (x : Wd) (i : Nat) : Prop where
  lo : i ≤ x.a
  hi : x.a ≤ s.size
  er : x.e ≠ 0 → x.k = 0 ∧ x.t = ⟨#[]⟩ ∧ x.n = 0 ∧ (x.e = 18 ∨ x.e = 2 ∨ x.e = 6)
  at_ : x.e = 0 → x.a = i
  k1 : x.e = 0 → 1 ≤ x.k ∧ x.k ≤ 4
  n0 : x.e = 0 → x.k ≠ 3 → x.n = 0
  t0 : x.e = 0 → x.k ≠ 1 → x.k ≠ 2 → x.t = ⟨#[]⟩
  pl : x.e = 0 → x.k = 1 → 0 < x.t.size ∧ i + x.t.size ≤ s.size ∧ s.extract i (i + x.t.size) = x.t ∧ x.nx = i + x.t.size
theorem WdOk.endI (s : ByteArray) (i line : Nat) (h : i ≤ s.size) : WdOk s (endI i line).w i :=
  ⟨Nat.le_refl _, h, fun e => absurd rfl e, fun _ => rfl, fun _ => ⟨by simp [Go.Proofs.YtkndjbmlkfpfoaaGreatDoor.endI], by simp [Go.Proofs.YtkndjbmlkfpfoaaGreatDoor.endI]⟩, fun _ _ => rfl, fun _ _ _ => rfl, fun _ e => absurd e (by simp [Go.Proofs.YtkndjbmlkfpfoaaGreatDoor.endI])⟩
theorem bwF_err (s : ByteArray) : ∀ (f i : Nat), (bwF s f i).2 = 0 ∨ (bwF s f i).2 = 18 ∨ (bwF s f i).2 = 2
  | 0, i => .inl rfl
  | f + 1, i => by
    unfold bwF
    split
    · exact .inl rfl
    · split
      · exact .inl rfl
      · split
        · exact .inr (.inl rfl)
        · split
          · exact .inr (.inr rfl)
          · exact bwF_err s f _
theorem wdAt_ok (s : ByteArray) (i : Nat) (h : i < s.size) (hw : isWe (by_ s i) = false) : WdOk s (wdAt s i) i ∧ ((wdAt s i).e = 0 → (wdAt s i).k ≠ 4) := by
  have hnx := wdAt_nx s i h hw
  unfold wdAt at hnx ⊢
  split
  · rename_i hc
    rw [if_pos hc] at hnx
    have hb := rdA_bounds s _ (i + 1) [] (Nat.le_refl _) (by omega)
    rw [← rdA_zero] at hb
    unfold qdW at hnx ⊢
    split
    · exact ⟨⟨Nat.le_refl _, by show i ≤ s.size; omega, fun e => absurd rfl e, fun _ => rfl, fun _ => ⟨by simp [Go.Proofs.YtkndjbmlkfpfoaaGreatDoor.endI], by simp [Go.Proofs.YtkndjbmlkfpfoaaGreatDoor.endI]⟩, fun _ _ => rfl, fun _ _ e => absurd rfl e, fun _ e => absurd e (by simp [Go.Proofs.YtkndjbmlkfpfoaaGreatDoor.endI])⟩, fun _ => by simp [Go.Proofs.YtkndjbmlkfpfoaaGreatDoor.endI]⟩
    · exact ⟨⟨by show i ≤ (rdE s (i + 1)).2.1; have := hb.2.1; omega, hb.1, fun _ => ⟨rfl, rfl, rfl, .inl rfl⟩, fun e => absurd e (by simp [Go.Proofs.YtkndjbmlkfpfoaaGreatDoor.endI]), fun e => absurd e (by simp [Go.Proofs.YtkndjbmlkfpfoaaGreatDoor.endI]), fun e => absurd e (by simp [Go.Proofs.YtkndjbmlkfpfoaaGreatDoor.endI]), fun e => absurd e (by simp [Go.Proofs.YtkndjbmlkfpfoaaGreatDoor.endI]), fun e => absurd e (by simp [Go.Proofs.YtkndjbmlkfpfoaaGreatDoor.endI])⟩, fun e => absurd e (by simp [Go.Proofs.YtkndjbmlkfpfoaaGreatDoor.endI])⟩
  · rename_i hc
    rw [if_neg hc] at hnx
    have hb := bwA_bounds s _ i (Nat.le_refl _) (by omega)
    have he := bwF_err s (s.size - i) i
    change (bwA s i).2 = 0 ∨ (bwA s i).2 = 18 ∨ (bwA s i).2 = 2 at he
    unfold bwW at hnx ⊢
    split
    · rename_i hd
      exact ⟨⟨hb.1, hb.2, fun _ => ⟨rfl, rfl, rfl, by rcases he with e | e | e; exact absurd e hd; exact .inl e; exact .inr (.inl e)⟩, fun e => absurd e hd, fun e => absurd e hd, fun e => absurd e hd, fun e => absurd e hd, fun e => absurd e hd⟩, fun e => absurd e hd⟩
    · rename_i hd
      rw [if_neg hd] at hnx
      split
      · rename_i hg
        rw [if_pos hg] at hnx
        have hn := hnx rfl
        have hsz : (s.extract i (bwA s i).1).size = (bwA s i).1 - i := by rw [ByteArray.size_extract]; omega
        have hn1 : i < (bwA s i).1 := hn.1
        refine ⟨⟨Nat.le_refl _, by show i ≤ s.size; omega, fun e => absurd rfl e, fun _ => rfl, fun _ => ⟨by simp [Go.Proofs.YtkndjbmlkfpfoaaGreatDoor.endI], by simp [Go.Proofs.YtkndjbmlkfpfoaaGreatDoor.endI]⟩, fun _ _ => rfl, fun _ e => absurd rfl e, fun _ _ => ?_⟩, fun _ => by simp [Go.Proofs.YtkndjbmlkfpfoaaGreatDoor.endI]⟩
        show 0 < (s.extract i (bwA s i).1).size ∧ i + (s.extract i (bwA s i).1).size ≤ s.size ∧ s.extract i (i + (s.extract i (bwA s i).1).size) = s.extract i (bwA s i).1 ∧ (bwA s i).1 = i + (s.extract i (bwA s i).1).size
        rw [hsz, show i + ((bwA s i).1 - i) = (bwA s i).1 by omega]
        exact ⟨by omega, hb.2, rfl, rfl⟩
      · rename_i hg
        rw [if_neg hg] at hnx
        split
        · exact ⟨⟨Nat.le_refl _, by show i ≤ s.size; omega, fun _ => ⟨rfl, rfl, rfl, .inr (.inr rfl)⟩, fun e => absurd e (by simp [Go.Proofs.YtkndjbmlkfpfoaaGreatDoor.endI]), fun e => absurd e (by simp [Go.Proofs.YtkndjbmlkfpfoaaGreatDoor.endI]), fun e => absurd e (by simp [Go.Proofs.YtkndjbmlkfpfoaaGreatDoor.endI]), fun e => absurd e (by simp [Go.Proofs.YtkndjbmlkfpfoaaGreatDoor.endI]), fun e => absurd e (by simp [Go.Proofs.YtkndjbmlkfpfoaaGreatDoor.endI])⟩, fun e => absurd e (by simp [Go.Proofs.YtkndjbmlkfpfoaaGreatDoor.endI])⟩
        · exact ⟨⟨Nat.le_refl _, by show i ≤ s.size; omega, fun e => absurd rfl e, fun _ => rfl, fun _ => ⟨by simp [Go.Proofs.YtkndjbmlkfpfoaaGreatDoor.endI], by simp [Go.Proofs.YtkndjbmlkfpfoaaGreatDoor.endI]⟩, fun _ e => absurd rfl e, fun _ _ _ => rfl, fun _ e => absurd e (by simp [Go.Proofs.YtkndjbmlkfpfoaaGreatDoor.endI])⟩, fun _ => by simp [Go.Proofs.YtkndjbmlkfpfoaaGreatDoor.endI]⟩
/-- what the law asks of a word -/
structure RsOk (s : ByteArray) (st : Rs) (x : It) : Prop where
  ov : st.ov = false
  ln : st.ln ≤ x.ln
  a : st.a < (x.w.a : Int)
  ok : WdOk s x.w x.w.a
  k4 : x.w.e = 0 → st.kd = 4 → x.w.k ≠ 4 ∧ (st.a < 0 ∨ st.ln < x.ln)
  kn : x.w.e = 0 → st.kd ≠ 4 → x.ln = st.ln
def RsL (s : ByteArray) : Rs → List It → Prop
  | st, [] => st.ov = true ∨ st.kd = 4
  | st, x :: l => RsOk s st x ∧ RsL s (st.next x) l
/-- from a byte on -/
structure RsI (st : Rs) (i line : Nat) (m : Bool) : Prop where
  ov : st.ov = false
  a : st.a < (i : Int)
  ln : st.ln ≤ line
  mt : m = true → st.kd ≠ 4 ∧ st.ln = line
  mf : m = false → st.kd = 4 ∧ (st.a < 0 ∨ st.ln < line)
theorem WdOk.self {s : ByteArray} {x : Wd} {i : Nat} (h : WdOk s x i) : WdOk s x x.a :=
  ⟨Nat.le_refl _, h.hi, h.er, fun _ => rfl, h.k1, h.n0, h.t0, fun e k => by rw [h.at_ e]; exact h.pl e k⟩
theorem end_ok (s : ByteArray) {st : Rs} {i line : Nat} (h : RsI st i line true) (hi : i ≤ s.size) : RsOk s st (endI i line) ∧ RsI (st.next (endI i line)) (i + 1) (line + 1) false ∧ (st.next (endI i line)).kd = 4 := by
  have e : st.next (endI i line) = ⟨(i : Int), line, 4, false⟩ := rfl
  refine ⟨⟨h.ov, h.ln, h.a, (WdOk.endI s i line hi).self, fun _ q => absurd q (h.mt rfl).1, fun _ _ => (h.mt rfl).2.symm⟩, ?_, by rw [e]⟩
  rw [e]
  exact ⟨rfl, by show (i : Int) < ((i + 1 : Nat) : Int); omega, by show line ≤ line + 1; omega, fun q => (by cases q), fun _ => ⟨rfl, .inr (by show line < line + 1; omega)⟩⟩
theorem RsI.go {st : Rs} {i j line : Nat} {m : Bool} (h : RsI st i line m) (hj : i ≤ j) : RsI st j line m := ⟨h.ov, by have := h.a; omega, h.ln, h.mt, h.mf⟩
theorem sc_rises (s : ByteArray) : ∀ (f i line : Nat) (m : Bool) (st : Rs), s.size - i ≤ f → i ≤ s.size → RsI st i line m → RsL s st (scA s i line m)
  | f, i, line, m, st, hf, hi, h => by
    by_cases c0 : i < s.size
    · have hrec : ∀ j line' m' st', i < j → j ≤ s.size → RsI st' j line' m' → RsL s st' (scA s j line' m') := fun j line' m' st' hj hjs h' => by
        match f, hf with
        | 0, hf => omega
        | f + 1, hf => exact sc_rises s f j line' m' st' (by omega) hjs h'
      have hb := bhL_bounds s i c0
      cases c1 : isLn (by_ s i) with
      | true =>
        rw [scA_line c0 c1]
        cases m with
        | true =>
          have q := end_ok s h hi
          exact ⟨q.1, hrec _ _ _ _ hb.1 hb.2 (q.2.1.go (by omega))⟩
        | false =>
          refine hrec _ _ _ _ hb.1 hb.2 ⟨h.ov, by have := h.a; omega, by have := h.ln; omega, fun q => (by cases q), fun _ => ⟨(h.mf rfl).1, ?_⟩⟩
          have := h.ln
          right; omega
      | false =>
        cases c2 : isBl (by_ s i) with
        | true =>
          rw [scA_blank c0 c1 c2]
          exact hrec _ _ _ _ (by omega) (by omega) (h.go (by omega))
        | false =>
          by_cases c3 : by_ s i = 35
          · rw [scA_remark c0 c1 c2 c3]
            have hg : rmE s i = rmE s (i + 1) := rmE_go s i c0 c1
            have hr2 := rmE_bounds s _ (i + 1) (Nat.le_refl _) (by omega)
            exact hrec _ _ _ _ (by omega) (by omega) (h.go (by omega))
          · rw [scA_word c0 c1 c2 c3]
            have hw := we_of s i (by rw [c1]; simp) (by rw [c2]; simp) c3
            obtain ⟨hok, hk4⟩ := wdAt_ok s i c0 hw
            have hlo := hok.lo
            refine ⟨⟨h.ov, h.ln, by have := h.a; show st.a < ((wdAt s i).a : Int); omega, hok.self, fun e q => ⟨hk4 e, ?_⟩, fun e q => ?_⟩, ?_⟩
            · cases m with
              | true => exact absurd q (h.mt rfl).1
              | false => exact (h.mf rfl).2
            · cases m with
              | true => exact (h.mt rfl).2.symm
              | false => exact absurd (h.mf rfl).1 q
            · by_cases c4 : (wdAt s i).e = 0
              · rw [if_pos c4]
                have hn := wdAt_nx s i c0 hw c4
                refine hrec _ _ _ _ hn.1 hn.2 ?_
                unfold Rs.next
                rw [if_neg (by simpa using c4)]
                refine ⟨rfl, ?_, Nat.le_refl _, fun _ => ⟨hk4 c4, rfl⟩, fun q => by cases q⟩
                show (if (wdAt s i).k = 1 then ((wdAt s i).a : Int) + ((wdAt s i).t.size : Int) - 1 else ((wdAt s i).a : Int)) < _
                have ha := hok.at_ c4
                split
                · rename_i hk
                  have := hok.pl c4 hk
                  omega
                · omega
              · rw [if_neg c4]
                left
                unfold Rs.next
                rw [if_pos c4]
    · rw [scA_end c0]
      cases m with
      | true =>
        have q := end_ok s h hi
        exact ⟨q.1, .inr q.2.2⟩
      | false => exact .inr (h.mf rfl).1
def stF : Rs → List It → Rs
  | st, [] => st
  | st, x :: l => stF (st.next x) l
theorem stF_snoc : ∀ (st : Rs) (l : List It) (x : It), stF st (l ++ [x]) = (stF st l).next x
  | st, [], x => rfl
  | st, y :: l, x => stF_snoc (st.next y) l x
theorem RsL.at {s : ByteArray} : ∀ {st : Rs} {pre rest : List It} {x : It}, RsL s st (pre ++ x :: rest) → RsOk s (stF st pre) x
  | st, [], rest, x, h => h.1
  | st, y :: pre, rest, x, h => RsL.at (pre := pre) h.2
theorem RsL.fin {s : ByteArray} : ∀ {st : Rs} {l : List It}, RsL s st l → (stF st l).ov = true ∨ (stF st l).kd = 4
  | st, [], h => h
  | st, x :: l, h => RsL.fin (l := l) h.2
def st0 : Rs := ⟨-1, 1, 4, false⟩
theorem scL_rises (s : ByteArray) : RsL s st0 (scL s) := sc_rises s s.size 0 1 false st0 (by omega) (Nat.zero_le _) ⟨rfl, by decide, by decide, fun q => (by cases q), fun _ => ⟨rfl, .inl (by decide)⟩⟩

end Go.Proofs.YtkndjbmlkfpfoaaGreatDoor

/-
  The law's closure: words rise.
-/
set_option linter.unusedSimpArgs false
set_option linter.unusedVariables false
namespace Go.Proofs.YtkndjbmlkfpfoaaGreatDoor
open Go.RowKit Go.Lib

/-- a block of cells of one's own -/
def Bq (W : World) (b : Nat) (t : TypeId) (vs : Array Value) : Prop := W.heap[b]? = some (.cells vs t (0, 0))
theorem Bq.new (W : World) (t : TypeId) (vs : Array Value) : Bq (W.alloc (.cells vs t)) W.heap.size t vs := heap_alloc_new W _
theorem Bq.lt {W : World} {b : Nat} {t : TypeId} {vs : Array Value} (h : Bq W b t vs) : b < W.heap.size := (Array.getElem?_eq_some_iff.1 h).1
theorem Bq.keep {W W' : World} {B b : Nat} {t : TypeId} {vs : Array Value} (h : Bq W b t vs) (hb : Below B W W') (hl : b < B) : Bq W' b t vs := (hb.block _ hl).trans h
theorem Bq.cell {W : World} {b : Nat} {t : TypeId} {vs : Array Value} (h : Bq W b t vs) (j : Nat) (v : Value) (hj : vs[j]? = some v) : W.cell? ⟨b, j, none⟩ = some v := by
  have e : W.heap[b]? = some (.cells vs t (0, 0)) := h
  simp [World.cell?, e, hj]
theorem Bq.frozen {W : World} {b : Nat} {t : TypeId} {vs : Array Value} (h : Bq W b t vs) (j : Nat) : W.frozen? ⟨b, j, none⟩ = false := by
  have e : W.heap[b]? = some (.cells vs t (0, 0)) := h
  simp [World.frozen?, e]
theorem Bq.set {W : World} {b : Nat} {t : TypeId} {v0 : Value} (h : Bq W b t #[v0]) (v : Value) : Bq (W.setCell ⟨b, 0, none⟩ v) b t #[v] := by
  have e : W.heap[b]? = some (.cells #[v0] t (0, 0)) := h
  unfold Bq
  simp [World.setCell, e, Array.getElem?_modify]
theorem Bq.setO {W : World} {b : Nat} {t : TypeId} {vs : Array Value} (h : Bq W b t vs) (p : Addr) (hp : b ≠ p.block) (v : Value) : Bq (W.setCell p v) b t vs := (Below.heap_setCell W p v b hp).trans h
theorem Bq.same {W : World} {b t : Nat} {v : Value} (h : Bq W b t #[v]) : W.setCell ⟨b, 0, none⟩ v = W := by
  have hb := h.lt
  have he : W.heap.modify b (fun o => match o with | .cells c elem frozen => .cells (if (none : Option Nat).isSome then c else c.setIfInBounds 0 v) elem frozen | o => o) = W.heap := by
    apply Array.ext
    · simp
    · intro i h1 h2
      rw [Array.getElem_modify]
      split
      · rename_i e
        subst e
        have : W.heap[b] = .cells #[v] t (0, 0) := by
          have := h
          unfold Bq at this
          rw [Array.getElem?_eq_getElem hb] at this
          simpa using this
        rw [this]
        simp
      · rfl
  cases W
  unfold World.setCell
  congr 1
/-- the law's variables -/
structure RB (W : World) (b : Nat) (s : ByteArray) (st : Rs) : Prop where
  s_ : Bq W b 9 #[.string s]
  a : Bq W (b + 1) 3 #[.int .i64 st.a]
  l : Bq W (b + 2) 3 #[.int .i64 (st.ln : Int)]
  k : Bq W (b + 3) 3 #[.int .i64 (st.kd : Int)]
  o : Bq W (b + 4) 4 #[.bool st.ov]
  y : Bq W (b + 5) 4 #[.bool true]
theorem RB.keep {W W' : World} {B b : Nat} {s : ByteArray} {st : Rs} (h : RB W b s st) (hb : Below B W W') (hl : b + 5 < B) : RB W' b s st :=
  ⟨h.s_.keep hb (by omega), h.a.keep hb (by omega), h.l.keep hb (by omega), h.k.keep hb (by omega), h.o.keep hb (by omega), h.y.keep hb (by omega)⟩
/-- a store keeps all other blocks -/
def Kq (b : Nat) (W W' : World) : Prop := W.heap.size ≤ W'.heap.size ∧ W'.os = W.os ∧ W'.tape = W.tape ∧ W'.output = W.output ∧ ∀ i, i < W.heap.size → (i < b ∨ b + 5 < i) → W'.heap[i]? = W.heap[i]?
theorem Kq.refl (b : Nat) (W : World) : Kq b W W := ⟨Nat.le_refl _, rfl, rfl, rfl, fun _ _ _ => rfl⟩
theorem Kq.set {b : Nat} {W W' : World} (h : Kq b W W') {j : Nat} (hj : b ≤ j ∧ j ≤ b + 5) (v : Value) : Kq b W (W'.setCell ⟨j, 0, none⟩ v) := by
  have q := Below.setCell (Below.refl 0 W') (Nat.zero_le j) (p := ⟨j, 0, none⟩) v
  exact ⟨Nat.le_trans h.1 q.size, q.os.trans h.2.1, q.tape.trans h.2.2.1, q.output.trans h.2.2.2.1, fun i hi hn => (Below.heap_setCell W' ⟨j, 0, none⟩ v i (by simp; omega)).trans (h.2.2.2.2 i hi hn)⟩
theorem Kq.of_below {b : Nat} {W W' : World} (h : Below W.heap.size W W') : Kq b W W' := ⟨h.size, h.os, h.tape, h.output, fun i hi _ => h.block i hi⟩
theorem Kq.below {b : Nat} {W W' W'' : World} (h : Kq b W W') (hb : Below W'.heap.size W' W'') : Kq b W W'' := ⟨Nat.le_trans h.1 hb.size, hb.os.trans h.2.1, hb.tape.trans h.2.2.1, hb.output.trans h.2.2.2.1, fun i hi hn => (hb.block i (Nat.lt_of_lt_of_le hi h.1)).trans (h.2.2.2.2 i hi hn)⟩
end Go.Proofs.YtkndjbmlkfpfoaaGreatDoor
