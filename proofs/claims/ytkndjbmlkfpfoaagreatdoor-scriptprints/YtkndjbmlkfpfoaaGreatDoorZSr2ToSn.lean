/-
  The law's closure: words rise.
-/
import Derived.Test.YtkndjbmlkfpfoaaGreatDoorZSwToSr
import Derived.WalkMore
import Derived.Test.YtkndjbmlkfpfoaaGreatDoorZSc5ToSp
import Derived.ScopeJumps
import Derived.Test.YtkndjbmlkfpfoaaGreatDoorZEsToSc

set_option linter.unusedSimpArgs false
set_option linter.unusedVariables false
namespace Go.Proofs.YtkndjbmlkfpfoaaGreatDoor
open Go.RowKit Go.Lib

/-- a block of cells of one's own -/
def Bq (W : World) (b : Nat) (t : TypeId) (vs : Array Value) : Prop := W.heap[b]? = some (.cells vs t (0, 0))
theorem Bq.new (W : World) (t : TypeId) (vs : Array Value) : Bq (W.alloc (.cells vs t)) W.heap.size t vs := heap_alloc_new W _
theorem Bq.lt {W : World} {b : Nat} {t : TypeId} {vs : Array Value} (h : Bq W b t vs) : b < W.heap.size := (Array.getElem?_eq_some_iff.1 h).1
theorem Bq.keep {W W' : World} {B b : Nat} {t : TypeId} {vs : Array Value} (h : Bq W b t vs) (hb : Below B W W') (hl : b < B) : Bq W' b t vs := (hb.block _ hl).trans h
theorem Bq.cell {W : World} {b : Nat} {t : TypeId} {vs : Array Value} (h : Bq W b t vs) (j : Nat) (v : Value) (hj : vs[j]? = some v) : W.cell? ⟨b, j, none⟩ = some v := by
  have e : W.heap[b]? = some (.cells vs t (0, 0)) := h
  simp [World.cell?, e, hj]
theorem Bq.frozen {W : World} {b : Nat} {t : TypeId} {vs : Array Value} (h : Bq W b t vs) (j : Nat) : W.frozen? ⟨b, j, none⟩ = false := by
  have e : W.heap[b]? = some (.cells vs t (0, 0)) := h
  simp [World.frozen?, e]
theorem Bq.set {W : World} {b : Nat} {t : TypeId} {v0 : Value} (h : Bq W b t #[v0]) (v : Value) : Bq (W.setCell ⟨b, 0, none⟩ v) b t #[v] := by
  have e : W.heap[b]? = some (.cells #[v0] t (0, 0)) := h
  unfold Bq
  simp [World.setCell, e, Array.getElem?_modify]
theorem Bq.setO {W : World} {b : Nat} {t : TypeId} {vs : Array Value} (h : Bq W b t vs) (p : Addr) (hp : b ≠ p.block) (v : Value) : Bq (W.setCell p v) b t vs := (Below.heap_setCell W p v b hp).trans h
theorem Bq.same {W : World} {b t : Nat} {v : Value} (h : Bq W b t #[v]) : W.setCell ⟨b, 0, none⟩ v = W := by
  have hb := h.lt
  have he : W.heap.modify b (fun o => match o with | .cells c elem frozen => .cells (if (none : Option Nat).isSome then c else c.setIfInBounds 0 v) elem frozen | o => o) = W.heap := by
    apply Array.ext
    · simp
    · intro i h1 h2
      rw [Array.getElem_modify]
      split
      · rename_i e
        subst e
        have : W.heap[b] = .cells #[v] t (0, 0) := by
          have := h
          unfold Bq at this
          rw [Array.getElem?_eq_getElem hb] at this
          simpa using this
        rw [this]
        simp
      · rfl
  cases W
  unfold World.setCell
  congr 1
/-- the law's variables -/
structure RB (W : World) (b : Nat) (s : ByteArray) (st : Rs) : Prop where
  s_ : Bq W b 9 #[.string s]
  a : Bq W (b + 1) 3 #[.int .i64 st.a]
  l : Bq W (b + 2) 3 #[.int .i64 (st.ln : Int)]
  k : Bq W (b + 3) 3 #[.int .i64 (st.kd : Int)]
  o : Bq W (b + 4) 4 #[.bool st.ov]
  y : Bq W (b + 5) 4 #[.bool true]
theorem RB.keep {W W' : World} {B b : Nat} {s : ByteArray} {st : Rs} (h : RB W b s st) (hb : Below B W W') (hl : b + 5 < B) : RB W' b s st :=
  ⟨h.s_.keep hb (by omega), h.a.keep hb (by omega), h.l.keep hb (by omega), h.k.keep hb (by omega), h.o.keep hb (by omega), h.y.keep hb (by omega)⟩
theorem RB.seta {W : World} {b : Nat} {s : ByteArray} {st : Rs} (h : RB W b s st) (x : Int) : RB (W.setCell ⟨b + 1, 0, none⟩ (.int .i64 x)) b s ⟨x, st.ln, st.kd, st.ov⟩ :=
  ⟨h.s_.setO _ (by simp) _, h.a.set _, h.l.setO _ (by simp) _, h.k.setO _ (by simp) _, h.o.setO _ (by simp) _, h.y.setO _ (by simp) _⟩
theorem RB.setl {W : World} {b : Nat} {s : ByteArray} {st : Rs} (h : RB W b s st) (x : Nat) : RB (W.setCell ⟨b + 2, 0, none⟩ (.int .i64 (x : Int))) b s ⟨st.a, x, st.kd, st.ov⟩ :=
  ⟨h.s_.setO _ (by simp) _, h.a.setO _ (by simp) _, h.l.set _, h.k.setO _ (by simp) _, h.o.setO _ (by simp) _, h.y.setO _ (by simp) _⟩
theorem RB.setk {W : World} {b : Nat} {s : ByteArray} {st : Rs} (h : RB W b s st) (x : Nat) : RB (W.setCell ⟨b + 3, 0, none⟩ (.int .i64 (x : Int))) b s ⟨st.a, st.ln, x, st.ov⟩ :=
  ⟨h.s_.setO _ (by simp) _, h.a.setO _ (by simp) _, h.l.setO _ (by simp) _, h.k.set _, h.o.setO _ (by simp) _, h.y.setO _ (by simp) _⟩
theorem RB.seto {W : World} {b : Nat} {s : ByteArray} {st : Rs} (h : RB W b s st) (x : Bool) : RB (W.setCell ⟨b + 4, 0, none⟩ (.bool x)) b s ⟨st.a, st.ln, st.kd, x⟩ :=
  ⟨h.s_.setO _ (by simp) _, h.a.setO _ (by simp) _, h.l.setO _ (by simp) _, h.k.setO _ (by simp) _, h.o.set _, h.y.setO _ (by simp) _⟩
/-- a store keeps all other blocks -/
def Kq (b : Nat) (W W' : World) : Prop := W.heap.size ≤ W'.heap.size ∧ W'.os = W.os ∧ W'.tape = W.tape ∧ W'.output = W.output ∧ ∀ i, i < W.heap.size → (i < b ∨ b + 5 < i) → W'.heap[i]? = W.heap[i]?
theorem Kq.refl (b : Nat) (W : World) : Kq b W W := ⟨Nat.le_refl _, rfl, rfl, rfl, fun _ _ _ => rfl⟩
theorem Kq.set {b : Nat} {W W' : World} (h : Kq b W W') {j : Nat} (hj : b ≤ j ∧ j ≤ b + 5) (v : Value) : Kq b W (W'.setCell ⟨j, 0, none⟩ v) := by
  have q := Below.setCell (Below.refl 0 W') (Nat.zero_le j) (p := ⟨j, 0, none⟩) v
  exact ⟨Nat.le_trans h.1 q.size, q.os.trans h.2.1, q.tape.trans h.2.2.1, q.output.trans h.2.2.2.1, fun i hi hn => (Below.heap_setCell W' ⟨j, 0, none⟩ v i (by simp; omega)).trans (h.2.2.2.2 i hi hn)⟩
theorem Kq.of_below {b : Nat} {W W' : World} (h : Below W.heap.size W W') : Kq b W W' := ⟨h.size, h.os, h.tape, h.output, fun i hi _ => h.block i hi⟩
theorem Kq.below {b : Nat} {W W' W'' : World} (h : Kq b W W') (hb : Below W'.heap.size W' W'') : Kq b W W'' := ⟨Nat.le_trans h.1 hb.size, hb.os.trans h.2.1, hb.tape.trans h.2.2.1, hb.output.trans h.2.2.2.1, fun i hi hn => (hb.block i (Nat.lt_of_lt_of_le hi h.1)).trans (h.2.2.2.2 i hi hn)⟩
def RsA (b : Nat) (s : ByteArray) (st : Rs) (W : World) (e : Ending) (W' : World) : Prop := e = .returned (.bool true) ∧ RB W' b s st ∧ Kq b W W'

end Go.Proofs.YtkndjbmlkfpfoaaGreatDoor

/-
  A scope in which the run jumps to several labels: what holds at each jump, and a measure that every jump lowers.
-/
set_option linter.unusedVariables false
namespace Go.Proofs.YtkndjbmlkfpfoaaGreatDoor
open Go.RowKit Go.Lib

/-- as Q; by a goto to one of the labels: what holds there -/
def Jumps (L : Nat → Prop) (J : Nat → Act → World → Prop) (Q : Exit → Act → World → Prop) : Exit → Act → World → Prop
  | .goto l, a, w => L l ∧ J l a w
  | e, a, w => Q e a w

theorem scope_labels {P : Program} {a : Act} {w : World} {Q : Exit → Act → World → Prop} {c : Code} (rest : Nat → Code) (L : Nat → Prop) (J : Nat → Act → World → Prop) (μ : Nat → Act → World → Nat)
    (hf : ∀ l, L l → findLabel c l = some (rest l)) (first : c.wp P (Jumps L J Q) a w)
    (pass : ∀ l a w, L l → J l a w → (rest l).wp P (Jumps L (fun l' a' w' => J l' a' w' ∧ μ l' a' w' < μ l a w) Q) a w) : (Code.scope c).wp P Q a w := by
  intro b k cs
  have hg : ∀ l, L l → gotoIn l (.inScope c :: k) = some (.code (rest l) :: .inScope c :: k) := fun l hl => by simp [gotoIn, hf l hl]
  have key : ∀ n l a w, L l → μ l a w = n → J l a w → ∃ e a' w', Q e a' w' ∧ Arrives P (lone (b.at a (.code (rest l) :: .inScope c :: k)) cs w) b k cs e a' w' := by
    intro n
    induction n using Nat.strongRecOn with
    | _ n ih =>
      intro l a w hl hn hJ
      obtain ⟨e, a₁, w₁, hq, harr⟩ := pass l a w hl hJ b (.inScope c :: k) cs
      cases e with
      | normal => exact ⟨.normal, a₁, w₁, hq, Steps.trans harr (.one step_inScope)⟩
      | exit id => exact ⟨.exit id, a₁, w₁, hq, fun k' hk => harr k' (by simp [exitTo, hk])⟩
      | goto l' =>
        obtain ⟨hl', hJ', hlt⟩ := hq
        obtain ⟨e₂, a₂, w₂, hq₂, harr₂⟩ := ih _ (by omega) l' a₁ w₁ hl' rfl hJ'
        exact ⟨e₂, a₂, w₂, hq₂, .of_steps (harr _ (hg l' hl')) harr₂⟩
      | ret => exact ⟨_, a₁, w₁, hq, harr⟩
      | panic ch => exact ⟨_, a₁, w₁, hq, harr⟩
      | outgrown => exact ⟨_, a₁, w₁, hq, harr⟩
  obtain ⟨e, a₁, w₁, hq, harr⟩ := first b (.inScope c :: k) cs
  cases e with
  | normal => exact ⟨.normal, a₁, w₁, hq, .head step_scope (Steps.trans harr (.one step_inScope))⟩
  | exit id => exact ⟨.exit id, a₁, w₁, hq, fun k' hk => .head step_scope (harr k' (by simp [exitTo, hk]))⟩
  | goto l' =>
    obtain ⟨hl', hJ'⟩ := hq
    obtain ⟨e₂, a₂, w₂, hq₂, harr₂⟩ := key _ l' a₁ w₁ hl' rfl hJ'
    exact ⟨e₂, a₂, w₂, hq₂, .of_steps (.head step_scope (harr _ (hg l' hl'))) harr₂⟩
  | ret => exact ⟨_, a₁, w₁, hq, .of_steps (.one step_scope) harr⟩
  | panic ch => exact ⟨_, a₁, w₁, hq, .of_steps (.one step_scope) harr⟩
  | outgrown => exact ⟨_, a₁, w₁, hq, .of_steps (.one step_scope) harr⟩

/-- five labels, each with its own code -/
theorem scope_five {P : Program} {a : Act} {w : World} {Q : Exit → Act → World → Prop} {c r0 r1 r2 r3 r4 : Code} (J : Nat → Act → World → Prop) (μ : Nat → Act → World → Nat)
    (h0 : findLabel c 0 = some r0) (h1 : findLabel c 1 = some r1) (h2 : findLabel c 2 = some r2) (h3 : findLabel c 3 = some r3) (h4 : findLabel c 4 = some r4) (first : c.wp P (Jumps (· < 5) J Q) a w)
    (p0 : ∀ a w, J 0 a w → r0.wp P (Jumps (· < 5) (fun l' a' w' => J l' a' w' ∧ μ l' a' w' < μ 0 a w) Q) a w)
    (p1 : ∀ a w, J 1 a w → r1.wp P (Jumps (· < 5) (fun l' a' w' => J l' a' w' ∧ μ l' a' w' < μ 1 a w) Q) a w)
    (p2 : ∀ a w, J 2 a w → r2.wp P (Jumps (· < 5) (fun l' a' w' => J l' a' w' ∧ μ l' a' w' < μ 2 a w) Q) a w)
    (p3 : ∀ a w, J 3 a w → r3.wp P (Jumps (· < 5) (fun l' a' w' => J l' a' w' ∧ μ l' a' w' < μ 3 a w) Q) a w)
    (p4 : ∀ a w, J 4 a w → r4.wp P (Jumps (· < 5) (fun l' a' w' => J l' a' w' ∧ μ l' a' w' < μ 4 a w) Q) a w) : (Code.scope c).wp P Q a w := by
  refine scope_labels (fun l => match l with | 0 => r0 | 1 => r1 | 2 => r2 | 3 => r3 | _ => r4) (· < 5) J μ ?_ first ?_
  · intro l hl
    match l, hl with
    | 0, _ => exact h0
    | 1, _ => exact h1
    | 2, _ => exact h2
    | 3, _ => exact h3
    | 4, _ => exact h4
  · intro l a w hl hJ
    match l, hl, hJ with
    | 0, _, hJ => exact p0 a w hJ
    | 1, _, hJ => exact p1 a w hJ
    | 2, _, hJ => exact p2 a w hJ
    | 3, _, hJ => exact p3 a w hJ
    | 4, _, hJ => exact p4 a w hJ

end Go.Proofs.YtkndjbmlkfpfoaaGreatDoor

/-
  What chapter 4's 'known' answers: true.
-/
set_option linter.unusedSimpArgs false
set_option linter.unusedVariables false
namespace Go.Proofs.YtkndjbmlkfpfoaaGreatDoor
open Go.RowKit Go.Lib

theorem kn1 : uqT ⟨#[34, 92, 120, 52, 49, 92, 117, 123, 49, 102, 54, 48, 48, 125, 34]⟩ = ⟨#[65, 240, 159, 152, 128]⟩ := by kernel_rfl
theorem kn2 : uqN ⟨#[34, 92, 120, 52, 49, 92, 117, 123, 49, 102, 54, 48, 48, 125, 34]⟩ = 0 := by kernel_rfl
theorem kn3 : uqE ⟨#[34, 92, 120, 52, 49, 92, 117, 123, 49, 102, 54, 48, 48, 125, 34]⟩ = 0 := by kernel_rfl
theorem kn4 : uqT ⟨#[34, 92, 113, 34]⟩ = ⟨#[]⟩ := by kernel_rfl
theorem kn5 : uqN ⟨#[34, 92, 113, 34]⟩ = 1 := by kernel_rfl
theorem kn6 : uqE ⟨#[34, 92, 113, 34]⟩ = 18 := by kernel_rfl
theorem kn7 : qT ⟨#[97, 10, 255, 195, 169]⟩ = ⟨#[34, 97, 92, 110, 92, 120, 102, 102, 195, 169, 34]⟩ := by kernel_rfl

end Go.Proofs.YtkndjbmlkfpfoaaGreatDoor

/-
  The scanner's frame, its open slots as one function, and what holds at each label.
-/
set_option linter.unusedSimpArgs false
set_option linter.unusedVariables false
set_option maxRecDepth 100000
namespace Go.Proofs.YtkndjbmlkfpfoaaGreatDoor
open Go.RowKit Go.Lib
namespace Sn

def slotV (fc : Nat) (caps : Array Value) (Bs B i line n : Nat) (u : Nat → Value) (j : Nat) : Value := if j = 0 then Value.func (.func fc) #[] caps else if j = 1 then Value.pointer (some ⟨Bs, 0, none⟩) else if j = 3 then Value.pointer (some ⟨B, 0, none⟩) else if j = 5 then Value.int .i64 (i : Int) else if j = 7 then Value.int .i64 (line : Int) else if j = 8 then Value.int .i64 (n : Int) else u j
def fr (fc : Nat) (caps : Array Value) (Bs B i line n : Nat) (u : Nat → Value) : Act := { tmps := ((List.range 97).map (slotV fc caps Bs B i line n u)).toArray, defers := [] }
theorem fr_lit (fc : Nat) (caps : Array Value) (Bs B i line n : Nat) (u : Nat → Value) : fr fc caps Bs B i line n u = { tmps := List.toArray ((Value.func (.func fc) #[] caps) :: (Value.pointer (some ⟨Bs, 0, none⟩)) :: u 2 :: (Value.pointer (some ⟨B, 0, none⟩)) :: u 4 :: (Value.int .i64 (i : Int)) :: u 6 :: (Value.int .i64 (line : Int)) :: (Value.int .i64 (n : Int)) :: u 9 :: u 10 :: u 11 :: u 12 :: u 13 :: u 14 :: u 15 :: u 16 :: u 17 :: u 18 :: u 19 :: u 20 :: u 21 :: u 22 :: u 23 :: u 24 :: u 25 :: u 26 :: u 27 :: u 28 :: u 29 :: u 30 :: u 31 :: u 32 :: u 33 :: u 34 :: u 35 :: u 36 :: u 37 :: u 38 :: u 39 :: u 40 :: u 41 :: u 42 :: u 43 :: u 44 :: u 45 :: u 46 :: u 47 :: u 48 :: u 49 :: u 50 :: u 51 :: u 52 :: u 53 :: u 54 :: u 55 :: u 56 :: u 57 :: u 58 :: u 59 :: u 60 :: u 61 :: u 62 :: u 63 :: u 64 :: u 65 :: u 66 :: u 67 :: u 68 :: u 69 :: u 70 :: u 71 :: u 72 :: u 73 :: u 74 :: u 75 :: u 76 :: u 77 :: u 78 :: u 79 :: u 80 :: u 81 :: u 82 :: u 83 :: u 84 :: u 85 :: u 86 :: u 87 :: u 88 :: u 89 :: u 90 :: u 91 :: u 92 :: u 93 :: u 94 :: u 95 :: u 96 :: []), defers := [] } := by kernel_rfl

theorem fr_of (fc : Nat) (caps : Array Value) (Bs B i line n : Nat) (a : Act) (hd : a.defers = []) (hs : a.tmps.size = 97)
    (h0 : a.tmps[0]? = some (Value.func (.func fc) #[] caps))
    (h1 : a.tmps[1]? = some (Value.pointer (some ⟨Bs, 0, none⟩)))
    (h3 : a.tmps[3]? = some (Value.pointer (some ⟨B, 0, none⟩)))
    (h5 : a.tmps[5]? = some (Value.int .i64 (i : Int)))
    (h7 : a.tmps[7]? = some (Value.int .i64 (line : Int)))
    (h8 : a.tmps[8]? = some (Value.int .i64 (n : Int)))
    : a = fr fc caps Bs B i line n (fun j => a.tmps.getD j undef) := by
  obtain ⟨t, d⟩ := a
  simp only at *
  subst hd
  unfold fr
  congr 1
  apply Array.ext_getElem?
  intro j
  by_cases hj : j < 97
  · have e1 : t[j]? = some (t.getD j undef) := by
      have h' : j < t.size := by omega
      simp [h']
    have e2 : (((List.range 97).map (slotV fc caps Bs B i line n (fun j => t.getD j undef))).toArray)[j]? = some (slotV fc caps Bs B i line n (fun j => t.getD j undef) j) := by simp [hj]
    rw [e2]
    unfold slotV
    by_cases q0 : j = 0
    · rw [if_pos q0, q0]; exact h0
    rw [if_neg q0]
    by_cases q1 : j = 1
    · rw [if_pos q1, q1]; exact h1
    rw [if_neg q1]
    by_cases q3 : j = 3
    · rw [if_pos q3, q3]; exact h3
    rw [if_neg q3]
    by_cases q5 : j = 5
    · rw [if_pos q5, q5]; exact h5
    rw [if_neg q5]
    by_cases q7 : j = 7
    · rw [if_pos q7, q7]; exact h7
    rw [if_neg q7]
    by_cases q8 : j = 8
    · rw [if_pos q8, q8]; exact h8
    rw [if_neg q8]
    exact e1
  · rw [Array.getElem?_eq_none (by omega), Array.getElem?_eq_none (by simp; omega)]

def wdC (x : Wd) (line : Nat) : Array Value := #[.int .i64 (x.k : Int), .string x.t, .int .i64 x.n, .int .i64 (x.a : Int), .int .i64 (line : Int)]
/-- what holds at every label: what was handed on, and what is left -/
def SnI (J : List It → World → Prop) (s : ByteArray) (B i line n : Nat) (w' : World) : Prop :=
  i ≤ s.size ∧ n ≤ i ∧ line ≤ i + 1 ∧ (∃ pre, pre ++ scA s i line (decide (0 < n)) = scL s ∧ J pre w') ∧ Box5 w' B ∧ B < w'.heap.size

def At (J : List It → World → Prop) (s : ByteArray) (B : Nat) (l i line n : Nat) (u : Nat → Value) (w' : World) : Prop :=
  SnI J s B i line n w' ∧
  match l with
  | 0 => i < s.size → isLn (by_ s i) = true
  | 1 => True
  | 2 => i < s.size ∧ isLn (by_ s i) = false ∧ isBl (by_ s i) = false ∧ by_ s i = 35
  | 3 => i < s.size ∧ by_ s i = 34
  | _ => (i < s.size ∧ isLn (by_ s i) = false ∧ isBl (by_ s i) = false ∧ by_ s i ≠ 35) ∧ u 4 = .int .i64 ((wdAt s i).e : Int) ∧ u 6 = .int .i64 ((wdAt s i).nx : Int) ∧ w'.heap[B]? = some (.cells (wdC (wdAt s i) 0) 73 (0, 0))

def SnJ (fc : Nat) (caps : Array Value) (Bs B : Nat) (J : List It → World → Prop) (s : ByteArray) (l : Nat) (a' : Act) (w' : World) : Prop :=
  ∃ i line n u, a' = fr fc caps Bs B i line n u ∧ Hid (At J s B l i line n u w')

def SnM (s : ByteArray) (l : Nat) (a' : Act) : Nat := 8 * (s.size - (Lib.intOf (a'.tmps.getD 5 undef)).toNat) + (if l = 1 then 4 else if l = 0 then 1 else if l = 3 then 3 else 2)
theorem SnM_fr (s : ByteArray) (l : Nat) (fc : Nat) (caps : Array Value) (Bs B i line n : Nat) (u : Nat → Value) : SnM s l (fr fc caps Bs B i line n u) = 8 * (s.size - i) + (if l = 1 then 4 else if l = 0 then 1 else if l = 3 then 3 else 2) := by
  unfold SnM
  rw [show (fr fc caps Bs B i line n u).tmps.getD 5 undef = .int .i64 (i : Int) from rfl]
  simp [Lib.intOf]

theorem jump {fc : Nat} {caps : Array Value} {Bs B i line n M l : Nat} {J : List It → World → Prop} {s : ByteArray} {Q : Exit → Act → World → Prop} (a : Act) (w : World) (hl : l < 5) (hd : a.defers = []) (hs : a.tmps.size = 97)
    (h0 : a.tmps[0]? = some (Value.func (.func fc) #[] caps)) (h1 : a.tmps[1]? = some (Value.pointer (some ⟨Bs, 0, none⟩))) (h3 : a.tmps[3]? = some (Value.pointer (some ⟨B, 0, none⟩))) (h5 : a.tmps[5]? = some (Value.int .i64 (i : Int))) (h7 : a.tmps[7]? = some (Value.int .i64 (line : Int))) (h8 : a.tmps[8]? = some (Value.int .i64 (n : Int)))
    (H : At J s B l i line n (fun j => a.tmps.getD j undef) w) (hm : 8 * (s.size - i) + (if l = 1 then 4 else if l = 0 then 1 else if l = 3 then 3 else 2) < M) :
    Jumps (· < 5) (fun l' a' w' => SnJ fc caps Bs B J s l' a' w' ∧ SnM s l' a' < M) Q (.goto l) a w := by
  have e := fr_of fc caps Bs B i line n a hd hs h0 h1 h3 h5 h7 h8
  refine ⟨hl, ⟨i, line, n, _, e, hide H⟩, ?_⟩
  rw [e, SnM_fr]
  exact hm

/-- five labels; three of them are fallen into -/
theorem scope_five2 {P : Program} {a : Act} {w : World} {Q : Exit → Act → World → Prop} {c q0 q1 r2 r3 q4 : Code} (J : Nat → Act → World → Prop) (μ : Nat → Act → World → Nat)
    (h0 : findLabel c 0 = some (Code.seq .skip q0)) (h1 : findLabel c 1 = some (Code.seq .skip q1)) (h2 : findLabel c 2 = some r2) (h3 : findLabel c 3 = some r3) (h4 : findLabel c 4 = some (Code.seq .skip q4))
    (p0 : (∀ a w M, J 0 a w → μ 0 a w ≤ M → q0.wp P (Jumps (· < 5) (fun l' a' w' => J l' a' w' ∧ μ l' a' w' < M) Q) a w))
    (p4 : (∀ a w M, J 4 a w → μ 4 a w ≤ M → q4.wp P (Jumps (· < 5) (fun l' a' w' => J l' a' w' ∧ μ l' a' w' < M) Q) a w))
    (p1 : (∀ a w M, J 1 a w → μ 1 a w ≤ M → q1.wp P (Jumps (· < 5) (fun l' a' w' => J l' a' w' ∧ μ l' a' w' < M) Q) a w))
    (p2 : (∀ a w M, J 0 a w → μ 0 a w ≤ M → q0.wp P (Jumps (· < 5) (fun l' a' w' => J l' a' w' ∧ μ l' a' w' < M) Q) a w) → (∀ a w M, J 2 a w → μ 2 a w ≤ M → r2.wp P (Jumps (· < 5) (fun l' a' w' => J l' a' w' ∧ μ l' a' w' < M) Q) a w))
    (p3 : (∀ a w M, J 4 a w → μ 4 a w ≤ M → q4.wp P (Jumps (· < 5) (fun l' a' w' => J l' a' w' ∧ μ l' a' w' < M) Q) a w) → (∀ a w M, J 3 a w → μ 3 a w ≤ M → r3.wp P (Jumps (· < 5) (fun l' a' w' => J l' a' w' ∧ μ l' a' w' < M) Q) a w))
    (first : (∀ a w M, J 1 a w → μ 1 a w ≤ M → q1.wp P (Jumps (· < 5) (fun l' a' w' => J l' a' w' ∧ μ l' a' w' < M) Q) a w) → c.wp P (Jumps (· < 5) J Q) a w) : (Code.scope c).wp P Q a w :=
  scope_five J μ h0 h1 h2 h3 h4 (first p1) (fun a w h => wp_seq (wp_skip (p0 a w _ h (Nat.le_refl _)))) (fun a w h => wp_seq (wp_skip (p1 a w _ h (Nat.le_refl _)))) (fun a w h => p2 p0 a w _ h (Nat.le_refl _)) (fun a w h => p3 p4 a w _ h (Nat.le_refl _)) (fun a w h => wp_seq (wp_skip (p4 a w _ h (Nat.le_refl _))))

theorem drop_measure {P : Program} {J : Nat → Act → World → Prop} {μ : Nat → Act → World → Nat} {M : Nat} {Q : Exit → Act → World → Prop} {c : Code} {a : Act} {w : World} (h : c.wp P (Jumps (· < 5) (fun l' a' w' => J l' a' w' ∧ μ l' a' w' < M) Q) a w) : c.wp P (Jumps (· < 5) J Q) a w := by
  intro b k cs
  obtain ⟨e, a', w', hq, harr⟩ := h b k cs
  refine ⟨e, a', w', ?_, harr⟩
  cases e with
  | goto l => exact ⟨hq.1, hq.2.1⟩
  | normal => exact hq
  | exit id => exact hq
  | ret => exact hq
  | panic ch => exact hq
  | outgrown => exact hq

/-- five cells are written -/
theorem five_set {W : World} {b : Nat} (h : Box5 W b) (v0 v1 v2 v3 v4 : Value) : (((((W.setCell ⟨b, 0, none⟩ v0).setCell ⟨b, 1, none⟩ v1).setCell ⟨b, 2, none⟩ v2).setCell ⟨b, 3, none⟩ v3).setCell ⟨b, 4, none⟩ v4).heap[b]? = some (.cells #[v0, v1, v2, v3, v4] 73 (0, 0)) := by
  obtain ⟨c0, c1, c2, c3, c4, hc⟩ := h
  have e0 := heap_setCell_same W b 0 _ _ v0 hc
  have e1 := heap_setCell_same _ b 1 _ _ v1 e0
  have e2 := heap_setCell_same _ b 2 _ _ v2 e1
  have e3 := heap_setCell_same _ b 3 _ _ v3 e2
  have e4 := heap_setCell_same _ b 4 _ _ v4 e3
  rw [e4]
  rfl
theorem below_five {W W0 : World} {b B : Nat} (h : Below B W0 W) (hb : B ≤ b) (v0 v1 v2 v3 v4 : Value) : Below B W0 (((((W.setCell ⟨b, 0, none⟩ v0).setCell ⟨b, 1, none⟩ v1).setCell ⟨b, 2, none⟩ v2).setCell ⟨b, 3, none⟩ v3).setCell ⟨b, 4, none⟩ v4) :=
  ((((h.setCell (p := ⟨b, 0, none⟩) hb v0).setCell (p := ⟨b, 1, none⟩) hb v1).setCell (p := ⟨b, 2, none⟩) hb v2).setCell (p := ⟨b, 3, none⟩) hb v3).setCell (p := ⟨b, 4, none⟩) hb v4

end Sn
end Go.Proofs.YtkndjbmlkfpfoaaGreatDoor

/-
  The scanner's closure.
-/
set_option linter.unusedSimpArgs false
set_option linter.unusedVariables false
set_option maxRecDepth 100000
namespace Go.Proofs.YtkndjbmlkfpfoaaGreatDoor
open Go.RowKit Go.Lib
namespace Sn

set_option maxHeartbeats 8000000 in
theorem scan_clo (fc : Nat) (caps : Array Value) (Bs : Nat) (s : ByteArray) (hs : s.size ≤ 1000000000) (J Jx : List It → World → Prop) (W : World)
    (he : ∀ args w, (callFunc fc args).run Tryz.prog w = .ok (.enter fc args) w)
    (hK : ∀ pre W1, J pre W1 → W1.cell? ⟨Bs, 0, none⟩ = some (.string s) ∧ Lw W1)
    (hJ : ∀ pre W1 W2, J pre W1 → Below W.heap.size W1 W2 → J pre W2)
    (hY : ∀ pre x rest W1, pre ++ x :: rest = scL s → W.heap.size < W1.heap.size → J pre W1 → Calls Tryz.prog fc (x.args ++ caps) W1 fun e W' => ∃ b, e = .returned (.bool b) ∧ (if b then J (pre ++ [x]) W' else Jx (pre ++ [x]) W') ∧ W1.heap.size ≤ W'.heap.size ∧ W'.heap[W.heap.size]? = W1.heap[W.heap.size]?)
    (h0 : J [] W) :
    Calls Tryz.prog 54 #[.func (.func fc) #[] caps, .pointer (some ⟨Bs, 0, none⟩)] W fun e W' => e = .returned (.tuple #[]) ∧ (J (scL s) W' ∨ ∃ pre rest, pre ++ rest = scL s ∧ Jx pre W') := by
  have HK := hide hK
  have HJ := hide hJ
  have HY := hide hY
  have H0 := hide h0
  have HE := hide he
  clear hK hJ hY h0 he
  go_enter Tryz.func54, Tryz.ntmps54
  go_wp2
  refine scope_five2 (SnJ fc caps Bs W.heap.size J s) (fun l a' _ => SnM s l a') rfl rfl rfl rfl rfl ?p0 ?p4 ?p1 ?p2 ?p3 ?first
  case first =>
    intro P1
    refine drop_measure (μ := fun l a' _ => SnM s l a') (M := 8 * s.size + 4) ?_
    go_wp2
    go_step3
    simp only [Exit.then]
    rename_i hKx
    refine hKx _ _ (P1 _ _ (8 * s.size + 4) ?hj ?hm)
    case hj => exact ⟨0, 1, 0, _, fr_of fc caps Bs W.heap.size 0 1 0 _ rfl rfl rfl rfl rfl rfl rfl rfl, hide ⟨⟨by omega, by omega, by omega, ⟨[], rfl, unhide HJ _ _ _ (unhide H0) ((Below.refl _ _).alloc (Nat.le_refl _) _)⟩, Box5.new _ _ _ _ _ _, by simp⟩, trivial⟩⟩
    case hm =>
      show SnM s 1 _ ≤ _
      simp [SnM, Lib.intOf]
  case p0 =>
    rintro a' w' M ⟨i, line, n, u, rfl, H⟩ hM
    simp only [SnM_fr] at hM
    rw [fr_lit]
    obtain ⟨⟨hi, hn, hl, ⟨pre, hp, hJp⟩, hbx, hB⟩, hend⟩ := unhide H
    have hend' : i < s.size → isLn (by_ s i) = true := hend
    have hbh := fun h W => hide (behindLine_in s hs i h W)
    have hbb := bhL_bounds s i
    by_cases h0 : 0 < n
    · have d0 : (0 : Int) < (n : Int) := by omega
      have hp1 : pre ++ endI i line :: (if i < s.size then scA s (bhL s i) (line + 1) false else []) = scL s := by
        rw [← hp]
        by_cases hz : i < s.size
        · rw [scA_line hz (hend' hz), if_pos hz]; simp [h0]
        · rw [scA_end hz, if_neg hz]; simp [h0]
      have hy := hide (unhide HY pre (endI i line) _ w' hp1 hB hJp)
      unfold It.args endI Wd.v wV at hy
      have Hp := hide hp1
      obtain ⟨y0, y1, y2, y3, y4, hy5⟩ := hbx
      have HE4 := hide hy5
      clear hp hp1 hJp H hend hend' h0 hy5
      go_wp2_with fail
      rw [unhide HE]
      refine (unhide hy).mono ?_
      rintro e V2 ⟨b, rfl, hb, zb, hkeep⟩
      have Hk := hide (hkeep.trans (unhide HE4))
      clear hkeep
      cases b with
      | false =>
        have Hb := hide hb
        clear hb
        go_wp2
        simp only [Jumps]
        refine bodyPost_ret (results_none rfl _ _ _) rfl ?_
        exact ⟨rfl, .inr ⟨pre ++ [endI i line], _, by rw [← unhide Hp, List.append_assoc]; rfl, unhide Hb⟩⟩
      | true =>
        have hcs := (unhide HK _ V2 hb).1
        have Hb := hide hb
        clear hb
        by_cases hz : i < s.size
        · have k3 : ((i : Int) == (s.size : Int)) = false := by rw [beq_eq_false_iff_ne]; omega
          have hbb2 := hbb hz
          have hbz := hbh hz
          have Hp2 := hide (show (pre ++ [endI i line]) ++ scA s (bhL s i) (line + 1) false = scL s by rw [← unhide Hp, if_pos hz]; simp)
          clear hbb hbh
          go_wp2_with fail
          refine (unhide (hbz _)).mono ?_
          rintro e V3 ⟨rfl, rfl⟩
          go_wp2
          go_step3
          show Jumps (· < 5) (fun l' a' w' => SnJ fc caps Bs W.heap.size J s l' a' w' ∧ SnM s l' a' < M) (fun _ _ _ => True) (.goto 1) _ _
          exact jump (i := bhL s i) (line := line + 1) (n := 0) _ _ (by decide) rfl rfl rfl rfl rfl rfl (by simp) rfl ⟨⟨hbb2.2, by omega, by omega, ⟨_, unhide Hp2, unhide Hb⟩, ⟨_, _, _, _, _, unhide Hk⟩, by omega⟩, trivial⟩ (by simp; simp at hM; omega)
        · have k3 : ((i : Int) == (s.size : Int)) = true := by rw [beq_iff_eq]; omega
          have Hp2 := hide (show pre ++ [endI i line] = scL s by rw [← unhide Hp, if_neg hz])
          clear hbb hbh
          go_wp2
          simp only [Jumps]
          refine bodyPost_ret (results_none rfl _ _ _) rfl ?_
          exact ⟨rfl, .inl (unhide Hp2 ▸ unhide Hb)⟩
    · have hn0 : n = 0 := by omega
      have d0 : decide ((0 : Int) < (n : Int)) = false := by rw [decide_eq_false_iff_not]; omega
      have dn : decide (0 < n) = false := by rw [decide_eq_false_iff_not]; omega
      rw [dn] at hp
      have hcs := (unhide HK _ w' hJp).1
      by_cases hz : i < s.size
      · have k3 : ((i : Int) == (s.size : Int)) = false := by rw [beq_eq_false_iff_ne]; omega
        have hbb2 := hbb hz
        have hbz := hbh hz
        have Hp2 := hide (show pre ++ scA s (bhL s i) (line + 1) false = scL s by rw [← hp, scA_line hz (hend' hz)]; simp)
        have HJp := hide hJp
        have Hbx := hide hbx
        clear hbb hbh hp hJp hbx H hend hend' dn h0 d0
        subst hn0
        go_wp2_with fail
        refine (unhide (hbz _)).mono ?_
        rintro e V3 ⟨rfl, rfl⟩
        go_wp2
        go_step3
        show Jumps (· < 5) (fun l' a' w' => SnJ fc caps Bs W.heap.size J s l' a' w' ∧ SnM s l' a' < M) (fun _ _ _ => True) (.goto 1) _ _
        exact jump (i := bhL s i) (line := line + 1) (n := 0) _ _ (by decide) rfl rfl rfl rfl rfl rfl (by simp) rfl ⟨⟨hbb2.2, by omega, by omega, ⟨_, unhide Hp2, unhide HJp⟩, unhide Hbx, hB⟩, trivial⟩ (by simp; simp at hM; omega)
      · have k3 : ((i : Int) == (s.size : Int)) = true := by rw [beq_iff_eq]; omega
        have Hp2 := hide (show pre = scL s by rw [← hp, scA_end hz]; simp)
        have HJp := hide hJp
        clear hbb hbh hp hJp hbx H hend hend' dn h0 d0
        subst hn0
        go_wp2
        simp only [Jumps]
        refine bodyPost_ret (results_none rfl _ _ _) rfl ?_
        exact ⟨rfl, .inl (unhide Hp2 ▸ unhide HJp)⟩
  case p4 =>
    rintro a' w' M ⟨i, line, n, u, rfl, H⟩ hM
    simp only [SnM_fr] at hM
    obtain ⟨⟨hi, hn, hl, ⟨pre, hp, hJp⟩, hbx, hB⟩, ⟨hz, hln, hb2, h35⟩, hu4, hu6, hcell⟩ := unhide H
    have hu4' : u 4 = .int .i64 ((wdAt s i).e : Int) := hu4
    have hu6' : u 6 = .int .i64 ((wdAt s i).nx : Int) := hu6
    rw [fr_lit, hu4', hu6']
    have hw := scA_word (line := line) (m := decide (0 < n)) hz hln hb2 h35
    have hnx := wdAt_nx s i hz (we_of s i (by rw [hln]; simp) (by rw [hb2]; simp) h35)
    rw [hw] at hp
    obtain ⟨X, hX⟩ : ∃ X, wdAt s i = X := ⟨_, rfl⟩
    rw [hX] at hp hcell hnx ⊢
    unfold wdC at hcell
    have f4 : w'.cell? ⟨W.heap.size, 4, none⟩ = some (.int .i64 0) := by simp [World.cell?, hcell]
    have g4 : w'.frozen? ⟨W.heap.size, 4, none⟩ = false := by simp [World.frozen?, hcell]
    have e4 := heap_setCell_same w' W.heap.size 4 _ _ (.int .i64 (line : Int)) hcell
    have B4 := hide ((Below.refl W.heap.size w').setCell (p := ⟨W.heap.size, 4, none⟩) (Nat.le_refl _) (.int .i64 (line : Int)))
    have z4 : (w'.setCell ⟨W.heap.size, 4, none⟩ (.int .i64 (line : Int))).heap.size = w'.heap.size := by simp
    obtain ⟨V, hV⟩ : ∃ V, w'.setCell ⟨W.heap.size, 4, none⟩ (.int .i64 (line : Int)) = V := ⟨_, rfl⟩
    rw [hV] at e4 B4 z4
    have E4 : V.heap[W.heap.size]? = some (.cells #[.int .i64 (X.k : Int), .string X.t, .int .i64 X.n, .int .i64 (X.a : Int), .int .i64 (line : Int)] 73 (0, 0)) := e4
    have c0 : V.cell? ⟨W.heap.size, 0, none⟩ = some (.int .i64 (X.k : Int)) := by simp [World.cell?, E4]
    have c1 : V.cell? ⟨W.heap.size, 1, none⟩ = some (.string X.t) := by simp [World.cell?, E4]
    have c2 : V.cell? ⟨W.heap.size, 2, none⟩ = some (.int .i64 X.n) := by simp [World.cell?, E4]
    have c3 : V.cell? ⟨W.heap.size, 3, none⟩ = some (.int .i64 (X.a : Int)) := by simp [World.cell?, E4]
    have c4 : V.cell? ⟨W.heap.size, 4, none⟩ = some (.int .i64 (line : Int)) := by simp [World.cell?, E4]
    have hy := hide (unhide HY pre ⟨X, line⟩ _ V hp (by omega) (unhide HJ _ _ _ hJp (unhide B4)))
    unfold It.args Wd.v wV at hy
    have HE4 := hide E4
    have Hp := hide hp
    clear hp hJp hbx H hu4 hu6 hu4' hu6' hw hX hcell e4 E4
    go_wp2_with fail
    rw [unhide HE]
    refine (unhide hy).mono ?_
    rintro e V2 ⟨b, rfl, hb, zb, hkeep⟩
    have Hk := hide (hkeep.trans (unhide HE4))
    clear hkeep
    cases b with
    | false =>
      have Hb := hide hb
      clear hb
      go_wp2
      simp only [Jumps]
      refine bodyPost_ret (results_none rfl _ _ _) rfl ?_
      exact ⟨rfl, .inr ⟨pre ++ [⟨X, line⟩], _, by rw [← unhide Hp, List.append_assoc]; rfl, (show Jx (pre ++ [⟨X, line⟩]) V2 from unhide Hb)⟩⟩
    | true =>
      have Hb := hide hb
      clear hb
      by_cases hX0 : X.e = 0
      · have q0 : ((X.e : Int) != 0) = false := by rw [hX0]; rfl
        have hnx0 := hnx hX0
        have Hp2 := hide (show (pre ++ [⟨X, line⟩]) ++ scA s X.nx line (decide (0 < n + 1)) = scL s by rw [← unhide Hp, if_pos hX0]; simp)
        clear hX0 hnx
        go_wp2
        go_step3
        show Jumps (· < 5) (fun l' a' w' => SnJ fc caps Bs W.heap.size J s l' a' w' ∧ SnM s l' a' < M) (fun _ _ _ => True) (.goto 1) _ _
        exact jump (i := X.nx) (n := n + 1) _ _ (by decide) rfl rfl rfl rfl rfl rfl rfl (by simp) ⟨⟨hnx0.2, by omega, by omega, ⟨_, unhide Hp2, unhide Hb⟩, ⟨_, _, _, _, _, unhide Hk⟩, by omega⟩, trivial⟩ (by simp; simp at hM; omega)
      · have q0 : ((X.e : Int) != 0) = true := by rw [bne_iff_ne]; omega
        have Hp2 := hide (show pre ++ [⟨X, line⟩] = scL s by rw [← unhide Hp, if_neg hX0])
        clear hX0 hnx
        go_wp2
        simp only [Jumps]
        refine bodyPost_ret (results_none rfl _ _ _) rfl ?_
        exact ⟨rfl, .inl (unhide Hp2 ▸ unhide Hb)⟩
  case p2 =>
    rintro P0 a' w' M ⟨i, line, n, u, rfl, H⟩ hM
    simp only [SnM_fr] at hM
    rw [fr_lit]
    obtain ⟨⟨hi, hn, hl, ⟨pre, hp, hJp⟩, hbx, hB⟩, hz, hln, hb2, h35⟩ := unhide H
    have hcs := (unhide HK pre w' hJp).1
    have hrm := rmE_bounds s _ i (Nat.le_refl _) hi
    have Hp := hide (show pre ++ scA s (rmE s i) line (decide (0 < n)) = scL s by rw [← hp, scA_remark hz hln hb2 h35])
    have HJp := hide hJp
    have Hbx := hide hbx
    have hM2 : 8 * (s.size - i) + 2 ≤ M := by simpa using hM
    obtain ⟨R, hR⟩ : ∃ R, rmE s i = R := ⟨_, rfl⟩
    rw [hR] at Hp hrm
    have HR := hide hR
    clear hp hJp hbx H hln hb2 h35 hM hR
    go_wp2_with fail
    go_loopw [5] (fun jv wr => ∃ j : Nat, jv = .int .i64 (j : Int) ∧ i ≤ j ∧ j ≤ s.size ∧ wr = w' ∧ Hid (rmE s j = R)) (fun jv _ => s.size - (RowKit.intOf jv).toNat)
    case atStart => exact ⟨i, rfl, Nat.le_refl _, hi, rfl, HR⟩
    case round =>
      obtain ⟨j, rfl, hj1, hj2, rfl, Hj⟩ := hrel
      have hel := fun W => hide (endsLine_in (by_ s j) W)
      by_cases hjz : j < s.size
      · have gi := by_get s j hjz
        have k1 : (j : Int) < (s.size : Int) := by omega
        have k2 : (0 : Int) ≤ (j : Int) := by omega
        cases hl2 : isLn (by_ s j) with
        | false =>
          rw [hl2] at hel
          have Hj2 := hide (show rmE s (j + 1) = R by rw [← unhide Hj, rmE_go s j hjz hl2])
          clear hl2
          go_wp2_with fail
          refine (unhide (hel _)).mono ?_
          rintro e w2 ⟨rfl, rfl⟩
          go_wp2
          go_roundw
          case rel => exact ⟨j + 1, by simp, by omega, by omega, by simp, Hj2⟩
          case measure => simp [RowKit.intOf]; omega
        | true =>
          rw [hl2] at hel
          have Hl2 := hide hl2
          have Hj2 := hide (show R = j by rw [← unhide Hj, rmE_stop s j (fun _ => hl2)])
          clear hl2
          go_wp2_with fail
          refine (unhide (hel _)).mono ?_
          rintro e w2 ⟨rfl, rfl⟩
          go_wp2
          go_step3
          simp only [Exit.then]
          rename_i hKx
          refine hKx _ _ (P0 _ _ M ?hj2 ?hm2)
          case hj2 => exact ⟨j, line, n, _, fr_of fc caps Bs W.heap.size j line n _ rfl rfl rfl rfl rfl rfl rfl rfl, hide ⟨⟨hj2, by omega, by omega, ⟨pre, by rw [← unhide Hj2]; exact unhide Hp, unhide HJp⟩, unhide Hbx, hB⟩, fun _ => unhide Hl2⟩⟩
          case hm2 =>
            show SnM s 0 _ ≤ _
            simp [SnM, Lib.intOf]
            omega
      · have k1 : decide ((j : Int) < (s.size : Int)) = false := by rw [decide_eq_false_iff_not]; omega
        have Hj2 := hide (show R = j by rw [← unhide Hj, rmE_stop s j (fun h => absurd h hjz)])
        go_wp2
        go_step3
        simp only [Exit.then]
        rename_i hKx
        refine hKx _ _ (P0 _ _ M ?hj3 ?hm3)
        case hj3 => exact ⟨j, line, n, _, fr_of fc caps Bs W.heap.size j line n _ rfl rfl rfl rfl rfl rfl rfl rfl, hide ⟨⟨hj2, by omega, by omega, ⟨pre, by rw [← unhide Hj2]; exact unhide Hp, unhide HJp⟩, unhide Hbx, hB⟩, fun h => absurd h hjz⟩⟩
        case hm3 =>
          show SnM s 0 _ ≤ _
          simp [SnM, Lib.intOf]
          omega
  case p3 =>
    rintro P4 a' w' M ⟨i, line, n, u, rfl, H⟩ hM
    simp only [SnM_fr] at hM
    rw [fr_lit]
    obtain ⟨⟨hi, hn, hl, ⟨pre, hp, hJp⟩, hbx, hB⟩, hz, h34⟩ := unhide H
    have hcs := (unhide HK pre w' hJp).1
    have hwd : wdAt s i = qdW s i := by unfold wdAt; rw [if_pos h34]
    have hqw := hide (quotedWord_in s hs i hz w')
    rw [← hwd] at hqw
    have H34 := hide h34
    have Hp := hide hp
    have HJp := hide hJp
    have Hbx := hide hbx
    obtain ⟨X, hX⟩ : ∃ X, wdAt s i = X := ⟨_, rfl⟩
    rw [hX] at hqw
    have HX := hide hX
    unfold Wd.tup Wd.v wV at hqw
    clear hp hJp hbx H h34 hwd hX
    go_wp2_with fail
    refine (unhide hqw).mono ?_
    rintro e w3 ⟨rfl, hB3⟩
    have bx3 := (unhide Hbx).below hB3 hB
    obtain ⟨⟨x0, f0⟩, ⟨x1, f1⟩, ⟨x2, f2⟩, ⟨x3, f3⟩, ⟨x4, f4⟩, g0, g1, g2, g3, g4⟩ := bx3.facts
    have S5 := hide (five_set bx3 (.int .i64 (X.k : Int)) (.string X.t) (.int .i64 X.n) (.int .i64 (X.a : Int)) (.int .i64 0))
    have B5 := hide (below_five (hB3.mono (Nat.le_of_lt hB)) (Nat.le_refl _) (.int .i64 (X.k : Int)) (.string X.t) (.int .i64 X.n) (.int .i64 (X.a : Int)) (.int .i64 0))
    have z3 := hB3.size
    clear bx3 hB3 hqw
    go_wp2
    go_step3
    simp only [Exit.then]
    rename_i hKx
    refine hKx _ _ (P4 _ _ M ?hj4 ?hm4)
    case hj4 => exact ⟨i, line, n, _, fr_of fc caps Bs W.heap.size i line n _ rfl rfl rfl rfl rfl rfl rfl rfl, hide ⟨⟨hi, hn, hl, ⟨pre, unhide Hp, unhide HJ _ _ _ (unhide HJp) (unhide B5)⟩, ⟨_, _, _, _, _, unhide S5⟩, by simp; omega⟩, ⟨hz, by rw [unhide H34]; rfl, by rw [unhide H34]; rfl, by rw [unhide H34]; decide⟩, by rw [unhide HX]; rfl, by rw [unhide HX]; rfl, by rw [unhide HX]; exact unhide S5⟩⟩
    case hm4 =>
      show SnM s 4 _ ≤ _
      simp [SnM, Lib.intOf]
      simp at hM
      omega
  case p1 =>
    rintro a' w' M ⟨i, line, n, u, rfl, H⟩ hM
    simp only [SnM_fr, if_true] at hM
    rw [fr_lit]
    obtain ⟨⟨hi, hn, hl, ⟨pre, hp, hJp⟩, hbx, hB⟩, -⟩ := unhide H
    have hcs := (unhide HK pre w' hJp).1
    have HL := hide (unhide HK pre w' hJp).2
    have hbl := fun W => hide (isBlank_in (by_ s i) W)
    have hel := fun W => hide (endsLine_in (by_ s i) W)
    have hI := (unhide H).1
    have HI := hide hI
    by_cases hz : i < s.size
    · have gi := by_get s i hz
      have k1 : (i : Int) < (s.size : Int) := by omega
      have k2 : (0 : Int) ≤ (i : Int) := by omega
      have k3 : ((i : Int) == (s.size : Int)) = false := by rw [beq_eq_false_iff_ne]; omega
      cases hln : isLn (by_ s i) with
      | true =>
        rw [hln] at hel
        have Hln := hide hln
        clear hln hp hJp hbx hB hbl HL H hI
        go_wp2_with fail
        refine (unhide (hel _)).mono ?_
        rintro e w2 ⟨rfl, rfl⟩
        go_wp2
        go_step3
        show Jumps (· < 5) (fun l' a' w' => SnJ fc caps Bs W.heap.size J s l' a' w' ∧ SnM s l' a' < M) (fun _ _ _ => True) (.goto 0) _ _
        exact jump _ _ (by decide) rfl rfl rfl rfl rfl rfl rfl rfl ⟨unhide HI, fun _ => unhide Hln⟩ (by simp; omega)
      | false =>
        rw [hln] at hel
        have Hln := hide hln
        cases hb2 : isBl (by_ s i) with
        | true =>
          rw [hb2] at hbl
          have HI2 : Hid (SnI J s W.heap.size (i + 1) line n w') := hide ⟨by omega, by omega, by omega, ⟨pre, by rw [← hp, scA_blank hz hln hb2], hJp⟩, hbx, hB⟩
          clear hln hp hJp hbx hB HL H hI hb2
          go_wp2_with fail
          refine (unhide (hel _)).mono ?_
          rintro e w2 ⟨rfl, rfl⟩
          go_wp2_with fail
          refine (unhide (hbl _)).mono ?_
          rintro e w2 ⟨rfl, rfl⟩
          go_wp2
          go_step3
          show Jumps (· < 5) (fun l' a' w' => SnJ fc caps Bs W.heap.size J s l' a' w' ∧ SnM s l' a' < M) (fun _ _ _ => True) (.goto 1) _ _
          exact jump (i := i + 1) _ _ (by decide) rfl rfl rfl rfl rfl (by simp) rfl rfl ⟨unhide HI2, trivial⟩ (by simp; omega)
        | false =>
          rw [hb2] at hbl
          have Hb2 := hide hb2
          by_cases h35 : by_ s i = 35
          · have q1 : (((by_ s i : Nat) : Int) == 35) = true := by rw [h35]; rfl
            have H35 := hide h35
            clear hln hp hJp hbx hB HL H hI hb2 h35
            go_wp2_with fail
            refine (unhide (hel _)).mono ?_
            rintro e w2 ⟨rfl, rfl⟩
            go_wp2_with fail
            refine (unhide (hbl _)).mono ?_
            rintro e w2 ⟨rfl, rfl⟩
            go_wp2
            go_step3
            show Jumps (· < 5) (fun l' a' w' => SnJ fc caps Bs W.heap.size J s l' a' w' ∧ SnM s l' a' < M) (fun _ _ _ => True) (.goto 2) _ _
            exact jump _ _ (by decide) rfl rfl rfl rfl rfl rfl rfl rfl ⟨unhide HI, hz, unhide Hln, unhide Hb2, unhide H35⟩ (by simp; omega)
          · have q1 : (((by_ s i : Nat) : Int) == 35) = false := by rw [beq_eq_false_iff_ne]; omega
            by_cases h34 : by_ s i = 34
            · have q2 : (((by_ s i : Nat) : Int) == 34) = true := by rw [h34]; rfl
              have H34 := hide h34
              clear hln hp hJp hbx hB HL H hI hb2 h35 h34
              go_wp2_with fail
              refine (unhide (hel _)).mono ?_
              rintro e w2 ⟨rfl, rfl⟩
              go_wp2_with fail
              refine (unhide (hbl _)).mono ?_
              rintro e w2 ⟨rfl, rfl⟩
              go_wp2
              go_step3
              show Jumps (· < 5) (fun l' a' w' => SnJ fc caps Bs W.heap.size J s l' a' w' ∧ SnM s l' a' < M) (fun _ _ _ => True) (.goto 3) _ _
              exact jump _ _ (by decide) rfl rfl rfl rfl rfl rfl rfl rfl ⟨unhide HI, hz, unhide H34⟩ (by simp; omega)
            · have q2 : (((by_ s i : Nat) : Int) == 34) = false := by rw [beq_eq_false_iff_ne]; omega
              have hwd : wdAt s i = bwW s i := by unfold wdAt; rw [if_neg h34]
              have hbw := hide (bareWord_in s hs i hz w' (unhide HL))
              rw [← hwd] at hbw
              have H35 := hide h35
              have Hp := hide hp
              have HJp := hide hJp
              have Hbx := hide hbx
              obtain ⟨X, hX⟩ : ∃ X, wdAt s i = X := ⟨_, rfl⟩
              rw [hX] at hbw
              have HX := hide hX
              unfold Wd.tup Wd.v wV at hbw
              clear hln hp hJp hbx HL H hI hb2 h35 h34 hwd hX
              go_wp2_with fail
              refine (unhide (hel _)).mono ?_
              rintro e w2 ⟨rfl, rfl⟩
              go_wp2_with fail
              refine (unhide (hbl _)).mono ?_
              rintro e w2 ⟨rfl, rfl⟩
              go_wp2_with fail
              refine (unhide hbw).mono ?_
              rintro e w3 ⟨rfl, hB3⟩
              have bx3 := (unhide Hbx).below hB3 hB
              obtain ⟨⟨x0, f0⟩, ⟨x1, f1⟩, ⟨x2, f2⟩, ⟨x3, f3⟩, ⟨x4, f4⟩, g0, g1, g2, g3, g4⟩ := bx3.facts
              have S5 := hide (five_set bx3 (.int .i64 (X.k : Int)) (.string X.t) (.int .i64 X.n) (.int .i64 (X.a : Int)) (.int .i64 0))
              have B5 := hide (below_five (hB3.mono (Nat.le_of_lt hB)) (Nat.le_refl _) (.int .i64 (X.k : Int)) (.string X.t) (.int .i64 X.n) (.int .i64 (X.a : Int)) (.int .i64 0))
              have z3 := hB3.size
              clear bx3 hB3 hbw
              go_wp2
              go_step3
              show Jumps (· < 5) (fun l' a' w' => SnJ fc caps Bs W.heap.size J s l' a' w' ∧ SnM s l' a' < M) (fun _ _ _ => True) (.goto 4) _ _
              refine jump _ _ (by decide) rfl rfl rfl rfl rfl rfl rfl rfl ⟨⟨hi, hn, hl, ⟨pre, unhide Hp, unhide HJ _ _ _ (unhide HJp) (unhide B5)⟩, ⟨_, _, _, _, _, unhide S5⟩, by simp; omega⟩, ⟨hz, unhide Hln, unhide Hb2, unhide H35⟩, by rw [unhide HX]; rfl, by rw [unhide HX]; rfl, by rw [unhide HX]; exact unhide S5⟩ (by simp; omega)
    · have k3 : ((i : Int) == (s.size : Int)) = true := by rw [beq_iff_eq]; omega
      clear hp hJp hbx hB hbl hel HL H hI
      go_wp2
      go_step3
      show Jumps (· < 5) (fun l' a' w' => SnJ fc caps Bs W.heap.size J s l' a' w' ∧ SnM s l' a' < M) (fun _ _ _ => True) (.goto 0) _ _
      exact jump _ _ (by decide) rfl rfl rfl rfl rfl rfl rfl rfl ⟨unhide HI, fun h => absurd h hz⟩ (by simp; omega)

end Sn
end Go.Proofs.YtkndjbmlkfpfoaaGreatDoor
