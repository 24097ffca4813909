/-
  Chapter 6's law StampNothing returns true for every list of items, and leaves its arguments as they were; no condition.
-/
import Derived.Test.YtgoalmkjmjikmaaRows
import Derived.WalkKit
import Derived.ProofKit
import Derived.OpenShut
import Derived.ShutString
import Derived.ChangeOld
import Derived.Below
import Derived.Test.YtgoalmkjmjikmaaZTK
import Derived.Test.YtgoalmkjmjikmaaZLY2
import Derived.Test.YtgoalmkjmjikmaaZEQ
import Derived.Test.YtgoalmkjmjikmaaZQB
import Derived.Test.YtgoalmkjmjikmaaZRegG
import Derived.Deep.CutRange
import Derived.Deep.RegionWith
set_option linter.unusedVariables false
set_option linter.unusedSimpArgs false
namespace Go.Proofs.Ytgoalmkjmjikmaa
namespace LStampNothing
open Go.ChangeShapes Go.WideShapes Go.ChangeAt Go.RowKit Go.Lib
open Go.ChangeMaps (open_string shut_string)

theorem neqT (t : Bool) (n : Int) (s : ByteArray) (w : World) : (binOp .neq 53 (.agg #[.bool t, .int .i64 n, .string s]) (.agg #[.bool t, .int .i64 n, .string s])).run Try.prog w = .ok (.bool false) w := by
  simp [go_sem]

/-- cells that a callee leaves: of one box, of two -/
structure C3 (W : World) (b : Nat) (u0 u1 u2 : Value) : Prop where
  c0 : W.cell? ⟨b, 0, none⟩ = some u0
  c1 : W.cell? ⟨b, 1, none⟩ = some u1
  c2 : W.cell? ⟨b, 2, none⟩ = some u2
  f0 : W.frozen? ⟨b, 0, none⟩ = false
  f1 : W.frozen? ⟨b, 1, none⟩ = false
  f2 : W.frozen? ⟨b, 2, none⟩ = false
  lt : b < W.heap.size
theorem C3.of {W : World} {b : Nat} {t : TypeId} {u0 u1 u2 : Value} (h : Bx W b t #[u0, u1, u2]) : C3 W b u0 u1 u2 := ⟨h.cell 0 _ rfl, h.cell 1 _ rfl, h.cell 2 _ rfl, h.frozen 0, h.frozen 1, h.frozen 2, h.lt⟩
theorem bx1 {W W3 : World} {t : TypeId} {u0 u1 u2 : Value} (h : Below (W.alloc (.cells #[u0, u1, u2] t)).drew.heap.size (W.alloc (.cells #[u0, u1, u2] t)).drew W3) : Bx W3 W.heap.size t #[u0, u1, u2] := ((Bx.new W t #[u0, u1, u2]).below (Below.refl _ _).drew).below h
theorem bx2a {W W3 : World} {t s : TypeId} {u0 u1 u2 v0 v1 v2 : Value} (h : Below ((W.alloc (.cells #[u0, u1, u2] t)).alloc (.cells #[v0, v1, v2] s)).drew.heap.size ((W.alloc (.cells #[u0, u1, u2] t)).alloc (.cells #[v0, v1, v2] s)).drew W3) : Bx W3 W.heap.size t #[u0, u1, u2] := (((Bx.new W t #[u0, u1, u2]).below (ballc (Below.refl _ _) _)).below (Below.refl _ _).drew).below h
theorem bx2b {W W3 : World} {t s : TypeId} {u0 u1 u2 v0 v1 v2 : Value} (h : Below ((W.alloc (.cells #[u0, u1, u2] t)).alloc (.cells #[v0, v1, v2] s)).drew.heap.size ((W.alloc (.cells #[u0, u1, u2] t)).alloc (.cells #[v0, v1, v2] s)).drew W3) : Bx W3 (W.heap.size + 1) s #[v0, v1, v2] := by
  have q := ((Bx.new (W.alloc (.cells #[u0, u1, u2] t)) s #[v0, v1, v2]).below (Below.refl _ _).drew).below h
  have e : (W.alloc (.cells #[u0, u1, u2] t)).heap.size = W.heap.size + 1 := by simp
  rw [e] at q
  exact q

/-- two boxes of one's own -/
def TwoB (W2 wx : World) (v1 v2 : Value) (I R : Array Value) : Prop := ∃ b1 b2, v1 = .pointer (some ⟨b1, 0, none⟩) ∧ v2 = .pointer (some ⟨b2, 0, none⟩) ∧ Bx wx b1 53 I ∧ Bx wx b2 49 R ∧ W2.heap.size ≤ b1 ∧ W2.heap.size ≤ b2 ∧ Below W2.heap.size W2 wx
theorem tA {W2 W3 : World} {I R : Array Value} (h : Below W2.drew.heap.size W2.drew W3) : TwoB W2 ((W3.alloc (.cells I 53)).alloc (.cells R 49)) (.pointer (some ⟨W3.heap.size, 0, none⟩)) (.pointer (some ⟨W3.heap.size + 1, 0, none⟩)) I R := by
  have h' : Below W2.heap.size W2 W3 := bnext (Below.refl W2.heap.size W2).drew h
  have e : (W3.alloc (.cells I 53)).heap.size = W3.heap.size + 1 := by simp
  have q := Bx.new (W3.alloc (.cells I 53)) 49 R
  rw [e] at q
  have := h'.size
  exact ⟨_, _, rfl, rfl, (Bx.new W3 _ _).below (ballc (Below.refl _ _) _), q, by omega, by omega, ballc (ballc h' _) _⟩
theorem tB {W2 W3 : World} {I R : Array Value} (h : Below W2.drew.heap.size W2.drew W3) : TwoB W2 ((W3.alloc (.cells R 49)).alloc (.cells I 53)) (.pointer (some ⟨W3.heap.size + 1, 0, none⟩)) (.pointer (some ⟨W3.heap.size, 0, none⟩)) I R := by
  have h' : Below W2.heap.size W2 W3 := bnext (Below.refl W2.heap.size W2).drew h
  have e : (W3.alloc (.cells R 49)).heap.size = W3.heap.size + 1 := by simp
  have q := Bx.new (W3.alloc (.cells R 49)) 53 I
  rw [e] at q
  have := h'.size
  exact ⟨_, _, rfl, rfl, q, (Bx.new W3 _ _).below (ballc (Below.refl _ _) _), by omega, by omega, ballc (ballc h' _) _⟩
theorem tC {W2 W3 : World} {R : Array Value} {u0 u1 u2 i0 i1 i2 : Value} (h : Below (W2.alloc (.cells #[u0, u1, u2] 53)).drew.heap.size (W2.alloc (.cells #[u0, u1, u2] 53)).drew W3) :
    TwoB W2 ((((W3.setCell ⟨W2.heap.size, 0, none⟩ i0).setCell ⟨W2.heap.size, 1, none⟩ i1).setCell ⟨W2.heap.size, 2, none⟩ i2).alloc (.cells R 49)) (.pointer (some ⟨W2.heap.size, 0, none⟩)) (.pointer (some ⟨W3.heap.size, 0, none⟩)) #[i0, i1, i2] R := by
  have h' : Below W2.heap.size W2 W3 := bnext (ballc (Below.refl W2.heap.size W2) _).drew h
  have q := Bx.new (((W3.setCell ⟨W2.heap.size, 0, none⟩ i0).setCell ⟨W2.heap.size, 1, none⟩ i1).setCell ⟨W2.heap.size, 2, none⟩ i2) 49 R
  have e : (((W3.setCell ⟨W2.heap.size, 0, none⟩ i0).setCell ⟨W2.heap.size, 1, none⟩ i1).setCell ⟨W2.heap.size, 2, none⟩ i2).heap.size = W3.heap.size := by simp
  rw [e] at q
  exact ⟨_, _, rfl, rfl, (put3 (bx1 h) i0 i1 i2).below (ballc (Below.refl _ _) _), q, Nat.le_refl _, h'.size, ballc (bput3 h' (Nat.le_refl _) _ _ _) _⟩
theorem tD {W2 W3 : World} {I : Array Value} {u0 u1 u2 i0 i1 i2 : Value} (h : Below (W2.alloc (.cells #[u0, u1, u2] 49)).drew.heap.size (W2.alloc (.cells #[u0, u1, u2] 49)).drew W3) :
    TwoB W2 ((((W3.setCell ⟨W2.heap.size, 0, none⟩ i0).setCell ⟨W2.heap.size, 1, none⟩ i1).setCell ⟨W2.heap.size, 2, none⟩ i2).alloc (.cells I 53)) (.pointer (some ⟨W3.heap.size, 0, none⟩)) (.pointer (some ⟨W2.heap.size, 0, none⟩)) I #[i0, i1, i2] := by
  have h' : Below W2.heap.size W2 W3 := bnext (ballc (Below.refl W2.heap.size W2) _).drew h
  have q := Bx.new (((W3.setCell ⟨W2.heap.size, 0, none⟩ i0).setCell ⟨W2.heap.size, 1, none⟩ i1).setCell ⟨W2.heap.size, 2, none⟩ i2) 53 I
  have e : (((W3.setCell ⟨W2.heap.size, 0, none⟩ i0).setCell ⟨W2.heap.size, 1, none⟩ i1).setCell ⟨W2.heap.size, 2, none⟩ i2).heap.size = W3.heap.size := by simp
  rw [e] at q
  exact ⟨_, _, rfl, rfl, q, (put3 (bx1 h) i0 i1 i2).below (ballc (Below.refl _ _) _), h'.size, Nat.le_refl _, ballc (bput3 h' (Nat.le_refl _) _ _ _) _⟩
theorem tE {W2 W3 : World} {u0 u1 u2 v0 v1 v2 i0 i1 i2 r0 r1 r2 : Value} (h : Below ((W2.alloc (.cells #[u0, u1, u2] 53)).alloc (.cells #[v0, v1, v2] 49)).drew.heap.size ((W2.alloc (.cells #[u0, u1, u2] 53)).alloc (.cells #[v0, v1, v2] 49)).drew W3) :
    TwoB W2 ((((((W3.setCell ⟨W2.heap.size, 0, none⟩ i0).setCell ⟨W2.heap.size, 1, none⟩ i1).setCell ⟨W2.heap.size, 2, none⟩ i2).setCell ⟨W2.heap.size + 1, 0, none⟩ r0).setCell ⟨W2.heap.size + 1, 1, none⟩ r1).setCell ⟨W2.heap.size + 1, 2, none⟩ r2) (.pointer (some ⟨W2.heap.size, 0, none⟩)) (.pointer (some ⟨W2.heap.size + 1, 0, none⟩)) #[i0, i1, i2] #[r0, r1, r2] := by
  have h' : Below W2.heap.size W2 W3 := bnext (ballc (ballc (Below.refl W2.heap.size W2) _) _).drew h
  obtain ⟨q1, q2⟩ := put33 (bx2a h) (bx2b h) (by omega) i0 i1 i2 r0 r1 r2
  exact ⟨_, _, rfl, rfl, q1, q2, Nat.le_refl _, Nat.le_succ _, bput3 (bput3 h' (Nat.le_refl _) _ _ _) (Nat.le_succ _) _ _ _⟩
theorem tF {W2 W3 : World} {u0 u1 u2 v0 v1 v2 i0 i1 i2 r0 r1 r2 : Value} (h : Below ((W2.alloc (.cells #[v0, v1, v2] 49)).alloc (.cells #[u0, u1, u2] 53)).drew.heap.size ((W2.alloc (.cells #[v0, v1, v2] 49)).alloc (.cells #[u0, u1, u2] 53)).drew W3) :
    TwoB W2 ((((((W3.setCell ⟨W2.heap.size + 1, 0, none⟩ i0).setCell ⟨W2.heap.size + 1, 1, none⟩ i1).setCell ⟨W2.heap.size + 1, 2, none⟩ i2).setCell ⟨W2.heap.size, 0, none⟩ r0).setCell ⟨W2.heap.size, 1, none⟩ r1).setCell ⟨W2.heap.size, 2, none⟩ r2) (.pointer (some ⟨W2.heap.size + 1, 0, none⟩)) (.pointer (some ⟨W2.heap.size, 0, none⟩)) #[i0, i1, i2] #[r0, r1, r2] := by
  have h' : Below W2.heap.size W2 W3 := bnext (ballc (ballc (Below.refl W2.heap.size W2) _) _).drew h
  obtain ⟨q1, q2⟩ := put33 (bx2b h) (bx2a h) (by omega) i0 i1 i2 r0 r1 r2
  exact ⟨_, _, rfl, rfl, q1, q2, Nat.le_succ _, Nat.le_refl _, bput3 (bput3 h' (Nat.le_succ _) _ _ _) (Nat.le_refl _) _ _ _⟩

theorem tAB {W2 W3 : World} (h : Below W2.drew.heap.size W2.drew W3) : (∀ I R, TwoB W2 ((W3.alloc (.cells I 53)).alloc (.cells R 49)) (.pointer (some ⟨W3.heap.size, 0, none⟩)) (.pointer (some ⟨W3.heap.size + 1, 0, none⟩)) I R) ∧ (∀ I R, TwoB W2 ((W3.alloc (.cells R 49)).alloc (.cells I 53)) (.pointer (some ⟨W3.heap.size + 1, 0, none⟩)) (.pointer (some ⟨W3.heap.size, 0, none⟩)) I R) := ⟨fun I R => tA h, fun I R => tB h⟩

/-- a Reader, and the document's in a box -/
structure St (w W : World) (p q : Nat) (a : Option Addr) (n c : Nat) (z : List Nat) (ob : Option Nat) (at' : Nat) (e : Int) : Prop where
  rd : ∃ v, Rd W p v (z.drop at') e ∧ v.ownBlock = ob
  bx : Bx W q 49 #[.slice a n c, .int .i64 (at' : Nat), .int .i64 e]
  bel : Below w.heap.size w W
  lt : w.heap.size ≤ p ∧ p < q ∧ w.heap.size ≤ q
  own : 0 < z.length → ∀ i, ob = some i → i < q
theorem St.below {w W W' : World} {p q : Nat} {a : Option Addr} {n c : Nat} {z : List Nat} {ob : Option Nat} {at' : Nat} {e : Int} (h : St w W p q a n c z ob at' e) (hb : Below W.heap.size W W') : St w W' p q a n c z ob at' e :=
  ⟨by obtain ⟨v, h1, h2⟩ := h.rd; exact ⟨v, h1.below hb, h2⟩, h.bx.below hb, bnext h.bel hb, h.lt, h.own⟩


/-- a Reader of no bytes whose error is one of two; the second -/
def Rr (P : Nat) (e e' : Int) (W : World) : Prop := ∃ v e1, (e1 = e ∨ e1 = e') ∧ Rd W P v [] e1 ∧ v.ownBlock = none
def Qq (P : Nat) (e' : Int) (W : World) : Prop := ∃ v, Rd W P v [] e' ∧ v.ownBlock = none
structure GG (P : Nat) (e e' : Int) (w w' : World) : Prop where
  kp : Kp (fun i => i = P) w w'
  rr : Rr P e e' w → Rr P e e' w'
  qq : Qq P e' w → Qq P e' w'
theorem GG.below {P : Nat} {e e' : Int} {w w' : World} (h : Below w.heap.size w w') : GG P e e' w w' :=
  ⟨Kp.of_below h, fun ⟨v, e1, h1, h2, h3⟩ => ⟨v, e1, h1, h2.below h, h3⟩, fun ⟨v, h2, h3⟩ => ⟨v, h2.below h, h3⟩⟩
theorem GG.refl (P : Nat) (e e' : Int) (w : World) : GG P e e' w w := GG.below (Below.refl _ _)
theorem GG.put {P : Nat} {e e' : Int} {w w' : World} (h : Kp (fun i => i = P) w w') (q : Qq P e' w') : GG P e e' w w' :=
  ⟨h, fun _ => by obtain ⟨v, h2, h3⟩ := q; exact ⟨v, e', .inr rfl, h2, h3⟩, fun _ => q⟩
def isQ (c : Value) (P : Nat) (e' : Int) (W : World) (v : Value) : Prop := v = c ∧ Qq P e' W
structure JJ (Wq : World) (P : Nat) (e e' : Int) (W : World) : Prop where
  kp : Kp (fun i => i = P) Wq W
  rr : Rr P e e' W
theorem JJ.next {Wq : World} {P : Nat} {e e' : Int} {w w' : World} (h : JJ Wq P e e' w) (g : GG P e e' w w') : JJ Wq P e e' w' :=
  ⟨h.kp.trans g.kp (fun i h => .inl h), g.rr h.rr⟩
theorem rItm_nil (e : Int) (t : Bool) : rItm [] e t = ((t, 0, ByteArray.empty), 0, if e = 0 then 5 else e) := by
  have h1 : rn0 [] e = (if e = 0 then 5 else e, 0, 0) := by
    unfold rn0
    split <;> simp_all [tn, tnL]
  cases t <;> simp [rItm, rTxt, rTxtW, h1] <;> split <;> simp_all
theorem take_two {W : World} {P : Nat} {e : Int} {bt : Bool} (m : Int) (s : ByteArray) {t' : Bool} {n' : Int} {s' : ByteArray} {e' : Int} (hI : rItm ([] : List Nat) e bt = ((t', n', s'), 0, e')) (h : Rr P e e' W) :
    Calls Try.prog 23 #[.pointer (some ⟨P, 0, none⟩), .agg #[.bool bt, .int .i64 m, .string s]] W fun r W' => r = .returned (.agg #[.bool t', .int .i64 n', .string s']) ∧ Qq P e' W' ∧ Kp (fun i => i = P) W W' := by
  obtain ⟨v, e1, h1, h2, h3⟩ := h
  have hJ : rItm ([] : List Nat) e1 bt = ((t', n', s'), 0, e') := by
    rcases h1 with rfl | rfl
    · exact hI
    · rw [rItm_nil] at hI ⊢
      simp only [Prod.mk.injEq] at hI ⊢
      obtain ⟨⟨a1, a2, a3⟩, a4, a5⟩ := hI
      refine ⟨⟨a1, a2, a3⟩, trivial, ?_⟩
      split
      · rename_i h0; rw [h0] at a5; split at a5 <;> simp_all
      · rfl
  refine (take_in bt m s h2).mono ?_
  rintro r W' ⟨rfl, v', k1, k2, k3⟩
  rw [hJ] at k1 ⊢
  exact ⟨rfl, ⟨v', k1, k3.trans h3⟩, k2⟩

set_option maxRecDepth 100000 in
set_option maxHeartbeats 2000000 in
theorem lay_nil (bt : Bool) (n : Int) (s : ByteArray) (w : World) : Calls Try.prog 21 #[.pointer none, .agg #[.bool bt, .int .i64 n, .string s]] w fun r W => r = .returned (.tuple #[]) ∧ Below w.heap.size w W := by
  have HB := hide (ballc (Below.refl w.heap.size w) (.cells #[.bool bt, .int .i64 n, .string s] 53))
  cases bt with
  | true =>
    go_enter Try.func21, Try.ntmps21
    go_wp2_with fail
    refine (wText_nil _ s).mono ?_
    rintro r W1 ⟨rfl, rfl⟩
    go_wp2
    refine bodyPost_end (results_none rfl _ _ _) rfl ?_
    exact ⟨by trivial, unhide HB⟩
  | false =>
    go_enter Try.func21, Try.ntmps21
    go_wp2_with fail
    refine (wNumber_nil _ n).mono ?_
    rintro r W1 ⟨rfl, rfl⟩
    go_wp2
    refine bodyPost_end (results_none rfl _ _ _) rfl ?_
    exact ⟨by trivial, unhide HB⟩
set_option maxRecDepth 100000 in
set_option maxHeartbeats 2000000 in
theorem take_nil (bt : Bool) (n : Int) (s : ByteArray) (w : World) : Calls Try.prog 23 #[.pointer none, .agg #[.bool bt, .int .i64 n, .string s]] w fun r W => r = .returned (.agg #[.bool bt, .int .i64 0, .string ⟨#[]⟩]) ∧ Below w.heap.size w W := by
  have HB := hide (fun A => ballc (ballc (Below.refl w.heap.size w) (.cells #[.bool bt, .int .i64 n, .string s] 53)) A)
  have hbx := hide (fun vs => bx_last w (.cells #[.bool bt, .int .i64 n, .string s] 53) vs 53)
  cases bt with
  | true =>
    go_enter Try.func23, Try.ntmps23
    go_wp2_with fail
    refine (rText_nil _).mono ?_
    rintro r W1 ⟨rfl, rfl⟩
    go_wp2
    refine bodyPost_ret (results_cell_row rfl _ _ (w.heap.size + 1) _ _ _ _ rfl (unhide hbx _) Try.underlying53 rfl sizeT) rfl ?_
    exact ⟨rfl, unhide HB _⟩
  | false =>
    go_enter Try.func23, Try.ntmps23
    go_wp2_with fail
    refine (rNumber_nil _).mono ?_
    rintro r W1 ⟨rfl, rfl⟩
    go_wp2
    refine bodyPost_ret (results_cell_row rfl _ _ (w.heap.size + 1) _ _ _ _ rfl (unhide hbx _) Try.underlying53 rfl sizeT) rfl ?_
    exact ⟨rfl, unhide HB _⟩
theorem Rd.zero (W : World) : Rd (W.alloc (.cells #[.slice none 0 0, .int .i64 0] 47)) W.heap.size (.slice none 0 0) [] 0 :=
  ⟨Bx.new _ _ _, .inl ⟨rfl, none, 0, rfl⟩, (by simp [Value.ownBlock]), (fun b hb => by cases hb), by simp⟩

set_option maxRecDepth 100000 in
set_option maxHeartbeats 40000000 in
theorem walk (a0 : Option Addr) (len0 cap0 : Nat) (z0 : List (Bool × Int × ByteArray)) (w : World) (w0 : RT w (.slice a0 len0 cap0) z0 ∧ z0.length = len0 ∧ len0 ≤ maxLen ∧ ∀ e ∈ z0, itemIn e) :
    Calls Try.prog 5 #[.slice a0 len0 cap0] w fun e W => e = .returned (.bool true) ∧ Below w.heap.size w W := by
  obtain ⟨r0, e0, _, _⟩ := w0
  have HK := hide (fun W => known_in W)
  have HM := hide (much_in _ z0 none 0 0 w r0)
  have R0 := hide r0
  have E0 := hide e0
  clear r0 e0
  go_enter Try.func5, Try.ntmps5
  go_wp2_with fail
  refine (unhide HM).mono ?_
  rintro r X ⟨⟨b, rfl, hb⟩, hX⟩
  subst hX
  cases b with
  | true =>
    clear hb
    go_wp2_with fail
    refine (unhide HK _).mono ?_
    rintro r W1 ⟨rfl, hb⟩
    go_wp2
    go_ret
    exact ⟨rfl, hb⟩
  | false =>
  obtain ⟨n0, -, -⟩ := hb rfl
  have hs0 : len0 ≤ 400 := by have := unhide E0; omega
  clear hb HM n0
  have HZ := hide (Rd.zero X)
  have BZ := hide (ballc (Below.refl _ X) (.cells #[.slice none 0 0, .int .i64 0] 47))
  go_wp2_with fail
  generalize hY1 : X.alloc (.cells #[.slice none 0 0, .int .i64 0] 47) = Y1 at *
  refine (refRead_in (.slice none 0 0) 0 Y1 ⟨_, _, rfl⟩).mono ?_
  rintro r W2 ⟨rfl, hb2⟩
  have HS0 : Hid (St X (W2.alloc (.cells #[.slice none 0 0, .int .i64 0, .int .i64 0] 49)) X.heap.size W2.heap.size none 0 0 [] none 0 0) := hide ⟨⟨_, ((unhide HZ).below hb2).below (ballc (Below.refl _ _) _), rfl⟩, Bx.new W2 _ _, ballc (bnext (unhide BZ) hb2) _, ⟨Nat.le_refl _, by have := (unhide HZ).box.lt; have := hb2.size; omega, by have := (unhide BZ).size; have := hb2.size; omega⟩, (fun h => by simp at h)⟩
  clear HZ BZ hb2 hY1
  go_wp2
  generalize W2.heap.size = q at *
  go_loopw [7] (fun iv wr => ∃ (i : Nat) (e : Int), iv = .int .i64 (i : Nat) ∧ i ≤ len0 ∧ Hid (St X wr X.heap.size q none 0 0 [] none 0 e)) (fun iv _ => len0 - (Lib.intOf iv).toNat)
  case atStart => exact ⟨0, 0, rfl, by omega, HS0⟩
  case round =>
    clear HS0
    obtain ⟨i, e, rfl, hi, hS⟩ := hrel
    by_cases hlt : i < len0
    · have hlt' : (i : Int) < (len0 : Int) := by omega
      obtain ⟨x, hx⟩ : ∃ x, z0[i]? = some x := ⟨_, List.getElem?_eq_getElem (by have := unhide E0; omega)⟩
      obtain ⟨b, off, rfl, hbl, c0, c1, c2⟩ := RT.at (RT.below (unhide R0) (unhide hS).bel) hx
      obtain ⟨bt, m, s⟩ := x
      simp only at c0 c1 c2
      have hle := rItm_le ([] : List Nat) e bt
      obtain ⟨RI, hRI⟩ : ∃ RI, rItm ([] : List Nat) e bt = RI := ⟨_, rfl⟩
      rw [hRI] at hle
      obtain ⟨⟨t', n', s'⟩, k', e'⟩ := RI
      simp only [List.length_nil, Nat.le_zero] at hle
      subst hle
      have HRI := hide hRI
      clear hRI
      go_wp2_with fail
      refine (lay_nil bt m s wr).mono ?_
      rintro r W2 ⟨rfl, hbl2⟩
      have hS2 := hide ((unhide hS).below hbl2)
      clear hS hbl2 c0 c1 c2 hbl
      go_wp2_with fail
      have BB2 := hide (unhide hS2).bel
      have XQ := hide (unhide hS2).bx
      obtain ⟨b', off', hab, hbl, c0, c1, c2⟩ := RT.at (RT.below (unhide R0) (unhide BB2)) hx
      simp only [Option.some.injEq, Addr.mk.injEq, and_true] at hab
      obtain ⟨rfl, rfl⟩ := hab
      simp only at c0 c1 c2
      have hq2 := (unhide XQ).lt
      have q0 := (unhide XQ).cell 0 _ rfl
      have q1 := (unhide XQ).cell 1 _ rfl
      have q2 := (unhide XQ).cell 2 _ rfl
      have HTn := hide (fun (W : World) (hb : Below W2.heap.size W2 W) => taken_in none 0 0 0 e [] W bt m s (.inl ⟨rfl, none, 0, rfl⟩) rfl (Nat.le_refl _) (by omega) (fun b hb => by cases hb))
      rw [show ([] : List Nat).drop 0 = [] from rfl, unhide HRI] at HTn
      simp only [itC, Nat.zero_add] at HTn
      go_cut [8, 9] from 29 to 37 (fun v11 v12 wx => Hid (TwoB W2 wx v11 v12 #[.bool t', .int .i64 n', .string s'] #[.slice none 0 0, .int .i64 0, .int .i64 e']))
      case first =>
        push_cast at HTn
        clear HK R0 E0 hS2 BB2 XQ HRI hx hi
        go_region_with (go_at_call 22; refine (unhide HTn _ (by repeat (first | exact Below.refl _ _ | refine ballc ?_ _ | refine Below.drew ?_))).mono ?_; rintro r W3 ⟨rfl, hb3⟩; first | (with_reducible (have hz := hide (fun i0 i1 i2 r0 r1 r2 => tE (i0 := i0) (i1 := i1) (i2 := i2) (r0 := r0) (r1 := r1) (r2 := r2) hb3); have hx3 := C3.of (bx2a hb3); have hy3 := C3.of (bx2b hb3); obtain ⟨x0, x1, x2, x3, x4, x5, x6⟩ := hx3; obtain ⟨y0, y1, y2, y3, y4, y5, y6⟩ := hy3; clear hb3)) | (with_reducible (have hz := hide (fun i0 i1 i2 r0 r1 r2 => tF (i0 := i0) (i1 := i1) (i2 := i2) (r0 := r0) (r1 := r1) (r2 := r2) hb3); have hx3 := C3.of (bx2a hb3); have hy3 := C3.of (bx2b hb3); obtain ⟨x0, x1, x2, x3, x4, x5, x6⟩ := hx3; obtain ⟨y0, y1, y2, y3, y4, y5, y6⟩ := hy3; clear hb3)) | (with_reducible (have hz := hide (fun i0 i1 i2 R => tC (i0 := i0) (i1 := i1) (i2 := i2) (R := R) hb3); have hx3 := C3.of (bx1 hb3); obtain ⟨x0, x1, x2, x3, x4, x5, x6⟩ := hx3; clear hb3)) | (with_reducible (have hz := hide (fun i0 i1 i2 I => tD (i0 := i0) (i1 := i1) (i2 := i2) (I := I) hb3); have hx3 := C3.of (bx1 hb3); obtain ⟨x0, x1, x2, x3, x4, x5, x6⟩ := hx3; clear hb3)) | (have hz := hide (tAB hb3); clear hb3))
        all_goals (go_wp2; go_meet)
        all_goals first | exact hide (unhide hz _ _ _ _ _ _) | exact hide (unhide hz _ _ _ _) | exact hide ((unhide hz).1 _ _) | exact hide ((unhide hz).2 _ _)
      case rest =>
        obtain ⟨b1, b2, rfl, rfl, y1, y2, g1, g2, hb4⟩ := unhide hcut
        have xq := (unhide XQ).below hb4
        have sc := (unhide hS2).below hb4
        obtain ⟨l1, l2, l3⟩ := (unhide hS2).lt
        have kq : Kp (fun k => k = q) wc (((wc.setCell ⟨q, 0, none⟩ (.slice none 0 0)).setCell ⟨q, 1, none⟩ (.int .i64 0)).setCell ⟨q, 2, none⟩ (.int .i64 e')) := ((Kp.set (N := fun k => k = q) _ _ _ rfl).trans (Kp.set (N := fun k => k = q) _ _ _ rfl) (fun i h => .inl h)).trans (Kp.set (N := fun k => k = q) _ _ _ rfl) (fun i h => .inl h)
        have xq5 := put3 xq (.slice none 0 0) (.int .i64 0) (.int .i64 e')
        have c50 := xq.cell 0 _ rfl
        have c51 := xq.cell 1 _ rfl
        have c52 := xq.cell 2 _ rfl
        have f50 := xq.frozen 0
        have f51 := xq.frozen 1
        have f52 := xq.frozen 2
        have d20 := y2.cell 0 _ rfl
        have d21 := y2.cell 1 _ rfl
        have d22 := y2.cell 2 _ rfl
        have hql := xq.lt
        obtain ⟨W5, hW5⟩ : ∃ W5, (((wc.setCell ⟨q, 0, none⟩ (.slice none 0 0)).setCell ⟨q, 1, none⟩ (.int .i64 0)).setCell ⟨q, 2, none⟩ (.int .i64 e')) = W5 := ⟨_, rfl⟩
        rw [hW5] at kq xq5
        have y15 := y1.kp kq (by omega)
        have b5 : Below X.heap.size X W5 := kq.below (bnext (unhide BB2) hb4) (fun i e => by omega)
        obtain ⟨vz, rz, oz⟩ := sc.rd
        rw [show ([] : List Nat).drop 0 = [] from rfl] at rz
        have rz5 := rz.kpn kq (by omega) (fun h0 => by simp at h0)
        obtain ⟨b'', off'', hab, hbl5, k0, k1, k2⟩ := RT.at (RT.below (unhide R0) b5) hx
        simp only [Option.some.injEq, Addr.mk.injEq, and_true] at hab
        obtain ⟨rfl, rfl⟩ := hab
        simp only at k0 k1 k2
        have BN := ballc (Below.refl _ W5) (.cells #[.bool bt, .int .i64 0, .string ⟨#[]⟩] 53)
        have FX10 := hide (Bx.new W5 53 #[.bool bt, .int .i64 0, .string ⟨#[]⟩])
        have FX8 := hide (y15.below BN)
        have FX6 := hide (xq5.below BN)
        have FR := hide (rz5.below BN)
        have FB := hide (bnext b5 BN)
        have HOZ := hide oz
        have htb := rz5.box.lt
        clear hcut y1 y2 xq sc kq xq5 y15 rz rz5 BN b5 c0 c1 c2 q0 q1 q2 HTn hb4 hbl
        go_wp2_with fail
        generalize W5.heap.size = tb at *
        generalize W5.alloc (.cells #[.bool bt, .int .i64 0, .string ⟨#[]⟩] 53) = Wq at *
        have FA := hide (fun (W : World) (hb : Below Wq.heap.size Wq W) => show ((W.cell? ⟨b, off + i * 3, none⟩ = some (.bool bt) ∧ W.cell? ⟨b, off + i * 3 + 1, none⟩ = some (.int .i64 m) ∧ W.cell? ⟨b, off + i * 3 + 2, none⟩ = some (.string s)) ∧ C3 W tb (.bool bt) (.int .i64 0) (.string ⟨#[]⟩)) ∧ (Bx W b1 53 #[.bool t', .int .i64 n', .string s'] ∧ Bx W q 49 #[.slice none 0 0, .int .i64 0, .int .i64 e'] ∧ Rd W X.heap.size vz [] e) ∧ Below X.heap.size X W from by
          obtain ⟨b9, off9, hab, hbl9, k0, k1, k2⟩ := RT.at (RT.below (unhide R0) (bnext (unhide FB) hb)) hx
          simp only [Option.some.injEq, Addr.mk.injEq, and_true] at hab
          obtain ⟨rfl, rfl⟩ := hab
          exact ⟨⟨⟨k0, k1, k2⟩, C3.of ((unhide FX10).below hb)⟩, ⟨(unhide FX8).below hb, (unhide FX6).below hb, (unhide FR).below hb⟩, bnext (unhide FB) hb⟩)
        obtain ⟨⟨⟨k0, k1, k2⟩, ⟨m0, m1, m2, m3, m4, m5, m6⟩⟩, ⟨hx8, hx6, hr9⟩, hb9⟩ := unhide FA Wq (Below.refl _ _)
        have o0 := hx8.cell 0 _ rfl
        have o1 := hx8.cell 1 _ rfl
        have o2 := hx8.cell 2 _ rfl
        have j0 := hx6.cell 0 _ rfl
        have j1 := hx6.cell 1 _ rfl
        have j2 := hx6.cell 2 _ rfl
        have hbq : b < Wq.heap.size := by
          obtain ⟨b9, off9, hab, hbl9, _⟩ := RT.at (RT.below (unhide R0) (unhide FB)) hx
          simp only [Option.some.injEq, Addr.mk.injEq, and_true] at hab
          obtain ⟨rfl, rfl⟩ := hab
          exact hbl9
        have hbX : b < X.heap.size := by
          obtain ⟨b9, off9, hab, hbl9, _⟩ := RT.at (unhide R0) hx
          simp only [Option.some.injEq, Addr.mk.injEq, and_true] at hab
          obtain ⟨rfl, rfl⟩ := hab
          exact hbl9
        have FK := hide (fun (W : World) (hk : Kp (fun i => i = X.heap.size) Wq W) => show ((W.cell? ⟨b, off + i * 3, none⟩ = some (.bool bt) ∧ W.cell? ⟨b, off + i * 3 + 1, none⟩ = some (.int .i64 m) ∧ W.cell? ⟨b, off + i * 3 + 2, none⟩ = some (.string s)) ∧ C3 W tb (.bool bt) (.int .i64 0) (.string ⟨#[]⟩)) ∧ C3 W b1 (.bool t') (.int .i64 n') (.string s') ∧ C3 W q (.slice none 0 0) (.int .i64 0) (.int .i64 e') from by
          obtain ⟨b9, off9, hab, hbl9, k0, k1, k2⟩ := RT.at (RC.kpn (RT.below (unhide R0) (unhide FB)) hk (fun _ j hj hP => by simp [Value.ownBlock] at hj; omega)) hx
          simp only [Option.some.injEq, Addr.mk.injEq, and_true] at hab
          obtain ⟨rfl, rfl⟩ := hab
          exact ⟨⟨⟨k0, k1, k2⟩, C3.of ((unhide FX10).kp hk (by omega))⟩, C3.of ((unhide FX8).kp hk (by omega)), C3.of ((unhide FX6).kp hk (by omega))⟩)
        have hn1 := fun W => neqT bt 0 ⟨#[]⟩ W
        have hn2 := fun W => neqT t' n' s' W
        clear hx8 hx6 hr9 hb9 c50 c51 c52 f50 f51 f52 d20 d21 d22 hbl5 hql hW5
        go_cut [68] from 45 to 67 (fun v68 wx => v68 = .bool false ∧ Hid (St X wx X.heap.size q none 0 0 [] none 0 e'))
        case first =>
          clear HK E0 FX10 FX8 R0 hi hS2 BB2 XQ FA hx k0 k1 k2 m0 m1 m2 m3 m4 m5 m6 o0 o1 o2 j0 j1 j2
          refine wp_region_any (by kernel_rfl) ?_
          change wpAny _ _ _ _ _ _ _ (World.drew _)
          refine region_invG 96 (fun j => 45 + j) ((0, (Value.slice (some { block := b, off := off }) len0 cap0)) :: (1, undef) :: (2, u2) :: (3, (Value.pointer none)) :: (4, (Value.pointer none)) :: (5, (Value.pointer (some { block := X.heap.size, off := 0 }))) :: (6, (Value.pointer (some { block := q, off := 0 }))) :: (7, (Value.int IntKind.i64 (i : Int))) :: (8, (Value.pointer (some { block := b1, off := 0 }))) :: (9, (Value.pointer (some { block := b2, off := 0 }))) :: (10, (Value.pointer (some { block := tb, off := 0 }))) :: (11, (Value.slice (some { block := b, off := off }) len0 cap0)) :: (12, (Value.bool false)) :: (13, undef) :: (14, (Value.agg #[Value.slice none 0 0, Value.int IntKind.i64 0])) :: (15, (Value.pointer (some { block := X.heap.size, off := 0 }))) :: (16, (Value.agg #[Value.slice none 0 0, Value.int IntKind.i64 0, Value.int IntKind.i64 0])) :: (17, (Value.int IntKind.i64 (i : Int))) :: (18, (Value.slice (some { block := b, off := off }) len0 cap0)) :: (19, (Value.int IntKind.i64 (len0 : Int))) :: (20, (Value.bool true)) :: (21, u21) :: (22, u22) :: (23, (Value.pointer none)) :: (24, (Value.slice (some { block := b, off := off }) len0 cap0)) :: (25, (Value.int IntKind.i64 (i : Int))) :: (26, (Value.pointer (some { block := b, off := off + i * 3 }))) :: (27, (Value.agg #[Value.bool bt, Value.int IntKind.i64 m, Value.string s])) :: (28, (Value.tuple #[])) :: (29, u29) :: (30, u30) :: (31, u31) :: (32, u32) :: (33, u33) :: (34, u34) :: (35, u35) :: (36, u36) :: (37, u37) :: (38, (Value.agg #[Value.slice none 0 0, Value.int IntKind.i64 0, Value.int IntKind.i64 e'])) :: (39, (Value.slice (some { block := b, off := off }) len0 cap0)) :: (40, (Value.int IntKind.i64 (i : Int))) :: (41, (Value.pointer (some { block := b, off := off + i * 3 }))) :: (42, (Value.pointer (some { block := b, off := off + i * 3 }))) :: (43, (Value.bool bt)) :: (44, (Value.agg #[Value.bool bt, Value.int IntKind.i64 0, Value.string { data := #[] }])) :: (69, undef) :: (70, undef) :: (71, undef) :: (72, undef) :: (73, undef) :: (74, undef) :: (75, undef) :: (76, undef) :: (77, undef) :: (78, undef) :: (79, undef) :: (80, undef) :: (81, undef) :: (82, undef) :: (83, undef) :: (84, undef) :: (85, undef) :: (86, undef) :: (87, undef) :: (88, undef) :: (89, undef) :: (90, undef) :: (91, undef) :: (92, undef) :: (93, undef) :: (94, undef) :: (95, undef) :: [])
            (JJ Wq X.heap.size e e')
            (valsOf [isV (Value.pointer none), isV (Value.slice (some { block := b, off := off }) len0 cap0), isV (Value.int IntKind.i64 (i : Int)), isV (.pointer (some ⟨b, off + i * 3, none⟩)), isV (.agg #[.bool bt, .int .i64 m, .string s]), isV (.agg #[.bool bt, .int .i64 0, .string ⟨#[]⟩]), isV (.agg #[.bool bt, .int .i64 0, .string ⟨#[]⟩]), isV (.bool false), isV (.bool false), isV (Value.pointer (some { block := X.heap.size, off := 0 })), isV (Value.slice (some { block := b, off := off }) len0 cap0), isV (Value.int IntKind.i64 (i : Int)), isV (.pointer (some ⟨b, off + i * 3, none⟩)), isV (.agg #[.bool bt, .int .i64 m, .string s]), isQ (.agg #[.bool t', .int .i64 n', .string s']) X.heap.size e', isV (.agg #[.bool t', .int .i64 n', .string s']), isQ (.bool false) X.heap.size e', isQ (.bool false) X.heap.size e', isQ (.bool false) X.heap.size e', isV (Value.pointer (some { block := X.heap.size, off := 0 })), isV (.agg #[.slice none 0 0, .int .i64 0, .int .i64 e']), isV (.bool true), isV (.bool false), isV (.bool false)])
            (GG X.heap.size e e') ?fit (fun w1 w2 h hG => h.next hG) (valsOf_stable ?stable) (fun _ => true) [(8, false), (18, false)] ?gs ?gv ?steps ?fin _ _ ?sz rfl ?base ?start
          case fit => kernel_rfl
          case sz => rfl
          case gs => kernel_rfl
          case gv => intro p hp w v hv; simp only [List.mem_cons, List.not_mem_nil, or_false] at hp; rcases hp with rfl | rfl <;> first | exact hv | exact hv.1
          case base => intro p hp; repeat (first | (rcases List.mem_cons.1 hp with rfl | hp; · rfl) | cases hp)
          case stable => exact Stables.all (by repeat (first | exact .nil | refine .same ?_ | refine .other (fun w w' v _ hv hG => ⟨hv.1, hG.qq hv.2⟩) ?_))
          case start => exact ⟨Kp.of_below (Below.refl _ _).drew, ⟨vz, e, .inl rfl, (unhide FR).below (Below.refl _ _).drew, unhide HOZ⟩⟩
          case steps =>
            refine .cons (fun ρ wz hρ hJ hb hd => by
              refine Eq.mpr (if_neg (by decide)) ?_
              have dd0 : ρ (.tmp 4) = (Value.pointer none) := hb (4, _) (List.mem_of_getElem? (i := 4) rfl)
              exact step_move (.tmp 4) rfl ⟨GG.refl _ _ _ _, dd0⟩) ?_
            refine .cons (fun ρ wz hρ hJ hb hd => by
              refine Eq.mpr (if_neg (by decide)) ?_
              have dd0 : ρ (.tmp 0) = (Value.slice (some { block := b, off := off }) len0 cap0) := hb (0, _) (List.mem_of_getElem? (i := 0) rfl)
              exact step_move (.tmp 0) rfl ⟨GG.refl _ _ _ _, dd0⟩) ?_
            refine .cons (fun ρ wz hρ hJ hb hd => by
              refine Eq.mpr (if_neg (by decide)) ?_
              have dd0 : ρ (.tmp 7) = (Value.int IntKind.i64 (i : Int)) := hb (7, _) (List.mem_of_getElem? (i := 7) rfl)
              exact step_move (.tmp 7) rfl ⟨GG.refl _ _ _ _, dd0⟩) ?_
            refine .cons (fun ρ wz hρ hJ hb hd => by
              refine Eq.mpr (if_neg (by decide)) ?_
              have dd0 : ρ (.tmp 46) = (Value.slice (some { block := b, off := off }) len0 cap0) := hd 0 _ rfl rfl
              have dd1 : ρ (.tmp 47) = (Value.int IntKind.i64 (i : Int)) := hd 1 _ rfl rfl
              exact step_val (v := (.pointer (some ⟨b, off + i * 3, none⟩))) (w' := wz) (by simp [go_sem, execOp, dd0, dd1, hlt, hlt']) ⟨GG.refl _ _ _ _, rfl⟩) ?_
            refine .cons (fun ρ wz hρ hJ hb hd => by
              refine Eq.mpr (if_neg (by decide)) ?_
              have dd0 : ρ (.tmp 48) = (.pointer (some ⟨b, off + i * 3, none⟩)) := hd 0 _ rfl rfl
              obtain ⟨⟨⟨c0, c1, c2⟩, ⟨d0, d1, d2, _, _, _, _⟩⟩, ⟨e0, e1, e2, _, _, _, _⟩, ⟨g0, g1, g2, _, _, _, _⟩⟩ := unhide FK wz hJ.kp
              exact step_val (v := (.agg #[.bool bt, .int .i64 m, .string s])) (w' := wz) (by simp [go_sem, execOp, dd0, c0, c1, c2]) ⟨GG.refl _ _ _ _, rfl⟩) ?_
            refine .cons (fun ρ wz hρ hJ hb hd => by
              refine Eq.mpr (if_neg (by decide)) ?_
              have dd0 : ρ (.tmp 45) = (Value.pointer none) := hd 0 _ rfl rfl
              have dd1 : ρ (.tmp 49) = (.agg #[.bool bt, .int .i64 m, .string s]) := hd 1 _ rfl rfl
              refine step_func 23 _ _ #[.pointer none, .agg #[.bool bt, .int .i64 m, .string s]] hρ rfl (enters_of Try.func23 (by kernel_rfl) rfl) (by simp [dd0, dd1]) ?_
              refine (take_nil bt m s wz).mono ?_
              rintro r W' ⟨rfl, hb2⟩
              exact ⟨_, rfl, GG.below hb2, rfl⟩) ?_
            refine .cons (fun ρ wz hρ hJ hb hd => by
              refine Eq.mpr (if_neg (by decide)) ?_
              have dd0 : ρ (.tmp 10) = (Value.pointer (some { block := tb, off := 0 })) := hb (10, _) (List.mem_of_getElem? (i := 10) rfl)
              obtain ⟨⟨⟨c0, c1, c2⟩, ⟨d0, d1, d2, _, _, _, _⟩⟩, ⟨e0, e1, e2, _, _, _, _⟩, ⟨g0, g1, g2, _, _, _, _⟩⟩ := unhide FK wz hJ.kp
              exact step_val (v := (.agg #[.bool bt, .int .i64 0, .string ⟨#[]⟩])) (w' := wz) (by simp [go_sem, execOp, dd0, d0, d1, d2]) ⟨GG.refl _ _ _ _, rfl⟩) ?_
            refine .cons (fun ρ wz hρ hJ hb hd => by
              refine Eq.mpr (if_neg (by decide)) ?_
              have dd0 : ρ (.tmp 50) = (.agg #[.bool bt, .int .i64 0, .string ⟨#[]⟩]) := hd 0 _ rfl rfl
              have dd1 : ρ (.tmp 51) = (.agg #[.bool bt, .int .i64 0, .string ⟨#[]⟩]) := hd 1 _ rfl rfl
              exact step_val (v := (.bool false)) (w' := wz) (by simp [go_sem, execOp, dd0, dd1]) ⟨GG.refl _ _ _ _, rfl⟩) ?_
            refine .cons (fun ρ wz hρ hJ hb hd => by
              refine Eq.mpr (if_neg (by decide)) ?_
              have dd0 : ρ (.tmp 52) = (.bool false) := hd 0 _ rfl rfl
              exact step_move (.tmp 52) rfl ⟨GG.refl _ _ _ _, dd0⟩) ?_
            refine .cons (fun ρ wz hρ hJ hb hd => by
              refine Eq.mpr (if_neg (by decide)) ?_
              have dd0 : ρ (.tmp 5) = (Value.pointer (some { block := X.heap.size, off := 0 })) := hb (5, _) (List.mem_of_getElem? (i := 5) rfl)
              exact step_move (.tmp 5) rfl ⟨GG.refl _ _ _ _, dd0⟩) ?_
            refine .cons (fun ρ wz hρ hJ hb hd => by
              refine Eq.mpr (if_neg (by decide)) ?_
              have dd0 : ρ (.tmp 0) = (Value.slice (some { block := b, off := off }) len0 cap0) := hb (0, _) (List.mem_of_getElem? (i := 0) rfl)
              exact step_move (.tmp 0) rfl ⟨GG.refl _ _ _ _, dd0⟩) ?_
            refine .cons (fun ρ wz hρ hJ hb hd => by
              refine Eq.mpr (if_neg (by decide)) ?_
              have dd0 : ρ (.tmp 7) = (Value.int IntKind.i64 (i : Int)) := hb (7, _) (List.mem_of_getElem? (i := 7) rfl)
              exact step_move (.tmp 7) rfl ⟨GG.refl _ _ _ _, dd0⟩) ?_
            refine .cons (fun ρ wz hρ hJ hb hd => by
              refine Eq.mpr (if_neg (by decide)) ?_
              have dd0 : ρ (.tmp 55) = (Value.slice (some { block := b, off := off }) len0 cap0) := hd 0 _ rfl rfl
              have dd1 : ρ (.tmp 56) = (Value.int IntKind.i64 (i : Int)) := hd 1 _ rfl rfl
              exact step_val (v := (.pointer (some ⟨b, off + i * 3, none⟩))) (w' := wz) (by simp [go_sem, execOp, dd0, dd1, hlt, hlt']) ⟨GG.refl _ _ _ _, rfl⟩) ?_
            refine .cons (fun ρ wz hρ hJ hb hd => by
              refine Eq.mpr (if_neg (by decide)) ?_
              have dd0 : ρ (.tmp 57) = (.pointer (some ⟨b, off + i * 3, none⟩)) := hd 0 _ rfl rfl
              obtain ⟨⟨⟨c0, c1, c2⟩, ⟨d0, d1, d2, _, _, _, _⟩⟩, ⟨e0, e1, e2, _, _, _, _⟩, ⟨g0, g1, g2, _, _, _, _⟩⟩ := unhide FK wz hJ.kp
              exact step_val (v := (.agg #[.bool bt, .int .i64 m, .string s])) (w' := wz) (by simp [go_sem, execOp, dd0, c0, c1, c2]) ⟨GG.refl _ _ _ _, rfl⟩) ?_
            refine .cons (fun ρ wz hρ hJ hb hd => by
              refine Eq.mpr (if_neg (by decide)) ?_
              have dd0 : ρ (.tmp 54) = (Value.pointer (some { block := X.heap.size, off := 0 })) := hd 0 _ rfl rfl
              have dd1 : ρ (.tmp 58) = (.agg #[.bool bt, .int .i64 m, .string s]) := hd 1 _ rfl rfl
              refine step_func 23 _ _ #[.pointer (some ⟨X.heap.size, 0, none⟩), .agg #[.bool bt, .int .i64 m, .string s]] hρ rfl (enters_of Try.func23 (by kernel_rfl) rfl) (by simp [dd0, dd1]) ?_
              refine (take_two m s (unhide HRI) hJ.rr).mono ?_
              rintro r W' ⟨rfl, q9, k9⟩
              exact ⟨_, rfl, GG.put k9 q9, rfl, q9⟩) ?_
            refine .cons (fun ρ wz hρ hJ hb hd => by
              refine Eq.mpr (if_neg (by decide)) ?_
              have dd0 : ρ (.tmp 8) = (Value.pointer (some { block := b1, off := 0 })) := hb (8, _) (List.mem_of_getElem? (i := 8) rfl)
              obtain ⟨⟨⟨c0, c1, c2⟩, ⟨d0, d1, d2, _, _, _, _⟩⟩, ⟨e0, e1, e2, _, _, _, _⟩, ⟨g0, g1, g2, _, _, _, _⟩⟩ := unhide FK wz hJ.kp
              exact step_val (v := (.agg #[.bool t', .int .i64 n', .string s'])) (w' := wz) (by simp [go_sem, execOp, dd0, e0, e1, e2]) ⟨GG.refl _ _ _ _, rfl⟩) ?_
            refine .cons (fun ρ wz hρ hJ hb hd => by
              refine Eq.mpr (if_neg (by decide)) ?_
              have dq0 : isQ (.agg #[.bool t', .int .i64 n', .string s']) X.heap.size e' wz (ρ (.tmp 59)) := hd 0 _ rfl rfl
              have dd0 := dq0.1
              have dd1 : ρ (.tmp 60) = (.agg #[.bool t', .int .i64 n', .string s']) := hd 1 _ rfl rfl
              exact step_val (v := (.bool false)) (w' := wz) (by simp [go_sem, execOp, dd0, dd1]) ⟨GG.refl _ _ _ _, rfl, dq0.2⟩) ?_
            refine .cons (fun ρ wz hρ hJ hb hd => by
              refine Eq.mpr (if_neg (by decide)) ?_
              have dd0 : ρ (.tmp 53) = (.bool false) := hd 0 _ rfl rfl
              have dq1 : isQ (.bool false) X.heap.size e' wz (ρ (.tmp 61)) := hd 1 _ rfl rfl
              have dd1 := dq1.1
              exact step_val (v := (.bool false)) (w' := wz) (by simp [go_sem, execOp, dd0, dd1, hρ.const]) ⟨GG.refl _ _ _ _, rfl, dq1.2⟩) ?_
            refine .cons (fun ρ wz hρ hJ hb hd => by
              refine Eq.mpr (if_neg (by decide)) ?_
              have dq0 : isQ (.bool false) X.heap.size e' wz (ρ (.tmp 62)) := hd 0 _ rfl rfl
              have dd0 := dq0.1
              exact step_move (.tmp 62) rfl ⟨GG.refl _ _ _ _, dd0, dq0.2⟩) ?_
            refine .cons (fun ρ wz hρ hJ hb hd => by
              refine Eq.mpr (if_neg (by decide)) ?_
              have dd0 : ρ (.tmp 5) = (Value.pointer (some { block := X.heap.size, off := 0 })) := hb (5, _) (List.mem_of_getElem? (i := 5) rfl)
              exact step_move (.tmp 5) rfl ⟨GG.refl _ _ _ _, dd0⟩) ?_
            refine .cons (fun ρ wz hρ hJ hb hd => by
              refine Eq.mpr (if_neg (by decide)) ?_
              have dd0 : ρ (.tmp 6) = (Value.pointer (some { block := q, off := 0 })) := hb (6, _) (List.mem_of_getElem? (i := 6) rfl)
              obtain ⟨⟨⟨c0, c1, c2⟩, ⟨d0, d1, d2, _, _, _, _⟩⟩, ⟨e0, e1, e2, _, _, _, _⟩, ⟨g0, g1, g2, _, _, _, _⟩⟩ := unhide FK wz hJ.kp
              exact step_val (v := (.agg #[.slice none 0 0, .int .i64 0, .int .i64 e'])) (w' := wz) (by simp [go_sem, execOp, dd0, g0, g1, g2]) ⟨GG.refl _ _ _ _, rfl⟩) ?_
            refine .cons (fun ρ wz hρ hJ hb hd => by
              refine Eq.mpr (if_neg (by decide)) ?_
              have dd0 : ρ (.tmp 64) = (Value.pointer (some { block := X.heap.size, off := 0 })) := hd 0 _ rfl rfl
              have dd1 : ρ (.tmp 65) = (.agg #[.slice none 0 0, .int .i64 0, .int .i64 e']) := hd 1 _ rfl rfl
              have hq : isQ (.bool false) X.heap.size e' wz (ρ (.tmp 63)) := by first | exact hd 2 _ rfl rfl | exact hd 3 _ rfl rfl | exact hd 4 _ rfl rfl
              obtain ⟨v9, r9, o9⟩ := hq.2
              refine step_func 24 _ _ #[.pointer (some ⟨X.heap.size, 0, none⟩), .agg #[.slice none 0 0, .int .i64 0, .int .i64 e']] hρ rfl (enters_of Try.func24 (by kernel_rfl) rfl) (by simp [dd0, dd1]) ?_
              refine (tells_in (z := []) (e := e') none 0 0 0 r9 rfl (Nat.le_refl _) (by omega)).mono ?_
              rintro r W' ⟨rfl, hb2⟩
              exact ⟨_, rfl, GG.below hb2, rfl⟩) ?_
            refine .cons (fun ρ wz hρ hJ hb hd => by
              refine Eq.mpr (if_neg (by decide)) ?_
              have dd0 : ρ (.tmp 66) = (.bool true) := hd 0 _ rfl rfl
              exact step_val (v := (.bool false)) (w' := wz) (by simp [go_sem, execOp, dd0, hρ.const]) ⟨GG.refl _ _ _ _, rfl⟩) ?_
            refine .cons (fun ρ wz hρ hJ hb hd => by
              refine Eq.mpr (if_neg (by decide)) ?_
              have dq0 : isQ (.bool false) X.heap.size e' wz (ρ (.tmp 63)) := hd 0 _ rfl rfl
              have dd0 := dq0.1
              have dd1 : ρ (.tmp 67) = (.bool false) := hd 1 _ rfl rfl
              exact step_val (v := (.bool false)) (w' := wz) (by simp [go_sem, execOp, dd0, dd1, hρ.const]) ⟨GG.refl _ _ _ _, rfl⟩) (.nil _)
          case fin =>
            intro aQ WQ hsz2 hds hb hJ hv
            obtain rfl := frame_of (((0, (Value.slice (some { block := b, off := off }) len0 cap0)) :: (1, undef) :: (2, u2) :: (3, (Value.pointer none)) :: (4, (Value.pointer none)) :: (5, (Value.pointer (some { block := X.heap.size, off := 0 }))) :: (6, (Value.pointer (some { block := q, off := 0 }))) :: (7, (Value.int IntKind.i64 (i : Int))) :: (8, (Value.pointer (some { block := b1, off := 0 }))) :: (9, (Value.pointer (some { block := b2, off := 0 }))) :: (10, (Value.pointer (some { block := tb, off := 0 }))) :: (11, (Value.slice (some { block := b, off := off }) len0 cap0)) :: (12, (Value.bool false)) :: (13, undef) :: (14, (Value.agg #[Value.slice none 0 0, Value.int IntKind.i64 0])) :: (15, (Value.pointer (some { block := X.heap.size, off := 0 }))) :: (16, (Value.agg #[Value.slice none 0 0, Value.int IntKind.i64 0, Value.int IntKind.i64 0])) :: (17, (Value.int IntKind.i64 (i : Int))) :: (18, (Value.slice (some { block := b, off := off }) len0 cap0)) :: (19, (Value.int IntKind.i64 (len0 : Int))) :: (20, (Value.bool true)) :: (21, u21) :: (22, u22) :: (23, (Value.pointer none)) :: (24, (Value.slice (some { block := b, off := off }) len0 cap0)) :: (25, (Value.int IntKind.i64 (i : Int))) :: (26, (Value.pointer (some { block := b, off := off + i * 3 }))) :: (27, (Value.agg #[Value.bool bt, Value.int IntKind.i64 m, Value.string s])) :: (28, (Value.tuple #[])) :: (29, u29) :: (30, u30) :: (31, u31) :: (32, u32) :: (33, u33) :: (34, u34) :: (35, u35) :: (36, u36) :: (37, u37) :: (38, (Value.agg #[Value.slice none 0 0, Value.int IntKind.i64 0, Value.int IntKind.i64 e'])) :: (39, (Value.slice (some { block := b, off := off }) len0 cap0)) :: (40, (Value.int IntKind.i64 (i : Int))) :: (41, (Value.pointer (some { block := b, off := off + i * 3 }))) :: (42, (Value.pointer (some { block := b, off := off + i * 3 }))) :: (43, (Value.bool bt)) :: (44, (Value.agg #[Value.bool bt, Value.int IntKind.i64 0, Value.string { data := #[] }])) :: (69, undef) :: (70, undef) :: (71, undef) :: (72, undef) :: (73, undef) :: (74, undef) :: (75, undef) :: (76, undef) :: (77, undef) :: (78, undef) :: (79, undef) :: (80, undef) :: (81, undef) :: (82, undef) :: (83, undef) :: (84, undef) :: (85, undef) :: (86, undef) :: (87, undef) :: (88, undef) :: (89, undef) :: (90, undef) :: (91, undef) :: (92, undef) :: (93, undef) :: (94, undef) :: (95, undef) :: []) ++ ((45, (Value.pointer none)) :: (46, (Value.slice (some { block := b, off := off }) len0 cap0)) :: (47, (Value.int IntKind.i64 (i : Int))) :: (48, (.pointer (some ⟨b, off + i * 3, none⟩))) :: (49, (.agg #[.bool bt, .int .i64 m, .string s])) :: (50, (.agg #[.bool bt, .int .i64 0, .string ⟨#[]⟩])) :: (51, (.agg #[.bool bt, .int .i64 0, .string ⟨#[]⟩])) :: (52, (.bool false)) :: (53, (.bool false)) :: (54, (Value.pointer (some { block := X.heap.size, off := 0 }))) :: (55, (Value.slice (some { block := b, off := off }) len0 cap0)) :: (56, (Value.int IntKind.i64 (i : Int))) :: (57, (.pointer (some ⟨b, off + i * 3, none⟩))) :: (58, (.agg #[.bool bt, .int .i64 m, .string s])) :: (59, (.agg #[.bool t', .int .i64 n', .string s'])) :: (60, (.agg #[.bool t', .int .i64 n', .string s'])) :: (61, (.bool false)) :: (62, (.bool false)) :: (63, (.bool false)) :: (64, (Value.pointer (some { block := X.heap.size, off := 0 }))) :: (65, (.agg #[.slice none 0 0, .int .i64 0, .int .i64 e'])) :: (66, (.bool true)) :: (67, (.bool false)) :: (68, (.bool false)) :: [])) ((Value.slice (some { block := b, off := off }) len0 cap0) :: undef :: u2 :: (Value.pointer none) :: (Value.pointer none) :: (Value.pointer (some { block := X.heap.size, off := 0 })) :: (Value.pointer (some { block := q, off := 0 })) :: (Value.int IntKind.i64 (i : Int)) :: (Value.pointer (some { block := b1, off := 0 })) :: (Value.pointer (some { block := b2, off := 0 })) :: (Value.pointer (some { block := tb, off := 0 })) :: (Value.slice (some { block := b, off := off }) len0 cap0) :: (Value.bool false) :: undef :: (Value.agg #[Value.slice none 0 0, Value.int IntKind.i64 0]) :: (Value.pointer (some { block := X.heap.size, off := 0 })) :: (Value.agg #[Value.slice none 0 0, Value.int IntKind.i64 0, Value.int IntKind.i64 0]) :: (Value.int IntKind.i64 (i : Int)) :: (Value.slice (some { block := b, off := off }) len0 cap0) :: (Value.int IntKind.i64 (len0 : Int)) :: (Value.bool true) :: u21 :: u22 :: (Value.pointer none) :: (Value.slice (some { block := b, off := off }) len0 cap0) :: (Value.int IntKind.i64 (i : Int)) :: (Value.pointer (some { block := b, off := off + i * 3 })) :: (Value.agg #[Value.bool bt, Value.int IntKind.i64 m, Value.string s]) :: (Value.tuple #[]) :: u29 :: u30 :: u31 :: u32 :: u33 :: u34 :: u35 :: u36 :: u37 :: (Value.agg #[Value.slice none 0 0, Value.int IntKind.i64 0, Value.int IntKind.i64 e']) :: (Value.slice (some { block := b, off := off }) len0 cap0) :: (Value.int IntKind.i64 (i : Int)) :: (Value.pointer (some { block := b, off := off + i * 3 })) :: (Value.pointer (some { block := b, off := off + i * 3 })) :: (Value.bool bt) :: (Value.agg #[Value.bool bt, Value.int IntKind.i64 0, Value.string { data := #[] }]) :: (Value.pointer none) :: (Value.slice (some { block := b, off := off }) len0 cap0) :: (Value.int IntKind.i64 (i : Int)) :: (.pointer (some ⟨b, off + i * 3, none⟩)) :: (.agg #[.bool bt, .int .i64 m, .string s]) :: (.agg #[.bool bt, .int .i64 0, .string ⟨#[]⟩]) :: (.agg #[.bool bt, .int .i64 0, .string ⟨#[]⟩]) :: (.bool false) :: (.bool false) :: (Value.pointer (some { block := X.heap.size, off := 0 })) :: (Value.slice (some { block := b, off := off }) len0 cap0) :: (Value.int IntKind.i64 (i : Int)) :: (.pointer (some ⟨b, off + i * 3, none⟩)) :: (.agg #[.bool bt, .int .i64 m, .string s]) :: (.agg #[.bool t', .int .i64 n', .string s']) :: (.agg #[.bool t', .int .i64 n', .string s']) :: (.bool false) :: (.bool false) :: (.bool false) :: (Value.pointer (some { block := X.heap.size, off := 0 })) :: (.agg #[.slice none 0 0, .int .i64 0, .int .i64 e']) :: (.bool true) :: (.bool false) :: (.bool false) :: undef :: undef :: undef :: undef :: undef :: undef :: undef :: undef :: undef :: undef :: undef :: undef :: undef :: undef :: undef :: undef :: undef :: undef :: undef :: undef :: undef :: undef :: undef :: undef :: undef :: undef :: undef :: []) hsz2 hds (fun p hp => by
              rcases List.mem_append.1 hp with h | h
              · exact hb p h
              · simp only [List.mem_cons, List.not_mem_nil, or_false] at h
                rcases h with rfl | rfl | rfl | rfl | rfl | rfl | rfl | rfl | rfl | rfl | rfl | rfl | rfl | rfl | rfl | rfl | rfl | rfl | rfl | rfl | rfl | rfl | rfl | rfl
                · exact hv 0 (by decide)
                · exact hv 1 (by decide)
                · exact hv 2 (by decide)
                · exact hv 3 (by decide)
                · exact hv 4 (by decide)
                · exact hv 5 (by decide)
                · exact hv 6 (by decide)
                · exact hv 7 (by decide)
                · exact hv 8 (by decide)
                · exact hv 9 (by decide)
                · exact hv 10 (by decide)
                · exact hv 11 (by decide)
                · exact hv 12 (by decide)
                · exact hv 13 (by decide)
                · exact (hv 14 (by decide)).1
                · exact hv 15 (by decide)
                · exact (hv 16 (by decide)).1
                · exact (hv 17 (by decide)).1
                · exact (hv 18 (by decide)).1
                · exact hv 19 (by decide)
                · exact hv 20 (by decide)
                · exact hv 21 (by decide)
                · exact hv 22 (by decide)
                · exact hv 23 (by decide)) rfl
            clear hb hds hsz2
            have hQ := (hv 18 (by decide)).2
            clear hv
            go_wp2
            go_meet
            case rel =>
              obtain ⟨v9, r9, o9⟩ := hQ
              exact ⟨rfl, hide ⟨⟨v9, r9, o9⟩, (unhide FX6).kp hJ.kp (by omega), hJ.kp.below (unhide FB) (fun i e => by omega), ⟨l1, l2, l3⟩, (fun h => by simp at h)⟩⟩
        case rest =>
          obtain ⟨rfl, hS9⟩ := hcut
          clear k0 k1 k2 m0 m1 m2 m3 m4 m5 m6 o0 o1 o2 j0 j1 j2
          go_wp2
          go_roundw
          case measure => show len0 - ((i : Int) + 1).toNat < len0 - ((i : Nat) : Int).toNat; omega
          case rel => exact ⟨i + 1, e', by go_num, by omega, hS9⟩
    · have hlt' : ¬ (i : Int) < (len0 : Int) := by omega
      have BB := hide (unhide hS).bel
      go_wp2_with (first | (go_at_call 25; refine (wData_nil _).mono ?_; rintro r W ⟨rfl, rfl⟩) | (go_at_call 26; refine (wErr_nil _).mono ?_; rintro r W ⟨rfl, rfl⟩) | (go_at_call 27; refine (rLeft_nil _).mono ?_; rintro r W ⟨rfl, rfl⟩) | (go_at_call 28; refine (rErr_nil _).mono ?_; rintro r W ⟨rfl, rfl⟩) | (go_at_call 29; refine (rEnd_nil _).mono ?_; rintro r W ⟨rfl, rfl⟩))
      refine (unhide HK _).mono ?_
      rintro r W9 ⟨rfl, hb9⟩
      go_wp2
      go_ret
      exact ⟨rfl, bnext (unhide BB) hb9⟩

theorem own : ownKnob Try.prog.godebug = none := by kernel_rfl
theorem laidOut2 : laidOutB Try.prog = true := by kernel_rfl

set_option maxRecDepth 100000 in
theorem lifted (os : Os) (started : os.Started) (H : Type) (enc : TypeId × Value → H) :
    ReturnsInHanded {} Try.checked os 5 .any (Rows.stampNothingSpec.pre6 enc Try.prog Try.f5 Rows.stampNothingRow.domain false) (Rows.stampNothingSpec.post enc Try.prog Try.f5 false true false false) := by
  refine returnsInHanded_of_change (C := Try.checked) own started (by kernel_rfl) Try.func5
    (ChangeSpec.witness6 (enc := enc) (C := Try.checked) false ⟨#[], #[.slice none 0 0], []⟩ 8 (by kernel_rfl) (by kernel_rfl) (by kernel_rfl) (by kernel_rfl)) ?_
  intro W base args ds gs before hval0 hW hcnd _
  have hval : ∀ (j : Nat) t v, Try.f5.params[j]? = some t → args[j]? = some v → Value.okWide Try.prog W .any base t v := hval0
  have hW' := hW
  obtain ⟨p, q, hA0, hV, rfl, hfz, hnd⟩ := hW
  have hA : DataW.TrodAll enc Try.prog W 0 (fun _ => true) true Try.f5.params.toList args.toList ds p := hA0
  rw [Try.params5] at hA hval
  obtain ⟨v0, vs0, d0, ds0, p0, q0, hargs, rfl, rfl, h0, r0⟩ := trodAll_cons hA
  obtain ⟨rfl, rfl, rfl⟩ := trodAll_nil r0
  obtain rfl : args = #[v0] := by cases args; simp_all
  obtain ⟨rfl, rfl⟩ := trodVars_none hV
  obtain ⟨a0, len0, cap0, rfl⟩ := okWide_slice Try.underlying41 (hval 0 41 v0 rfl rfl)
  have k0 := h0
  have lt0 : ∀ x ∈ p0, x.block < W.heap.size := by obtain ⟨m, hm⟩ := k0; exact DataW.trod_lt m _ _ _ hm
  obtain ⟨z0, w0⟩ : ∃ l : List (Bool × Int × ByteArray), RT W (.slice a0 len0 cap0) l ∧ l.length = len0 ∧ len0 ≤ maxLen ∧ ∀ e ∈ l, itemIn e := by
    obtain ⟨fuel, hf⟩ := h0
    simp only [Value.cells] at hf
    exact open_items hf
  clear hA0 hval0
  refine (walk a0 len0 cap0 z0 W w0).mono fun e W' ⟨he, bel⟩ => ?_
  subst he
  exact ⟨_, rfl, _, _, _, [], _, [], hW', trodAll_mk1 (shut_bool Try.underlying4 _), (trodAll_cons_mk (Below.trod laidOut2 (by kernel_rfl) (of_decide_eq_true (by kernel_rfl)) k0 bel lt0) trodAll_mk0), rfl, bel.frame _, fun h => by cases h⟩

theorem over : Rows.stampNothingRow.holds Try.pinned (OpenSpec.ofChange Rows.stampNothingSpec) :=
  OpenClaim.holds_of_wide 5 Try.f5 rfl rfl rfl rfl rfl rfl rfl ⟨rfl, rfl, rfl, rfl, rfl⟩ rfl rfl rfl rfl rfl (by kernel_rfl) Try.func5 (by kernel_rfl)
    (of_decide_eq_true (by kernel_rfl)) (by unfold Func.isWrapper; first | (rw [if_pos (by decide +kernel)]; kernel_rfl) | (rw [if_neg (by decide +kernel)]; exact ⟨rfl, rfl⟩))
    (fun os started H enc _ => lifted os started H enc)

end LStampNothing

theorem stampNothing_holds : Rows.StampNothingSaid := LStampNothing.over

end Go.Proofs.Ytgoalmkjmjikmaa
