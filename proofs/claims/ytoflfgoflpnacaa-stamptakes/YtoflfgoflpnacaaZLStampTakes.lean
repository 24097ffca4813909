/-
  Chapter 6's law StampTakes returns true for all bytes and every list of items, and leaves its arguments as they were; no condition.
-/
import Derived.Test.YtoflfgoflpnacaaRows
import Derived.WalkKit
import Derived.ProofKit
import Derived.OpenShut
import Derived.ShutString
import Derived.ChangeOld
import Derived.Below
import Derived.Test.YtoflfgoflpnacaaZTK
import Derived.Test.YtoflfgoflpnacaaZQ7
import Derived.Test.YtoflfgoflpnacaaZEQ
import Derived.Test.YtoflfgoflpnacaaZQB
import Derived.Deep.CutRange
import Derived.Deep.RegionWith
set_option linter.unusedVariables false
set_option linter.unusedSimpArgs false
namespace Go.Proofs.Ytoflfgoflpnacaa
namespace LStampTakes
open Go.ChangeShapes Go.WideShapes Go.ChangeAt Go.RowKit Go.Lib
open Go.ChangeMaps (open_string shut_string)

theorem sl_toB (w : World) (a : Option Addr) (n c k : Nat) (hk : k ≤ c) :
    (Instr.sliceAt 41 (.slice a n c) none (some (.int .i64 (k : Nat))) none).run Try.prog w = .ok (.slice a k c) w := by
  obtain ⟨i0, hi, hz0, hz1, hz2⟩ := info_parts infoB
  have h1 : (k : Int) ≤ (c : Int) := by omega
  simp [Instr.sliceAt, Instr.slice, run_underlying Try.underlying41, sizeOf, typeInfo, hi, hz1, go_sem, h1, hk]
theorem neqT (t : Bool) (n : Int) (s : ByteArray) (w : World) : (binOp .neq 52 (.agg #[.bool t, .int .i64 n, .string s]) (.agg #[.bool t, .int .i64 n, .string s])).run Try.prog w = .ok (.bool false) w := by
  simp [go_sem]

/-- cells that a callee leaves: of one box, of two -/
structure C3 (W : World) (b : Nat) (u0 u1 u2 : Value) : Prop where
  c0 : W.cell? ⟨b, 0, none⟩ = some u0
  c1 : W.cell? ⟨b, 1, none⟩ = some u1
  c2 : W.cell? ⟨b, 2, none⟩ = some u2
  f0 : W.frozen? ⟨b, 0, none⟩ = false
  f1 : W.frozen? ⟨b, 1, none⟩ = false
  f2 : W.frozen? ⟨b, 2, none⟩ = false
  lt : b < W.heap.size
theorem C3.of {W : World} {b : Nat} {t : TypeId} {u0 u1 u2 : Value} (h : Bx W b t #[u0, u1, u2]) : C3 W b u0 u1 u2 := ⟨h.cell 0 _ rfl, h.cell 1 _ rfl, h.cell 2 _ rfl, h.frozen 0, h.frozen 1, h.frozen 2, h.lt⟩
theorem bx1 {W W3 : World} {t : TypeId} {u0 u1 u2 : Value} (h : Below (W.alloc (.cells #[u0, u1, u2] t)).drew.heap.size (W.alloc (.cells #[u0, u1, u2] t)).drew W3) : Bx W3 W.heap.size t #[u0, u1, u2] := ((Bx.new W t #[u0, u1, u2]).below (Below.refl _ _).drew).below h
theorem bx2a {W W3 : World} {t s : TypeId} {u0 u1 u2 v0 v1 v2 : Value} (h : Below ((W.alloc (.cells #[u0, u1, u2] t)).alloc (.cells #[v0, v1, v2] s)).drew.heap.size ((W.alloc (.cells #[u0, u1, u2] t)).alloc (.cells #[v0, v1, v2] s)).drew W3) : Bx W3 W.heap.size t #[u0, u1, u2] := (((Bx.new W t #[u0, u1, u2]).below (ballc (Below.refl _ _) _)).below (Below.refl _ _).drew).below h
theorem bx2b {W W3 : World} {t s : TypeId} {u0 u1 u2 v0 v1 v2 : Value} (h : Below ((W.alloc (.cells #[u0, u1, u2] t)).alloc (.cells #[v0, v1, v2] s)).drew.heap.size ((W.alloc (.cells #[u0, u1, u2] t)).alloc (.cells #[v0, v1, v2] s)).drew W3) : Bx W3 (W.heap.size + 1) s #[v0, v1, v2] := by
  have q := ((Bx.new (W.alloc (.cells #[u0, u1, u2] t)) s #[v0, v1, v2]).below (Below.refl _ _).drew).below h
  have e : (W.alloc (.cells #[u0, u1, u2] t)).heap.size = W.heap.size + 1 := by simp
  rw [e] at q
  exact q

/-- two boxes of one's own -/
def TwoB (W2 wx : World) (v1 v2 : Value) (I R : Array Value) : Prop := ∃ b1 b2, v1 = .pointer (some ⟨b1, 0, none⟩) ∧ v2 = .pointer (some ⟨b2, 0, none⟩) ∧ Bx wx b1 52 I ∧ Bx wx b2 48 R ∧ W2.heap.size ≤ b1 ∧ W2.heap.size ≤ b2 ∧ Below W2.heap.size W2 wx
theorem tA {W2 W3 : World} {I R : Array Value} (h : Below W2.drew.heap.size W2.drew W3) : TwoB W2 ((W3.alloc (.cells I 52)).alloc (.cells R 48)) (.pointer (some ⟨W3.heap.size, 0, none⟩)) (.pointer (some ⟨W3.heap.size + 1, 0, none⟩)) I R := by
  have h' : Below W2.heap.size W2 W3 := bnext (Below.refl W2.heap.size W2).drew h
  have e : (W3.alloc (.cells I 52)).heap.size = W3.heap.size + 1 := by simp
  have q := Bx.new (W3.alloc (.cells I 52)) 48 R
  rw [e] at q
  have := h'.size
  exact ⟨_, _, rfl, rfl, (Bx.new W3 _ _).below (ballc (Below.refl _ _) _), q, by omega, by omega, ballc (ballc h' _) _⟩
theorem tB {W2 W3 : World} {I R : Array Value} (h : Below W2.drew.heap.size W2.drew W3) : TwoB W2 ((W3.alloc (.cells R 48)).alloc (.cells I 52)) (.pointer (some ⟨W3.heap.size + 1, 0, none⟩)) (.pointer (some ⟨W3.heap.size, 0, none⟩)) I R := by
  have h' : Below W2.heap.size W2 W3 := bnext (Below.refl W2.heap.size W2).drew h
  have e : (W3.alloc (.cells R 48)).heap.size = W3.heap.size + 1 := by simp
  have q := Bx.new (W3.alloc (.cells R 48)) 52 I
  rw [e] at q
  have := h'.size
  exact ⟨_, _, rfl, rfl, q, (Bx.new W3 _ _).below (ballc (Below.refl _ _) _), by omega, by omega, ballc (ballc h' _) _⟩
theorem tC {W2 W3 : World} {R : Array Value} {u0 u1 u2 i0 i1 i2 : Value} (h : Below (W2.alloc (.cells #[u0, u1, u2] 52)).drew.heap.size (W2.alloc (.cells #[u0, u1, u2] 52)).drew W3) :
    TwoB W2 ((((W3.setCell ⟨W2.heap.size, 0, none⟩ i0).setCell ⟨W2.heap.size, 1, none⟩ i1).setCell ⟨W2.heap.size, 2, none⟩ i2).alloc (.cells R 48)) (.pointer (some ⟨W2.heap.size, 0, none⟩)) (.pointer (some ⟨W3.heap.size, 0, none⟩)) #[i0, i1, i2] R := by
  have h' : Below W2.heap.size W2 W3 := bnext (ballc (Below.refl W2.heap.size W2) _).drew h
  have q := Bx.new (((W3.setCell ⟨W2.heap.size, 0, none⟩ i0).setCell ⟨W2.heap.size, 1, none⟩ i1).setCell ⟨W2.heap.size, 2, none⟩ i2) 48 R
  have e : (((W3.setCell ⟨W2.heap.size, 0, none⟩ i0).setCell ⟨W2.heap.size, 1, none⟩ i1).setCell ⟨W2.heap.size, 2, none⟩ i2).heap.size = W3.heap.size := by simp
  rw [e] at q
  exact ⟨_, _, rfl, rfl, (put3 (bx1 h) i0 i1 i2).below (ballc (Below.refl _ _) _), q, Nat.le_refl _, h'.size, ballc (bput3 h' (Nat.le_refl _) _ _ _) _⟩
theorem tD {W2 W3 : World} {I : Array Value} {u0 u1 u2 i0 i1 i2 : Value} (h : Below (W2.alloc (.cells #[u0, u1, u2] 48)).drew.heap.size (W2.alloc (.cells #[u0, u1, u2] 48)).drew W3) :
    TwoB W2 ((((W3.setCell ⟨W2.heap.size, 0, none⟩ i0).setCell ⟨W2.heap.size, 1, none⟩ i1).setCell ⟨W2.heap.size, 2, none⟩ i2).alloc (.cells I 52)) (.pointer (some ⟨W3.heap.size, 0, none⟩)) (.pointer (some ⟨W2.heap.size, 0, none⟩)) I #[i0, i1, i2] := by
  have h' : Below W2.heap.size W2 W3 := bnext (ballc (Below.refl W2.heap.size W2) _).drew h
  have q := Bx.new (((W3.setCell ⟨W2.heap.size, 0, none⟩ i0).setCell ⟨W2.heap.size, 1, none⟩ i1).setCell ⟨W2.heap.size, 2, none⟩ i2) 52 I
  have e : (((W3.setCell ⟨W2.heap.size, 0, none⟩ i0).setCell ⟨W2.heap.size, 1, none⟩ i1).setCell ⟨W2.heap.size, 2, none⟩ i2).heap.size = W3.heap.size := by simp
  rw [e] at q
  exact ⟨_, _, rfl, rfl, q, (put3 (bx1 h) i0 i1 i2).below (ballc (Below.refl _ _) _), h'.size, Nat.le_refl _, ballc (bput3 h' (Nat.le_refl _) _ _ _) _⟩
theorem tE {W2 W3 : World} {u0 u1 u2 v0 v1 v2 i0 i1 i2 r0 r1 r2 : Value} (h : Below ((W2.alloc (.cells #[u0, u1, u2] 52)).alloc (.cells #[v0, v1, v2] 48)).drew.heap.size ((W2.alloc (.cells #[u0, u1, u2] 52)).alloc (.cells #[v0, v1, v2] 48)).drew W3) :
    TwoB W2 ((((((W3.setCell ⟨W2.heap.size, 0, none⟩ i0).setCell ⟨W2.heap.size, 1, none⟩ i1).setCell ⟨W2.heap.size, 2, none⟩ i2).setCell ⟨W2.heap.size + 1, 0, none⟩ r0).setCell ⟨W2.heap.size + 1, 1, none⟩ r1).setCell ⟨W2.heap.size + 1, 2, none⟩ r2) (.pointer (some ⟨W2.heap.size, 0, none⟩)) (.pointer (some ⟨W2.heap.size + 1, 0, none⟩)) #[i0, i1, i2] #[r0, r1, r2] := by
  have h' : Below W2.heap.size W2 W3 := bnext (ballc (ballc (Below.refl W2.heap.size W2) _) _).drew h
  obtain ⟨q1, q2⟩ := put33 (bx2a h) (bx2b h) (by omega) i0 i1 i2 r0 r1 r2
  exact ⟨_, _, rfl, rfl, q1, q2, Nat.le_refl _, Nat.le_succ _, bput3 (bput3 h' (Nat.le_refl _) _ _ _) (Nat.le_succ _) _ _ _⟩
theorem tF {W2 W3 : World} {u0 u1 u2 v0 v1 v2 i0 i1 i2 r0 r1 r2 : Value} (h : Below ((W2.alloc (.cells #[v0, v1, v2] 48)).alloc (.cells #[u0, u1, u2] 52)).drew.heap.size ((W2.alloc (.cells #[v0, v1, v2] 48)).alloc (.cells #[u0, u1, u2] 52)).drew W3) :
    TwoB W2 ((((((W3.setCell ⟨W2.heap.size + 1, 0, none⟩ i0).setCell ⟨W2.heap.size + 1, 1, none⟩ i1).setCell ⟨W2.heap.size + 1, 2, none⟩ i2).setCell ⟨W2.heap.size, 0, none⟩ r0).setCell ⟨W2.heap.size, 1, none⟩ r1).setCell ⟨W2.heap.size, 2, none⟩ r2) (.pointer (some ⟨W2.heap.size + 1, 0, none⟩)) (.pointer (some ⟨W2.heap.size, 0, none⟩)) #[i0, i1, i2] #[r0, r1, r2] := by
  have h' : Below W2.heap.size W2 W3 := bnext (ballc (ballc (Below.refl W2.heap.size W2) _) _).drew h
  obtain ⟨q1, q2⟩ := put33 (bx2b h) (bx2a h) (by omega) i0 i1 i2 r0 r1 r2
  exact ⟨_, _, rfl, rfl, q1, q2, Nat.le_succ _, Nat.le_refl _, bput3 (bput3 h' (Nat.le_succ _) _ _ _) (Nat.le_refl _) _ _ _⟩

theorem tAB {W2 W3 : World} (h : Below W2.drew.heap.size W2.drew W3) : (∀ I R, TwoB W2 ((W3.alloc (.cells I 52)).alloc (.cells R 48)) (.pointer (some ⟨W3.heap.size, 0, none⟩)) (.pointer (some ⟨W3.heap.size + 1, 0, none⟩)) I R) ∧ (∀ I R, TwoB W2 ((W3.alloc (.cells R 48)).alloc (.cells I 52)) (.pointer (some ⟨W3.heap.size + 1, 0, none⟩)) (.pointer (some ⟨W3.heap.size, 0, none⟩)) I R) := ⟨fun I R => tA h, fun I R => tB h⟩

/-- a Reader, and the document's in a box -/
structure St (w W : World) (p q : Nat) (a : Option Addr) (n c : Nat) (z : List Nat) (ob : Option Nat) (at' : Nat) (e : Int) : Prop where
  rd : ∃ v, Rd W p v (z.drop at') e ∧ v.ownBlock = ob
  bx : Bx W q 48 #[.slice a n c, .int .i64 (at' : Nat), .int .i64 e]
  bel : Below w.heap.size w W
  lt : w.heap.size ≤ p ∧ p < q ∧ w.heap.size ≤ q
  own : 0 < z.length → ∀ i, ob = some i → i < q
theorem St.below {w W W' : World} {p q : Nat} {a : Option Addr} {n c : Nat} {z : List Nat} {ob : Option Nat} {at' : Nat} {e : Int} (h : St w W p q a n c z ob at' e) (hb : Below W.heap.size W W') : St w W' p q a n c z ob at' e :=
  ⟨by obtain ⟨v, h1, h2⟩ := h.rd; exact ⟨v, h1.below hb, h2⟩, h.bx.below hb, bnext h.bel hb, h.lt, h.own⟩

set_option maxRecDepth 100000 in
set_option maxHeartbeats 40000000 in
theorem walk (a0 : Option Addr) (len0 cap0 : Nat) (z0 : List Nat) (a1 : Option Addr) (len1 cap1 : Nat) (z1 : List (Bool × Int × ByteArray)) (w : World)
    (w0 : RC w (.slice a0 len0 cap0) z0.length (bC z0) ∧ z0.length = len0 ∧ len0 ≤ maxLen ∧ ∀ e ∈ z0, e < 256) (w1 : RT w (.slice a1 len1 cap1) z1 ∧ z1.length = len1 ∧ len1 ≤ maxLen ∧ ∀ e ∈ z1, itemIn e) :
    Calls Try.prog 5 #[.slice a0 len0 cap0, .slice a1 len1 cap1] w fun e W => e = .returned (.bool true) ∧ Below w.heap.size w W := by
  obtain ⟨r0, e0, _, hby⟩ := w0
  obtain ⟨r1, e1, _, _⟩ := w1
  have HK := hide (fun W => known_in W)
  have HM := hide (much_in _ z1 a0 len0 cap0 w r1)
  have R1 := hide r1
  have E0 := hide e0
  have E1 := hide e1
  have Hby := hide hby
  rw [e0] at r0
  have R0 := hide r0
  have R0' : Hid (RC w (.slice a0 len0 cap0) z0.length (bC z0)) := by rw [e0]; exact hide r0
  clear r0 r1 e0 e1 hby
  go_enter Try.func5, Try.ntmps5
  go_wp2_with fail
  refine (unhide HM).mono ?_
  rintro r X ⟨⟨b, rfl, hb⟩, hX⟩
  subst hX
  cases b with
  | true =>
    clear hb
    go_wp2_with fail
    refine (unhide HK _).mono ?_
    rintro r W1 ⟨rfl, hb⟩
    go_wp2
    go_ret
    exact ⟨rfl, hb⟩
  | false =>
  obtain ⟨n1, n0, -⟩ := hb rfl
  have hs1 : len1 ≤ 400 := by have := unhide E1; omega
  have hz0 := hide (show z0.length ≤ 50000 by have := unhide E0; omega)
  clear hb HM n1
  obtain ⟨Z, hZ⟩ : ∃ Z, X.alloc (.cells #[] 5) = Z := ⟨_, rfl⟩
  have bZ : Below X.heap.size X Z := by rw [← hZ]; exact ballc (Below.refl _ _) _
  have O1 : Z.ownsRow X.heap.size 5 1 (.slice (some ⟨X.heap.size, 0, none⟩) 0 0) ([] : List Nat).length (bC []) := by rw [← hZ]; exact own_empty X
  obtain ⟨v7, W7, hr7, O2, hg7, hn7⟩ := app_bytes Z 41 X.heap.size _ (.slice a0 len0 cap0) [] z0 O1 (by simp) (RC.below (unhide R0') bZ) bZ.size (by simp) (by have := unhide hz0; omega)
  have k7 := Kp.of_grown (N := fun k => k = X.heap.size) hg7 (fun k hk => by simp [Value.ownBlock] at hk; exact hk.symm)
  have B7 : Below X.heap.size X W7 := k7.below bZ (fun i e => by omega)
  obtain ⟨Y, hY⟩ : ∃ Y, W7.alloc (.cells #[.int .u8 171, .int .u8 172] 5) = Y := ⟨_, rfl⟩
  have bY : Below W7.heap.size W7 Y := by rw [← hY]; exact ballc (Below.refl _ _) _
  have lY : RC Y (.slice (some ⟨W7.heap.size, 0, none⟩) 2 2) ([171, 172] : List Nat).length (bC [171, 172]) := by rw [← hY]; exact RC.lit W7 _ _ _
  have O2' := owns_kp (N := fun _ => False) O2 (Kp.of_below bY) (fun _ _ h => h)
  obtain ⟨v8, W8, hr8, O3, hg8, hn8⟩ := app_bytes Y 41 X.heap.size v7 (.slice (some ⟨W7.heap.size, 0, none⟩) 2 2) ([] ++ z0) [171, 172] O2' hn7 lY (bnext B7 bY).size (by simp; have := unhide hz0; omega) (by simp)
  have B8 : Below X.heap.size X W8 := (Kp.of_grown (N := fun k => v7.ownBlock = some k) hg8 (fun k hk => hk)).below (bnext B7 bY) (fun i e => (O2.lt i e).1)
  rw [List.nil_append] at O3
  obtain ⟨g, c8, cur, hv8, hgb, hgc, hcl, hcm, hcs, hct⟩ : ∃ g cap cur, v8 = .slice (some ⟨g, 0, none⟩) (z0 ++ [171, 172]).length cap ∧ X.heap.size ≤ g ∧ W8.heap[g]? = some (.cells cur 5 (0, 0)) ∧ (z0 ++ [171, 172]).length ≤ cap ∧ cap ≤ maxLen ∧ cur.size = cap * 1 ∧ cur.toList.take ((z0 ++ [171, 172]).length * 1) = bC (z0 ++ [171, 172]) := by
    rcases O3.2 with ⟨h, _⟩ | h
    · exact absurd h hn8
    · exact h
  have hl2 : (z0 ++ [171, 172]).length = len0 + 2 := by have := unhide E0; simp; omega
  rw [hl2] at hv8 hcl hct
  subst hv8
  rw [hl2] at O3
  have xg : Bx W8 g 5 cur := hgc
  have hglt := xg.lt
  have hcur : ∀ j, j < len0 + 2 → cur[j]? = (bC (z0 ++ [171, 172]))[j]? := fun j hj => by
    rw [← hct, List.getElem?_take, if_pos (by omega), Array.getElem?_toList]
  have Rg : RC W8 (.slice (some ⟨g, 0, none⟩) len0 c8) len0 (bC z0) := RC.takeN (C := bC (z0 ++ [171, 172])) (RC.of_owns O3) len0 (by omega) _ (fun j x hx => by
    rw [bC_app, List.getElem?_append_left (List.getElem?_eq_some_iff.1 hx).1]; exact hx)
  have Rg' : RC W8 (.slice (some ⟨g, 0, none⟩) len0 c8) z0.length (bC z0) := by rw [unhide E0]; exact Rg
  have hsl := fun W => sl_toB W (some ⟨g, 0, none⟩) (len0 + 2) c8 len0 (by omega)
  have HRd := hide (rRead_in W8 _ z0 Rg' (unhide Hby) (by have := unhide hz0; omega))
  have B8' := hide B8
  have XG := hide xg
  have HC := hide hcur
  have HRg := hide Rg'
  clear O1 O2 O2' O3 hg7 hg8 k7 B7 B8 hn7 hn8 bZ bY lY hgc hcm hcs hct hl2 xg hcur Rg Rg'
  have hl8 : (len0 : Int) ≤ (c8 : Int) := by omega
  push_cast at hsl
  go_wp2_with (at_builtin; first | (refine wpList_append_eq rfl _ _ 41 rfl _ _ _ _ rfl rfl hr7 ?_) | (refine wpList_append_eq rfl _ _ 41 rfl _ _ _ _ rfl rfl hr8 ?_))
  refine (unhide HRd).mono ?_
  rintro r W9 ⟨p, vr, rfl, hRd, hb9, hp9, ho9⟩
  have x9 := (unhide XG).below hb9
  have hpl := hRd.box.lt
  have hol := hRd.row.ownlt
  have B9 := hide (bnext (unhide B8') hb9)
  have HBy := hide (bytes_in z0 z0 (.slice (some ⟨g, 0, none⟩) len0 c8) (.slice a0 len0 cap0) W9 (RC.below (unhide HRg) hb9) (RC.below (unhide R0') (unhide B9)) (by have := unhide hz0; omega) (by have := unhide hz0; omega))
  have hdd : decide (z0 = z0) = true := by simp
  rw [hdd] at HBy
  have HR9 := hide hRd
  have X9 := hide x9
  have HO9 := hide ho9
  have HOL := hide hol
  clear hdd HRd hRd hb9 x9 ho9 hol HRg hr7 hr8 hZ hY
  have hnil : (some (⟨p, 0, none⟩ : Addr) == none) = false := rfl
  go_wp2_with fail
  refine (unhide HBy).mono ?_
  rintro r W10 ⟨rfl, k10, hW10⟩
  have x10 : Bx W10 g 5 cur := by rw [hW10]; exact unhide X9
  have q0 : W10.cell? ⟨g, len0, none⟩ = some (.int .u8 171) := x10.cell len0 _ (by rw [unhide HC len0 (by omega), bC_app, List.getElem?_append_right (by rw [bC_len, unhide E0]; omega), bC_len, unhide E0, Nat.sub_self]; rfl)
  have q1 : W10.cell? ⟨g, len0 + 1, none⟩ = some (.int .u8 172) := x10.cell (len0 + 1) _ (by rw [unhide HC (len0 + 1) (by omega), bC_app, List.getElem?_append_right (by rw [bC_len, unhide E0]; omega), bC_len, unhide E0, show len0 + 1 - len0 = 1 by omega]; rfl)
  have hs910 : Hid (W9.heap.size ≤ W10.heap.size) := by rw [hW10]; exact hide (bdrew (Below.refl _ _) k10).size
  have HR10 : Hid (Rd W10 p vr z0 0) := by rw [hW10]; exact hide ((unhide HR9).below (bdrew (Below.refl _ _) k10))
  have B10 : Hid (Below X.heap.size X W10) := by rw [hW10]; exact hide (bdrew (unhide B9) k10)
  have hcur : ∀ j, j < len0 + 2 → ∃ y, cur[j]? = some (.int .u8 y) := fun j hj => by
    obtain ⟨x, hx⟩ : ∃ x, (z0 ++ [171, 172])[j]? = some x := ⟨_, List.getElem?_eq_getElem (by simp; have := unhide E0; omega)⟩
    exact ⟨(x : Nat), by rw [unhide HC j hj]; exact bC_get _ _ _ hx⟩
  have HC2 := hide hcur
  have X10 := hide x10
  have hpg : p ≠ g := by omega
  have hvg : Hid (∀ i, vr.ownBlock = some i → i ≠ g) := hide (fun i hi => by have := unhide HO9 i hi; omega)
  clear HBy hW10 HR9 X9 x10 hcur HC
  go_wp2
  clear q0 q1
  go_loopw [7] (fun iv wr => ∃ i : Nat, iv = .int .i64 (i : Nat) ∧ i ≤ len0 + 2 ∧ Hid (∃ cs, Bx wr g 5 cs ∧ (∀ j, j < len0 + 2 → ∃ y, cs[j]? = some (.int .u8 y)) ∧ Kp (fun k => k = g) W10 wr)) (fun iv _ => len0 + 2 - (Lib.intOf iv).toNat)
  case atStart => exact ⟨0, rfl, by omega, hide ⟨cur, unhide X10, unhide HC2, Kp.refl _ _⟩⟩
  case round =>
    obtain ⟨i, rfl, hi, HS⟩ := hrel
    obtain ⟨cs, x1, h1, k1⟩ := unhide HS
    by_cases hlt : i < len0 + 2
    · have hlt' : (i : Int) < (len0 : Int) + 2 := by omega
      obtain ⟨y, hy⟩ := h1 i hlt
      have hcy := x1.cell i _ hy
      have hfy := x1.frozen i
      obtain ⟨u, hu⟩ : ∃ u, bits .xor .u8 y 255 = u := ⟨_, rfl⟩
      have HS2 : Hid (∃ cs, Bx (wr.setCell ⟨g, i, none⟩ (.int .u8 u)) g 5 cs ∧ (∀ j, j < len0 + 2 → ∃ y, cs[j]? = some (.int .u8 y)) ∧ Kp (fun k => k = g) W10 (wr.setCell ⟨g, i, none⟩ (.int .u8 u))) := hide ⟨_, x1.set i _, fun j hj => by
        rw [Array.getElem?_setIfInBounds]
        split
        · rename_i e
          rw [if_pos (Array.getElem?_eq_some_iff.1 hy).1]
          exact ⟨_, rfl⟩
        · exact h1 j hj, k1.trans (Kp.set (N := fun k => k = g) _ _ _ rfl) (fun i h => .inl h)⟩
      clear h1 k1 x1 HS hy
      go_wp2
      go_roundw
      case measure => show len0 + 2 - ((i : Int) + 1).toNat < len0 + 2 - ((i : Nat) : Int).toNat; omega
      case rel => exact ⟨i + 1, by go_num, by omega, HS2⟩
    · have hlt' : ¬ (i : Int) < (len0 : Int) + 2 := by omega
      have HR := hide (show Rd wr p vr z0 0 from (unhide HR10).kp k1 hpg (fun i hi => unhide hvg i hi))
      have B := hide (show Below X.heap.size X wr from k1.below (unhide B10) (fun i e => by omega))
      have hsz := k1.size
      have HRR := hide (refRead_in (.slice a0 len0 cap0) len0 wr ⟨_, _, rfl⟩)
      have hO9l := hide (show 0 < z0.length → ∀ i, vr.ownBlock = some i → i < wr.heap.size from fun h i hi => by
        have h1 := unhide HOL h i hi
        have h2 := unhide hs910
        omega)
      clear h1 k1 x1 HS
      go_wp2_with fail
      refine (unhide HRR).mono ?_
      rintro r W11 ⟨rfl, hb11⟩
      have hs11 := hb11.size
      obtain ⟨Y, hY⟩ : ∃ Y, W11.alloc (.cells #[.slice a0 len0 cap0, .int .i64 0, .int .i64 0] 48) = Y := ⟨_, rfl⟩
      have bY : Below wr.heap.size wr Y := by rw [← hY]; exact ballc hb11 _
      have hS0 : St X Y p W11.heap.size a0 len0 cap0 z0 vr.ownBlock 0 0 := by
        refine ⟨⟨vr, (unhide HR).below bY, rfl⟩, ?_, bnext (unhide B) bY, ⟨?_, ?_, ?_⟩, fun h i hi => ?_⟩
        · rw [← hY]; exact Bx.new W11 _ _
        · have := (unhide B8').size; omega
        · have := (unhide HR).box.lt; omega
        · have := (unhide B).size; omega
        · have := unhide hO9l h i hi; omega
      have HT := hide (tells_in (z := z0) (e := 0) a0 len0 cap0 0 hS0.rd.choose_spec.1 (unhide E0) (by omega) (by omega))
      have hS := hide hS0
      clear HRR hb11 bY hS0
      subst hY
      go_wp2_with fail
      generalize W11.heap.size = q at *
      refine (unhide HT).mono ?_
      rintro r W12 ⟨rfl, hb12⟩
      have hS2 := hide ((unhide hS).below hb12)
      clear hS hb12 HT HR B hs11
      go_wp2
      go_loopw [9] (fun iv wr => ∃ (i at' : Nat) (e : Int), iv = .int .i64 (i : Nat) ∧ i ≤ len1 ∧ at' ≤ len0 ∧ Hid (St X wr p q a0 len0 cap0 z0 vr.ownBlock at' e)) (fun iv _ => len1 - (Lib.intOf iv).toNat)
      case atStart => exact ⟨0, 0, 0, rfl, by omega, by omega, hS2⟩
      case round =>
        clear hS2
        obtain ⟨i, at', e, rfl, hi, hat, hS⟩ := hrel
        by_cases hlt : i < len1
        · have hlt' : (i : Int) < (len1 : Int) := by omega
          obtain ⟨x, hx⟩ : ∃ x, z1[i]? = some x := ⟨_, List.getElem?_eq_getElem (by have := unhide E1; omega)⟩
          have B := hide (unhide hS).bel
          obtain ⟨b, off, rfl, hbl, c0, c1, c2⟩ := RT.at (RT.below (unhide R1) (unhide B)) hx
          obtain ⟨bt, m, s⟩ := x
          simp only at c0 c1 c2
          obtain ⟨vq, hR, hvq⟩ := (unhide hS).rd
          have HT := hide (take_in bt m s hR)
          have hle := hide (rItm_le (z0.drop at') e bt)
          obtain ⟨RI, hRI⟩ : ∃ RI, rItm (z0.drop at') e bt = RI := ⟨_, rfl⟩
          rw [hRI] at HT hle
          have HRI := hide hRI
          obtain ⟨⟨t', n', s'⟩, k', e'⟩ := RI
          simp only [itC] at HT hle
          have Hvq := hide hvq
          clear hR hRI hvq
          go_wp2_with fail
          refine (unhide HT).mono ?_
          rintro r W1 ⟨rfl, v1, h1, h2, h3⟩
          obtain ⟨hl1, hl2, hl3⟩ := (unhide hS).lt
          have hb1 := h2.below (unhide B) (fun i e => by omega)
          have xq := ((unhide hS).bx.kp h2 (by omega)).below (ballc (Below.refl _ W1) (.cells #[.bool t', .int .i64 n', .string s'] 52))
          have hqt := ((unhide hS).bx.kp h2 (by omega)).lt
          have xt := Bx.new W1 52 #[.bool t', .int .i64 n', .string s']
          have b2 := ballc hb1 (.cells #[.bool t', .int .i64 n', .string s'] 52)
          have r2 := h1.below (ballc (Below.refl _ W1) (.cells #[.bool t', .int .i64 n', .string s'] 52))
          have XQ := hide xq
          have XT := hide xt
          have BB2 := hide b2
          have RD2 := hide r2
          have HV3 := hide (h3.trans (unhide Hvq))
          clear xq xt b2 r2 h1 h2 h3 hb1 HT c0 c1 c2 hbl
          go_wp2_with fail
          generalize W1.heap.size = tq at *
          generalize W1.alloc (.cells #[.bool t', .int .i64 n', .string s'] 52) = W2 at *
          obtain ⟨b', off', hab, hbl, c0, c1, c2⟩ := RT.at (RT.below (unhide R1) (unhide BB2)) hx
          simp only [Option.some.injEq, Addr.mk.injEq, and_true] at hab
          obtain ⟨rfl, rfl⟩ := hab
          simp only at c0 c1 c2
          have hq2 := (unhide XQ).lt
          have q0 := (unhide XQ).cell 0 _ rfl
          have q1 := (unhide XQ).cell 1 _ rfl
          have q2 := (unhide XQ).cell 2 _ rfl
          have HTn := hide (fun (W : World) (hb : Below W2.heap.size W2 W) => taken_in a0 len0 cap0 at' e z0 W bt m s ((unhide R0).below (bnext (unhide BB2) hb)) (unhide E0) hat (by omega) (unhide Hby))
          rw [unhide HRI] at HTn
          simp only [itC] at HTn
          go_cut [11, 12] from 88 to 96 (fun v11 v12 wx => Hid (TwoB W2 wx v11 v12 #[.bool t', .int .i64 n', .string s'] #[.slice a0 len0 cap0, .int .i64 ((at' : Int) + (k' : Int)), .int .i64 e']))
          case first =>
            push_cast at HTn
            clear hqt HK R1 R0 R0' E0 E1 Hby hz0 B8' HO9 HOL HR10 B10 HC2 X10 hvg hO9l hS B hle HRI Hvq hl1 hl2 hl3 XQ XT BB2 RD2 HV3 hx hi hat
            go_region_with (go_at_call 26; refine (unhide HTn _ (by repeat (first | exact Below.refl _ _ | refine ballc ?_ _ | refine Below.drew ?_))).mono ?_; rintro r W3 ⟨rfl, hb3⟩; first | (with_reducible (have hz := hide (fun i0 i1 i2 r0 r1 r2 => tE (i0 := i0) (i1 := i1) (i2 := i2) (r0 := r0) (r1 := r1) (r2 := r2) hb3); have hx3 := C3.of (bx2a hb3); have hy3 := C3.of (bx2b hb3); obtain ⟨x0, x1, x2, x3, x4, x5, x6⟩ := hx3; obtain ⟨y0, y1, y2, y3, y4, y5, y6⟩ := hy3; clear hb3)) | (with_reducible (have hz := hide (fun i0 i1 i2 r0 r1 r2 => tF (i0 := i0) (i1 := i1) (i2 := i2) (r0 := r0) (r1 := r1) (r2 := r2) hb3); have hx3 := C3.of (bx2a hb3); have hy3 := C3.of (bx2b hb3); obtain ⟨x0, x1, x2, x3, x4, x5, x6⟩ := hx3; obtain ⟨y0, y1, y2, y3, y4, y5, y6⟩ := hy3; clear hb3)) | (with_reducible (have hz := hide (fun i0 i1 i2 R => tC (i0 := i0) (i1 := i1) (i2 := i2) (R := R) hb3); have hx3 := C3.of (bx1 hb3); obtain ⟨x0, x1, x2, x3, x4, x5, x6⟩ := hx3; clear hb3)) | (with_reducible (have hz := hide (fun i0 i1 i2 I => tD (i0 := i0) (i1 := i1) (i2 := i2) (I := I) hb3); have hx3 := C3.of (bx1 hb3); obtain ⟨x0, x1, x2, x3, x4, x5, x6⟩ := hx3; clear hb3)) | (have hz := hide (tAB hb3); clear hb3))
            all_goals (go_wp2; go_meet)
            all_goals first | exact hide (unhide hz _ _ _ _ _ _) | exact hide (unhide hz _ _ _ _) | exact hide ((unhide hz).1 _ _) | exact hide ((unhide hz).2 _ _)
          case rest =>
            obtain ⟨b1, b2, rfl, rfl, y1, y2, g1, g2, hb4⟩ := unhide hcut
            have htq := (unhide XT).lt
            have xq := (unhide XQ).below hb4
            have xt := (unhide XT).below hb4
            have rd := (unhide RD2).below hb4
            have e9 : ((at' + k' : Nat) : Int) = (at' : Int) + (k' : Int) := by push_cast; rfl
            have kq : Kp (fun k => k = q) wc (((wc.setCell ⟨q, 0, none⟩ (.slice a0 len0 cap0)).setCell ⟨q, 1, none⟩ (.int .i64 ((at' : Int) + (k' : Int)))).setCell ⟨q, 2, none⟩ (.int .i64 e')) := ((Kp.set (N := fun k => k = q) _ _ _ rfl).trans (Kp.set (N := fun k => k = q) _ _ _ rfl) (fun i h => .inl h)).trans (Kp.set (N := fun k => k = q) _ _ _ rfl) (fun i h => .inl h)
            have xq5 := put3 xq (.slice a0 len0 cap0) (.int .i64 ((at' : Int) + (k' : Int))) (.int .i64 e')
            have c50 := xq.cell 0 _ rfl
            have c51 := xq.cell 1 _ rfl
            have c52 := xq.cell 2 _ rfl
            have f50 := xq.frozen 0
            have f51 := xq.frozen 1
            have f52 := xq.frozen 2
            have d20 := y2.cell 0 _ rfl
            have d21 := y2.cell 1 _ rfl
            have d22 := y2.cell 2 _ rfl
            obtain ⟨W5, hW5⟩ : ∃ W5, (((wc.setCell ⟨q, 0, none⟩ (.slice a0 len0 cap0)).setCell ⟨q, 1, none⟩ (.int .i64 ((at' : Int) + (k' : Int)))).setCell ⟨q, 2, none⟩ (.int .i64 e')) = W5 := ⟨_, rfl⟩
            rw [hW5] at kq xq5
            have xt5 := xt.kp kq (by omega)
            have y15 := y1.kp kq (by omega)
            have rd5 := rd.kpn kq (by omega) (fun h0 i hi => by
              have h1 := (unhide hS).own (by simp only [List.length_drop] at h0; omega) i (by rw [← unhide HV3]; exact hi)
              omega)
            have eD : (z0.drop at').drop k' = z0.drop (at' + k') := by rw [List.drop_drop]
            rw [eD] at rd5
            have hkl : at' + k' ≤ len0 := by have h := unhide hle; rw [List.length_drop, unhide E0] at h; omega
            have b5 : Below X.heap.size X W5 := kq.below (bnext (unhide BB2) hb4) (fun i e => by omega)
            have HS5 := hide (show St X W5 p q a0 len0 cap0 z0 vr.ownBlock (at' + k') e' from ⟨⟨v1, rd5, unhide HV3⟩, by rw [e9]; exact xq5, b5, (unhide hS).lt, (unhide hS).own⟩)
            have HTl := hide (tells_in (z := z0) (e := e') a0 len0 cap0 (at' + k') rd5 (unhide E0) hkl (by omega))
            rw [e9] at HTl
            have s0 := xq5.cell 0 _ rfl
            have s1 := xq5.cell 1 _ rfl
            have s2 := xq5.cell 2 _ rfl
            have t0 := xt5.cell 0 _ rfl
            have t1 := xt5.cell 1 _ rfl
            have t2 := xt5.cell 2 _ rfl
            have p0 := y15.cell 0 _ rfl
            have p1 := y15.cell 1 _ rfl
            have p2 := y15.cell 2 _ rfl
            have hneq := fun W => neqT t' n' s' W
            clear hcut y1 y2 xq xt rd kq xq5 xt5 y15 rd5 eD b5 e9 c0 c1 c2 q0 q1 q2 HTn HRI hb4
            go_wp2_with fail
            refine (unhide HTl).mono ?_
            rintro r W6 ⟨rfl, hb6⟩
            have HS6 := hide ((unhide HS5).below hb6)
            clear hb6 HTl hneq s0 s1 s2 t0 t1 t2 p0 p1 p2 c50 c51 c52 f50 f51 f52 d20 d21 d22 hW5 HS5
            go_wp2
            go_roundw
            case measure => show len1 - ((i : Int) + 1).toNat < len1 - ((i : Nat) : Int).toNat; omega
            case rel => exact ⟨i + 1, at' + k', e', by go_num, by omega, hkl, HS6⟩
        · have hlt' : ¬ (i : Int) < (len1 : Int) := by omega
          have B := hide (unhide hS).bel
          go_wp2_with fail
          refine (unhide HK _).mono ?_
          rintro r W9 ⟨rfl, hb9⟩
          go_wp2
          go_ret
          exact ⟨rfl, bnext (unhide B) hb9⟩

theorem own : ownKnob Try.prog.godebug = none := by kernel_rfl
theorem laidOut2 : laidOutB Try.prog = true := by kernel_rfl

set_option maxRecDepth 100000 in
theorem lifted (os : Os) (started : os.Started) (H : Type) (enc : TypeId × Value → H) :
    ReturnsInHanded {} Try.checked os 5 .any (Rows.stampTakesSpec.pre6 enc Try.prog Try.f5 Rows.stampTakesRow.domain false) (Rows.stampTakesSpec.post enc Try.prog Try.f5 false true false false) := by
  refine returnsInHanded_of_change (C := Try.checked) own started (by kernel_rfl) Try.func5
    (ChangeSpec.witness6 (enc := enc) (C := Try.checked) false ⟨#[], #[.slice none 0 0, .slice none 0 0], []⟩ 8 (by kernel_rfl) (by kernel_rfl) (by kernel_rfl) (by kernel_rfl)) ?_
  intro W base args ds gs before hval0 hW hcnd _
  have hval : ∀ (j : Nat) t v, Try.f5.params[j]? = some t → args[j]? = some v → Value.okWide Try.prog W .any base t v := hval0
  have hW' := hW
  obtain ⟨p, q, hA0, hV, rfl, hfz, hnd⟩ := hW
  have hA : DataW.TrodAll enc Try.prog W 0 (fun _ => true) true Try.f5.params.toList args.toList ds p := hA0
  rw [Try.params5] at hA hval
  obtain ⟨v0, vs0, d0, ds0, p0, q0, hargs, rfl, rfl, h0, r0⟩ := trodAll_cons hA
  obtain ⟨v1, vs1, d1, ds1, p1, q1, rfl, rfl, rfl, h1, r1⟩ := trodAll_cons r0
  obtain ⟨rfl, rfl, rfl⟩ := trodAll_nil r1
  obtain rfl : args = #[v0, v1] := by cases args; simp_all
  obtain ⟨rfl, rfl⟩ := trodVars_none hV
  obtain ⟨a0, len0, cap0, rfl⟩ := okWide_slice Try.underlying41 (hval 0 41 v0 rfl rfl)
  have k0 := h0
  have lt0 : ∀ x ∈ p0, x.block < W.heap.size := by obtain ⟨m, hm⟩ := k0; exact DataW.trod_lt m _ _ _ hm
  obtain ⟨z0, w0⟩ : ∃ l : List Nat, RC W (.slice a0 len0 cap0) l.length (bC l) ∧ l.length = len0 ∧ len0 ≤ maxLen ∧ ∀ e ∈ l, e < 256 := by
    obtain ⟨fuel, hf⟩ := h0
    simp only [Value.cells] at hf
    exact open_bytes hf
  obtain ⟨a1, len1, cap1, rfl⟩ := okWide_slice Try.underlying42 (hval 1 42 v1 rfl rfl)
  have k1 := h1
  have lt1 : ∀ x ∈ p1, x.block < W.heap.size := by obtain ⟨m, hm⟩ := k1; exact DataW.trod_lt m _ _ _ hm
  obtain ⟨z1, w1⟩ : ∃ l : List (Bool × Int × ByteArray), RT W (.slice a1 len1 cap1) l ∧ l.length = len1 ∧ len1 ≤ maxLen ∧ ∀ e ∈ l, itemIn e := by
    obtain ⟨fuel, hf⟩ := h1
    simp only [Value.cells] at hf
    exact open_items hf
  clear hA0 hval0
  refine (walk a0 len0 cap0 z0 a1 len1 cap1 z1 W w0 w1).mono fun e W' ⟨he, bel⟩ => ?_
  subst he
  exact ⟨_, rfl, _, _, _, [], _, [], hW', trodAll_mk1 (shut_bool Try.underlying4 _), (trodAll_cons_mk (Below.trod laidOut2 (by kernel_rfl) (of_decide_eq_true (by kernel_rfl)) k0 bel lt0) (trodAll_cons_mk (Below.trod laidOut2 (by kernel_rfl) (of_decide_eq_true (by kernel_rfl)) k1 bel lt1) trodAll_mk0)), rfl, bel.frame _, fun h => by cases h⟩

theorem over : Rows.stampTakesRow.holds Try.pinned (OpenSpec.ofChange Rows.stampTakesSpec) :=
  OpenClaim.holds_of_wide 5 Try.f5 rfl rfl rfl rfl rfl rfl rfl ⟨rfl, rfl, rfl, rfl, rfl⟩ rfl rfl rfl rfl rfl (by kernel_rfl) Try.func5 (by kernel_rfl)
    (of_decide_eq_true (by kernel_rfl)) (by unfold Func.isWrapper; first | (rw [if_pos (by decide +kernel)]; kernel_rfl) | (rw [if_neg (by decide +kernel)]; exact ⟨rfl, rfl⟩))
    (fun os started H enc _ => lifted os started H enc)

end LStampTakes

theorem stampTakes_holds : Rows.StampTakesSaid := LStampTakes.over

end Go.Proofs.Ytoflfgoflpnacaa
