/-
  Chapter 8's law OpDecodes returns true for all bytes, every number and every byte, and leaves its arguments as they were; no condition.
-/
import Derived.Test.YtbnhfbdfjnigoaaGreatRows
import Derived.WalkKit
import Derived.ProofKit
import Derived.OpenShut
import Derived.ShutString
import Derived.ChangeOld
import Derived.Below
import Derived.Test.YtbnhfbdfjnigoaaGreatZRD
import Derived.Test.YtbnhfbdfjnigoaaGreatZXQ7
import Derived.Test.YtbnhfbdfjnigoaaGreatZQW
import Derived.Test.YtbnhfbdfjnigoaaGreatZXN
set_option linter.unusedVariables false
set_option linter.unusedSimpArgs false
namespace Go.Proofs.YtbnhfbdfjnigoaaGreat
namespace LOpDecodes
open Go.ChangeShapes Go.WideShapes Go.ChangeAt Go.RowKit Go.Lib
open Go.ChangeMaps (open_string shut_string)

theorem owns_mark {W : World} {B : Nat} {v : Value} {l : List Nat} (h : W.ownsRow B 5 1 v (l ++ [171]).length (bC (l ++ [171]))) : ∃ g c, v = .slice (some ⟨g, 0, none⟩) (l.length + 1) c ∧ l.length + 1 ≤ c := by
  rcases h.2 with ⟨_, h0⟩ | ⟨g, cap, cur, e, _, _, h1, _⟩
  · simp at h0
  · exact ⟨g, cap, by simpa using e, by simpa using h1⟩
theorem rNum_nine (m : List Nat) : rNum ([9] ++ m) 0 = (9, m, 0) := by
  have := rNum_num (n := 9) (by omega) m
  rwa [show num 9 = [9] from rfl] at this
theorem sameB_refl (o : Opn) : sameB o o = true := (sameB_iff o o).2 rfl
theorem takeO_gone {l : List Nat} (hb : ∀ b ∈ l, b < 256) : (takeO (l, 0)).1.1.deps.length ≤ 1000000 ∧ (takeO (l, 0)).1.1.gone.length ≤ 1000000 := by
  by_cases h : (takeO (l, 0)).1.2 = 0
  · obtain ⟨⟨⟨o, er⟩, rest, e⟩, hT⟩ : ∃ T, takeO (l, 0) = T := ⟨_, rfl⟩
    rw [hT] at h ⊢
    simp only at h ⊢
    subst h
    obtain ⟨k1, _, _⟩ := takeO_form hb hT
    have k := OkN.of k1
    have hd : o.deps.length ≤ 17 := by have := vec_len (sy o.deps); rw [vec_of_chk k.deps] at this; exact this
    refine ⟨by omega, ?_⟩
    rcases k.kind with e | e | e | e
    · obtain ⟨i0, i1, i2, i3, i4, i5⟩ := k.ins e
      rw [i4]; simp
    · obtain ⟨b0, b1, b2, b3, b4, b5, b6, b7⟩ := k.del e
      omega
    · obtain ⟨b0, b1, b2, b3, b4, b5, b6, b7⟩ := k.join e
      rw [b5]; simp
    · obtain ⟨b0, b1, b2, b3, b4, b5, b6⟩ := k.leave e
      rw [b5]; simp
  · rw [takeO_zero _ h]
    exact ⟨by simp [zO], by simp [zO]⟩
theorem decO_gone {l : List Nat} (hb : ∀ b ∈ l, b < 256) : (decO l).1.deps.length ≤ 1000000 ∧ (decO l).1.gone.length ≤ 1000000 := by
  have := takeO_gone hb
  unfold decO
  split
  · exact ⟨by simp [zO], by simp [zO]⟩
  · split
    · exact ⟨by simp [zO], by simp [zO]⟩
    · exact this

set_option maxRecDepth 100000 in
set_option maxHeartbeats 16000000 in
theorem walk (a0 : Option Addr) (len0 cap0 : Nat) (l : List Nat) (at0 : Int) (by0 : Int) (w : World) (w0 : RC w (.slice a0 len0 cap0) l.length (bC l) ∧ l.length = len0 ∧ len0 ≤ maxLen ∧ ∀ e ∈ l, e < 256) (w1 : (Lit.int .i64 at0).wf = true) (w2 : (Lit.int .u8 by0).wf = true) :
    Calls Tryz.prog 3 #[.slice a0 len0 cap0, .int .i64 at0, .int .u8 by0] w fun e W => e = .returned (.bool true) ∧ Below w.heap.size w W := by
  obtain ⟨r0, e0, m0, hb0⟩ := w0
  have hat := wf64 w1
  have hby := wf8 w2
  unfold in64 at hat
  unfold maxLen at m0
  have HK := hide (fun W => known_in W)
  clear w1 w2
  obtain ⟨by', rfl⟩ : ∃ b : Nat, by0 = (b : Int) := ⟨by0.toNat, by omega⟩
  by_cases hl0 : 60000 < len0
  · have hl0' : (60000 : Int) < (len0 : Int) := by omega
    go_enter Tryz.func3, Tryz.ntmps3
    go_wp2_with fail
    refine (unhide HK _).mono ?_
    rintro r W1 ⟨rfl, hb⟩
    go_wp2
    go_ret
    exact ⟨rfl, hb⟩
  have hl0' : ¬ (60000 : Int) < (len0 : Int) := by omega
  -- what is lent
  obtain ⟨Z0, hZ0⟩ : ∃ Z, w.alloc (.cells #[] 5) = Z := ⟨_, rfl⟩
  have bZ0 : Below w.heap.size w Z0 := by rw [← hZ0]; exact ballc (Below.refl _ _) _
  have O1 : Z0.ownsRow w.heap.size 5 1 (.slice (some ⟨w.heap.size, 0, none⟩) 0 0) ([] : List Nat).length (bC []) := by rw [← hZ0]; exact own_empty w
  obtain ⟨v1, W1, hr1, O2, hg1, hn1⟩ := app_bytes Z0 22 w.heap.size _ (.slice a0 len0 cap0) [] l O1 (by simp) (RC.below r0 bZ0) bZ0.size (by simp) (by omega)
  have k1 := Kp.of_grown (N := fun k => k = w.heap.size) hg1 (fun k hk => by simp [Value.ownBlock] at hk; exact hk.symm)
  have B1 : Below w.heap.size w W1 := k1.below bZ0 (fun i e => by omega)
  rw [List.nil_append] at O2
  obtain ⟨a1, c1, rfl⟩ := owns_form O2
  obtain ⟨Z1, hZ1⟩ : ∃ Z, W1.alloc (.cells #[.int .u8 171] 5) = Z := ⟨_, rfl⟩
  have bZ1 : Below W1.heap.size W1 Z1 := by rw [← hZ1]; exact ballc (Below.refl _ _) _
  have R1 : RC Z1 (.slice (some ⟨W1.heap.size, 0, none⟩) 1 1) [171].length (bC [171]) := by rw [← hZ1]; exact RC.of_owns (own_one W1 171)
  obtain ⟨v2, W2, hr2, O3, hg2, hn2⟩ := app_bytes Z1 22 w.heap.size _ _ l [171] (owns_kp (N := fun _ => False) O2 (Kp.of_below bZ1) (fun _ _ e => e)) hn1 R1 (bnext B1 bZ1).size (by omega) (by simp)
  have k2 := Kp.of_grown (N := fun k => (Value.slice a1 l.length c1).ownBlock = some k) hg2 (fun k hk => hk)
  have B2 : Below w.heap.size w W2 := k2.below (bnext B1 bZ1) (fun i e => (O2.lt i e).1)
  obtain ⟨g, cap, rfl, hcap⟩ := owns_mark O3
  rw [e0] at hcap hr1 hr2
  have G0 : GV w W2 g cap len0 l := ⟨by rw [List.length_append, List.length_singleton, e0] at O3; exact O3, e0, hb0, B2, hcap⟩
  replace G0 := hide G0
  replace hr1 := hide hr1
  replace hr2 := hide hr2
  clear O1 O2 O3 hg1 hg2 k1 k2 B1 B2 hn1 hn2 bZ0 bZ1 R1 r0 hb0 e0
  go_enter Tryz.func3, Tryz.ntmps3
  go_wp2_with (at_builtin; first | (have hr1' := hr1; clear hr1; refine wpList_append_eq rfl _ _ 22 rfl _ _ _ _ rfl rfl (unhide hr1') ?_; clear hr1') | (refine wpList_append_eq rfl _ _ 22 rfl _ _ _ _ rfl rfl (unhide hr2) ?_))
  clear hr2 hZ0 hZ1
  go_loopw [1, 8] (fun av tv wr => ∃ (t : Nat) (at' : Int) (m : List Nat), tv = .int .i64 (t : Nat) ∧ av = .int .i64 at' ∧ t ≤ 2 ∧ (-9223372036854775808 ≤ at' ∧ at' ≤ 9223372036854775807) ∧ Hid (GV w wr g cap len0 m)) (fun _ tv _ => 2 - (Lib.intOf tv).toNat)
  case atStart => exact ⟨0, at0, l, rfl, rfl, by omega, ⟨by omega, by omega⟩, G0⟩
  case round =>
    clear G0 hat
    obtain ⟨t, at', m, rfl, rfl, ht2, ⟨ha1, ha2⟩, G1⟩ := hrel
    by_cases hlt : t < 2
    rotate_left
    · have hlt' : ¬ (t : Int) < 2 := by omega
      have HB := hide (unhide G1).bel
      clear G1
      go_wp2_with fail
      refine (unhide HK _).mono ?_
      rintro r W1 ⟨rfl, hb⟩
      go_wp2
      go_ret
      exact ⟨rfl, bnext (unhide HB) hb⟩
    have hlt' : (t : Int) < 2 := by omega
    have hncap : (len0 : Int) ≤ (cap : Int) := by have := (unhide G1).room; omega
    -- was
    obtain ⟨Z3, hZ3⟩ : ∃ Z, wr.alloc (.cells #[] 5) = Z := ⟨_, rfl⟩
    have bZ3 : Below wr.heap.size wr Z3 := by rw [← hZ3]; exact ballc (Below.refl _ _) _
    have O1 : Z3.ownsRow wr.heap.size 5 1 (.slice (some ⟨wr.heap.size, 0, none⟩) 0 0) ([] : List Nat).length (bC []) := by rw [← hZ3]; exact own_empty wr
    have hml := (unhide G1).len
    obtain ⟨v3, W3, hr3, O2, hg3, hn3⟩ := app_bytes Z3 22 wr.heap.size _ (.slice (some ⟨g, 0, none⟩) len0 cap) [] m O1 (by simp) ((unhide G1).below bZ3).row bZ3.size (by simp) (by omega)
    have k3 := Kp.of_grown (N := fun k => k = wr.heap.size) hg3 (fun k hk => by simp [Value.ownBlock] at hk; exact hk.symm)
    have B3 : Below wr.heap.size wr W3 := k3.below bZ3 (fun i e => by omega)
    rw [List.nil_append] at O2
    obtain ⟨a3, c3, rfl⟩ := owns_form O2
    have RW := hide (RC.of_owns O2)
    have hRWl : Hid (∀ i, (Value.slice a3 len0 c3).ownBlock = some i → wr.heap.size ≤ i ∧ i < W3.heap.size) := fun i hi => O2.lt i (by rw [hml]; exact hi)
    rw [hml] at RW hr3
    replace G1 := hide ((unhide G1).below B3)
    have hbm := hide (unhide G1).byte
    have hml' := hide hml
    obtain ⟨⟨o, er⟩, hD1⟩ : ∃ D, decO m = D := ⟨_, rfl⟩
    obtain ⟨gb1, gb2⟩ := decO_gone (unhide hbm)
    have HD := hide (ODecode_in W3 _ m (unhide G1).row (unhide hbm) (by omega))
    have HDd := hide (fun (W : World) (h : Below W3.heap.size W3 W) => docDecode_in a3 len0 c3 m W ((unhide RW).below h) (unhide hml') (by omega) (unhide hbm))
    rw [hD1] at HD HDd gb1 gb2
    simp only at HD HDd gb1 gb2
    have HBy := hide (fun (W : World) (h : Below W3.heap.size W3 W) => bytes_in m m (.slice (some ⟨g, 0, none⟩) len0 cap) (.slice a3 len0 c3) W (RC.below (unhide G1).row h) (by have := (unhide RW).below h; rw [← unhide hml'] at this ⊢; exact this) (by have := unhide hml'; omega) (by have := unhide hml'; omega))
    rw [show decide (m = m) = true by simp] at HBy
    unfold opA at HD HDd
    replace hr3 := hide hr3
    have hgl := (unhide G1).lt.2
    clear O1 O2 hg3 k3 B3 hn3 bZ3 hml hD1
    go_wp2_with (at_builtin; refine wpList_append_eq rfl _ _ 22 rfl _ _ _ _ rfl rfl (unhide hr3) ?_)
    refine (unhide HD).mono ?_
    rintro r W4 ⟨vd, vg, rfl, ho, hg, hne, hb4⟩
    obtain ⟨ad, cd, rfl⟩ := OwD.form ho
    obtain ⟨ag, cg, rfl⟩ := OwR.form hg
    obtain ⟨Y1, hY1⟩ : ∃ Y, W4.alloc (.cells #[.int .i64 o.ds, .int .i64 o.dq, .slice ad o.deps.length cd, .int .i64 o.kind, .int .i64 o.it, .int .i64 o.is, .int .i64 o.rt, .int .i64 o.rs, .string o.text, .slice ag o.gone.length cg, .int .i64 o.site] 32) = Y := ⟨_, rfl⟩
    have bY1 : Below W4.heap.size W4 Y1 := by rw [← hY1]; exact ballc (Below.refl _ _) _
    have X1 : Hid (Bx Y1 W4.heap.size 32 #[.int .i64 o.ds, .int .i64 o.dq, .slice ad o.deps.length cd, .int .i64 o.kind, .int .i64 o.it, .int .i64 o.is, .int .i64 o.rt, .int .i64 o.rs, .string o.text, .slice ag o.gone.length cg, .int .i64 o.site]) := by rw [← hY1]; exact Bx.new W4 _ _
    have B5 := hide (bnext hb4 bY1)
    have R1 : Hid (RI Y1 (.slice ad o.deps.length cd) o.deps) := (OwD.row ho).below bY1
    have R2 : Hid (RR Y1 (.slice ag o.gone.length cg) o.gone) := RC.below (OwR.row hg) bY1
    have HDe := hide (unhide HDd Y1 (unhide B5))
    have hsz1 := hb4.size
    clear ho hg hne hb4 bY1 HD HDd hr3 hZ3
    go_wp2_with fail
    refine (unhide HDe).mono ?_
    rintro r W5 ⟨ud, ug, rfl, ho, hg, hb5⟩
    obtain ⟨bd, dd, rfl⟩ := OwD.form ho
    obtain ⟨bg, dg, rfl⟩ := OwR.form hg
    obtain ⟨Y2, hY2⟩ : ∃ Y, W5.alloc (.cells #[.int .i64 o.ds, .int .i64 o.dq, .slice bd o.deps.length dd, .int .i64 o.kind, .int .i64 o.it, .int .i64 o.is, .int .i64 o.rt, .int .i64 o.rs, .string o.text, .slice bg o.gone.length dg, .int .i64 o.site] 32) = Y := ⟨_, rfl⟩
    have bY2 : Below W5.heap.size W5 Y2 := by rw [← hY2]; exact ballc (Below.refl _ _) _
    have X2 : Hid (Bx Y2 W5.heap.size 32 #[.int .i64 o.ds, .int .i64 o.dq, .slice bd o.deps.length dd, .int .i64 o.kind, .int .i64 o.it, .int .i64 o.is, .int .i64 o.rt, .int .i64 o.rs, .string o.text, .slice bg o.gone.length dg, .int .i64 o.site]) := by rw [← hY2]; exact Bx.new W5 _ _
    have b52 := bnext hb5 bY2
    replace X1 := hide ((unhide X1).below b52)
    replace B5 := hide (bnext (unhide B5) b52)
    replace R1 := hide ((unhide R1).below b52)
    replace R2 := hide (RC.below (unhide R2) b52)
    have R3 : Hid (RI Y2 (.slice bd o.deps.length dd) o.deps) := (OwD.row ho).below bY2
    have R4 : Hid (RR Y2 (.slice bg o.gone.length dg) o.gone) := RC.below (OwR.row hg) bY2
    have HSa := hide (same_in o o _ _ _ _ Y2 (unhide R1) (unhide R2) (unhide R3) (unhide R4) (by omega) (by omega))
    rw [sameB_refl] at HSa
    unfold opA at HSa
    have hsz2 := (unhide X1).lt
    have hsz3 := (unhide X2).lt
    have hsz4 := hb5.size
    obtain ⟨p0, p1, p2, p3, p4, p5, p6, p7, p8, p9, p10⟩ := cells_op (unhide X1)
    obtain ⟨q0, q1, q2, q3, q4, q5, q6, q7, q8, q9, q10⟩ := cells_op (unhide X2)
    clear ho hg hb5 bY2 b52 HDe R1 R2 R3 R4 X2 hY1
    go_wp2_with fail
    refine (unhide HSa).mono ?_
    rintro r W6 ⟨rfl, hb6⟩
    replace X1 := hide ((unhide X1).below hb6)
    replace B5 := hide (bnext (unhide B5) hb6)
    have HBz := hide (unhide HBy W6 (unhide B5))
    have hsz5 := hb6.size
    clear hb6 HSa HBy p0 p1 p2 p3 p4 p5 p6 p7 p8 p9 p10 q0 q1 q2 q3 q4 q5 q6 q7 q8 q9 q10 hY2
    go_wp2_with fail
    refine (unhide HBz).mono ?_
    rintro r W7' ⟨rfl, nd, rfl⟩
    obtain ⟨W7, hW7⟩ : ∃ W, W6.drewN nd = W := ⟨_, rfl⟩
    have hbd := bdrew (Below.refl W6.heap.size W6) nd
    replace X1 := hide ((unhide X1).below hbd)
    replace B5 := hide (bnext (unhide B5) hbd)
    have hsz6 := hbd.size
    rw [hW7] at X1 B5 hsz6 ⊢
    have G7 := hide ((unhide G1).below (unhide B5))
    have RW7 := hide ((unhide RW).below (unhide B5))
    have hmk := (unhide G7).mark
    have hix : (len0 : Int) < (len0 : Int) + 1 := by omega
    clear hbd hW7 HBz
    -- nine ahead
    obtain ⟨Z8, hZ8⟩ : ∃ Z, W7.alloc (.cells #[.int .u8 9] 5) = Z := ⟨_, rfl⟩
    have bZ8 : Below W7.heap.size W7 Z8 := by rw [← hZ8]; exact ballc (Below.refl _ _) _
    have O1 : Z8.ownsRow W7.heap.size 5 1 (.slice (some ⟨W7.heap.size, 0, none⟩) 1 1) [9].length (bC [9]) := by rw [← hZ8]; exact own_one W7 9
    obtain ⟨v8, W8, hr8, O2, hg8, hn8⟩ := app_bytes Z8 22 W7.heap.size _ (.slice a3 len0 c3) [9] m O1 (by simp) (by have := (unhide RW7).below bZ8; rw [← unhide hml'] at this ⊢; exact this) bZ8.size (by simp) (by have := unhide hml'; omega)
    have k8 := Kp.of_grown (N := fun k => k = W7.heap.size) hg8 (fun k hk => by simp [Value.ownBlock] at hk; exact hk.symm)
    have B8 : Below W7.heap.size W7 W8 := k8.below bZ8 (fun i e => by omega)
    have HRd := hide (rReadL_in W8 v8 ([9] ++ m) (RC.of_owns O2) (fun b hb => by
      rcases List.mem_append.1 hb with hb | hb
      · simp at hb; omega
      · exact unhide hbm b hb) (by rw [List.length_append, unhide hml']; simp; omega))
    obtain ⟨a8, c8, rfl⟩ := owns_form O2
    replace X1 := hide ((unhide X1).below B8)
    replace G7 := hide ((unhide G7).below B8)
    replace RW7 := hide ((unhide RW7).below B8)
    have hsz7 := B8.size
    replace hr8 := hide hr8
    clear O1 O2 hg8 k8 B8 hn8 bZ8 G1 RW B5
    go_wp2_with (at_builtin; refine wpList_append_eq rfl _ _ 22 rfl _ _ _ _ rfl rfl (unhide hr8) ?_; clear hr8)
    refine (unhide HRd).mono ?_
    rintro r W9 ⟨p, v9, rfl, hrd, hb9, hp9, hv9⟩
    replace X1 := hide ((unhide X1).below hb9)
    replace G7 := hide ((unhide G7).below hb9)
    replace RW7 := hide ((unhide RW7).below hb9)
    have HNu := hide (rNumber_in hrd)
    rw [rNum_nine] at HNu
    simp only at HNu
    have hsz8 := hb9.size
    replace hv9 := hide hv9
    clear hrd hb9 HRd hmk hZ8
    go_wp2_with fail
    refine (unhide HNu).mono ?_
    rintro r W10 ⟨rfl, v10, hrd, k10, ho10⟩
    have hpX : p ≠ W4.heap.size := by omega
    have hpg : p ≠ g := by omega
    replace X1 := hide ((unhide X1).kp k10 (fun e => hpX e.symm))
    replace G7 := hide ((unhide G7).kp k10 (fun e => hpg e.symm) (fun i e => by have := (unhide G7).lt.1; omega))
    have hsz9 := k10.size
    replace RW7 := hide ((unhide RW7).kp k10 (fun i hi e => by have := unhide hRWl i hi; omega))
    have HTa := hide (OTake_in (st := (m, 0)) hrd (fun k hk => by rw [ho10] at hk; have := unhide hv9 k hk; omega))
    obtain ⟨⟨⟨o2, er2⟩, s2⟩, hT2⟩ : ∃ T, takeO (m, 0) = T := ⟨_, rfl⟩
    obtain ⟨gc1, gc2⟩ := takeO_gone (unhide hbm)
    rw [hT2] at HTa gc1 gc2
    simp only at HTa gc1 gc2
    unfold opA at HTa
    have hT2' := hide hT2
    have ho10' : Hid (∀ k, v10.ownBlock = some k → W8.heap.size ≤ k) := fun k hk => (unhide hv9 k (by rw [← ho10]; exact hk)).1
    clear hrd k10 HNu hT2 ho10 hv9
    go_wp2_with fail
    refine (unhide HTa).mono ?_
    rintro r W11 ⟨vd2, vg2, rfl, ho, hg, -, v11, hrd, k11, ho11⟩
    replace X1 := hide ((unhide X1).kp k11 (fun e => hpX e.symm))
    replace G7 := hide ((unhide G7).kp k11 (fun e => hpg e.symm) (fun i e => by have := (unhide G7).lt.1; omega))
    replace RW7 := hide ((unhide RW7).kp k11 (fun i hi e => by have := unhide hRWl i hi; omega))
    have hsz10 := k11.size
    obtain ⟨ae, ce, rfl⟩ := OwD.form ho
    obtain ⟨af, cf, rfl⟩ := OwR.form hg
    obtain ⟨p0, p1, p2, p3, p4, p5, p6, p7, p8, p9, p10⟩ := cells_op (unhide X1)
    have f0 := (unhide X1).frozen 0
    have f1 := (unhide X1).frozen 1
    have f2 := (unhide X1).frozen 2
    have f3 := (unhide X1).frozen 3
    have f4 := (unhide X1).frozen 4
    have f5 := (unhide X1).frozen 5
    have f6 := (unhide X1).frozen 6
    have f7 := (unhide X1).frozen 7
    have f8 := (unhide X1).frozen 8
    have f9 := (unhide X1).frozen 9
    have f10 := (unhide X1).frozen 10
    have XA := hide (Bx.set11 (x0 := .int .i64 o2.ds) (x1 := .int .i64 o2.dq) (x2 := .slice ae o2.deps.length ce) (x3 := .int .i64 o2.kind) (x4 := .int .i64 o2.it) (x5 := .int .i64 o2.is) (x6 := .int .i64 o2.rt) (x7 := .int .i64 o2.rs) (x8 := .string o2.text) (x9 := .slice af o2.gone.length cf) (x10 := .int .i64 o2.site) (unhide X1))
    have KA := Kp.set11 W11 W4.heap.size (.int .i64 o2.ds) (.int .i64 o2.dq) (.slice ae o2.deps.length ce) (.int .i64 o2.kind) (.int .i64 o2.it) (.int .i64 o2.is) (.int .i64 o2.rt) (.int .i64 o2.rs) (.string o2.text) (.slice af o2.gone.length cf) (.int .i64 o2.site)
    have hgX : g ≠ W4.heap.size := by omega
    replace G7 := hide ((unhide G7).kp KA hgX (fun i e => by have := (unhide G7).lt.1; omega))
    replace RW7 := hide ((unhide RW7).kp KA (fun i hi e => by have := unhide hRWl i hi; omega))
    have HR := hide (hrd.kp KA (fun e => hpX e) (fun i hi e => by rw [ho11] at hi; have := unhide ho10' i hi; omega))
    have R1 := hide (OwD.row (owns_kp ho KA (fun i hi e => by have := (ho.lt i hi).1; omega)))
    have R2 := hide (OwR.row (owns_kp hg KA (fun i hi e => by have := (hg.lt i hi).1; omega)))
    have hsz11 := KA.size
    clear ho hg KA hrd k11 ho11 HTa
    go_upto_region 17 with fail
    generalize World.setCell _ ⟨W4.heap.size, 10, none⟩ (.int .i64 o2.site) = W12 at *
    clear p0 p1 p2 p3 p4 p5 p6 p7 p8 p9 p10 f0 f1 f2 f3 f4 f5 f6 f7 f8 f9 f10 X1
    -- the document's Take
    have HRe := hide (refRead_in (.slice a3 len0 c3) len0 W12 ⟨_, _, rfl⟩)
    have HTk := hide (fun (W : World) (h : Below W12.heap.size W12 W) => docTake_in a3 len0 c3 0 (Nat.zero_le _) m W ((unhide RW7).below h) (unhide hml') (by omega) (unhide hbm))
    rw [List.drop_zero, unhide hT2'] at HTk
    unfold TkO at HTk
    simp only at HTk
    go_wp2_with fail
    refine (unhide HRe).mono ?_
    rintro r W13 ⟨rfl, hb13⟩
    have HTl := hide (unhide HTk W13 hb13)
    replace XA := hide ((unhide XA).below hb13)
    replace G7 := hide ((unhide G7).below hb13)
    replace HR := hide ((unhide HR).below hb13)
    replace R1 := hide ((unhide R1).below hb13)
    replace R2 := hide (RC.below (unhide R2) hb13)
    have hsz12 := hb13.size
    clear hb13 HRe HTk RW7
    go_wp2_with fail
    refine (unhide HTl).mono ?_
    rintro r W14 ⟨ud, ug, p', rfl, hp', hs2, ho, hg, hb14⟩
    obtain ⟨bd, dd, rfl⟩ := OwD.form ho
    obtain ⟨bg, dg, rfl⟩ := OwR.form hg
    unfold opA
    obtain ⟨Y, hY⟩ : ∃ Y, (W14.alloc (.cells #[.int .i64 o2.ds, .int .i64 o2.dq, .slice bd o2.deps.length dd, .int .i64 o2.kind, .int .i64 o2.it, .int .i64 o2.is, .int .i64 o2.rt, .int .i64 o2.rs, .string o2.text, .slice bg o2.gone.length dg, .int .i64 o2.site] 32)).alloc (.cells #[.slice a3 len0 c3, .int .i64 (p' : Nat), .int .i64 s2.2] 45) = Y := ⟨_, rfl⟩
    have bY : Below W14.heap.size W14 Y := by rw [← hY]; exact ballc (ballc (Below.refl _ _) _) _
    have X3 : Hid (Bx Y W14.heap.size 32 #[.int .i64 o2.ds, .int .i64 o2.dq, .slice bd o2.deps.length dd, .int .i64 o2.kind, .int .i64 o2.it, .int .i64 o2.is, .int .i64 o2.rt, .int .i64 o2.rs, .string o2.text, .slice bg o2.gone.length dg, .int .i64 o2.site]) := by rw [← hY]; exact (Bx.new W14 _ _).below (ballc (Below.refl _ _) _)
    have X4 : Hid (Bx Y (W14.heap.size + 1) 45 #[.slice a3 len0 c3, .int .i64 (p' : Nat), .int .i64 s2.2]) := by rw [← hY]; exact bx_lastR _ _ _ _
    have b2 := bnext hb14 bY
    replace XA := hide ((unhide XA).below b2)
    replace G7 := hide ((unhide G7).below b2)
    replace HR := hide ((unhide HR).below b2)
    replace R1 := hide ((unhide R1).below b2)
    replace R2 := hide (RC.below (unhide R2) b2)
    have R3 : Hid (RI Y (.slice bd o2.deps.length dd) o2.deps) := (OwD.row ho).below bY
    have R4 : Hid (RR Y (.slice bg o2.gone.length dg) o2.gone) := RC.below (OwR.row hg) bY
    have HSa := hide (fun (W : World) (h : Below Y.heap.size Y W) => same_in o2 o2 _ _ _ _ W ((unhide R1).below h) (RC.below (unhide R2) h) ((unhide R3).below h) (RC.below (unhide R4) h) (by omega) (by omega))
    rw [sameB_refl] at HSa
    unfold opA at HSa
    have HLe := hide (fun (W : World) (h : Below Y.heap.size Y W) => (rLeft_in ((unhide HR).below h)).mono (fun e W' ⟨h1, h2⟩ => (⟨h1, by subst h2; exact Below.refl _ _⟩ : e = _ ∧ Below W.heap.size W W')))
    have HEr := hide (fun (W : World) (h : Below Y.heap.size Y W) => (rErr_in ((unhide HR).below h)).mono (fun e W' ⟨h1, h2⟩ => (⟨h1, by subst h2; exact Below.refl _ _⟩ : e = _ ∧ Below W.heap.size W W')))
    have HLf := hide (fun (W : World) => refLeft_in a3 len0 c3 p' s2.2 W hp' (by omega))
    rw [show s2.1.length = len0 - p' by rw [hs2, List.length_drop, unhide hml']] at HLe
    obtain ⟨E2, hE2⟩ : ∃ e, s2.2 = e := ⟨_, rfl⟩
    rw [hE2] at HEr HLf X4 hY ⊢
    obtain ⟨D2, hD2⟩ : ∃ d, len0 - p' = d := ⟨_, rfl⟩
    rw [hD2] at HLe HLf
    have hne := BelowOf.ne Y
    obtain ⟨p0, p1, p2, p3, p4, p5, p6, p7, p8, p9, p10⟩ := cells_op (unhide XA)
    obtain ⟨q0, q1, q2, q3, q4, q5, q6, q7, q8, q9, q10⟩ := cells_op (unhide X3)
    have z0 := (unhide X4).cell 0 _ rfl
    have z1 := (unhide X4).cell 1 _ rfl
    have z2 := (unhide X4).cell 2 _ rfl
    have G8 := hide (fun (W : World) (h : Below Y.heap.size Y W) => (unhide G7).below h)
    have P0 : ∀ p : BelowOf Y, p.w.cell? ⟨W4.heap.size, 0, none⟩ = some (.int .i64 o2.ds) := fun p => cell_below p0 p.h
    have P1 : ∀ p : BelowOf Y, p.w.cell? ⟨W4.heap.size, 1, none⟩ = some (.int .i64 o2.dq) := fun p => cell_below p1 p.h
    have P2 : ∀ p : BelowOf Y, p.w.cell? ⟨W4.heap.size, 2, none⟩ = some (.slice ae o2.deps.length ce) := fun p => cell_below p2 p.h
    have P3 : ∀ p : BelowOf Y, p.w.cell? ⟨W4.heap.size, 3, none⟩ = some (.int .i64 o2.kind) := fun p => cell_below p3 p.h
    have P4 : ∀ p : BelowOf Y, p.w.cell? ⟨W4.heap.size, 4, none⟩ = some (.int .i64 o2.it) := fun p => cell_below p4 p.h
    have P5 : ∀ p : BelowOf Y, p.w.cell? ⟨W4.heap.size, 5, none⟩ = some (.int .i64 o2.is) := fun p => cell_below p5 p.h
    have P6 : ∀ p : BelowOf Y, p.w.cell? ⟨W4.heap.size, 6, none⟩ = some (.int .i64 o2.rt) := fun p => cell_below p6 p.h
    have P7 : ∀ p : BelowOf Y, p.w.cell? ⟨W4.heap.size, 7, none⟩ = some (.int .i64 o2.rs) := fun p => cell_below p7 p.h
    have P8 : ∀ p : BelowOf Y, p.w.cell? ⟨W4.heap.size, 8, none⟩ = some (.string o2.text) := fun p => cell_below p8 p.h
    have P9 : ∀ p : BelowOf Y, p.w.cell? ⟨W4.heap.size, 9, none⟩ = some (.slice af o2.gone.length cf) := fun p => cell_below p9 p.h
    have P10 : ∀ p : BelowOf Y, p.w.cell? ⟨W4.heap.size, 10, none⟩ = some (.int .i64 o2.site) := fun p => cell_below p10 p.h
    have Q0 : ∀ p : BelowOf Y, p.w.cell? ⟨W14.heap.size, 0, none⟩ = some (.int .i64 o2.ds) := fun p => cell_below q0 p.h
    have Q1 : ∀ p : BelowOf Y, p.w.cell? ⟨W14.heap.size, 1, none⟩ = some (.int .i64 o2.dq) := fun p => cell_below q1 p.h
    have Q2 : ∀ p : BelowOf Y, p.w.cell? ⟨W14.heap.size, 2, none⟩ = some (.slice bd o2.deps.length dd) := fun p => cell_below q2 p.h
    have Q3 : ∀ p : BelowOf Y, p.w.cell? ⟨W14.heap.size, 3, none⟩ = some (.int .i64 o2.kind) := fun p => cell_below q3 p.h
    have Q4 : ∀ p : BelowOf Y, p.w.cell? ⟨W14.heap.size, 4, none⟩ = some (.int .i64 o2.it) := fun p => cell_below q4 p.h
    have Q5 : ∀ p : BelowOf Y, p.w.cell? ⟨W14.heap.size, 5, none⟩ = some (.int .i64 o2.is) := fun p => cell_below q5 p.h
    have Q6 : ∀ p : BelowOf Y, p.w.cell? ⟨W14.heap.size, 6, none⟩ = some (.int .i64 o2.rt) := fun p => cell_below q6 p.h
    have Q7 : ∀ p : BelowOf Y, p.w.cell? ⟨W14.heap.size, 7, none⟩ = some (.int .i64 o2.rs) := fun p => cell_below q7 p.h
    have Q8 : ∀ p : BelowOf Y, p.w.cell? ⟨W14.heap.size, 8, none⟩ = some (.string o2.text) := fun p => cell_below q8 p.h
    have Q9 : ∀ p : BelowOf Y, p.w.cell? ⟨W14.heap.size, 9, none⟩ = some (.slice bg o2.gone.length dg) := fun p => cell_below q9 p.h
    have Q10 : ∀ p : BelowOf Y, p.w.cell? ⟨W14.heap.size, 10, none⟩ = some (.int .i64 o2.site) := fun p => cell_below q10 p.h
    have Z0 : ∀ p : BelowOf Y, p.w.cell? ⟨W14.heap.size + 1, 0, none⟩ = some (.slice a3 len0 c3) := fun p => cell_below z0 p.h
    have Z1 : ∀ p : BelowOf Y, p.w.cell? ⟨W14.heap.size + 1, 1, none⟩ = some (.int .i64 (p' : Nat)) := fun p => cell_below z1 p.h
    have Z2 : ∀ p : BelowOf Y, p.w.cell? ⟨W14.heap.size + 1, 2, none⟩ = some (.int .i64 E2) := fun p => cell_below z2 p.h
    clear hE2 hD2 hs2 ho hg hb14 bY b2 HTl R1 R2 R3 R4 XA X3 X4 G7 HR p0 p1 p2 p3 p4 p5 p6 p7 p8 p9 p10 q0 q1 q2 q3 q4 q5 q6 q7 q8 q9 q10 z0 z1 z2 hT2'
    clear hsz1 hsz2 hsz3 hsz4 hsz5 hsz6 hsz7 hsz8 hsz9 hsz10 hsz11 hsz12 hpX hpg hgX hp9 gb1 gb2 gc1 gc2 ho10' hRWl hp' hix
    have mixed : Tryz.prog.follows .mixedOrders = true := by kernel_rfl
    go_wp2_with fail
    clear hY
    refine wp_region_quiet_below mixed (by kernel_rfl) ?_
    repeat (any_goals (first | go_big_quiet_step ((first | (go_at_call 7; exact below_of (unhide HSa _ (BelowOf.h _))) | (go_at_call 14; exact below_of (unhide HLe _ (BelowOf.h _))) | (go_at_call 15; exact below_of (unhide HLf _)) | (go_at_call 16; exact below_of (unhide HEr _ (BelowOf.h _))))) | quiet_step ((first | (go_at_call 7; exact below_of (unhide HSa _ (BelowOf.h _))) | (go_at_call 14; exact below_of (unhide HLe _ (BelowOf.h _))) | (go_at_call 15; exact below_of (unhide HLf _)) | (go_at_call 16; exact below_of (unhide HEr _ (BelowOf.h _)))))))
    all_goals (refine wpQuiet_nil ?_; intro _ hw'; obtain ⟨pp, hw''⟩ := hw'; subst hw'')
    obtain ⟨W15, hW15⟩ : ∃ W, W = pp.w := ⟨_, rfl⟩
    have G9 := hide (unhide G8 W15 (by rw [hW15]; exact pp.h))
    rw [← hW15]
    clear hW15 HSa HLe HEr HLf G8 P0 P1 P2 P3 P4 P5 P6 P7 P8 P9 P10 Q0 Q1 Q2 Q3 Q4 Q5 Q6 Q7 Q8 Q9 Q10 Z0 Z1 Z2 hne pp
    by_cases hz : len0 = 0
    · have hz' : ((len0 : Int) == 0) = true := by simp [hz]
      have HB := hide (unhide G9).bel
      clear G9
      go_wp2_with fail
      refine (unhide HK _).mono ?_
      rintro r W1 ⟨rfl, hb⟩
      go_wp2
      go_ret
      exact ⟨rfl, bnext (unhide HB) hb⟩
    have hz' : ((len0 : Int) == 0) = false := by simpa using hz
    have hz2 : (0 : Int) < (len0 : Int) := by omega
    have hzz : ¬ (len0 : Int) = 0 := by omega
    have hr1 : at'.tmod (len0 : Int) < (len0 : Int) := Int.tmod_lt_of_pos at' hz2
    have hr2 : -(len0 : Int) < at'.tmod (len0 : Int) := by
      have h1 := Int.tmod_lt_of_pos (-at') hz2
      rw [Int.neg_tmod] at h1
      omega
    by_cases hneg : at'.tmod (len0 : Int) < 0
    · obtain ⟨j, hj⟩ : ∃ j : Nat, at'.tmod (len0 : Int) = (j : Int) - (len0 : Int) := ⟨(at'.tmod (len0 : Int) + len0).toNat, by omega⟩
      rw [hj] at hneg hr1 hr2
      have hwa : IntKind.i64.wrap ((j : Int) - (len0 : Int) + (len0 : Int)) = (j : Int) := by rw [show (j : Int) - (len0 : Int) + (len0 : Int) = (j : Int) by omega]; exact IntWalk.i64_in _ (by omega)
      have hwa2 : wrap64 ((j : Int) - (len0 : Int) + (len0 : Int)) = (j : Int) := by unfold wrap64; omega
      have hjn : j < len0 := by omega
      have hjn' : (j : Int) < (len0 : Int) + 1 := by omega
      obtain ⟨x, hx⟩ := (unhide G9).at hjn
      have hfz := (unhide G9).own.frozenAt j
      have hgl' := (unhide G9).lt.2
      have G10 := hide ((unhide G9).set hjn by' (by omega))
      clear G9
      go_wp2
      go_roundw
      case measure => show 2 - ((t : Int) + 1).toNat < 2 - ((t : Nat) : Int).toNat; omega
      case rel => exact ⟨t + 1, (j : Int), m.set j by', by go_num, rfl, by omega, ⟨by omega, by omega⟩, G10⟩
    · obtain ⟨j, hj⟩ : ∃ j : Nat, at'.tmod (len0 : Int) = (j : Int) := ⟨(at'.tmod (len0 : Int)).toNat, by omega⟩
      rw [hj] at hneg hr1 hr2
      have hjn : j < len0 := by omega
      have hjn' : (j : Int) < (len0 : Int) + 1 := by omega
      obtain ⟨x, hx⟩ := (unhide G9).at hjn
      have hfz := (unhide G9).own.frozenAt j
      have hgl' := (unhide G9).lt.2
      have G10 := hide ((unhide G9).set hjn by' (by omega))
      clear G9
      go_wp2
      go_roundw
      case measure => show 2 - ((t : Int) + 1).toNat < 2 - ((t : Nat) : Int).toNat; omega
      case rel => exact ⟨t + 1, (j : Int), m.set j by', by go_num, rfl, by omega, ⟨by omega, by omega⟩, G10⟩

theorem own : ownKnob Tryz.prog.godebug = none := by kernel_rfl
theorem laidOut2 : laidOutB Tryz.prog = true := by kernel_rfl

set_option maxRecDepth 100000 in
theorem lifted (os : Os) (started : os.Started) (H : Type) (enc : TypeId × Value → H) :
    ReturnsInHanded {} Tryz.checked os 3 .any (Rows.opDecodesSpec.pre6 enc Tryz.prog Tryz.f3 Rows.opDecodesRow.domain false) (Rows.opDecodesSpec.post enc Tryz.prog Tryz.f3 false true false false) := by
  refine returnsInHanded_of_change (C := Tryz.checked) own started (by kernel_rfl) Tryz.func3
    (ChangeSpec.witness6 (enc := enc) (C := Tryz.checked) false ⟨#[], #[.slice none 0 0, .int .i64 0, .int .u8 0], []⟩ 8 (by kernel_rfl) (by kernel_rfl) (by kernel_rfl) (by kernel_rfl)) ?_
  intro W base args ds gs before hval0 hW hcnd _
  have hval : ∀ (j : Nat) t v, Tryz.f3.params[j]? = some t → args[j]? = some v → Value.okWide Tryz.prog W .any base t v := hval0
  have hW' := hW
  obtain ⟨p, q, hA0, hV, rfl, hfz, hnd⟩ := hW
  have hA : DataW.TrodAll enc Tryz.prog W 0 (fun _ => true) true Tryz.f3.params.toList args.toList ds p := hA0
  rw [Tryz.params3] at hA hval
  obtain ⟨v0, vs0, d0, ds0, p0, q0, hargs, rfl, rfl, h0, r0⟩ := trodAll_cons hA
  obtain ⟨v1, vs1, d1, ds1, p1, q1, rfl, rfl, rfl, h1, r1⟩ := trodAll_cons r0
  obtain ⟨v2, vs2, d2, ds2, p2, q2, rfl, rfl, rfl, h2, r2⟩ := trodAll_cons r1
  obtain ⟨rfl, rfl, rfl⟩ := trodAll_nil r2
  obtain rfl : args = #[v0, v1, v2] := by cases args; simp_all
  obtain ⟨rfl, rfl⟩ := trodVars_none hV
  obtain ⟨a0, len0, cap0, rfl⟩ := okWide_slice Tryz.underlying22 (hval 0 22 v0 rfl rfl)
  have k0 := h0
  have lt0 : ∀ x ∈ p0, x.block < W.heap.size := by obtain ⟨m, hm⟩ := k0; exact DataW.trod_lt m _ _ _ hm
  obtain ⟨z0, w0⟩ : ∃ l : List Nat, RC W (.slice a0 len0 cap0) l.length (bC l) ∧ l.length = len0 ∧ len0 ≤ maxLen ∧ ∀ e ∈ l, e < 256 := by
    obtain ⟨fuel, hf⟩ := h0
    simp only [Value.cells] at hf
    exact open_bytes hf
  obtain ⟨a1, rfl, rfl, rfl, w1⟩ := open_int Tryz.underlying3 (hval 1 3 v1 rfl rfl) h1
  obtain ⟨a2, rfl, rfl, rfl, w2⟩ := open_int Tryz.underlying5 (hval 2 5 v2 rfl rfl) h2
  clear hA0 hval0
  refine (walk a0 len0 cap0 z0 a1 a2 W w0 w1 w2).mono fun e W' ⟨he, bel⟩ => ?_
  subst he
  exact ⟨_, rfl, _, _, _, [], _, [], hW', trodAll_mk1 (shut_bool Tryz.underlying4 _), (trodAll_cons_mk (Below.trod laidOut2 (by kernel_rfl) (of_decide_eq_true (by kernel_rfl)) k0 bel lt0) (trodAll_cons_mk (shut_int Tryz.underlying3 w1) (trodAll_cons_mk (shut_int Tryz.underlying5 w2) trodAll_mk0))), rfl, bel.frame _, fun h => by cases h⟩

theorem over : Rows.opDecodesRow.holds Tryz.pinned (OpenSpec.ofChange Rows.opDecodesSpec) :=
  OpenClaim.holds_of_wide 3 Tryz.f3 rfl rfl rfl rfl rfl rfl rfl ⟨rfl, rfl, rfl, rfl, rfl⟩ rfl rfl rfl rfl rfl (by kernel_rfl) Tryz.func3 (by kernel_rfl)
    (of_decide_eq_true (by kernel_rfl)) (by unfold Func.isWrapper; first | (rw [if_pos (by decide +kernel)]; kernel_rfl) | (rw [if_neg (by decide +kernel)]; exact ⟨rfl, rfl⟩))
    (fun os started H enc _ => lifted os started H enc)

end LOpDecodes

theorem opDecodes_holds : Rows.OpDecodesSaid := LOpDecodes.over

end Go.Proofs.YtbnhfbdfjnigoaaGreat
