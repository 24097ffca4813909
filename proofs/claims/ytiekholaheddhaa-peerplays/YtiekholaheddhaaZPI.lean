/-
  The law's step.
-/
import Derived.Test.YtiekholaheddhaaZPH
import Derived.Test.YtiekholaheddhaaZRegU
import Derived.Test.YtiekholaheddhaaZRegI
import Derived.Shelf.Abstract
set_option linter.unusedSimpArgs false
set_option linter.unusedVariables false
namespace Go.Proofs.Ytiekholaheddhaa
open Go.RowKit Go.Lib

theorem frame_fn {a : Act} (N : Nat) (hs : a.tmps.size = N) (hd : a.defers = []) : a = { tmps := ((List.range N).map fun k => a.eval (.tmp k)).toArray, defers := [] } := by
  obtain ⟨t, d⟩ := a
  simp only at hs hd
  subst hd
  congr 1
  apply Array.ext
  · simp [hs]
  · intro i h1 h2
    simp [Act.eval, h1]
variable {Pa : Nat → Prop} {W : World} {b r : Nat} {s : St}
/-- while both hear: who has heard -/
def HJ (Pa : Nat → Prop) (W : World) (x : Stp) (b r : Nat) (s s2 : St) (f : Nat → Bool) (X : World) : Prop := DK Pa W x 39 b 41 r (if f 7 = true then s2 else s) (if f 15 = true then s2 else s) X
theorem HJ.nop {Pa : Nat → Prop} {W X : World} {x : Stp} {b r : Nat} {s s2 : St} {f : Nat → Bool} (h : HJ Pa W x b r s s2 f X) (i : Nat) (h1 : (7 == i) = false) (h2 : (15 == i) = false) : HJ Pa W x b r s s2 (fun q => f q || q == i) X := by
  unfold HJ at *
  simp only [h1, h2, Bool.or_false]
  exact h
theorem HJ.one {Pa : Nat → Prop} {W X : World} {x : Stp} {b r : Nat} {s s2 : St} {f : Nat → Bool} {R : Bool} {F : FuncId} {args : Array Value} (h : HJ Pa W x b r s s2 f X) (hf : f 7 = false) (hc : ∀ s', DK Pa W x 39 b 41 r s s' X → Calls Try.prog F args X fun e X' => e = .returned (.bool R) ∧ DK Pa W x 39 b 41 r s2 s' X') : Calls Try.prog F args X fun e X' => e = .returned (.bool R) ∧ HJ Pa W x b r s s2 (fun q => f q || q == 7) X' := by
  unfold HJ at *
  rw [hf] at h
  refine (hc _ h).mono ?_
  rintro e X' ⟨rfl, h⟩
  refine ⟨rfl, ?_⟩
  simpa using h
theorem HJ.two {Pa : Nat → Prop} {W X : World} {x : Stp} {b r : Nat} {s s2 : St} {f : Nat → Bool} {R : Bool} {F : FuncId} {args : Array Value} (h : HJ Pa W x b r s s2 f X) (hf : f 15 = false) (hc : ∀ s', DK Pa W x 39 b 41 r s' s X → Calls Try.prog F args X fun e X' => e = .returned (.bool R) ∧ DK Pa W x 39 b 41 r s' s2 X') : Calls Try.prog F args X fun e X' => e = .returned (.bool R) ∧ HJ Pa W x b r s s2 (fun q => f q || q == 15) X' := by
  unfold HJ at *
  rw [hf] at h
  refine (hc _ h).mono ?_
  rintro e X' ⟨rfl, h⟩
  refine ⟨rfl, ?_⟩
  simpa using h
set_option maxRecDepth 100000 in
set_option maxHeartbeats 4000000 in
theorem does_1 (h : QA Pa W 39 b 41 r s s) (hP : ∀ i, Pa i → i < W.heap.size) (x : Stp) (hk : x.kind = 1) : Calls Try.prog 11 #[.pointer (some ⟨b, 0, none⟩), .pointer (some ⟨r, 0, none⟩), .agg (stC x)] W (DoA Pa W 39 b 41 r (doS s x)) := by
  rw [doS_1 hk]
  have hk1 : (x.kind == 1) = true := by simpa using hk
  clear hk
  obtain ⟨X0, hX0⟩ : ∃ X0, W.alloc (.cells (stC x) 31) = X0 := ⟨_, rfl⟩
  have K0 : Hid (DK Pa W x 39 b 41 r s s X0) := by rw [← hX0]; exact DK.start h
  have HP := hide hP
  have Hx := hide (And.intro (unhide K0).y (unhide K0).size)
  obtain ⟨⟨y0, y1, y2, y3⟩, hzz⟩ := unhide Hx
  clear Hx h hP
  unfold stC at hX0
  unfold stC
  obtain ⟨s2, hs2⟩ : ∃ s2, sndS s x.num = s2 := ⟨_, rfl⟩
  obtain ⟨N, hN⟩ : ∃ N, sndN s x.num = N := ⟨_, rfl⟩
  obtain ⟨C, hC⟩ : ∃ C, sndC s x.num = C := ⟨_, rfl⟩
  have S1 := hide (fun X (K : DK Pa W x 39 b 41 r s s X) => K.call (unhide HP) (fun P1 h1 => Send_in h1 x.num))
  have S2 := hide (fun X (K : DK Pa W x 39 b 41 r s2 s X) => K.call2 (unhide HP) (fun P1 h1 => rSend_in h1 x.num))
  rw [hs2, hN, hC] at S1 S2
  rw [hs2]
  have HY := hide (fun X (K : DK Pa W x 39 b 41 r s2 s X) => K.y)
  clear hs2 hN hC
  generalize hbx : W.heap.size = bx at *
  generalize x.kind = k0 at *
  generalize x.num = k1 at *
  generalize x.got = k2 at *
  generalize x.crd = k3 at *
  go_enter Try.func11, Try.ntmps11
  go_wp2_with fail
  refine (unhide S1 _ (unhide K0)).mono ?_
  rintro e Z1 ⟨rfl, K⟩
  have hz1 := K.size
  obtain ⟨-, z1, -, -⟩ := unhide HY _ K
  have KK := hide K
  clear S1 K0 K y0 y1 y2 y3 HY
  go_wp2_with fail
  refine (unhide S2 _ (unhide KK)).mono ?_
  rintro e X1 ⟨rfl, K⟩
  have K1 := hide K
  clear S2 KK K z1
  have TT := hide (unhide K1).tells
  have HF := hide (fun Y (hY : Below X1.heap.size X1 Y) => ((unhide K1).below hY).fin)
  clear K1
  obtain ⟨FL, hFL⟩ : ∃ FL, s2.fl = FL := ⟨_, rfl⟩
  obtain ⟨GT, hGT⟩ : ∃ GT, s2.gt = GT := ⟨_, rfl⟩
  obtain ⟨CR, hCR⟩ : ∃ CR, s2.cr = CR := ⟨_, rfl⟩
  have T1 := hide (unhide TT).f1
  have T2 := hide (unhide TT).f2
  have T3 := hide (unhide TT).g1
  have T4 := hide (unhide TT).g2
  have T5 := hide (unhide TT).c1
  have T6 := hide (unhide TT).c2
  have hln := (unhide TT).ln
  rw [hFL] at T1 T2 hln
  rw [hGT] at T3 T4
  rw [hCR] at T5 T6
  clear hFL hGT hCR TT
  go_wp2_with fail
  refine (unhide T1 _ (Below.refl _ _)).mono ?_
  rintro e Y1 ⟨a1, c1, rfl, o1, b1⟩
  replace o1 := hide o1
  replace b1 := hide b1
  clear T1
  go_wp2_with fail
  refine (unhide T2 _ (unhide b1)).mono ?_
  rintro e Y2 ⟨a2, c2, rfl, o2, b2⟩
  have HI := hide (ints_in _ _ FL FL Y2 (own_below (unhide o1) b2).row o2.row (by omega) (by omega))
  rw [decide_eq_true rfl] at HI
  have B2 := hide (bnext (unhide b1) b2)
  clear T2 o1 b1 o2 b2
  go_wp2_with fail
  refine (unhide HI).mono ?_
  rintro e Y3 ⟨rfl, b3⟩
  have B3 := hide (bnext (unhide B2) b3)
  clear HI B2 b3
  go_wp2_with fail
  refine (unhide T3 _ (unhide B3)).mono ?_
  rintro e Y4 ⟨rfl, rfl⟩
  clear T3
  go_wp2_with fail
  refine (unhide T4 _ (unhide B3)).mono ?_
  rintro e Y4 ⟨rfl, rfl⟩
  clear T4
  go_wp2_with fail
  refine (unhide T5 _ (unhide B3)).mono ?_
  rintro e Y4 ⟨rfl, rfl⟩
  clear T5
  go_wp2_with fail
  refine (unhide T6 _ (unhide B3)).mono ?_
  rintro e Y4 ⟨rfl, rfl⟩
  clear T6
  go_wp2
  go_ret
  exact unhide HF _ (unhide B3)
set_option maxRecDepth 100000 in
set_option maxHeartbeats 4000000 in
theorem does_3 (h : QA Pa W 39 b 41 r s s) (hP : ∀ i, Pa i → i < W.heap.size) (x : Stp) (hk : x.kind = 3) : Calls Try.prog 11 #[.pointer (some ⟨b, 0, none⟩), .pointer (some ⟨r, 0, none⟩), .agg (stC x)] W (DoA Pa W 39 b 41 r (doS s x)) := by
  rw [doS_3 hk]
  have hk1 : (x.kind == 1) = false := by rw [hk]; rfl
  have hk2 : (x.kind == 2) = false := by rw [hk]; rfl
  have hk3 : (x.kind == 3) = true := by simpa using hk
  clear hk
  obtain ⟨X0, hX0⟩ : ∃ X0, W.alloc (.cells (stC x) 31) = X0 := ⟨_, rfl⟩
  have K0 : Hid (DK Pa W x 39 b 41 r s s X0) := by rw [← hX0]; exact DK.start h
  have HP := hide hP
  have Hx := hide (And.intro (unhide K0).y (unhide K0).size)
  obtain ⟨⟨y0, y1, y2, y3⟩, hzz⟩ := unhide Hx
  clear Hx h hP
  unfold stC at hX0
  unfold stC
  obtain ⟨s2, hs2⟩ : ∃ s2, clrS s = s2 := ⟨_, rfl⟩
  have S1 := hide (fun X (K : DK Pa W x 39 b 41 r s s X) => K.call (unhide HP) (fun P1 h1 => Clear_in h1))
  have S2 := hide (fun X (K : DK Pa W x 39 b 41 r s2 s X) => K.call2 (unhide HP) (fun P1 h1 => rClear_in h1))
  rw [hs2] at S1 S2
  rw [hs2]
  clear hs2
  generalize hbx : W.heap.size = bx at *
  generalize x.kind = k0 at *
  generalize x.num = k1 at *
  generalize x.got = k2 at *
  generalize x.crd = k3 at *
  go_enter Try.func11, Try.ntmps11
  go_wp2_with fail
  refine (unhide S1 _ (unhide K0)).mono ?_
  rintro e Z1 ⟨rfl, K⟩
  have KK := hide K
  clear S1 K0 K y0 y1 y2 y3
  go_wp2_with fail
  refine (unhide S2 _ (unhide KK)).mono ?_
  rintro e X1 ⟨rfl, K⟩
  have K1 := hide K
  clear S2 KK K
  have TT := hide (unhide K1).tells
  have HF := hide (fun Y (hY : Below X1.heap.size X1 Y) => ((unhide K1).below hY).fin)
  clear K1
  obtain ⟨FL, hFL⟩ : ∃ FL, s2.fl = FL := ⟨_, rfl⟩
  obtain ⟨GT, hGT⟩ : ∃ GT, s2.gt = GT := ⟨_, rfl⟩
  obtain ⟨CR, hCR⟩ : ∃ CR, s2.cr = CR := ⟨_, rfl⟩
  have T1 := hide (unhide TT).f1
  have T2 := hide (unhide TT).f2
  have T3 := hide (unhide TT).g1
  have T4 := hide (unhide TT).g2
  have T5 := hide (unhide TT).c1
  have T6 := hide (unhide TT).c2
  have hln := (unhide TT).ln
  rw [hFL] at T1 T2 hln
  rw [hGT] at T3 T4
  rw [hCR] at T5 T6
  clear hFL hGT hCR TT
  go_wp2_with fail
  refine (unhide T1 _ (Below.refl _ _)).mono ?_
  rintro e Y1 ⟨a1, c1, rfl, o1, b1⟩
  replace o1 := hide o1
  replace b1 := hide b1
  clear T1
  go_wp2_with fail
  refine (unhide T2 _ (unhide b1)).mono ?_
  rintro e Y2 ⟨a2, c2, rfl, o2, b2⟩
  have HI := hide (ints_in _ _ FL FL Y2 (own_below (unhide o1) b2).row o2.row (by omega) (by omega))
  rw [decide_eq_true rfl] at HI
  have B2 := hide (bnext (unhide b1) b2)
  clear T2 o1 b1 o2 b2
  go_wp2_with fail
  refine (unhide HI).mono ?_
  rintro e Y3 ⟨rfl, b3⟩
  have B3 := hide (bnext (unhide B2) b3)
  clear HI B2 b3
  go_wp2_with fail
  refine (unhide T3 _ (unhide B3)).mono ?_
  rintro e Y4 ⟨rfl, rfl⟩
  clear T3
  go_wp2_with fail
  refine (unhide T4 _ (unhide B3)).mono ?_
  rintro e Y4 ⟨rfl, rfl⟩
  clear T4
  go_wp2_with fail
  refine (unhide T5 _ (unhide B3)).mono ?_
  rintro e Y4 ⟨rfl, rfl⟩
  clear T5
  go_wp2_with fail
  refine (unhide T6 _ (unhide B3)).mono ?_
  rintro e Y4 ⟨rfl, rfl⟩
  clear T6
  go_wp2
  go_ret
  exact unhide HF _ (unhide B3)
set_option maxRecDepth 100000 in
set_option maxHeartbeats 4000000 in
theorem does_0 (h : QA Pa W 39 b 41 r s s) (hP : ∀ i, Pa i → i < W.heap.size) (x : Stp) (h1 : x.kind ≠ 1) (h2 : x.kind ≠ 2) (h3 : x.kind ≠ 3) : Calls Try.prog 11 #[.pointer (some ⟨b, 0, none⟩), .pointer (some ⟨r, 0, none⟩), .agg (stC x)] W (DoA Pa W 39 b 41 r (doS s x)) := by
  rw [doS_0 h1 h2 h3]
  have hk1 : (x.kind == 1) = false := by simpa using h1
  have hk2 : (x.kind == 2) = false := by simpa using h2
  have hk3 : (x.kind == 3) = false := by simpa using h3
  clear h1 h2 h3
  obtain ⟨X0, hX0⟩ : ∃ X0, W.alloc (.cells (stC x) 31) = X0 := ⟨_, rfl⟩
  have K0 : Hid (DK Pa W x 39 b 41 r s s X0) := by rw [← hX0]; exact DK.start h
  have HP := hide hP
  have Hx := hide (And.intro (unhide K0).y (unhide K0).size)
  obtain ⟨⟨y0, y1, y2, y3⟩, hzz⟩ := unhide Hx
  clear Hx h hP
  unfold stC at hX0
  unfold stC
  obtain ⟨s2, hs2⟩ : ∃ s2, s = s2 := ⟨_, rfl⟩
  subst hs2
  generalize hbx : W.heap.size = bx at *
  generalize x.kind = k0 at *
  generalize x.num = k1 at *
  generalize x.got = k2 at *
  generalize x.crd = k3 at *
  have K1 := K0
  go_enter Try.func11, Try.ntmps11
  have TT := hide (unhide K1).tells
  have HF := hide (fun Y (hY : Below X0.heap.size X0 Y) => ((unhide K1).below hY).fin)
  clear K1 K0
  obtain ⟨FL, hFL⟩ : ∃ FL, s.fl = FL := ⟨_, rfl⟩
  obtain ⟨GT, hGT⟩ : ∃ GT, s.gt = GT := ⟨_, rfl⟩
  obtain ⟨CR, hCR⟩ : ∃ CR, s.cr = CR := ⟨_, rfl⟩
  have T1 := hide (unhide TT).f1
  have T2 := hide (unhide TT).f2
  have T3 := hide (unhide TT).g1
  have T4 := hide (unhide TT).g2
  have T5 := hide (unhide TT).c1
  have T6 := hide (unhide TT).c2
  have hln := (unhide TT).ln
  rw [hFL] at T1 T2 hln
  rw [hGT] at T3 T4
  rw [hCR] at T5 T6
  clear hFL hGT hCR TT
  go_wp2_with fail
  refine (unhide T1 _ (Below.refl _ _)).mono ?_
  rintro e Y1 ⟨a1, c1, rfl, o1, b1⟩
  replace o1 := hide o1
  replace b1 := hide b1
  clear T1
  go_wp2_with fail
  refine (unhide T2 _ (unhide b1)).mono ?_
  rintro e Y2 ⟨a2, c2, rfl, o2, b2⟩
  have HI := hide (ints_in _ _ FL FL Y2 (own_below (unhide o1) b2).row o2.row (by omega) (by omega))
  rw [decide_eq_true rfl] at HI
  have B2 := hide (bnext (unhide b1) b2)
  clear T2 o1 b1 o2 b2
  go_wp2_with fail
  refine (unhide HI).mono ?_
  rintro e Y3 ⟨rfl, b3⟩
  have B3 := hide (bnext (unhide B2) b3)
  clear HI B2 b3
  go_wp2_with fail
  refine (unhide T3 _ (unhide B3)).mono ?_
  rintro e Y4 ⟨rfl, rfl⟩
  clear T3
  go_wp2_with fail
  refine (unhide T4 _ (unhide B3)).mono ?_
  rintro e Y4 ⟨rfl, rfl⟩
  clear T4
  go_wp2_with fail
  refine (unhide T5 _ (unhide B3)).mono ?_
  rintro e Y4 ⟨rfl, rfl⟩
  clear T5
  go_wp2_with fail
  refine (unhide T6 _ (unhide B3)).mono ?_
  rintro e Y4 ⟨rfl, rfl⟩
  clear T6
  go_wp2
  go_ret
  exact unhide HF _ (unhide B3)
set_option maxRecDepth 100000 in
set_option maxHeartbeats 4000000 in
theorem does_2 (h : QA Pa W 39 b 41 r s s) (hP : ∀ i, Pa i → i < W.heap.size) (x : Stp) (hk : x.kind = 2) : Calls Try.prog 11 #[.pointer (some ⟨b, 0, none⟩), .pointer (some ⟨r, 0, none⟩), .agg (stC x)] W (DoA Pa W 39 b 41 r (doS s x)) := by
  rw [doS_2 hk]
  have hk1 : (x.kind == 1) = false := by rw [hk]; rfl
  have hk2 : (x.kind == 2) = true := by simpa using hk
  clear hk
  obtain ⟨X0, hX0⟩ : ∃ X0, W.alloc (.cells (stC x) 31) = X0 := ⟨_, rfl⟩
  have K0 : Hid (DK Pa W x 39 b 41 r s s X0) := by rw [← hX0]; exact DK.start h
  have HP := hide hP
  have Hx := hide (And.intro (unhide K0).y (unhide K0).size)
  obtain ⟨⟨y0, y1, y2, y3⟩, hzz⟩ := unhide Hx
  clear Hx h hP
  unfold stC at hX0
  unfold stC
  obtain ⟨s2, hs2⟩ : ∃ s2, hrdS s x.num x.got x.crd = s2 := ⟨_, rfl⟩
  obtain ⟨R, hR⟩ : ∃ R, hrdB s x.got = R := ⟨_, rfl⟩
  have S1 := hide (fun (f : Nat → Bool) X (hf : f 7 = false) (K : HJ Pa W x b r s s2 f X) => K.one (R := R) hf (fun s' K => by
    have := DK.call K (unhide HP) (fun P1 h1 => Heard_in h1 x.num x.got x.crd)
    rw [hs2, hR] at this
    exact this))
  have S2 := hide (fun (f : Nat → Bool) X (hf : f 15 = false) (K : HJ Pa W x b r s s2 f X) => K.two (R := R) hf (fun s' K => by
    have := DK.call2 K (unhide HP) (fun P1 h1 => rHeard_in h1 x.num x.got x.crd)
    rw [hs2, hR] at this
    exact this))
  have HY := hide (fun (f : Nat → Bool) X (K : HJ Pa W x b r s s2 f X) => DK.y K)
  have J0 : Hid (HJ Pa W x b r s s2 (fun _ => false) X0.drew) := (unhide K0).below (Below.refl _ _).drew
  have HFn : Hid (∀ f X, f 7 = true → f 15 = true → HJ Pa W x b r s s2 f X → DK Pa W x 39 b 41 r s2 s2 X) := fun f X h7 h15 K => by unfold HJ at K; rw [h7, h15] at K; exact K
  rw [hs2]
  clear hs2 hR
  go_enter Try.func11, Try.ntmps11
  go_wp2_with fail
  refine wp_region_any (by kernel_rfl) ?_
  change wpAny _ _ _ _ _ _ _ (World.drew _)
  refine region_ss 85 (fun j => if j = 17 then 7 else 40 + j) ((0, (Value.pointer (some { block := b, off := 0 }))) :: (1, (Value.pointer (some { block := r, off := 0 }))) :: (5, (Value.pointer (some { block := W.heap.size, off := 0 }))) :: []) (HJ Pa W x b r s s2) (valsOf [isV (Value.pointer (some { block := b, off := 0 })), isV (Value.pointer (some { block := W.heap.size, off := 1 })), isV (Value.int .i64 x.num), isV (Value.pointer (some { block := W.heap.size, off := 2 })), isV (Value.int .i64 x.got), isV (Value.pointer (some { block := W.heap.size, off := 3 })), isV (Value.int .i64 x.crd), isV (Value.bool R), isV (Value.pointer (some { block := r, off := 0 })), isV (Value.pointer (some { block := W.heap.size, off := 1 })), isV (Value.int .i64 x.num), isV (Value.pointer (some { block := W.heap.size, off := 2 })), isV (Value.int .i64 x.got), isV (Value.pointer (some { block := W.heap.size, off := 3 })), isV (Value.int .i64 x.crd), isV (Value.bool R), isV (Value.bool true), isV (Value.bool true)]) (fun _ _ _ => True) [] ?fit ?stable ?none ?steps ?fin _ _ ?sz rfl ?base (unhide J0)
  case fit => kernel_rfl
  case sz => rfl
  case base => intro p hp; repeat (first | (rcases List.mem_cons.1 hp with rfl | hp; · rfl) | cases hp)
  case none =>
    intro j o' ho hdn w1 v
    have hj : j < 18 := (Array.getElem?_eq_some_iff.1 ho).1
    obtain rfl | rfl | rfl | rfl | rfl | rfl | rfl | rfl | rfl | rfl | rfl | rfl | rfl | rfl | rfl | rfl | rfl | rfl : j = 0 ∨ j = 1 ∨ j = 2 ∨ j = 3 ∨ j = 4 ∨ j = 5 ∨ j = 6 ∨ j = 7 ∨ j = 8 ∨ j = 9 ∨ j = 10 ∨ j = 11 ∨ j = 12 ∨ j = 13 ∨ j = 14 ∨ j = 15 ∨ j = 16 ∨ j = 17 := by omega
    all_goals (exfalso; have e := Option.some.inj ho; rw [← e] at hdn; cases hdn)
  case stable =>
    intro j i f w1 w2 v hfj hfi hJ hv hG
    refine valsOf_stable (J := fun _ => True) (G := fun _ _ => True) (Stables.all ?_) j w1 w2 v trivial hv trivial
    repeat (refine Stables.same ?_)
    exact Stables.nil
  case steps =>
    refine .cons (fun f ρ wz hf hfe hρ hJ hb hd => by
      refine StepU.ok (by decide) ?_
      have d0 : ρ (.tmp 0) = (Value.pointer (some { block := b, off := 0 })) := hb (0, _) (List.mem_of_getElem? (i := 0) rfl)
      exact step_move (.tmp 0) rfl ⟨trivial, hJ.nop 0 (by decide) (by decide), d0⟩) ?_
    refine .cons (fun f ρ wz hf hfe hρ hJ hb hd => by
      refine StepU.ok (by decide) ?_
      have d0 : ρ (.tmp 5) = (Value.pointer (some { block := W.heap.size, off := 0 })) := hb (5, _) (List.mem_of_getElem? (i := 2) rfl)
      exact step_val (v := (Value.pointer (some { block := W.heap.size, off := 1 }))) (w' := wz) (by simp [go_sem, execOp, d0]) ⟨trivial, hJ.nop 1 (by decide) (by decide), rfl⟩) ?_
    refine .cons (fun f ρ wz hf hfe hρ hJ hb hd => by
      refine StepU.ok (by decide) ?_
      have d0 : ρ (.tmp 41) = (Value.pointer (some { block := W.heap.size, off := 1 })) := hd 0 _ rfl rfl
      have x0 := (unhide HY f _ hJ).2.1
      exact step_val (v := (Value.int .i64 x.num)) (w' := wz) (by simp [go_sem, execOp, d0, x0]) ⟨trivial, hJ.nop 2 (by decide) (by decide), rfl⟩) ?_
    refine .cons (fun f ρ wz hf hfe hρ hJ hb hd => by
      refine StepU.ok (by decide) ?_
      have d0 : ρ (.tmp 5) = (Value.pointer (some { block := W.heap.size, off := 0 })) := hb (5, _) (List.mem_of_getElem? (i := 2) rfl)
      exact step_val (v := (Value.pointer (some { block := W.heap.size, off := 2 }))) (w' := wz) (by simp [go_sem, execOp, d0]) ⟨trivial, hJ.nop 3 (by decide) (by decide), rfl⟩) ?_
    refine .cons (fun f ρ wz hf hfe hρ hJ hb hd => by
      refine StepU.ok (by decide) ?_
      have d0 : ρ (.tmp 43) = (Value.pointer (some { block := W.heap.size, off := 2 })) := hd 0 _ rfl rfl
      have x0 := (unhide HY f _ hJ).2.2.1
      exact step_val (v := (Value.int .i64 x.got)) (w' := wz) (by simp [go_sem, execOp, d0, x0]) ⟨trivial, hJ.nop 4 (by decide) (by decide), rfl⟩) ?_
    refine .cons (fun f ρ wz hf hfe hρ hJ hb hd => by
      refine StepU.ok (by decide) ?_
      have d0 : ρ (.tmp 5) = (Value.pointer (some { block := W.heap.size, off := 0 })) := hb (5, _) (List.mem_of_getElem? (i := 2) rfl)
      exact step_val (v := (Value.pointer (some { block := W.heap.size, off := 3 }))) (w' := wz) (by simp [go_sem, execOp, d0]) ⟨trivial, hJ.nop 5 (by decide) (by decide), rfl⟩) ?_
    refine .cons (fun f ρ wz hf hfe hρ hJ hb hd => by
      refine StepU.ok (by decide) ?_
      have d0 : ρ (.tmp 45) = (Value.pointer (some { block := W.heap.size, off := 3 })) := hd 0 _ rfl rfl
      have x0 := (unhide HY f _ hJ).2.2.2
      exact step_val (v := (Value.int .i64 x.crd)) (w' := wz) (by simp [go_sem, execOp, d0, x0]) ⟨trivial, hJ.nop 6 (by decide) (by decide), rfl⟩) ?_
    refine .cons (fun f ρ wz hf hfe hρ hJ hb hd => by
      refine StepU.ok (by decide) ?_
      have d0 : ρ (.tmp 40) = (Value.pointer (some { block := b, off := 0 })) := hd 0 _ rfl rfl
      have d1 : ρ (.tmp 42) = (Value.int .i64 x.num) := hd 1 _ rfl rfl
      have d2 : ρ (.tmp 44) = (Value.int .i64 x.got) := hd 2 _ rfl rfl
      have d3 : ρ (.tmp 46) = (Value.int .i64 x.crd) := hd 3 _ rfl rfl
      refine step_func 15 _ _ #[Value.pointer (some { block := b, off := 0 }), .int .i64 x.num, .int .i64 x.got, .int .i64 x.crd] hρ rfl (enters_of Try.func15 (by kernel_rfl) rfl) (by simp [d0, d1, d2, d3]) ?_
      refine (unhide S1 f wz (hf 7 (.inl rfl)) hJ).mono ?_
      rintro e W' ⟨rfl, K⟩
      exact ⟨_, rfl, trivial, K, rfl⟩) ?_
    refine .cons (fun f ρ wz hf hfe hρ hJ hb hd => by
      refine StepU.ok (by decide) ?_
      have d0 : ρ (.tmp 1) = (Value.pointer (some { block := r, off := 0 })) := hb (1, _) (List.mem_of_getElem? (i := 1) rfl)
      exact step_move (.tmp 1) rfl ⟨trivial, hJ.nop 8 (by decide) (by decide), d0⟩) ?_
    refine .cons (fun f ρ wz hf hfe hρ hJ hb hd => by
      refine StepU.ok (by decide) ?_
      have d0 : ρ (.tmp 5) = (Value.pointer (some { block := W.heap.size, off := 0 })) := hb (5, _) (List.mem_of_getElem? (i := 2) rfl)
      exact step_val (v := (Value.pointer (some { block := W.heap.size, off := 1 }))) (w' := wz) (by simp [go_sem, execOp, d0]) ⟨trivial, hJ.nop 9 (by decide) (by decide), rfl⟩) ?_
    refine .cons (fun f ρ wz hf hfe hρ hJ hb hd => by
      refine StepU.ok (by decide) ?_
      have d0 : ρ (.tmp 49) = (Value.pointer (some { block := W.heap.size, off := 1 })) := hd 0 _ rfl rfl
      have x0 := (unhide HY f _ hJ).2.1
      exact step_val (v := (Value.int .i64 x.num)) (w' := wz) (by simp [go_sem, execOp, d0, x0]) ⟨trivial, hJ.nop 10 (by decide) (by decide), rfl⟩) ?_
    refine .cons (fun f ρ wz hf hfe hρ hJ hb hd => by
      refine StepU.ok (by decide) ?_
      have d0 : ρ (.tmp 5) = (Value.pointer (some { block := W.heap.size, off := 0 })) := hb (5, _) (List.mem_of_getElem? (i := 2) rfl)
      exact step_val (v := (Value.pointer (some { block := W.heap.size, off := 2 }))) (w' := wz) (by simp [go_sem, execOp, d0]) ⟨trivial, hJ.nop 11 (by decide) (by decide), rfl⟩) ?_
    refine .cons (fun f ρ wz hf hfe hρ hJ hb hd => by
      refine StepU.ok (by decide) ?_
      have d0 : ρ (.tmp 51) = (Value.pointer (some { block := W.heap.size, off := 2 })) := hd 0 _ rfl rfl
      have x0 := (unhide HY f _ hJ).2.2.1
      exact step_val (v := (Value.int .i64 x.got)) (w' := wz) (by simp [go_sem, execOp, d0, x0]) ⟨trivial, hJ.nop 12 (by decide) (by decide), rfl⟩) ?_
    refine .cons (fun f ρ wz hf hfe hρ hJ hb hd => by
      refine StepU.ok (by decide) ?_
      have d0 : ρ (.tmp 5) = (Value.pointer (some { block := W.heap.size, off := 0 })) := hb (5, _) (List.mem_of_getElem? (i := 2) rfl)
      exact step_val (v := (Value.pointer (some { block := W.heap.size, off := 3 }))) (w' := wz) (by simp [go_sem, execOp, d0]) ⟨trivial, hJ.nop 13 (by decide) (by decide), rfl⟩) ?_
    refine .cons (fun f ρ wz hf hfe hρ hJ hb hd => by
      refine StepU.ok (by decide) ?_
      have d0 : ρ (.tmp 53) = (Value.pointer (some { block := W.heap.size, off := 3 })) := hd 0 _ rfl rfl
      have x0 := (unhide HY f _ hJ).2.2.2
      exact step_val (v := (Value.int .i64 x.crd)) (w' := wz) (by simp [go_sem, execOp, d0, x0]) ⟨trivial, hJ.nop 14 (by decide) (by decide), rfl⟩) ?_
    refine .cons (fun f ρ wz hf hfe hρ hJ hb hd => by
      refine StepU.ok (by decide) ?_
      have d0 : ρ (.tmp 48) = (Value.pointer (some { block := r, off := 0 })) := hd 0 _ rfl rfl
      have d1 : ρ (.tmp 50) = (Value.int .i64 x.num) := hd 1 _ rfl rfl
      have d2 : ρ (.tmp 52) = (Value.int .i64 x.got) := hd 2 _ rfl rfl
      have d3 : ρ (.tmp 54) = (Value.int .i64 x.crd) := hd 3 _ rfl rfl
      refine step_func 22 _ _ #[Value.pointer (some { block := r, off := 0 }), .int .i64 x.num, .int .i64 x.got, .int .i64 x.crd] hρ rfl (enters_of Try.func22 (by kernel_rfl) rfl) (by simp [d0, d1, d2, d3]) ?_
      refine (unhide S2 f wz (hf 15 (.inl rfl)) hJ).mono ?_
      rintro e W' ⟨rfl, K⟩
      exact ⟨_, rfl, trivial, K, rfl⟩) ?_
    refine .cons (fun f ρ wz hf hfe hρ hJ hb hd => by
      refine StepU.ok (by decide) ?_
      have d0 : ρ (.tmp 47) = (Value.bool R) := hd 0 _ rfl rfl
      have d1 : ρ (.tmp 55) = (Value.bool R) := hd 1 _ rfl rfl
      exact step_val (v := .bool true) (w' := wz) (by simp [go_sem, execOp, d0, d1]) ⟨trivial, hJ.nop 16 (by decide) (by decide), rfl⟩) ?_
    refine .cons (fun f ρ wz hf hfe hρ hJ hb hd => by
      refine StepU.ok (by decide) ?_
      have d0 : ρ (.tmp 56) = .bool true := hd 0 _ rfl rfl
      exact step_val (v := .bool true) (w' := wz) (by simp [go_sem, execOp, d0]) ⟨trivial, hJ.nop 17 (by decide) (by decide), rfl⟩) ?_
    exact .nil _
  case fin =>
    intro a X1 hsz2 hds hb hJ hv
    obtain ⟨f, hf, hJ⟩ := hJ
    have K1 := hide (unhide HFn f X1 (hf 7 (by decide)) (hf 15 (by decide)) hJ)
    have e0 : a.eval (.tmp 0) = (Value.pointer (some { block := b, off := 0 })) := hb (0, _) (List.mem_of_getElem? (i := 0) rfl)
    have e1 : a.eval (.tmp 1) = (Value.pointer (some { block := r, off := 0 })) := hb (1, _) (List.mem_of_getElem? (i := 1) rfl)
    have e7 : a.eval (.tmp 7) = .bool true := hv 17 (by decide)
    clear hv hb hJ hf f J0 S1 S2 HY HFn K0 y0 y1 y2 y3
    obtain ⟨u, rfl⟩ : ∃ u : Nat → Value, a = ⟨#[u 0, u 1, u 2, u 3, u 4, u 5, u 6, u 7, u 8, u 9, u 10, u 11, u 12, u 13, u 14, u 15, u 16, u 17, u 18, u 19, u 20, u 21, u 22, u 23, u 24, u 25, u 26, u 27, u 28, u 29, u 30, u 31, u 32, u 33, u 34, u 35, u 36, u 37, u 38, u 39, u 40, u 41, u 42, u 43, u 44, u 45, u 46, u 47, u 48, u 49, u 50, u 51, u 52, u 53, u 54, u 55, u 56, u 57, u 58, u 59, u 60, u 61, u 62, u 63, u 64, u 65, u 66, u 67, u 68, u 69, u 70, u 71, u 72, u 73, u 74, u 75, u 76, u 77, u 78, u 79, u 80, u 81, u 82, u 83, u 84], []⟩ := ⟨fun k => a.eval (.tmp k), frame_fn 85 hsz2 hds⟩
    change u 0 = _ at e0
    change u 1 = _ at e1
    change u 7 = _ at e7
    rw [e0, e1, e7]
    clear e0 e1 e7 hsz2 hds
    have TT := hide (unhide K1).tells
    have HF := hide (fun Y (hY : Below X1.heap.size X1 Y) => ((unhide K1).below hY).fin)
    clear K1
    obtain ⟨FL, hFL⟩ : ∃ FL, s2.fl = FL := ⟨_, rfl⟩
    obtain ⟨GT, hGT⟩ : ∃ GT, s2.gt = GT := ⟨_, rfl⟩
    obtain ⟨CR, hCR⟩ : ∃ CR, s2.cr = CR := ⟨_, rfl⟩
    have T1 := hide (unhide TT).f1
    have T2 := hide (unhide TT).f2
    have T3 := hide (unhide TT).g1
    have T4 := hide (unhide TT).g2
    have T5 := hide (unhide TT).c1
    have T6 := hide (unhide TT).c2
    have hln := (unhide TT).ln
    rw [hFL] at T1 T2 hln
    rw [hGT] at T3 T4
    rw [hCR] at T5 T6
    clear hFL hGT hCR TT
    go_wp2_with fail
    refine (unhide T1 _ (Below.refl _ _)).mono ?_
    rintro e Y1 ⟨a1, c1, rfl, o1, b1⟩
    replace o1 := hide o1
    replace b1 := hide b1
    clear T1
    go_wp2_with fail
    refine (unhide T2 _ (unhide b1)).mono ?_
    rintro e Y2 ⟨a2, c2, rfl, o2, b2⟩
    have HI := hide (ints_in _ _ FL FL Y2 (own_below (unhide o1) b2).row o2.row (by omega) (by omega))
    rw [decide_eq_true rfl] at HI
    have B2 := hide (bnext (unhide b1) b2)
    clear T2 o1 b1 o2 b2
    go_wp2_with fail
    refine (unhide HI).mono ?_
    rintro e Y3 ⟨rfl, b3⟩
    have B3 := hide (bnext (unhide B2) b3)
    clear HI B2 b3
    go_wp2_with fail
    refine (unhide T3 _ (unhide B3)).mono ?_
    rintro e Y4 ⟨rfl, rfl⟩
    clear T3
    go_wp2_with fail
    refine (unhide T4 _ (unhide B3)).mono ?_
    rintro e Y4 ⟨rfl, rfl⟩
    clear T4
    go_wp2_with fail
    refine (unhide T5 _ (unhide B3)).mono ?_
    rintro e Y4 ⟨rfl, rfl⟩
    clear T5
    go_wp2_with fail
    refine (unhide T6 _ (unhide B3)).mono ?_
    rintro e Y4 ⟨rfl, rfl⟩
    clear T6
    go_wp2
    go_ret
    exact unhide HF _ (unhide B3)
theorem does_in (h : QA Pa W 39 b 41 r s s) (hP : ∀ i, Pa i → i < W.heap.size) (x : Stp) : Calls Try.prog 11 #[.pointer (some ⟨b, 0, none⟩), .pointer (some ⟨r, 0, none⟩), .agg (stC x)] W (DoA Pa W 39 b 41 r (doS s x)) := by
  by_cases h1 : x.kind = 1
  · exact does_1 h hP x h1
  by_cases h2 : x.kind = 2
  · exact does_2 h hP x h2
  by_cases h3 : x.kind = 3
  · exact does_3 h hP x h3
  exact does_0 h hP x h1 h2 h3

end Go.Proofs.Ytiekholaheddhaa
