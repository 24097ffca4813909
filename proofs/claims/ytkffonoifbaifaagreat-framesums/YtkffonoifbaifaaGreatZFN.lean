/-
  known of law 10.
-/
import Derived.Test.YtkffonoifbaifaaGreatZFN1
set_option linter.unusedSimpArgs false
set_option linter.unusedVariables false
namespace Go.Proofs.YtkffonoifbaifaaGreat
open Go.RowKit Go.Lib

def exP : World → Value → Prop := fun W x => ∃ u, x = .agg #[Value.int .i64 1, Value.int .i64 1, Value.int .i64 2, Value.int .i64 3, Value.int .i64 4, Value.int .i64 5, Value.bool true, u, (Value.slice none 0 0), (Value.slice none 0 0), (Value.slice none 0 0), (Value.int .i64 0), (Value.slice none 0 0), (Value.slice none 0 0), (Value.slice none 0 0), (Value.slice none 0 0), (Value.int .i64 0)] ∧ RI W u [(1, 7)]
def fnV (B ab ao c g : Nat) (ua : Option Addr) (uc : Nat) : Nat → World → Value → Prop := (valsOf [rowP B, rowP B, isV (.int .u32 3421780262), isV (.bool true), isV (.bool true), exP, isV (.int .i64 0), isV (.bool true), isV (.bool true), isV (.bool true), isV (.agg #[Value.int .i64 0, Value.int .i64 0, Value.int .i64 0, Value.int .i64 0, Value.int .i64 0, Value.int .i64 0, Value.bool false, (Value.slice none 0 0), (Value.slice none 0 0), (Value.slice none 0 0), (Value.slice none 0 0), (Value.int .i64 0), (Value.slice none 0 0), (Value.slice none 0 0), (Value.slice none 0 0), (Value.slice none 0 0), (Value.int .i64 0)]), isV (.int .i64 1), isV (.bool true), isV (.bool true), isV (.bool true), isV (.int .i64 0), isV (.bool true), isV (.bool true), isV (.bool true), isV (.slice (some ⟨ab, ao, none⟩) 19 c), isV (.int .i64 19), isV (.bool true), isV (.bool true), isV (.bool true), isV (.slice (some ⟨ab, ao, none⟩) 19 c), isV (.pointer (some ⟨ab, ao, none⟩)), isV (.int .u8 11), isV (.bool true), isV (.bool true), isV (.bool true), isV (.slice (some ⟨ab, ao, none⟩) 19 c), isV (.pointer (some ⟨ab, ao + 4, none⟩)), isV (.int .u8 1), isV (.bool true), isV (.bool true), isV (.bool true), isV (.slice (some ⟨ab, ao, none⟩) 19 c), isV (.pointer (some ⟨ab, ao + 14, none⟩)), isV (.int .u8 0), isV (.bool true), isV (.bool true), isV (.bool true), isV (.int .i64 0), isV (.bool true), isV (.bool true), isV (.bool true), isV (.agg #[Value.int .i64 1, Value.int .i64 1, Value.int .i64 2, Value.int .i64 3, Value.int .i64 4, Value.int .i64 5, Value.bool true, (.slice ua 1 uc), (Value.slice none 0 0), (Value.slice none 0 0), (Value.slice none 0 0), (Value.int .i64 0), (Value.slice none 0 0), (Value.slice none 0 0), (Value.slice none 0 0), (Value.slice none 0 0), (Value.int .i64 0)]), exP, isV (.bool true), isV (.bool true), isV (.bool true), isV (.int .i64 5), isV (.bool true), isV (.bool true), isV (.bool true)])
def fnB (ab ao c g : Nat) : List (Nat × Value) := (1, (.slice (some ⟨ab, ao, none⟩) 19 c)) :: (2, (.int .i64 0)) :: (3, (.pointer (some ⟨g, 0, none⟩))) :: (4, (.int .i64 0)) :: (6, (.int .i64 5)) :: []
set_option maxRecDepth 100000 in
set_option maxHeartbeats 16000000 in
theorem known_in (w : World) : Calls Tryz.prog 4 #[] w fun r W => r = .returned (.bool true) ∧ Below w.heap.size w W := by
  go_enter Tryz.func4, Tryz.ntmps4
  go_wp2_with fail
  refine (example_in _).mono ?_
  rintro r W1 ⟨u, rfl, hr, hb1⟩
  have B1 := hide hb1
  have HE := hide (Encode_in u W1 hr)
  clear hr hb1
  go_wp2_with fail
  refine (unhide HE).mono ?_
  rintro r W2 ⟨v, rfl, ho, hb⟩
  obtain ⟨a, c, rfl⟩ := owns_form ho
  have B2 := hide (bnext (unhide B1) hb)
  have hrow : RB W2 (.slice a 19 c) all17 := RC.of_owns ho
  rw [all_len] at ho ⊢
  obtain ⟨ab, ao, ea⟩ : ∃ ab ao, a = some ⟨ab, ao, none⟩ := by
    rcases hrow with ⟨e, _⟩ | ⟨b, off, cap, e, _, _, _⟩
    · cases e
    · simp at e; exact ⟨b, off, e.1⟩
  subst ea
  have HR := hide hrow
  have HD := hide (Decode_ex hrow)
  clear ho hb hrow HE B1
  go_wp2_with fail
  refine (unhide HD).mono ?_
  rintro r W3 ⟨u2, rfl, ho2, hb3⟩
  obtain ⟨ua, uc, rfl⟩ := OwD.form ho2
  rw [show [((1 : Int), (7 : Int))].length = 1 from rfl] at ho2 ⊢
  have B3 := hide (bnext (unhide B2) hb3)
  have R3 := hide ((unhide HR).below hb3)
  have U3 := hide (show RI W3 (.slice ua 1 uc) [(1, 7)] from RC.of_owns ho2)
  have x3 := Bx.new W3 39 #[Value.int .i64 1, Value.int .i64 1, Value.int .i64 2, Value.int .i64 3, Value.int .i64 4, Value.int .i64 5, Value.bool true, (.slice ua 1 uc), (Value.slice none 0 0), (Value.slice none 0 0), (Value.slice none 0 0), (Value.int .i64 0), (Value.slice none 0 0), (Value.slice none 0 0), (Value.slice none 0 0), (Value.slice none 0 0), (Value.int .i64 0)]
  have B3' := hide (ballc (unhide B3) (.cells #[Value.int .i64 1, Value.int .i64 1, Value.int .i64 2, Value.int .i64 3, Value.int .i64 4, Value.int .i64 5, Value.bool true, (.slice ua 1 uc), (Value.slice none 0 0), (Value.slice none 0 0), (Value.slice none 0 0), (Value.int .i64 0), (Value.slice none 0 0), (Value.slice none 0 0), (Value.slice none 0 0), (Value.slice none 0 0), (Value.int .i64 0)] 39))
  have R3' := hide ((unhide R3).below (ballc (Below.refl _ _) (.cells #[Value.int .i64 1, Value.int .i64 1, Value.int .i64 2, Value.int .i64 3, Value.int .i64 4, Value.int .i64 5, Value.bool true, (.slice ua 1 uc), (Value.slice none 0 0), (Value.slice none 0 0), (Value.slice none 0 0), (Value.int .i64 0), (Value.slice none 0 0), (Value.slice none 0 0), (Value.slice none 0 0), (Value.slice none 0 0), (Value.int .i64 0)] 39)))
  have U3' := hide ((unhide U3).below (ballc (Below.refl _ _) (.cells #[Value.int .i64 1, Value.int .i64 1, Value.int .i64 2, Value.int .i64 3, Value.int .i64 4, Value.int .i64 5, Value.bool true, (.slice ua 1 uc), (Value.slice none 0 0), (Value.slice none 0 0), (Value.slice none 0 0), (Value.int .i64 0), (Value.slice none 0 0), (Value.slice none 0 0), (Value.slice none 0 0), (Value.slice none 0 0), (Value.int .i64 0)] 39)))
  have X3 := hide x3
  clear ho2 hb3 HD HR B2 B3 R3 U3 x3
  go_wp2_with fail
  refine (Decode_nil _).mono ?_
  rintro r W4 ⟨rfl, hb4⟩
  have B4 := hide (ballc (bnext (unhide B3') hb4) (.cells #[Value.int .i64 0, Value.int .i64 0, Value.int .i64 0, Value.int .i64 0, Value.int .i64 0, Value.int .i64 0, Value.bool false, (Value.slice none 0 0), (Value.slice none 0 0), (Value.slice none 0 0), (Value.slice none 0 0), (Value.int .i64 0), (Value.slice none 0 0), (Value.slice none 0 0), (Value.slice none 0 0), (Value.slice none 0 0), (Value.int .i64 0)] 39))
  have bz : Below W4.heap.size W4 (W4.alloc (.cells #[Value.int .i64 0, Value.int .i64 0, Value.int .i64 0, Value.int .i64 0, Value.int .i64 0, Value.int .i64 0, Value.bool false, (Value.slice none 0 0), (Value.slice none 0 0), (Value.slice none 0 0), (Value.slice none 0 0), (Value.int .i64 0), (Value.slice none 0 0), (Value.slice none 0 0), (Value.slice none 0 0), (Value.slice none 0 0), (Value.int .i64 0)] 39)) := ballc (Below.refl _ _) _
  have R4 := hide (((unhide R3').below hb4).below bz)
  have U4 := hide (((unhide U3').below hb4).below bz)
  have X4 := hide (((unhide X3).below hb4).below bz)
  clear hb4 bz B3' R3' U3' X3
  generalize W3.heap.size = g at *
  go_upto_region 4 with fail
  generalize W4.alloc (.cells #[Value.int .i64 0, Value.int .i64 0, Value.int .i64 0, Value.int .i64 0, Value.int .i64 0, Value.int .i64 0, Value.bool false, (Value.slice none 0 0), (Value.slice none 0 0), (Value.slice none 0 0), (Value.slice none 0 0), (Value.int .i64 0), (Value.slice none 0 0), (Value.slice none 0 0), (Value.slice none 0 0), (Value.slice none 0 0), (Value.int .i64 0)] 39) = Z at *
  have HU := hide (fun W (h : Below Z.heap.size Z W) => (unhide U4).below h)
  have HG := hide (fun W (h : Below Z.heap.size Z W) => (unhide X4).below h)
  have HC0 := hide (fun W (h : Below Z.heap.size Z W) => (show W.cell? ⟨ab, ao, none⟩ = some (.int .u8 11) from cellsR ((unhide R4).below h) 0 11 rfl))
  have HC4 := hide (fun W (h : Below Z.heap.size Z W) => (show W.cell? ⟨ab, ao + 4, none⟩ = some (.int .u8 1) from cellsR ((unhide R4).below h) 4 1 rfl))
  have HC14 := hide (fun W (h : Below Z.heap.size Z W) => (show W.cell? ⟨ab, ao + 14, none⟩ = some (.int .u8 0) from cellsR ((unhide R4).below h) 14 0 rfl))
  clear R4 U4 X4
  refine wp_region_any (by kernel_rfl) ?_
  change wpAny _ _ _ _ _ _ _ (World.drew _)
  refine region_invB 75 (fun j => if j = 54 then 0 else 21 + j) (fnB ab ao c g) (fun W => Below Z.heap.size Z W) (fnV Z.heap.size ab ao c g ua uc) (GF Z.heap.size) ?fit ?keep ?stable [(4, true), (9, true), (14, true), (18, true), (23, true), (29, true), (35, true), (41, true), (45, true), (50, true)] ?gs ?gv ?steps ?fin _ _ ?sz rfl ?base (Below.refl Z.heap.size Z).drew
  case fit => kernel_rfl
  case keep => intro w1 w2 h1 h2; exact h1.trans h2.1
  case gs => kernel_rfl
  case gv =>
    as_aux_lemma =>
    intro p hp w v hv
    repeat (first | (rcases List.mem_cons.1 hp with rfl | hp; · exact hv) | cases hp)
  case sz => rfl
  case base => as_aux_lemma => intro p hp; repeat (first | (rcases List.mem_cons.1 hp with rfl | hp; · rfl) | cases hp)
  case stable =>
    as_aux_lemma =>
    intro j w1 w2 v hJ hv hG
    refine valsOf_stable (J := fun _ => True) (G := GF Z.heap.size) (Stables.all ?_) j w1 w2 v trivial hv hG
    refine Stables.other (fun _ _ _ _ h hg => by exact rowP.gf h hg) ?_
    refine Stables.other (fun _ _ _ _ h hg => by exact rowP.gf h hg) ?_
    refine Stables.same ?_
    refine Stables.same ?_
    refine Stables.same ?_
    refine Stables.other (fun _ _ _ _ h hg => by obtain ⟨b, e, q⟩ := h; exact ⟨b, e, RC.gf q hg⟩) ?_
    refine Stables.same ?_
    refine Stables.same ?_
    refine Stables.same ?_
    refine Stables.same ?_
    refine Stables.same ?_
    refine Stables.same ?_
    refine Stables.same ?_
    refine Stables.same ?_
    refine Stables.same ?_
    refine Stables.same ?_
    refine Stables.same ?_
    refine Stables.same ?_
    refine Stables.same ?_
    refine Stables.same ?_
    refine Stables.same ?_
    refine Stables.same ?_
    refine Stables.same ?_
    refine Stables.same ?_
    refine Stables.same ?_
    refine Stables.same ?_
    refine Stables.same ?_
    refine Stables.same ?_
    refine Stables.same ?_
    refine Stables.same ?_
    refine Stables.same ?_
    refine Stables.same ?_
    refine Stables.same ?_
    refine Stables.same ?_
    refine Stables.same ?_
    refine Stables.same ?_
    refine Stables.same ?_
    refine Stables.same ?_
    refine Stables.same ?_
    refine Stables.same ?_
    refine Stables.same ?_
    refine Stables.same ?_
    refine Stables.same ?_
    refine Stables.same ?_
    refine Stables.same ?_
    refine Stables.same ?_
    refine Stables.same ?_
    refine Stables.other (fun _ _ _ _ h hg => by obtain ⟨b, e, q⟩ := h; exact ⟨b, e, RC.gf q hg⟩) ?_
    refine Stables.same ?_
    refine Stables.same ?_
    refine Stables.same ?_
    refine Stables.same ?_
    refine Stables.same ?_
    refine Stables.same ?_
    refine Stables.same ?_
    exact Stables.nil
  case steps =>
    refine .cons (by
      intro ρ w hρ hJ hb hd
      exact step_val (v := .slice (some ⟨w.heap.size, 0, none⟩) 9 9) (w' := w.alloc (.cells c9 5)) (by simp [go_sem, execOp, hρ.const, c9]) ⟨GF.of_below (ballc (Below.refl _ _) _) hJ.size, show rowP _ _ _ from ⟨w.heap.size, _, rfl, hJ.size, row9 w⟩⟩) ?_
    refine .cons (by
      intro ρ w hρ hJ hb hd
      obtain ⟨rb, lk, d0, hrb, hrw⟩ : ∃ b lk, ρ (.tmp 21) = (.slice (some ⟨b, 0, none⟩) 9 9) ∧ Z.heap.size ≤ b ∧ w.heap[b]? = some (.cells c9 5 lk) := hd 0 _ rfl rfl
      obtain ⟨W2, hcv, hg2, hr2⟩ := conv9 hrb hrw
      exact step_val (v := .slice (some ⟨rb, 0, none⟩) 9 9) (w' := W2) (by simp [go_sem, execOp, d0, hcv]) ⟨hg2, hr2⟩) ?_
    refine .cons (by
      intro ρ w hρ hJ hb hd
      obtain ⟨rb, d0, hrw⟩ := rowP.rb (show rowP Z.heap.size w (ρ (.tmp 22)) from hd 0 _ rfl rfl)
      refine step_func 5 _ _ #[(.slice (some ⟨rb, 0, none⟩) 9 9)] hρ rfl (enters_of Tryz.func5 (by kernel_rfl) rfl) (by simp [d0]) ?_
      refine (Sum_in _ l9 w hrw (by decide)).mono ?_
      rintro e W' ⟨rfl, hb2⟩
      exact ⟨_, rfl, GF.of_below hb2 hJ.size, by show Value.int .u32 (uI (crc l9)) = _; rw [sum9]⟩) ?_
    refine .cons (by
      intro ρ w hρ hJ hb hd
      have d0 : ρ (.tmp 23) = (.int .u32 3421780262) := hd 0 _ rfl rfl
      exact Fsx.eq hρ rfl (fun _ => by simp [go_sem]) d0) ?_
    refine .cons (by
      intro ρ w hρ hJ hb hd
      have d0 : ρ (.tmp 24) = (.bool true) := hd 0 _ rfl rfl
      exact Fsx.mv rfl d0) ?_
    refine .cons (by
      intro ρ w hρ hJ hb hd
      refine step_func 9 _ _ #[] hρ rfl (enters_of Tryz.func9 (by kernel_rfl) rfl) (by simp [hρ.const]) ?_
      refine (example_in w).mono ?_
      rintro e W' ⟨u, rfl, hr, hb2⟩
      exact ⟨_, rfl, GF.of_below hb2 hJ.size, show exP _ _ from ⟨u, rfl, hr⟩⟩) ?_
    refine .cons (by
      intro ρ w hρ hJ hb hd
      obtain ⟨u, d0, hru⟩ : ∃ u, ρ (.tmp 26) = .agg #[Value.int .i64 1, Value.int .i64 1, Value.int .i64 2, Value.int .i64 3, Value.int .i64 4, Value.int .i64 5, Value.bool true, u, (Value.slice none 0 0), (Value.slice none 0 0), (Value.slice none 0 0), (Value.int .i64 0), (Value.slice none 0 0), (Value.slice none 0 0), (Value.slice none 0 0), (Value.slice none 0 0), (Value.int .i64 0)] ∧ RI w u [(1, 7)] := hd 0 _ rfl rfl
      refine step_func 11 _ _ #[.agg #[Value.int .i64 1, Value.int .i64 1, Value.int .i64 2, Value.int .i64 3, Value.int .i64 4, Value.int .i64 5, Value.bool true, u, (Value.slice none 0 0), (Value.slice none 0 0), (Value.slice none 0 0), (Value.int .i64 0), (Value.slice none 0 0), (Value.slice none 0 0), (Value.slice none 0 0), (Value.slice none 0 0), (Value.int .i64 0)]] hρ rfl (enters_of Tryz.func11 (by kernel_rfl) rfl) (by simp [d0]) ?_
      refine (fCheck_ex u w hru).mono ?_
      rintro e W' ⟨rfl, hb2⟩
      exact ⟨_, rfl, GF.of_below hb2 hJ.size, rfl⟩) ?_
    refine .cons (by
      intro ρ w hρ hJ hb hd
      have d0 : ρ (.tmp 27) = (.int .i64 0) := hd 0 _ rfl rfl
      exact Fsx.eq hρ rfl (fun _ => by simp [go_sem]) d0) ?_
    refine .cons (by
      intro ρ w hρ hJ hb hd
      have d0 : ρ (.tmp 25) = (.bool true) := hd 0 _ rfl rfl
      have d1 : ρ (.tmp 28) = (.bool true) := hd 1 _ rfl rfl
      exact Fsx.pk rfl d0 d1) ?_
    refine .cons (by
      intro ρ w hρ hJ hb hd
      have d0 : ρ (.tmp 29) = (.bool true) := hd 0 _ rfl rfl
      exact Fsx.mv rfl d0) ?_
    refine .cons (by
      intro ρ w hρ hJ hb hd
      exact step_val (v := (.agg #[Value.int .i64 0, Value.int .i64 0, Value.int .i64 0, Value.int .i64 0, Value.int .i64 0, Value.int .i64 0, Value.bool false, (Value.slice none 0 0), (Value.slice none 0 0), (Value.slice none 0 0), (Value.slice none 0 0), (Value.int .i64 0), (Value.slice none 0 0), (Value.slice none 0 0), (Value.slice none 0 0), (Value.slice none 0 0), (Value.int .i64 0)])) (w' := w) (by simp [go_sem, execOp, hρ.const]) ⟨GF.refl _ _, rfl⟩) ?_
    refine .cons (by
      intro ρ w hρ hJ hb hd
      have d0 : ρ (.tmp 31) = (.agg #[Value.int .i64 0, Value.int .i64 0, Value.int .i64 0, Value.int .i64 0, Value.int .i64 0, Value.int .i64 0, Value.bool false, (Value.slice none 0 0), (Value.slice none 0 0), (Value.slice none 0 0), (Value.slice none 0 0), (Value.int .i64 0), (Value.slice none 0 0), (Value.slice none 0 0), (Value.slice none 0 0), (Value.slice none 0 0), (Value.int .i64 0)]) := hd 0 _ rfl rfl
      refine step_func 11 _ _ #[.agg #[Value.int .i64 0, Value.int .i64 0, Value.int .i64 0, Value.int .i64 0, Value.int .i64 0, Value.int .i64 0, Value.bool false, (Value.slice none 0 0), (Value.slice none 0 0), (Value.slice none 0 0), (Value.slice none 0 0), (Value.int .i64 0), (Value.slice none 0 0), (Value.slice none 0 0), (Value.slice none 0 0), (Value.slice none 0 0), (Value.int .i64 0)]] hρ rfl (enters_of Tryz.func11 (by kernel_rfl) rfl) (by simp [d0]) ?_
      refine (fCheck_zr (.int .i64 0) w).mono ?_
      rintro e W' ⟨rfl, hb2⟩
      exact ⟨_, rfl, GF.of_below hb2 hJ.size, rfl⟩) ?_
    refine .cons (by
      intro ρ w hρ hJ hb hd
      have d0 : ρ (.tmp 32) = (.int .i64 1) := hd 0 _ rfl rfl
      exact Fsx.eq hρ rfl (fun _ => by simp [go_sem]) d0) ?_
    refine .cons (by
      intro ρ w hρ hJ hb hd
      have d0 : ρ (.tmp 30) = (.bool true) := hd 0 _ rfl rfl
      have d1 : ρ (.tmp 33) = (.bool true) := hd 1 _ rfl rfl
      exact Fsx.pk rfl d0 d1) ?_
    refine .cons (by
      intro ρ w hρ hJ hb hd
      have d0 : ρ (.tmp 34) = (.bool true) := hd 0 _ rfl rfl
      exact Fsx.mv rfl d0) ?_
    refine .cons (by
      intro ρ w hρ hJ hb hd
      have d0 : ρ (.tmp 2) = (.int .i64 0) := hb (2, _) (List.mem_of_getElem? (i := 1) rfl)
      exact Fsx.mv rfl d0) ?_
    refine .cons (by
      intro ρ w hρ hJ hb hd
      have d0 : ρ (.tmp 36) = (.int .i64 0) := hd 0 _ rfl rfl
      exact Fsx.eq hρ rfl (fun _ => by simp [go_sem]) d0) ?_
    refine .cons (by
      intro ρ w hρ hJ hb hd
      have d0 : ρ (.tmp 35) = (.bool true) := hd 0 _ rfl rfl
      have d1 : ρ (.tmp 37) = (.bool true) := hd 1 _ rfl rfl
      exact Fsx.pk rfl d0 d1) ?_
    refine .cons (by
      intro ρ w hρ hJ hb hd
      have d0 : ρ (.tmp 38) = (.bool true) := hd 0 _ rfl rfl
      exact Fsx.mv rfl d0) ?_
    refine .cons (by
      intro ρ w hρ hJ hb hd
      have d0 : ρ (.tmp 1) = (.slice (some ⟨ab, ao, none⟩) 19 c) := hb (1, _) (List.mem_of_getElem? (i := 0) rfl)
      exact Fsx.mv rfl d0) ?_
    refine .cons (by
      intro ρ w hρ hJ hb hd
      have d0 : ρ (.tmp 40) = (.slice (some ⟨ab, ao, none⟩) 19 c) := hd 0 _ rfl rfl
      exact step_val (v := (.int .i64 19)) (w' := w) (by simp [go_sem, execOp, d0, hρ.const]) ⟨GF.refl _ _, rfl⟩) ?_
    refine .cons (by
      intro ρ w hρ hJ hb hd
      have d0 : ρ (.tmp 41) = (.int .i64 19) := hd 0 _ rfl rfl
      exact Fsx.eq hρ rfl (fun _ => by simp [go_sem]) d0) ?_
    refine .cons (by
      intro ρ w hρ hJ hb hd
      have d0 : ρ (.tmp 39) = (.bool true) := hd 0 _ rfl rfl
      have d1 : ρ (.tmp 42) = (.bool true) := hd 1 _ rfl rfl
      exact Fsx.pk rfl d0 d1) ?_
    refine .cons (by
      intro ρ w hρ hJ hb hd
      have d0 : ρ (.tmp 43) = (.bool true) := hd 0 _ rfl rfl
      exact Fsx.mv rfl d0) ?_
    refine .cons (by
      intro ρ w hρ hJ hb hd
      have d0 : ρ (.tmp 1) = (.slice (some ⟨ab, ao, none⟩) 19 c) := hb (1, _) (List.mem_of_getElem? (i := 0) rfl)
      exact Fsx.mv rfl d0) ?_
    refine .cons (by
      intro ρ w hρ hJ hb hd
      have d0 : ρ (.tmp 45) = (.slice (some ⟨ab, ao, none⟩) 19 c) := hd 0 _ rfl rfl
      exact step_val (v := (.pointer (some ⟨ab, ao, none⟩))) (w' := w) (by simp [go_sem, execOp, d0, hρ.const]) ⟨GF.refl _ _, rfl⟩) ?_
    refine .cons (by
      intro ρ w hρ hJ hb hd
      have d0 : ρ (.tmp 46) = (.pointer (some ⟨ab, ao, none⟩)) := hd 0 _ rfl rfl
      have cc := unhide HC0 w hJ
      exact step_val (v := (.int .u8 11)) (w' := w) (by simp [go_sem, execOp, d0, cc]) ⟨GF.refl _ _, rfl⟩) ?_
    refine .cons (by
      intro ρ w hρ hJ hb hd
      have d0 : ρ (.tmp 47) = (.int .u8 11) := hd 0 _ rfl rfl
      exact Fsx.eq hρ rfl (fun _ => by simp [go_sem]) d0) ?_
    refine .cons (by
      intro ρ w hρ hJ hb hd
      have d0 : ρ (.tmp 44) = (.bool true) := hd 0 _ rfl rfl
      have d1 : ρ (.tmp 48) = (.bool true) := hd 1 _ rfl rfl
      exact Fsx.pk rfl d0 d1) ?_
    refine .cons (by
      intro ρ w hρ hJ hb hd
      have d0 : ρ (.tmp 49) = (.bool true) := hd 0 _ rfl rfl
      exact Fsx.mv rfl d0) ?_
    refine .cons (by
      intro ρ w hρ hJ hb hd
      have d0 : ρ (.tmp 1) = (.slice (some ⟨ab, ao, none⟩) 19 c) := hb (1, _) (List.mem_of_getElem? (i := 0) rfl)
      exact Fsx.mv rfl d0) ?_
    refine .cons (by
      intro ρ w hρ hJ hb hd
      have d0 : ρ (.tmp 51) = (.slice (some ⟨ab, ao, none⟩) 19 c) := hd 0 _ rfl rfl
      exact step_val (v := (.pointer (some ⟨ab, ao + 4, none⟩))) (w' := w) (by simp [go_sem, execOp, d0, hρ.const]) ⟨GF.refl _ _, rfl⟩) ?_
    refine .cons (by
      intro ρ w hρ hJ hb hd
      have d0 : ρ (.tmp 52) = (.pointer (some ⟨ab, ao + 4, none⟩)) := hd 0 _ rfl rfl
      have cc := unhide HC4 w hJ
      exact step_val (v := (.int .u8 1)) (w' := w) (by simp [go_sem, execOp, d0, cc]) ⟨GF.refl _ _, rfl⟩) ?_
    refine .cons (by
      intro ρ w hρ hJ hb hd
      have d0 : ρ (.tmp 53) = (.int .u8 1) := hd 0 _ rfl rfl
      exact Fsx.eq hρ rfl (fun _ => by simp [go_sem]) d0) ?_
    refine .cons (by
      intro ρ w hρ hJ hb hd
      have d0 : ρ (.tmp 50) = (.bool true) := hd 0 _ rfl rfl
      have d1 : ρ (.tmp 54) = (.bool true) := hd 1 _ rfl rfl
      exact Fsx.pk rfl d0 d1) ?_
    refine .cons (by
      intro ρ w hρ hJ hb hd
      have d0 : ρ (.tmp 55) = (.bool true) := hd 0 _ rfl rfl
      exact Fsx.mv rfl d0) ?_
    refine .cons (by
      intro ρ w hρ hJ hb hd
      have d0 : ρ (.tmp 1) = (.slice (some ⟨ab, ao, none⟩) 19 c) := hb (1, _) (List.mem_of_getElem? (i := 0) rfl)
      exact Fsx.mv rfl d0) ?_
    refine .cons (by
      intro ρ w hρ hJ hb hd
      have d0 : ρ (.tmp 57) = (.slice (some ⟨ab, ao, none⟩) 19 c) := hd 0 _ rfl rfl
      exact step_val (v := (.pointer (some ⟨ab, ao + 14, none⟩))) (w' := w) (by simp [go_sem, execOp, d0, hρ.const]) ⟨GF.refl _ _, rfl⟩) ?_
    refine .cons (by
      intro ρ w hρ hJ hb hd
      have d0 : ρ (.tmp 58) = (.pointer (some ⟨ab, ao + 14, none⟩)) := hd 0 _ rfl rfl
      have cc := unhide HC14 w hJ
      exact step_val (v := (.int .u8 0)) (w' := w) (by simp [go_sem, execOp, d0, cc]) ⟨GF.refl _ _, rfl⟩) ?_
    refine .cons (by
      intro ρ w hρ hJ hb hd
      have d0 : ρ (.tmp 59) = (.int .u8 0) := hd 0 _ rfl rfl
      exact Fsx.eq hρ rfl (fun _ => by simp [go_sem]) d0) ?_
    refine .cons (by
      intro ρ w hρ hJ hb hd
      have d0 : ρ (.tmp 56) = (.bool true) := hd 0 _ rfl rfl
      have d1 : ρ (.tmp 60) = (.bool true) := hd 1 _ rfl rfl
      exact Fsx.pk rfl d0 d1) ?_
    refine .cons (by
      intro ρ w hρ hJ hb hd
      have d0 : ρ (.tmp 61) = (.bool true) := hd 0 _ rfl rfl
      exact Fsx.mv rfl d0) ?_
    refine .cons (by
      intro ρ w hρ hJ hb hd
      have d0 : ρ (.tmp 4) = (.int .i64 0) := hb (4, _) (List.mem_of_getElem? (i := 3) rfl)
      exact Fsx.mv rfl d0) ?_
    refine .cons (by
      intro ρ w hρ hJ hb hd
      have d0 : ρ (.tmp 63) = (.int .i64 0) := hd 0 _ rfl rfl
      exact Fsx.eq hρ rfl (fun _ => by simp [go_sem]) d0) ?_
    refine .cons (by
      intro ρ w hρ hJ hb hd
      have d0 : ρ (.tmp 62) = (.bool true) := hd 0 _ rfl rfl
      have d1 : ρ (.tmp 64) = (.bool true) := hd 1 _ rfl rfl
      exact Fsx.pk rfl d0 d1) ?_
    refine .cons (by
      intro ρ w hρ hJ hb hd
      have d0 : ρ (.tmp 65) = (.bool true) := hd 0 _ rfl rfl
      exact Fsx.mv rfl d0) ?_
    refine .cons (by
      intro ρ w hρ hJ hb hd
      have d0 : ρ (.tmp 3) = (.pointer (some ⟨g, 0, none⟩)) := hb (3, _) (List.mem_of_getElem? (i := 2) rfl)
      exact Fsx.ldF rfl d0 (unhide HG w hJ) rfl) ?_
    refine .cons (by
      intro ρ w hρ hJ hb hd
      refine step_func 9 _ _ #[] hρ rfl (enters_of Tryz.func9 (by kernel_rfl) rfl) (by simp [hρ.const]) ?_
      refine (example_in w).mono ?_
      rintro e W' ⟨u, rfl, hr, hb2⟩
      exact ⟨_, rfl, GF.of_below hb2 hJ.size, show exP _ _ from ⟨u, rfl, hr⟩⟩) ?_
    refine .cons (by
      intro ρ w hρ hJ hb hd
      have d0 : ρ (.tmp 67) = (.agg #[Value.int .i64 1, Value.int .i64 1, Value.int .i64 2, Value.int .i64 3, Value.int .i64 4, Value.int .i64 5, Value.bool true, (.slice ua 1 uc), (Value.slice none 0 0), (Value.slice none 0 0), (Value.slice none 0 0), (Value.int .i64 0), (Value.slice none 0 0), (Value.slice none 0 0), (Value.slice none 0 0), (Value.slice none 0 0), (Value.int .i64 0)]) := hd 0 _ rfl rfl
      obtain ⟨u, d1, hru⟩ : ∃ u, ρ (.tmp 68) = .agg #[Value.int .i64 1, Value.int .i64 1, Value.int .i64 2, Value.int .i64 3, Value.int .i64 4, Value.int .i64 5, Value.bool true, u, (Value.slice none 0 0), (Value.slice none 0 0), (Value.slice none 0 0), (Value.int .i64 0), (Value.slice none 0 0), (Value.slice none 0 0), (Value.slice none 0 0), (Value.slice none 0 0), (Value.int .i64 0)] ∧ RI w u [(1, 7)] := hd 1 _ rfl rfl
      refine step_func 12 _ _ #[.agg #[Value.int .i64 1, Value.int .i64 1, Value.int .i64 2, Value.int .i64 3, Value.int .i64 4, Value.int .i64 5, Value.bool true, (.slice ua 1 uc), (Value.slice none 0 0), (Value.slice none 0 0), (Value.slice none 0 0), (Value.int .i64 0), (Value.slice none 0 0), (Value.slice none 0 0), (Value.slice none 0 0), (Value.slice none 0 0), (Value.int .i64 0)], .agg #[Value.int .i64 1, Value.int .i64 1, Value.int .i64 2, Value.int .i64 3, Value.int .i64 4, Value.int .i64 5, Value.bool true, u, (Value.slice none 0 0), (Value.slice none 0 0), (Value.slice none 0 0), (Value.int .i64 0), (Value.slice none 0 0), (Value.slice none 0 0), (Value.slice none 0 0), (Value.slice none 0 0), (Value.int .i64 0)]] hρ rfl (enters_of Tryz.func12 (by kernel_rfl) rfl) (by simp [d0, d1]) ?_
      refine (same_ex (.slice ua 1 uc) u w (unhide HU _ hJ) hru).mono ?_
      rintro e W' ⟨rfl, hb2⟩
      exact ⟨_, rfl, GF.of_below hb2 hJ.size, rfl⟩) ?_
    refine .cons (by
      intro ρ w hρ hJ hb hd
      have d0 : ρ (.tmp 66) = (.bool true) := hd 0 _ rfl rfl
      have d1 : ρ (.tmp 69) = (.bool true) := hd 1 _ rfl rfl
      exact Fsx.pk rfl d0 d1) ?_
    refine .cons (by
      intro ρ w hρ hJ hb hd
      have d0 : ρ (.tmp 70) = (.bool true) := hd 0 _ rfl rfl
      exact Fsx.mv rfl d0) ?_
    refine .cons (by
      intro ρ w hρ hJ hb hd
      have d0 : ρ (.tmp 6) = (.int .i64 5) := hb (6, _) (List.mem_of_getElem? (i := 4) rfl)
      exact Fsx.mv rfl d0) ?_
    refine .cons (by
      intro ρ w hρ hJ hb hd
      have d0 : ρ (.tmp 72) = (.int .i64 5) := hd 0 _ rfl rfl
      exact Fsx.eq hρ rfl (fun _ => by simp [go_sem]) d0) ?_
    refine .cons (by
      intro ρ w hρ hJ hb hd
      have d0 : ρ (.tmp 71) = (.bool true) := hd 0 _ rfl rfl
      have d1 : ρ (.tmp 73) = (.bool true) := hd 1 _ rfl rfl
      exact Fsx.pk rfl d0 d1) ?_
    refine .cons (by
      intro ρ w hρ hJ hb hd
      have d0 : ρ (.tmp 74) = (.bool true) := hd 0 _ rfl rfl
      exact Fsx.asg rfl d0) ?_
    exact .nil _
  case fin =>
    intro aQ W5 hsz2 hds hb hJ hv
    have e0 : aQ.eval (.tmp 0) = .bool true := hv 54 (by decide)
    have BE := hide (bnext (unhide B4) hJ)
    obtain ⟨f9, rfl⟩ : ∃ f9 : Nat → Value, aQ = ⟨#[f9 0, f9 1, f9 2, f9 3, f9 4, f9 5, f9 6, f9 7, f9 8, f9 9, f9 10, f9 11, f9 12, f9 13, f9 14, f9 15, f9 16, f9 17, f9 18, f9 19, f9 20, f9 21, f9 22, f9 23, f9 24, f9 25, f9 26, f9 27, f9 28, f9 29, f9 30, f9 31, f9 32, f9 33, f9 34, f9 35, f9 36, f9 37, f9 38, f9 39, f9 40, f9 41, f9 42, f9 43, f9 44, f9 45, f9 46, f9 47, f9 48, f9 49, f9 50, f9 51, f9 52, f9 53, f9 54, f9 55, f9 56, f9 57, f9 58, f9 59, f9 60, f9 61, f9 62, f9 63, f9 64, f9 65, f9 66, f9 67, f9 68, f9 69, f9 70, f9 71, f9 72, f9 73, f9 74], []⟩ := ⟨fun k => aQ.eval (.tmp k), frame_fnF 75 hsz2 hds⟩
    change f9 0 = _ at e0
    rw [e0]
    clear e0 hsz2 hds hb hv hJ
    go_wp2
    go_ret
    exact ⟨rfl, unhide BE⟩
end Go.Proofs.YtkffonoifbaifaaGreat
