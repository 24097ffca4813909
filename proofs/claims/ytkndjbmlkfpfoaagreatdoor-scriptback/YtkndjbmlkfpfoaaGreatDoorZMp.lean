/-
  The two maps of package quote: which rune stands for a letter behind a backslash, and back.
-/
import Derived.Test.YtkndjbmlkfpfoaaGreatDoorZPXToPQ
import Derived.Test.YtkndjbmlkfpfoaaGreatDoorZDecToDec4
import Derived.WalkKit
import Derived.WalkSpells
import Derived.WalkLawsBesides
import Derived.Maps.OwnSet
import Derived.Maps.RangeWalk
import Derived.BigCall

set_option linter.unusedSimpArgs false
set_option linter.unusedVariables false
namespace Go.Proofs.YtkndjbmlkfpfoaaGreatDoor
open Go.RowKit Go.Lib Go.Maps


theorem lawU8 : Keyed Tryz.prog 5 := int_keyed Tryz.underlying5
theorem lawI32 : Keyed Tryz.prog 21 := int_keyed Tryz.underlying21
theorem zeroI32 (w : World) : (zeroValue 21).run Tryz.prog w = .ok (.int .i32 0) w := by kernel_rfl
theorem zeroU8 (w : World) : (zeroValue 5).run Tryz.prog w = .ok (.int .u8 0) w := by kernel_rfl

def putE (D : DataW Unit) (x c : Int) : DataW Unit := D.put (.int .u8 x) (.lit (.int .i32 c))
def mapE : DataW Unit := putE (putE (putE (putE (putE (.map []) 34 34) 92 92) 110 10) 114 13) 116 9
theorem mapE_eq : mapE = .map [(.int .u8 34, .lit (.int .i32 34)), (.int .u8 92, .lit (.int .i32 92)), (.int .u8 110, .lit (.int .i32 10)), (.int .u8 114, .lit (.int .i32 13)), (.int .u8 116, .lit (.int .i32 9))] := by kernel_rfl

/-- which rune stands for a letter; 0: none -/
def ruN (b : Nat) : Nat := if b = 34 then 34 else if b = 92 then 92 else if b = 110 then 10 else if b = 114 then 13 else if b = 116 then 9 else 0

set_option maxRecDepth 100000 in
theorem escapes_in (w : World) :
    Calls Tryz.prog 104 #[] w fun e w' => e = .returned (.map (some w.heap.size)) ∧ w'.ownsMap Tryz.prog 5 (plainElem Tryz.prog 21) w.heap.size 5 mapE ∧ Below w.heap.size w w' := by
  have hmm := @run_makeMap Tryz.prog
  have o0 : (w.alloc (.map #[] 0)).ownsMap (H := Unit) Tryz.prog 5 (plainElem Tryz.prog 21) w.heap.size 0 (.map []) := World.ownsMap_made _ _ _ _
  obtain ⟨w1, e1, o1, g1⟩ := o0.update lawU8 Tryz.underlying174 (by unfold maxLen; omega) (keyOf_int_mk Tryz.underlying5 (a := 34) (by decide)) (plainElem_int Tryz.underlying21 (a := 34) (by decide))
  obtain ⟨w2, e2, o2, g2⟩ := o1.update lawU8 Tryz.underlying174 (by unfold maxLen; omega) (keyOf_int_mk Tryz.underlying5 (a := 92) (by decide)) (plainElem_int Tryz.underlying21 (a := 92) (by decide))
  obtain ⟨w3, e3, o3, g3⟩ := o2.update lawU8 Tryz.underlying174 (by unfold maxLen; omega) (keyOf_int_mk Tryz.underlying5 (a := 110) (by decide)) (plainElem_int Tryz.underlying21 (a := 10) (by decide))
  obtain ⟨w4, e4, o4, g4⟩ := o3.update lawU8 Tryz.underlying174 (by unfold maxLen; omega) (keyOf_int_mk Tryz.underlying5 (a := 114) (by decide)) (plainElem_int Tryz.underlying21 (a := 13) (by decide))
  obtain ⟨w5, e5, o5, g5⟩ := o4.update lawU8 Tryz.underlying174 (by unfold maxLen; omega) (keyOf_int_mk Tryz.underlying5 (a := 116) (by decide)) (plainElem_int Tryz.underlying21 (a := 9) (by decide))
  have O := hide o5
  have b0 : Below w.heap.size w (w.alloc (.map #[] 0)) := (Below.refl _ _).alloc (Nat.le_refl _) _
  have B := hide ((((((b0.grown g1 (by simp) (fun j hj => by cases hj; exact Nat.le_refl _)).grown g2 (Nat.le_trans (by simp) g1.size) (fun j hj => by cases hj; exact Nat.le_refl _)).grown g3 (Nat.le_trans (Nat.le_trans (by simp) g1.size) g2.size) (fun j hj => by cases hj; exact Nat.le_refl _)).grown g4 (Nat.le_trans (Nat.le_trans (Nat.le_trans (by simp) g1.size) g2.size) g3.size) (fun j hj => by cases hj; exact Nat.le_refl _)).grown g5 (Nat.le_trans (Nat.le_trans (Nat.le_trans (Nat.le_trans (by simp) g1.size) g2.size) g3.size) g4.size) (fun j hj => by cases hj; exact Nat.le_refl _)))
  clear o0 o1 o2 o3 o4 o5 g1 g2 g3 g4 g5 b0
  go_enter Tryz.func104, Tryz.ntmps104
  go_wp2
  go_ret
  exact ⟨rfl, unhide O, unhide B⟩

theorem lit_i32 {a b : Int} (h : (Lit.int .i32 a) = (Lit.int .i32 b)) : a = b := by cases h; rfl
theorem keyLit (k : IntKind) (a : Int) : WideAt.IsKeyLit (.int k a) := trivial

theorem mapE_has (b : Nat) : Maps.has mapE (.int .u8 (b : Int)) = decide (ruN b ≠ 0) := by
  rw [mapE_eq]
  simp only [Maps.has, List.any_cons, List.any_nil, Lit.sameKey, true_and]
  unfold ruN
  (repeat' split) <;> simp <;> omega
theorem mapE_at (b : Nat) (h : ruN b ≠ 0) (zd : DataW Unit) : mapE.atKey (.int .u8 (b : Int)) zd = .lit (.int .i32 (ruN b : Nat)) := by
  have hb : b = 34 ∨ b = 92 ∨ b = 110 ∨ b = 114 ∨ b = 116 := by
    unfold ruN at h; (repeat' split at h) <;> omega
  rw [mapE_eq]
  rcases hb with rfl | rfl | rfl | rfl | rfl <;> rfl
theorem mapE_key (x : Int) (h : Maps.has mapE (.int .u8 x) = true) : x = 34 ∨ x = 92 ∨ x = 110 ∨ x = 114 ∨ x = 116 := by
  rw [mapE_eq] at h
  simp only [Maps.has, List.any_cons, List.any_nil, Lit.sameKey, true_and] at h
  simp at h
  omega
theorem not_has_at {D : DataW Unit} {k : Lit} (h : Maps.has D k = false) (zd : DataW Unit) : D.atKey k zd = zd := by
  cases D <;> try rfl
  rename_i es
  have : es.find? (fun p => p.1.sameKey k) = none := by
    rw [List.find?_eq_none]
    intro p hp e
    have : es.any (fun p => p.1.sameKey k) = true := List.any_eq_true.2 ⟨p, hp, e⟩
    rw [show es.any (fun p => p.1.sameKey k) = false from h] at this
    cases this
  unfold DataW.atKey
  simp only [this]

def Let (D : DataW Unit) (left : Lit → Bool) : Prop := ∀ r : Nat, Maps.has D (.int .i32 (r : Int)) = (decide (ltN r ≠ 0) && !left (.int .u8 (ltN r : Nat))) ∧ (Maps.has D (.int .i32 (r : Int)) = true → ∀ zd, D.atKey (.int .i32 (r : Int)) zd = .lit (.int .u8 (ltN r : Nat)))

theorem let_start : Let (.map []) (Maps.has mapE) := fun r => by
  refine ⟨?_, fun h => by cases h⟩
  rw [mapE_has]
  unfold ruN ltN
  show false = _
  (repeat' split) <;> simp_all <;> omega

theorem let_step {D : DataW Unit} {left : Lit → Bool} (h : Let D left) (hm : IsMap D) {x c : Int} (hat : ∀ zd, mapE.atKey (.int .u8 x) zd = .lit (.int .i32 c)) :
    Let (D.put (.int .i32 c) (.lit (.int .u8 x))) (fun z => left z && !z.sameKey (.int .u8 x)) := by
  have hx : x = 34 ∨ x = 92 ∨ x = 110 ∨ x = 114 ∨ x = 116 := by
    cases hh : Maps.has mapE (.int .u8 x) with
    | true => exact mapE_key x hh
    | false =>
      have h1 := hat (.lit (.bool true))
      rw [not_has_at hh] at h1
      cases h1
  obtain ⟨c', x', ec, ex, hl⟩ : ∃ c' x' : Nat, c = (c' : Int) ∧ x = (x' : Int) ∧ ltN c' = x' ∧ x' ≠ 0 ∧ ∀ r, ltN r = x' → r = c' := by
    have inj : ∀ (r y : Nat), ltN r = y → y ≠ 0 → ruN y = r := by
      intro r y h hy
      unfold ltN at h
      unfold ruN
      (repeat' split at h) <;> (repeat' split) <;> omega
    rcases hx with rfl | rfl | rfl | rfl | rfl
    · refine ⟨34, 34, ?_, rfl, rfl, by decide, fun r hr => (inj r _ hr (by decide)).symm⟩
      have h1 := (mapE_at 34 (by decide) (.map [])).symm.trans (hat (.map [])); cases h1; rfl
    · refine ⟨92, 92, ?_, rfl, rfl, by decide, fun r hr => (inj r _ hr (by decide)).symm⟩
      have h1 := (mapE_at 92 (by decide) (.map [])).symm.trans (hat (.map [])); cases h1; rfl
    · refine ⟨10, 110, ?_, rfl, rfl, by decide, fun r hr => (inj r _ hr (by decide)).symm⟩
      have h1 := (mapE_at 110 (by decide) (.map [])).symm.trans (hat (.map [])); cases h1; rfl
    · refine ⟨13, 114, ?_, rfl, rfl, by decide, fun r hr => (inj r _ hr (by decide)).symm⟩
      have h1 := (mapE_at 114 (by decide) (.map [])).symm.trans (hat (.map [])); cases h1; rfl
    · refine ⟨9, 116, ?_, rfl, rfl, by decide, fun r hr => (inj r _ hr (by decide)).symm⟩
      have h1 := (mapE_at 116 (by decide) (.map [])).symm.trans (hat (.map [])); cases h1; rfl
  subst ec ex
  obtain ⟨hl, hx0, hun⟩ := hl
  intro r
  by_cases hr : r = c'
  · subst hr
    refine ⟨?_, fun _ zd => ?_⟩
    · rw [has_put_same hm (keyLit _ _), hl]
      simp [hx0, Lit.sameKey]
    · rw [atKey_put_same hm (keyLit _ _), hl]
  · have hne : (Lit.int .i32 (r : Int)) ≠ .int .i32 (c' : Int) := fun e => hr (by have := lit_i32 e; omega)
    rw [has_put_other hne]
    refine ⟨?_, fun hh zd => ?_⟩
    · rw [(h r).1]
      have : ((ltN r : Nat) : Int) ≠ (x' : Int) := fun e => hr (hun r (by omega))
      simp [Lit.sameKey, this]
    · rw [atKey_put_other hne]; exact (h r).2 hh zd

/-- a map that says which letter stands for a rune -/
def Knows (D : DataW Unit) : Prop := ∀ r : Nat, Maps.has D (.int .i32 (r : Int)) = decide (ltN r ≠ 0) ∧ (ltN r ≠ 0 → ∀ zd, D.atKey (.int .i32 (r : Int)) zd = .lit (.int .u8 (ltN r : Nat)))
theorem let_end {D : DataW Unit} {left : Lit → Bool} (h : Let D left) (hl : ∀ k, left k = false) : Knows D := fun r => by
  have h1 := (h r).1
  rw [hl] at h1
  simp only [Bool.not_false, Bool.and_true] at h1
  exact ⟨h1, fun hr => (h r).2 (by rw [h1]; simpa using hr)⟩

theorem ownsMap_below {H : Type} {P : Program} {k : TypeId} {R : Value → Option (DataW H × List MemPlace)} {w w' : World} {B b n : Nat} {D : DataW H} (h : w.ownsMap P k R b n D) (hB : Below B w w') (hlt : b < B) : w'.ownsMap P k R b n D := by
  obtain ⟨es, clock, hb, r⟩ := h
  exact ⟨es, clock, (hB.block b hlt).trans hb, r⟩

set_option maxRecDepth 100000 in
set_option maxHeartbeats 1000000 in
theorem letters_in (w : World) :
    Calls Tryz.prog 94 #[] w fun e w' => e = .returned (.map (some w.heap.size)) ∧ (∃ D, w'.ownsMap Tryz.prog 21 (plainElem Tryz.prog 5) w.heap.size 5 D ∧ Knows D) ∧ Below w.heap.size w w' := by
  have hmm := @run_makeMap Tryz.prog
  have e1 : (w.alloc (.map #[] 0)).heap.size = w.heap.size + 1 := by simp
  have hesc := fun W => hide (escapes_in W)
  go_enter Tryz.func94, Tryz.ntmps94
  go_wp2_with (first
    | (go_at_call 104; refine (unhide (hesc _)).mono ?_; rintro e w' ⟨rfl, hown, hbel⟩; rw [e1] at hown hbel ⊢)
    | (at_range; refine wpList_range_own _ rfl _ 174 rfl 5 21 lawU8 Tryz.underlying174 _ (w.heap.size + 1) 5 _ rfl hown ?_; intro w0 hrg0 hg0 hs0)
    | go_in)
  go_frame
  have hm0 := (ownsMap_below (World.ownsMap_made (H := Unit) w Tryz.prog 21 (plainElem Tryz.prog 5)) hbel (by omega)).kept hg0 (by simp)
  have hbw : Below w.heap.size w w0 := (((Below.refl _ _).alloc (Nat.le_refl _) _).trans (hbel.mono (Nat.le_succ _))).grown hg0 (by have := hbel.size; omega) (fun j hj => by cases hj)
  have hgt := hbel.size
  rw [e1] at hgt
  generalize hr : w'.heap.size = rB at *
  clear hr hesc hown hbel hg0 hmm e1
  go_loopw [7] (fun _ wr => ∃ (left : Lit → Bool) (cnt : Nat) (D : DataW Unit), wr.ranges Tryz.prog 5 (plainElem Tryz.prog 21) (w.heap.size + 1) rB 5 mapE left cnt ∧ cnt ≤ 5 ∧
      wr.ownsMap Tryz.prog 21 (plainElem Tryz.prog 5) w.heap.size (5 - cnt) D ∧ Let D left ∧ Below w.heap.size w wr) (fun _ wr => wr.rangeLeft (w.heap.size + 1) rB)
  case atStart => exact ⟨_, _, .map [], hrg0, by rw [mapE_eq]; exact Nat.le_refl _, hm0.mono (Nat.zero_le _), let_start, hbw⟩
  case round =>
    obtain ⟨left, cnt, D, hrg, hcs, hout, hA, hnx⟩ := hrel
    go_wp2_with (first
      | (at_next; refine wpList_next_ranges_ii _ rfl _ rfl 5 21 .u8 .i32 lawU8 Tryz.underlying5 Tryz.underlying21 (w.heap.size + 1) rB 5 _ _ _ rfl hrg ?_ ?_)
      | go_in)
    · intro hc0 hl0
      go_wp2
      go_ret
      exact ⟨rfl, ⟨D, hout.mono (by omega), let_end hA hl0⟩, hnx⟩
    · intro x c w1 cnt1 hwx hwc hlx hat hrg1 hlt hg1 hs1 hen
      have hout1 := hout.kept hg1 (fun e => by have := Option.some.inj e; omega)
      go_wp2_with (first
        | (at_mapUpdate; refine wpList_mapUpdate_own _ rfl _ _ _ 166 rfl 21 5 lawI32 Tryz.underlying166 _ w.heap.size _ _ rfl hout1 (by unfold maxLen; omega) _ _ _ rfl rfl (keyOf_int_mk Tryz.underlying21 hwc) _ [] (plainElem_int Tryz.underlying5 hwx) ?_; intro w2 hout2 hg2; go_frame)
        | go_in)
      have hrg2 := hrg1.kept hg2 (fun e => by have := Option.some.inj e; omega) (fun e => by have := Option.some.inj e; omega)
      go_roundw
      case rel =>
        exact ⟨_, cnt1, _, hrg2, by omega, hout2.mono (by omega), let_step hA hout.isMap hat,
          (hnx.grown hg1 hnx.size (fun j hj => by cases hj; omega)).grown hg2 (by have := hnx.size; omega) (fun j hj => by cases hj; exact Nat.le_refl _)⟩
      case measure => rw [hrg2.left_eq, hrg.left_eq]; exact hlt

end Go.Proofs.YtkndjbmlkfpfoaaGreatDoor
