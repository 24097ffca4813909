/-
  The document's own Net: changes, Alter.
-/
import Derived.Test.YteomalmflebkhaaZRfJ
set_option linter.unusedSimpArgs false
set_option linter.unusedVariables false
namespace Go.Proofs.Yteomalmflebkhaa
open Go.RowKit Go.Lib

variable {P N : Nat → Prop} {w W W' X Y : World} {b p f q g n k0 : Nat} {c : Cp} {s : Stn} {v u v1 v2 : Value} {e : Ending} {L : List (Cp × Value × Value)}

set_option maxRecDepth 100000 in
set_option maxHeartbeats 2000000 in
theorem rchanges_in (vd : Value) (d : List Int) (hd : RB w vd d) (hl : d.length ≤ 1000000) (a : Nat) (v : Value) (y : List Int) (hy : RB w v y) (hay : a + y.length ≤ d.length) : Calls Try.prog 49 #[vd, .int .i64 (a : Nat), v] w fun e W => e = .returned (.bool (chgB d (a : Nat) y)) ∧ Below w.heap.size w W := by
  obtain ⟨av, cv, rfl⟩ := hy.form
  obtain ⟨ad, cd, rfl⟩ := hd.form
  obtain ⟨R, hR⟩ : ∃ R, chgB d (a : Nat) y = R := ⟨_, rfl⟩
  rw [hR]
  have HR := hide hR
  obtain ⟨n, hn⟩ : ∃ n, y.length = n := ⟨_, rfl⟩
  obtain ⟨D, hD⟩ : ∃ D, d.length = D := ⟨_, rfl⟩
  have Hn := hide hn
  have HD := hide hD
  rw [hn, hD] at hay
  rw [hD] at hl
  rw [hn, hD]
  have HY := hide hy
  have HDD := hide hd
  clear hR hn hy hd hD
  go_enter Try.func49, Try.ntmps49
  go_wp2
  go_loopw [7] (fun iv wr => ∃ i : Nat, i ≤ n ∧ iv = .int .i64 (i : Nat) ∧ Hid (Below w.heap.size w wr) ∧ Hid ((d.drop a).take i = y.take i)) (fun iv _ => n - (RowKit.intOf iv).toNat)
  case atStart => exact ⟨0, Nat.zero_le _, rfl, hide (Below.refl _ _), hide (by simp)⟩
  case round =>
    obtain ⟨i, hi, rfl, HB, HE⟩ := hrel
    by_cases hlt : i < n
    · have hlt' : (i : Int) < (n : Int) := by omega
      have hi1 : i < y.length := by rw [unhide Hn]; exact hlt
      have hi2 : a + i < d.length := by rw [unhide HD]; omega
      have hv := List.getElem?_eq_getElem hi1
      have hu := List.getElem?_eq_getElem hi2
      have rv := (unhide HY).below (unhide HB)
      have ru := (unhide HDD).below (unhide HB)
      rw [show (Value.slice av y.length cv) = .slice av n cv by rw [unhide Hn]] at rv
      rw [show (Value.slice ad d.length cd) = .slice ad D cd by rw [unhide HD]] at ru
      obtain ⟨b1, o1, e1, _, k1⟩ := RB.at rv hv
      obtain ⟨b2, o2, e2, _, k2⟩ := RB.at ru hu
      subst e1 e2
      have hw1 : (a : Int) + (i : Int) ≤ 9223372036854775807 := by omega
      have hw2 : -9223372036854775808 ≤ (a : Int) + (i : Int) := by omega
      have hw3 : (a : Int) + (i : Int) < (D : Int) := by omega
      have hw4 : (0 : Int) ≤ (a : Int) + (i : Int) := by omega
      have hw5 : ((a : Int) + (i : Int)).toNat = a + i := by omega
      have hwr : IntKind.i64.wrap ((a : Int) + (i : Int)) = (a : Int) + (i : Int) := by simp only [IntKind.wrap_i64]; omega
      by_cases he : d[a + i] = y[i]
      · have hnq : (d[a + i] != y[i]) = false := by simpa using he
        have HE2 := hide (chg_next (unhide HE) hu hv he)
        have HB2 := hide ((unhide HB).drew)
        clear he hu hv ru rv HE HB
        generalize d[a + i] = e1 at *
        generalize y[i] = e2 at *
        go_wp2
        go_region
        go_wp2
        go_roundw
        case rel => exact ⟨i + 1, by omega, by go_num, HB2, HE2⟩
        case measure => show n - ((i : Int) + 1).toNat < n - ((i : Nat) : Int).toNat; omega
      · have hnq : (d[a + i] != y[i]) = true := by simpa using he
        have HR2 := hide (chg_no hu hv he)
        have HB2 := hide ((unhide HB).drew)
        clear he hu hv ru rv HE HB
        generalize d[a + i] = e1 at *
        generalize y[i] = e2 at *
        go_wp2
        go_region
        go_wp2
        go_ret
        exact ⟨by rw [← unhide HR, unhide HR2]; rfl, unhide HB2⟩
    · obtain rfl : i = n := by omega
      have hlt' : ¬ (i : Int) < (i : Int) := by omega
      have hRf : Hid (R = false) := by
        rw [← unhide HR]
        unfold chgB
        rw [Bool.not_eq_false', decide_eq_true_iff, Int.toNat_natCast, unhide Hn, unhide HE, List.take_of_length_le (by rw [unhide Hn]; exact Nat.le_refl _)]
        exact rfl
      clear HE
      go_wp2
      go_ret
      exact ⟨by rw [unhide hRf]; rfl, unhide HB⟩
/-- bytes written over, one by one -/
def wrD (cl : List Int) (a : Nat) (y : List Int) (k : Nat) : List Int := cl.take a ++ y.take k ++ cl.drop (a + k)
theorem wrD_zero (cl : List Int) (a : Nat) (y : List Int) : wrD cl a y 0 = cl := by unfold wrD; simp
theorem wrD_all (cl : List Int) (a : Nat) (y : List Int) : wrD cl a y y.length = cl.take a ++ y ++ cl.drop (a + y.length) := by unfold wrD; rw [List.take_length]
theorem wrD_len {cl y : List Int} {a k : Nat} (h : a + y.length ≤ cl.length) (hk : k ≤ y.length) : (wrD cl a y k).length = cl.length := by
  unfold wrD
  simp only [List.length_append, List.length_take, List.length_drop]
  omega
theorem wrD_set {cl y : List Int} {a k : Nat} {x : Int} (h : a + y.length ≤ cl.length) (hx : y[k]? = some x) : (bC (wrD cl a y k)).set (a + k) (.int .u8 x) = bC (wrD cl a y (k + 1)) := by
  have hk := (List.getElem?_eq_some_iff.1 hx).1
  have e1 : bC (wrD cl a y (k + 1)) = bC ((wrD cl a y k).set (a + k) x) := by
    congr 1
    unfold wrD
    have hl : (cl.take a ++ y.take k).length = a + k := by rw [List.length_append, List.length_take, List.length_take]; omega
    rw [List.set_append_right _ _ (by rw [hl]; exact Nat.le_refl _), hl, Nat.sub_self, List.drop_eq_getElem_cons (i := a + k) (by omega), List.set_cons_zero, List.take_add_one, hx]
    simp [Nat.add_assoc]
  rw [e1]
  unfold bC
  rw [List.map_set]
/-- within Alter's loop -/
structure AL (w : World) (g2 M k3 : Nat) (c : Cp) (y : List Int) (a k : Nat) (V : World) : Prop where
  bel : Below w.heap.size w V
  bx : Bx V w.heap.size 44 #[.int .i64 c.num, .int .i64 c.frm, .int .i64 c.to, .slice (some ⟨g2, 0, none⟩) M k3, .int .i64 c.sent, .bool false]
  row : OwB V w.heap.size 5 (.slice (some ⟨g2, 0, none⟩) M k3) (wrD c.cl a y k)
theorem AL.set {V : World} {g2 M k3 a k : Nat} {y : List Int} {x : Int} (h : AL w g2 M k3 c y a k V) (hM : c.cl.length = M) (hay : a + y.length ≤ c.cl.length) (hx : y[k]? = some x) : AL w g2 M k3 c y a (k + 1) (V.setCell ⟨g2, a + k, none⟩ (.int .u8 x)).drew := by
  have hk := (List.getElem?_eq_some_iff.1 hx).1
  have hl := wrD_len hay (Nat.le_of_lt hk)
  have hl' := wrD_len (k := k + 1) hay hk
  have hg := (h.row.lt g2 rfl).1
  obtain ⟨cur, hc⟩ := h.row.ty g2 rfl
  have hne : w.heap.size ≠ g2 := fun e => hc.apart h.bx (by decide) e.symm
  have kk : Kp (fun i => i = g2) V (V.setCell ⟨g2, a + k, none⟩ (.int .u8 x)) := Kp.set _ _ _ rfl
  have hr := h.row
  unfold OwB at hr
  rw [hl, hM] at hr
  have h1 := (hr.stored (a + k) (.int .u8 x)).1
  rw [wrD_set hay hx] at h1
  have hd : Below (V.setCell ⟨g2, a + k, none⟩ (.int .u8 x)).heap.size (V.setCell ⟨g2, a + k, none⟩ (.int .u8 x)) (V.setCell ⟨g2, a + k, none⟩ (.int .u8 x)).drew := (Below.refl _ _).drew
  refine ⟨(kk.below h.bel (fun i e => by omega)).drew, (h.bx.kp kk hne).below hd, OwB.below ?_ hd⟩
  unfold OwB
  rw [hl', hM]
  exact h1
theorem AL.cells {V : World} {g2 M k3 a k : Nat} {y : List Int} (h : AL w g2 M k3 c y a k V) (hM : c.cl.length = M) (hay : a + y.length ≤ c.cl.length) (hk : k < y.length) : (∃ u, V.cell? ⟨g2, a + k, none⟩ = some u) ∧ V.frozen? ⟨g2, a + k, none⟩ = false := by
  have hl := wrD_len hay (Nat.le_of_lt hk)
  obtain ⟨cur, hc⟩ := h.row.ty g2 rfl
  have hr := h.row
  unfold OwB at hr
  rw [hl, hM] at hr
  refine ⟨?_, hc.frozen _⟩
  rw [hr.cellAt (a + k) (by omega)]
  exact ⟨_, List.getElem?_eq_getElem (by rw [bC_len, hl]; omega)⟩
set_option maxRecDepth 100000 in
set_option maxHeartbeats 4000000 in
theorem rAlter_none (h : HL P w b s) (k a : Int) (vy : Value) (y : List Int) (hp : plc s.ls k = none) : Calls Try.prog 31 #[.pointer (some ⟨b, 0, none⟩), .int .i64 k, .int .i64 a, vy] w (CH P w b (altS s k a y) (.int .i64 (altE s k a y))) := by
  have he : altE s k a y = 11 := by unfold altE; rw [fnd_plcn hp]
  rw [altS_no (by rw [he]; decide), he]
  have FN := hide (CH.same h (.int .i64 11) (Below.refl _ _))
  obtain ⟨v, L, h⟩ := h
  have HP := hide (rplace_in h k)
  rw [show plI s.ls k = -1 by unfold plI; rw [hp]] at HP
  clear h hp he
  obtain ⟨Q, hQ⟩ : ∃ Q : Ending → World → Prop, CH P w b s (.int .i64 11) = Q := ⟨_, rfl⟩
  rw [hQ] at FN ⊢
  clear hQ
  go_enter Try.func31, Try.ntmps31
  go_wp2_with fail
  refine (unhide HP).mono ?_
  rintro e W1 ⟨rfl, rfl⟩
  clear HP
  go_wp2
  try go_ret
  exact unhide FN

end Go.Proofs.Yteomalmflebkhaa
