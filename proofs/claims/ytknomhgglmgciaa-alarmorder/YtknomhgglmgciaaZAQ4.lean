/-
  container/heap: down.
-/
import Derived.Test.YtknomhgglmgciaaZAQ3
set_option linter.unusedSimpArgs false
set_option linter.unusedVariables false
namespace Go.Proofs.Ytknomhgglmgciaa
open Go.RowKit Go.Lib

/-- what down answers -/
def DnA (P : Nat → Prop) (W : World) (v : Value) (ps : List Nat) (t : Nat → Tm) (n i0 : Nat) (e : Ending) (W' : World) : Prop := ∃ qs, QG P W v ps t n W' qs ∧ ((e = .returned (.bool true) ∧ Hp t qs n) ∨ (e = .returned (.bool false) ∧ qs = ps ∧ Dn t ps n i0))
theorem dn_end {P : Nat → Prop} {W W' : World} {v : Value} {ps qs : List Nat} {t : Nat → Tm} {n i0 q : Nat} (hg : QG P W v ps t n W' qs) (hx : Hx t qs n q) (hc : (q = i0 ∧ qs = ps) ∨ (i0 < q ∧ Up t qs q)) (hd : Dn t qs n q) : DnA P W v ps t n i0 (.returned (.bool (decide (i0 < q)))) W' := by
  refine ⟨qs, hg, ?_⟩
  rcases hc with ⟨rfl, rfl⟩ | ⟨h1, h2⟩
  · exact .inr ⟨by simp, rfl, hd⟩
  · have : decide (i0 < q) = true := by rw [decide_eq_true_eq]; omega
    rw [this]
    exact .inl ⟨rfl, hx.hp hd h2⟩
set_option maxRecDepth 100000 in
set_option maxHeartbeats 4000000 in
theorem down_in {P : Nat → Prop} {W : World} {b : Nat} {v : Value} {ps : List Nat} {t : Nat → Tm} (h : QS P W v ps t) (hb : W.cell? ⟨b, 3, none⟩ = some v) (hnb : ¬ P b) (hl : ps.length ≤ 1000000) (n i0 : Nat) (hi : i0 < n) (hx : Hx t ps n i0) :
    Calls Try.prog 37 #[hI b, .int .i64 (i0 : Nat), .int .i64 (n : Nat)] W (DnA P W v ps t n i0) := by
  have HS := hide (And.intro (QG.refl h n) hx)
  have Hb := hide hb
  have hnl := hx.le
  clear h hx hb
  unfold hI
  go_enter Try.func37, Try.ntmps37
  go_wp2
  go_loopw [7] (fun u wr => ∃ (q : Nat) (qs : List Nat), u = .int .i64 (q : Nat) ∧ q < n ∧ Hid (QG P W v ps t n wr qs ∧ Hx t qs n q ∧ ((q = i0 ∧ qs = ps) ∨ (i0 < q ∧ Up t qs q)))) (fun u _ => n - (RowKit.intOf u).toNat)
  case atStart => exact ⟨i0, ps, rfl, hi, hide ⟨(unhide HS).1, (unhide HS).2, .inl ⟨rfl, rfl⟩⟩⟩
  case round =>
    clear HS
    obtain ⟨q, qs, rfl, hq, HS⟩ := hrel
    obtain ⟨hg, hx, hd⟩ := unhide HS
    have hll := hg.len
    have hmL := fun X k => meth_less (w := X) (cell_kp (unhide Hb) (hg.kp.trans (N := P) (M := P) (c := X) k (fun i hi => .inl hi)) hnb)
    have hmS := fun X k => meth_swap (w := X) (cell_kp (unhide Hb) (hg.kp.trans (N := P) (M := P) (c := X) k (fun i hi => .inl hi)) hnb)
    replace hmL := hide hmL
    replace hmS := hide hmS
    have e1 : ((2 * q + 1 : Nat) : Int) = 2 * (q : Int) + 1 := by omega
    have e2 : ((2 * q + 2 : Nat) : Int) = 2 * (q : Int) + 1 + 1 := by omega
    have E1 := hide e1
    have E2 := hide e2
    clear e1 e2
    by_cases h1 : 2 * q + 1 < n
    case neg =>
      have h1' : ¬ 2 * (q : Int) + 1 < (n : Int) := by omega
      clear hg hx hd hmL hmS
      go_wp2
      go_ret
      obtain ⟨hg, hx, hd⟩ := unhide HS
      exact dn_end hg hx hd (fun c h0 hc hp => by omega)
    case pos =>
      have h1' : 2 * (q : Int) + 1 < (n : Int) := by omega
      have h0' : ¬ 2 * (q : Int) + 1 < 0 := by omega
      by_cases h2 : 2 * q + 2 < n
      case neg =>
        have h2' : ¬ 2 * (q : Int) + 1 + 1 < (n : Int) := by omega
        have hC : Hid (∀ c, 0 < c → c < n → (c - 1) / 2 = q → ltT (t (pg qs c)) (t (pg qs (2 * q + 1))) = false) := fun c h0 hc hp => by
          obtain rfl : c = 2 * q + 1 := by omega
          exact ltT_irr _
        have hg1 := hide hg
        clear hg hx hd
        have hLt := hide (qLess_in (unhide hg1).q (by have := (unhide hg1).len; omega) (2 * q + 1) q (by have := (unhide hg1).len; omega) (by have := (unhide hg1).len; omega))
        rw [unhide E1] at hLt
        obtain ⟨R2, hR2⟩ : ∃ R2, ltT (t (pg qs (2 * q + 1))) (t (pg qs q)) = R2 := ⟨_, rfl⟩
        rw [hR2] at hLt
        have HR2 := hide hR2
        clear hR2
        have hmL1 := unhide hmL wr (Kp.refl _ _)
        go_wp2_with fail
        refine (unhide hLt).mono ?_
        rintro e W2 ⟨rfl, hb2⟩
        have hg2 := hide ((unhide hg1).below hb2)
        have hmS2 := unhide hmS W2 (Kp.of_below hb2)
        clear hLt hmL1 hmL hmS hb2 hg1
        cases R2 with
        | false =>
          clear hmS2
          go_wp2
          go_ret
          obtain ⟨hg, hx, hd⟩ := unhide HS
          exact dn_end (unhide hg2) hx hd (fun c h0 hc hp => ltT_tr (unhide HR2) (unhide hC c h0 hc hp))
        | true =>
          have hSw := hide (qSwap_in (unhide hg2).q (by have := (unhide hg2).len; omega) q (2 * q + 1) (by have := (unhide hg2).len; omega) (by have := (unhide hg2).len; omega) (by omega))
          rw [unhide E1] at hSw
          go_wp2_with fail
          refine (unhide hSw).mono ?_
          rintro e W3 ⟨rfl, hq3, hk3⟩
          replace hq3 := hide hq3
          replace hk3 := hide hk3
          clear hSw hmS2
          go_wp2
          go_roundw
          case rel =>
            obtain ⟨hg, hx, hd⟩ := unhide HS
            obtain ⟨hx', hu'⟩ := hx.down (j := 2 * q + 1) (i := q) (by omega) (by omega) (by omega) (unhide HR2) (unhide hC)
            exact ⟨2 * q + 1, swp qs q (2 * q + 1), by rw [unhide E1], by omega, hide ⟨(unhide hg2).swap (by have := (unhide hg2).len; omega) (by have := (unhide hg2).len; omega) hq (by omega) (unhide hq3) (unhide hk3), hx', .inr ⟨by rcases hd with ⟨h, _⟩ | ⟨h, _⟩ <;> omega, hu'⟩⟩⟩
          case measure =>
            show n - (2 * (q : Int) + 1).toNat < n - ((q : Nat) : Int).toNat
            omega
      case pos =>
        have h2' : 2 * (q : Int) + 1 + 1 < (n : Int) := by omega
        have hLs := hide (qLess_in hg.q (by omega) (2 * q + 2) (2 * q + 1) (by omega) (by omega))
        rw [unhide E1, unhide E2] at hLs
        obtain ⟨R, hR⟩ : ∃ R, ltT (t (pg qs (2 * q + 2))) (t (pg qs (2 * q + 1))) = R := ⟨_, rfl⟩
        rw [hR] at hLs
        have HR := hide hR
        have hmL0 := unhide hmL wr (Kp.refl _ _)
        clear hg hx hd hR
        go_wp2_with fail
        refine (unhide hLs).mono ?_
        rintro e W1 ⟨rfl, hb1⟩
        obtain ⟨hg, hx, hd⟩ := unhide HS
        have hg1 := hide (hg.below hb1)
        replace hmL := hide (fun X k => unhide hmL X ((Kp.of_below (N := P) hb1).trans k (fun i hi => .inl hi)))
        replace hmS := hide (fun X k => unhide hmS X ((Kp.of_below (N := P) hb1).trans k (fun i hi => .inl hi)))
        clear hg hx hd hLs hmL0 hb1
        cases R with
        | true =>
          have hC : Hid (∀ c, 0 < c → c < n → (c - 1) / 2 = q → ltT (t (pg qs c)) (t (pg qs (2 * q + 2))) = false) := fun c h0 hc hp => by
            rcases (by omega : c = 2 * q + 1 ∨ c = 2 * q + 2) with rfl | rfl
            · exact ltT_asy (unhide HR)
            · exact ltT_irr _
          have hLt := hide (qLess_in (unhide hg1).q (by have := (unhide hg1).len; omega) (2 * q + 2) q (by have := (unhide hg1).len; omega) (by have := (unhide hg1).len; omega))
          rw [unhide E2] at hLt
          obtain ⟨R2, hR2⟩ : ∃ R2, ltT (t (pg qs (2 * q + 2))) (t (pg qs q)) = R2 := ⟨_, rfl⟩
          rw [hR2] at hLt
          have HR2 := hide hR2
          clear hR2
          have hmL1 := unhide hmL W1 (Kp.refl _ _)
          go_wp2_with fail
          refine (unhide hLt).mono ?_
          rintro e W2 ⟨rfl, hb2⟩
          have hg2 := hide ((unhide hg1).below hb2)
          have hmS2 := unhide hmS W2 (Kp.of_below hb2)
          clear hLt hmL1 hmL hmS hb2 hg1
          cases R2 with
          | false =>
            clear hmS2
            go_wp2
            go_ret
            obtain ⟨hg, hx, hd⟩ := unhide HS
            exact dn_end (unhide hg2) hx hd (fun c h0 hc hp => ltT_tr (unhide HR2) (unhide hC c h0 hc hp))
          | true =>
            have hSw := hide (qSwap_in (unhide hg2).q (by have := (unhide hg2).len; omega) q (2 * q + 2) (by have := (unhide hg2).len; omega) (by have := (unhide hg2).len; omega) (by omega))
            rw [unhide E2] at hSw
            go_wp2_with fail
            refine (unhide hSw).mono ?_
            rintro e W3 ⟨rfl, hq3, hk3⟩
            replace hq3 := hide hq3
            replace hk3 := hide hk3
            clear hSw hmS2
            go_wp2
            go_roundw
            case rel =>
              obtain ⟨hg, hx, hd⟩ := unhide HS
              obtain ⟨hx', hu'⟩ := hx.down (j := 2 * q + 2) (i := q) (by omega) (by omega) (by omega) (unhide HR2) (unhide hC)
              exact ⟨2 * q + 2, swp qs q (2 * q + 2), by rw [unhide E2], by omega, hide ⟨(unhide hg2).swap (by have := (unhide hg2).len; omega) (by have := (unhide hg2).len; omega) hq (by omega) (unhide hq3) (unhide hk3), hx', .inr ⟨by rcases hd with ⟨h, _⟩ | ⟨h, _⟩ <;> omega, hu'⟩⟩⟩
            case measure =>
              show n - (2 * (q : Int) + 1 + 1).toNat < n - ((q : Nat) : Int).toNat
              omega
        | false =>
          have hC : Hid (∀ c, 0 < c → c < n → (c - 1) / 2 = q → ltT (t (pg qs c)) (t (pg qs (2 * q + 1))) = false) := fun c h0 hc hp => by
            rcases (by omega : c = 2 * q + 1 ∨ c = 2 * q + 2) with rfl | rfl
            · exact ltT_irr _
            · exact unhide HR
          have hLt := hide (qLess_in (unhide hg1).q (by have := (unhide hg1).len; omega) (2 * q + 1) q (by have := (unhide hg1).len; omega) (by have := (unhide hg1).len; omega))
          rw [unhide E1] at hLt
          obtain ⟨R2, hR2⟩ : ∃ R2, ltT (t (pg qs (2 * q + 1))) (t (pg qs q)) = R2 := ⟨_, rfl⟩
          rw [hR2] at hLt
          have HR2 := hide hR2
          clear hR2
          have hmL1 := unhide hmL W1 (Kp.refl _ _)
          go_wp2_with fail
          refine (unhide hLt).mono ?_
          rintro e W2 ⟨rfl, hb2⟩
          have hg2 := hide ((unhide hg1).below hb2)
          have hmS2 := unhide hmS W2 (Kp.of_below hb2)
          clear hLt hmL1 hmL hmS hb2 hg1
          cases R2 with
          | false =>
            clear hmS2
            go_wp2
            go_ret
            obtain ⟨hg, hx, hd⟩ := unhide HS
            exact dn_end (unhide hg2) hx hd (fun c h0 hc hp => ltT_tr (unhide HR2) (unhide hC c h0 hc hp))
          | true =>
            have hSw := hide (qSwap_in (unhide hg2).q (by have := (unhide hg2).len; omega) q (2 * q + 1) (by have := (unhide hg2).len; omega) (by have := (unhide hg2).len; omega) (by omega))
            rw [unhide E1] at hSw
            go_wp2_with fail
            refine (unhide hSw).mono ?_
            rintro e W3 ⟨rfl, hq3, hk3⟩
            replace hq3 := hide hq3
            replace hk3 := hide hk3
            clear hSw hmS2
            go_wp2
            go_roundw
            case rel =>
              obtain ⟨hg, hx, hd⟩ := unhide HS
              obtain ⟨hx', hu'⟩ := hx.down (j := 2 * q + 1) (i := q) (by omega) (by omega) (by omega) (unhide HR2) (unhide hC)
              exact ⟨2 * q + 1, swp qs q (2 * q + 1), by rw [unhide E1], by omega, hide ⟨(unhide hg2).swap (by have := (unhide hg2).len; omega) (by have := (unhide hg2).len; omega) hq (by omega) (unhide hq3) (unhide hk3), hx', .inr ⟨by rcases hd with ⟨h, _⟩ | ⟨h, _⟩ <;> omega, hu'⟩⟩⟩
            case measure =>
              show n - (2 * (q : Int) + 1).toNat < n - ((q : Nat) : Int).toNat
              omega

end Go.Proofs.Ytknomhgglmgciaa
