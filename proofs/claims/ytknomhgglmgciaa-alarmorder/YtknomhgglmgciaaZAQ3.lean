/-
  container/heap: up.
-/
import Derived.Test.YtknomhgglmgciaaZAQ2
set_option linter.unusedSimpArgs false
set_option linter.unusedVariables false
namespace Go.Proofs.Ytknomhgglmgciaa
open Go.RowKit Go.Lib

theorem cell_kp {N : Nat → Prop} {W W' : World} {a : Addr} {v : Value} (h : W.cell? a = some v) (k : Kp N W W') (hn : ¬ N a.block) : W'.cell? a = some v := by
  have hl := World.block_lt_of_cell? _ _ h
  rw [← h]
  unfold World.cell?
  rw [k.block _ hl hn]
def hI (b : Nat) : Value := .iface 62 (.pointer (some ⟨b, 3, none⟩))
/-- how a row of timers goes on: the same ones, and from n on in their places -/
structure QG (P : Nat → Prop) (W0 : World) (v : Value) (ps : List Nat) (t : Nat → Tm) (n : Nat) (W : World) (qs : List Nat) : Prop where
  q : QS P W v qs t
  len : qs.length = ps.length
  mem : ∀ a, a ∈ qs ↔ a ∈ ps
  far : ∀ c, n ≤ c → pg qs c = pg ps c
  kp : Kp P W0 W
theorem QG.refl {P : Nat → Prop} {W : World} {v : Value} {ps : List Nat} {t : Nat → Tm} (h : QS P W v ps t) (n : Nat) : QG P W v ps t n W ps := ⟨h, rfl, fun _ => Iff.rfl, fun _ _ => rfl, Kp.refl _ _⟩
theorem QG.below {P : Nat → Prop} {W0 W W' : World} {v : Value} {ps qs : List Nat} {t : Nat → Tm} {n : Nat} (h : QG P W0 v ps t n W qs) (hb : Below W.heap.size W W') : QG P W0 v ps t n W' qs := ⟨h.q.below hb, h.len, h.mem, h.far, h.kp.trans (Kp.of_below (N := fun _ => False) hb) (fun _ e => e.elim)⟩
theorem QG.swap {P : Nat → Prop} {W0 W W' : World} {v : Value} {ps qs : List Nat} {t : Nat → Tm} {n i k : Nat} (h : QG P W0 v ps t n W qs) (hi : i < qs.length) (hk : k < qs.length) (hi' : i < n) (hk' : k < n) (q : QS P W' v (swp qs i k) t) (kk : Kp P W W') : QG P W0 v ps t n W' (swp qs i k) :=
  ⟨q, by rw [swp_len]; exact h.len, fun a => (swp_mem hi hk a).trans (h.mem a), fun c hc => by rw [pg_swp hi hk, if_neg (by omega), if_neg (by omega)]; exact h.far c hc, h.kp.trans kk (fun i hi => .inl hi)⟩

set_option maxRecDepth 100000 in
set_option maxHeartbeats 2000000 in
theorem up_in {P : Nat → Prop} {W : World} {b : Nat} {v : Value} {ps : List Nat} {t : Nat → Tm} (h : QS P W v ps t) (hb : W.cell? ⟨b, 3, none⟩ = some v) (hnb : ¬ P b) (hl : ps.length ≤ 1000000) (n j : Nat) (hj : j < n) (hx : Hx t ps n j) (hd : Dn t ps n j) :
    Calls Try.prog 38 #[hI b, .int .i64 (j : Nat)] W fun e W' => e = .returned (.tuple #[]) ∧ ∃ qs, QG P W v ps t n W' qs ∧ Hp t qs n := by
  have HS := hide (And.intro (QG.refl h n) (And.intro hx hd))
  have Hb := hide hb
  have hnl := hx.le
  clear h hx hd hb
  unfold hI
  go_enter Try.func38, Try.ntmps38
  go_wp2
  go_loopw [1] (fun u wr => ∃ (q : Nat) (qs : List Nat), u = .int .i64 (q : Nat) ∧ q < n ∧ Hid (QG P W v ps t n wr qs ∧ Hx t qs n q ∧ Dn t qs n q)) (fun u _ => (RowKit.intOf u).toNat)
  case atStart => exact ⟨j, ps, rfl, hj, HS⟩
  case round =>
    clear HS
    obtain ⟨q, qs, rfl, hq, HS⟩ := hrel
    obtain ⟨hg, hx, hd⟩ := unhide HS
    have hll := hg.len
    have hmL := meth_less (cell_kp (unhide Hb) hg.kp hnb)
    have hmS := fun X k => meth_swap (w := X) (cell_kp (unhide Hb) (hg.kp.trans (N := P) (M := P) (c := X) k (fun i hi => .inl hi)) hnb)
    cases q with
    | zero =>
      clear hg hx hd hmL hmS
      go_wp2
      refine bodyPost_end (results_none rfl _ _ _) rfl ?_
      obtain ⟨hg, hx, hd⟩ := unhide HS
      exact ⟨rfl, qs, hg, hx.hp hd (fun e => absurd e (by omega))⟩
    | succ q =>
      obtain ⟨p, hp⟩ : ∃ p, q / 2 = p := ⟨_, rfl⟩
      have hpi : Int.tdiv (q : Int) 2 = (p : Int) := by rw [Int.tdiv_eq_ediv_of_nonneg (by omega), ← hp]; omega
      have hpq : p ≤ q := by omega
      have hne : ((p : Int) == (q : Int) + 1) = false := by rw [beq_eq_false_iff_ne]; omega
      have eq1 : ((q + 1 : Nat) : Int) = (q : Int) + 1 := by omega
      have hLs := hide (qLess_in hg.q (by omega) (q + 1) p (by omega) (by omega))
      rw [eq1] at hLs
      have Hp' := hide hp
      obtain ⟨R, hR⟩ : ∃ R, ltT (t (pg qs (q + 1))) (t (pg qs p)) = R := ⟨_, rfl⟩
      rw [hR] at hLs
      have HR := hide hR
      clear hg hx hd hp hR
      have hmS := hide hmS
      go_wp2_with fail
      refine (unhide hLs).mono ?_
      rintro e W1 ⟨rfl, hb1⟩
      obtain ⟨hg, hx, hd⟩ := unhide HS
      have hg1 := hg.below hb1
      cases R with
      | false =>
        clear hg hx hd hg1 hmL hmS
        replace hb1 := hide hb1
        go_wp2
        refine bodyPost_end (results_none rfl _ _ _) rfl ?_
        obtain ⟨hg, hx, hd⟩ := unhide HS
        refine ⟨rfl, qs, hg.below (unhide hb1), hx.hp hd (fun _ => ?_)⟩
        have e2 : (q + 1 - 1) / 2 = p := by have := unhide Hp'; omega
        rw [e2]
        exact unhide HR
      | true =>
        have hmS1 := unhide hmS W1 (Kp.of_below hb1)
        have hSw := hide (qSwap_in hg1.q (by omega) p (q + 1) (by omega) (by omega) (by omega))
        rw [eq1] at hSw
        have HG := hide hg1
        clear hg hx hd hg1 hmL hmS hLs
        replace hb1 := hide hb1
        go_wp2_with fail
        refine (unhide hSw).mono ?_
        rintro e W2 ⟨rfl, hq2, hk2⟩
        replace hq2 := hide hq2
        replace hk2 := hide hk2
        clear hSw hmS1
        go_wp2
        go_roundw
        case rel =>
          obtain ⟨hg, hx, hd⟩ := unhide HS
          obtain ⟨hx', hd'⟩ := hx.up hd hq (by omega) (i := p) (by have := unhide Hp'; omega) (unhide HR)
          exact ⟨p, swp qs p (q + 1), rfl, by omega, hide ⟨(unhide HG).swap (by omega) (by omega) (by omega) hq (unhide hq2) (unhide hk2), hx', hd'⟩⟩
        case measure =>
          show ((p : Nat) : Int).toNat < (((q + 1 : Nat)) : Int).toNat
          omega

end Go.Proofs.Ytknomhgglmgciaa
