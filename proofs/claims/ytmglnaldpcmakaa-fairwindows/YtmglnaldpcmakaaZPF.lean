/-
  A set of pairs: fill, remove; how many pairs.
-/
import Derived.Test.YtmglnaldpcmakaaZPD
set_option linter.unusedSimpArgs false
set_option linter.unusedVariables false
namespace Go.Proofs.Ytmglnaldpcmakaa
open Go.RowKit Go.Lib

theorem PSc.drew {W : World} {b g N : Nat} {M : Nat → Bool} {c : Int} {ws : List W6} (h : PSc W b g N M c ws) (n : Nat) : PSc (W.drewN n) b g N M c ws := ⟨h.box, h.row, h.ne, h.tell⟩
theorem Kp.drewN {S : Nat → Prop} {W W' : World} (h : Kp S W W') (n : Nat) : Kp S W (W'.drewN n) := ⟨h.os, h.tape, h.output, h.size, h.block⟩
theorem PSc.ext {W : World} {b g N : Nat} {M M' : Nat → Bool} {c : Int} {ws : List W6} (h : PSc W b g N M c ws) (he : ∀ p, p < N → M p = M' p) : PSc W b g N M' c ws := ⟨h.box, h.row, h.ne, h.tell.ext he⟩

set_option maxRecDepth 100000 in
set_option maxHeartbeats 4000000 in
theorem fill_in {w : World} {b g N : Nat} {M : Nat → Bool} (h : PS w b g N M) (hN : N ≤ 1000000000) : Calls Try.prog 31 #[.pointer (some ⟨b, 0, none⟩)] w fun e W => e = .returned (.tuple #[]) ∧ PS W b g N (fun _ => true) ∧ Kp (fun i => i = b ∨ i = g) w W := by
  obtain ⟨ws0, h⟩ := h
  generalize ((cntB N M : Nat) : Int) = c at h
  have HW := hide (fun p hp x => where_in p hp x)
  have c1 := h.box.cell 1 _ rfl
  have H0 := hide h
  clear h
  go_enter Try.func31, Try.ntmps31
  go_wp2
  go_loopw [9] (fun iv wr => ∃ j : Nat, j ≤ N ∧ iv = .int .i64 (j : Nat) ∧ Hid (∃ ws, PSc wr b g N (fun q => M q || decide (q < j)) c ws ∧ Kp (fun i => i = b ∨ i = g) w wr)) (fun iv _ => N - (RowKit.intOf iv).toNat)
  case atStart => exact ⟨0, Nat.zero_le _, rfl, hide ⟨ws0, (unhide H0).ext (fun p _ => by simp), Kp.refl _ _⟩⟩
  case round =>
    obtain ⟨j, hj, rfl, HI⟩ := hrel
    clear H0
    by_cases hlt : j < N
    · have hlt' : (j : Int) < (N : Int) := by omega
      have hw := unhide HW j (by omega) wr
      obtain ⟨ws, hp, hk⟩ := unhide HI
      clear HI
      have hjd : j / 64 < ws.length := by rw [hp.tell.1]; exact nWd_lt hlt
      have Hp := hide hp
      have Hk := hide hk
      have hj9 : j / 64 ≤ 1000000000 := by omega
      have hlen : ws.length = nWd N := hp.tell.1
      clear hk
      go_wp2_with fail
      refine hw.mono ?_
      rintro e W1 ⟨rfl, q, rfl⟩
      have hp1 := (unhide Hp).drew q
      have a0 := hp1.box.cell 0 _ rfl
      have ar := hp1.row.cell (j / 64) _ (wC_get hjd)
      have fr := hp1.row.frozen (j / 64)
      have Hp1 := hide hp1
      have hne := hp1.ne
      clear hp1 hp hw
      go_wp2
      have Hfin : Hid (∃ ws', PSc ((wr.drewN q).setCell ⟨g, j / 64, none⟩ (Value.int .u64 (bits .or .u64 (uL ((ws[j / 64]?).getD 0#64)) (uL (btW j))))) b g N (fun q => M q || decide (q < j + 1)) c ws' ∧ Kp (fun i => i = b ∨ i = g) w ((wr.drewN q).setCell ⟨g, j / 64, none⟩ (Value.int .u64 (bits .or .u64 (uL ((ws[j / 64]?).getD 0#64)) (uL (btW j)))))) := by
        have hp2 := unhide Hp1
        rw [l_or]
        refine ⟨_, (hp2.put (j / 64) _ _ (hp2.tell.or hlt)).ext (fun p hp => ?_), ((unhide Hk).drewN q).trans (Kp.set _ _ _ (Or.inr rfl)) (fun i e => .inl e)⟩
        rw [Bool.or_assoc]
        congr 1
        by_cases e : p < j
        · simp [e]; omega
        · by_cases e2 : p = j <;> simp [e, e2]; omega
      go_roundw
      case rel => exact ⟨j + 1, by omega, by go_num, Hfin⟩
      case measure => show N - ((j : Int) + 1).toNat < N - ((j : Nat) : Int).toNat; omega
    · obtain rfl : j = N := by omega
      have hlt' : ¬ (j : Int) < (j : Int) := by omega
      obtain ⟨ws, hp, hk⟩ := unhide HI
      clear HI
      have a1 := hp.box.cell 1 _ rfl
      have a2 := hp.box.cell 2 _ rfl
      have f2 := hp.box.frozen 2
      have Hp := hide hp
      have Hk := hide hk
      clear hp hk
      go_wp2
      go_end0
      have hq := ((unhide Hp).ext (M' := fun _ => true) (fun p hp => by simp [hp])).cnt (j : Nat)
      refine ⟨rfl, ⟨ws, by rw [cnt_all]; exact hq⟩, (unhide Hk).trans (Kp.set _ _ _ (Or.inl rfl)) (fun i e => .inl e)⟩

set_option maxRecDepth 100000 in
set_option maxHeartbeats 4000000 in
theorem remove_in {w : World} {b g N : Nat} {M : Nat → Bool} (h : PS w b g N M) (hN : N ≤ 1000000000) (p : Nat) (hp : p < N) : Calls Try.prog 32 #[.pointer (some ⟨b, 0, none⟩), .int .i64 (p : Nat)] w fun e W => e = .returned (.int .i64 ((cntB N (rmv M p) : Nat) : Int)) ∧ PS W b g N (rmv M p) ∧ Kp (fun i => i = b ∨ i = g) w W := by
  obtain ⟨ws, h⟩ := h
  have hcl := cnt_le_N N M
  have hcr := cnt_rmv N M p
  have hc0 : M p = true → 0 < cntB N M := fun e => by
    rcases Nat.eq_zero_or_pos (cntB N M) with h0 | h0
    · rw [(cnt_zero_iff N M).1 h0 p hp] at e; cases e
    · exact h0
  have hext : M p = false → ∀ q, q < N → M q = rmv M p q := fun e q _ => by
    unfold rmv
    by_cases e2 : q = p
    · subst e2; simp [e]
    · simp [e2]
  have hw := where_in p (by omega) w
  have hjd : p / 64 < ws.length := by rw [h.tell.1]; exact nWd_lt hp
  have hlen : ws.length = nWd N := h.tell.1
  have hj9 : p / 64 ≤ 1000000000 := by omega
  have hbit : (bits .and .u64 (uL ((ws[p / 64]?).getD 0#64)) (uL (btW p)) != 0) = M p := by
    rw [l_and, and_btW]
    exact h.tell.2 p hp
  have Hp := hide h
  have Hx := hide hext
  have Hcr := hide hcr
  obtain ⟨K, hK⟩ : ∃ K, cntB N M = K := ⟨_, rfl⟩
  rw [hK] at hcl hc0
  have HK := hide hK
  clear hK hcr
  obtain ⟨C, hC⟩ : ∃ C, cntB N (rmv M p) = C := ⟨_, rfl⟩
  have HC := hide hC
  rw [hC]
  clear hC h hext
  go_enter Try.func32, Try.ntmps32
  go_wp2_with fail
  refine hw.mono ?_
  rintro e W1 ⟨rfl, q, rfl⟩
  clear hw
  have hp1 := (unhide Hp).drew q
  have a0 := hp1.box.cell 0 _ rfl
  have a2 := hp1.box.cell 2 _ rfl
  rw [unhide HK] at a2
  have f2 := hp1.box.frozen 2
  have ar := hp1.row.cell (p / 64) _ (wC_get hjd)
  have fr := hp1.row.frozen (p / 64)
  have Hp1 := hide hp1
  have hne := hp1.ne
  clear hp1
  cases hm : M p
  · rw [hm] at hbit
    go_wp2
    go_ret
    have hext := unhide Hx hm
    have e1 : cntB N (rmv M p) = cntB N M := (cnt_ext hext).symm
    refine ⟨?_, ⟨ws, ?_⟩, (Kp.refl _ _).drewN q⟩
    · rw [← unhide HC, e1, unhide HK]; rfl
    · rw [e1]; exact (unhide Hp1).ext hext
  · rw [hm] at hbit
    have hk0 := hc0 hm
    go_wp2
    go_ret
    have e1 := unhide Hcr
    rw [if_pos ⟨hm, hp⟩, unhide HK] at e1
    have e2 : ((cntB N (rmv M p) : Nat) : Int) = (K : Int) - 1 := by omega
    have hp2 := unhide Hp1
    refine ⟨?_, ⟨ws.set (p / 64) (((ws[p / 64]?).getD 0#64) &&& ~~~(btW p)), ?_⟩, (((Kp.refl _ _).drewN q).trans (Kp.set _ _ _ (Or.inr rfl)) (fun i e => .inl e)).trans (Kp.set _ _ _ (Or.inl rfl)) (fun i e => .inl e)⟩
    · rw [← unhide HC, e2]; rfl
    · rw [l_andNot, e2]
      exact (hp2.put (p / 64) _ _ (hp2.tell.not hp)).cnt _

set_option maxRecDepth 100000 in
theorem pairCount_in (n : Nat) (hn : n ≤ 10000) (w : World) : Calls Try.prog 19 #[.int .i64 (n : Nat)] w fun e W => e = .returned (.int .i64 ((n * (n - 1) : Nat) : Int)) ∧ W = w := by
  have h1 : max ((n : Int) - 1) 0 = ((n - 1 : Nat) : Int) := by omega
  have h2 : (n : Int) * ((n - 1 : Nat) : Int) = ((n * (n - 1) : Nat) : Int) := by simp
  have h3 : n * (n - 1) ≤ 10000 * 10000 := Nat.mul_le_mul hn (by omega)
  have h4 : ((n * (n - 1) : Nat) : Int) ≤ 100000000 := by omega
  generalize n * (n - 1) = m at *
  have h5 : ((n - 1 : Nat) : Int) ≤ 10000 := by omega
  generalize n - 1 = k at *
  go_enter Try.func19, Try.ntmps19
  go_wp2
  go_ret
  exact ⟨rfl, rfl⟩

end Go.Proofs.Ytmglnaldpcmakaa
