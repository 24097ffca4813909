/-
  What a Writer's methods do.
-/
import Derived.Test.YtkffonoifbaifaaGreatZW0
import Derived.Test.YtkffonoifbaifaaGreatZShB
set_option linter.unusedSimpArgs false
set_option linter.unusedVariables false
namespace Go.Proofs.YtkffonoifbaifaaGreat
open Go.RowKit Go.Lib

set_option maxRecDepth 100000 in
theorem wErr_in {w : World} {p : Nat} {v : Value} {L : List Nat} {e : Int} (h : Wr w p v L e) :
    Calls Tryz.prog 54 #[.pointer (some ⟨p, 0, none⟩)] w fun r W => r = .returned (.int .i64 e) ∧ w = W := by
  have c1 := h.box.cell 1 _ rfl
  clear h
  go_enter Tryz.func54, Tryz.ntmps54
  go_wp2
  go_ret
  exact ⟨rfl, rfl⟩

set_option maxRecDepth 100000 in
theorem wErr_nil (w : World) : Calls Tryz.prog 54 #[.pointer none] w fun r W => r = .returned (.int .i64 1) ∧ w = W := by
  go_enter Tryz.func54, Tryz.ntmps54
  go_wp2
  go_ret
  exact ⟨rfl, rfl⟩

theorem or128 (m : Nat) : bits .or .u8 ((m : Int) % 256) 128 = ((m % 128 + 128 : Nat) : Int) := by
  rw [Lib.u8_or128_any _ (by omega) (by omega)]
  omega

set_option maxRecDepth 100000 in
set_option maxHeartbeats 2000000 in
theorem wNumber_in {w : World} {p : Nat} {v : Value} {L : List Nat} {e : Int} (n : Int) (h : Wr w p v L e) (h0 : -9223372036854775808 ≤ n) (h1 : n ≤ 9223372036854775807) (hL : L.length ≤ 100000000000) :
    Calls Tryz.prog 25 #[.pointer (some ⟨p, 0, none⟩), .int .i64 n] w fun r W => r = .returned (.tuple #[]) ∧ ∃ v', Wr W p v' (wNum (L, e) n).1 (wNum (L, e) n).2 ∧ Kp (wOwn p v) w W ∧ OwnAt w v v' := by
  have HE := hide (wErr_in h)
  by_cases he : e = 0
  · subst he
    by_cases hn : n < 0
    · have hw : wNum (L, 0) n = (L, 1) := by unfold wNum; simp [hn]
      rw [hw]
      clear hw
      have hb := h.box
      have hf := hb.frozen 1
      have c1 := hb.cell 1 _ rfl
      have hp := hb.lt
      have HB := hide h
      clear h hb
      go_enter Tryz.func25, Tryz.ntmps25
      go_wp2_with (go_at_call 54; refine (unhide HE).mono ?_; rintro r W ⟨rfl, rfl⟩)
      refine bodyPost_ret (results_none rfl _ _ _) rfl ?_
      refine ⟨rfl, v, ⟨by simpa using (unhide HB).box.set 1 _, owns_kp (unhide HB).row (Kp.set (N := fun k => k = p) _ ⟨p, 1, none⟩ _ rfl) (fun i hi e => (unhide HB).ne i hi e)⟩, Kp.set _ _ _ (.inl rfl), OwnAt.refl _ _⟩
    · obtain ⟨N, rfl⟩ : ∃ N : Nat, n = (N : Int) := ⟨n.toNat, by omega⟩
      have hw : wNum (L, 0) (N : Int) = (L ++ num N, 0) := by unfold wNum; simp [hn]
      rw [hw]
      clear hw
      have HB := hide h
      have c0 := h.box.cell 0 _ rfl
      have HL := hide hL
      clear h h0 hL hn
      have hn : 0 ≤ (N : Int) := by omega
      go_enter Tryz.func25, Tryz.ntmps25
      go_wp2_with (go_at_call 54; refine (unhide HE).mono ?_; rintro r W ⟨rfl, rfl⟩)
      go_loopw [4] (fun lv wr => ∃ (m : Nat) (P : List Nat) (v1 : Value), lv = .int .u64 (m : Nat) ∧ (m : Int) ≤ 9223372036854775807 ∧ Hid (P ++ num m = num N) ∧ Hid (Wr wr p v1 (L ++ P) 0) ∧ Hid (Kp (wOwn p v) w wr) ∧ Hid (OwnAt w v v1)) (fun lv _ => (Lib.intOf lv).toNat)
      case atStart => exact ⟨N, [], v, rfl, h1, hide (by simp), hide (by simpa using unhide HB), hide (Kp.refl _ _), hide (OwnAt.refl _ _)⟩
      case round =>
        obtain ⟨m, P, v1, rfl, hm, HP, HW, HK, HO⟩ := hrel
        clear HB c0
        have c0 := (unhide HW).box.cell 0 _ rfl
        have f0 := (unhide HW).box.frozen 0
        have hp := (unhide HW).box.lt
        have HPL : Hid (P.length ≤ 11) := by
          have h2 := num_len N
          rw [← unhide HP, List.length_append] at h2
          exact (by omega : P.length ≤ 11)
        obtain ⟨i0, hi, hz0, hz1, hz2⟩ := info_parts infoB
        have Hi := hide hi
        have Hz0 := hide hz0
        have Hz1 := hide hz1
        have Hz2 := hide hz2
        clear hi hz0 hz1 hz2
        by_cases hlt : m < 128
        · have hlt' : ¬ (128 : Int) ≤ (m : Int) := by omega
          go_wp2_with (at_builtin; refine wpList_append_own_at _ rfl _ _ 22 rfl (p + 1) 5 i0 (.int .u8 0) 1 1 Tryz.underlying22 (unhide Hi) (unhide Hz0) (unhide Hz1) (unhide Hz2) rfl (by decide) _ _ _ rfl ((unhide HW).row.alloc _) ⟨wr.heap.size, 0, none⟩ 1 1 [.int .u8 (m : Nat)] rfl rfl (cell_one_new _ _ _) (by intro u hu; simp at hu; subst hu; rfl) (by have := unhide HPL; have := unhide HL; unfold maxLen; simp; omega) (by have := unhide HPL; have := unhide HL; simp; omega) (by simp; omega) ?_; intro v' w1 hown hgrow hnil hat; simp only [List.length_append] at hown; obtain ⟨a', c', rfl⟩ := owns_form hown; have hbx := (unhide HW).grown hgrow; have cx := hbx.cell 0 _ rfl; have fx := hbx.frozen 0; have Hown := hide hown; have Hgr := hide hgrow; have Hat := hide (ownAt_of hat); clear hown hgrow hnil hat hbx)
          go_end0
          obtain ⟨k1, k2, k3⟩ := wr_step (M := L ++ num N) (unhide HW) (unhide HK) (unhide HO) (by have := unhide Hown; rw [← unhide HP, num_last m hlt]; simpa [bC_app, bC] using this) (by rw [← unhide HP, num_last m hlt]; simp; omega) (unhide Hgr) (unhide Hat)
          exact ⟨rfl, _, k1, k2, k3⟩
        · have hlt' : (128 : Int) ≤ (m : Int) := by omega
          have ho := or128 m
          go_wp2_with (at_builtin; refine wpList_append_own_at _ rfl _ _ 22 rfl (p + 1) 5 i0 (.int .u8 0) 1 1 Tryz.underlying22 (unhide Hi) (unhide Hz0) (unhide Hz1) (unhide Hz2) rfl (by decide) _ _ _ rfl ((unhide HW).row.alloc _) ⟨wr.heap.size, 0, none⟩ 1 1 [.int .u8 _] rfl rfl (cell_one_new _ _ _) (by intro u hu; simp at hu; subst hu; rfl) (by have := unhide HPL; have := unhide HL; unfold maxLen; simp; omega) (by have := unhide HPL; have := unhide HL; simp; omega) (by simp; omega) ?_; intro v' w1 hown hgrow hnil hat; simp only [List.length_append] at hown; obtain ⟨a', c', rfl⟩ := owns_form hown; have hbx := (unhide HW).grown hgrow; have cx := hbx.cell 0 _ rfl; have fx := hbx.frozen 0; have Hown := hide hown; have Hgr := hide hgrow; have Hat := hide (ownAt_of hat); clear hown hgrow hnil hat hbx)
          go_roundw
          case measure => show ((m : Int) / 128).toNat < ((m : Nat) : Int).toNat; omega
          case rel =>
            obtain ⟨k1, k2, k3⟩ := wr_step (M := L ++ (P ++ [m % 128 + 128])) (unhide HW) (unhide HK) (unhide HO) (by have := unhide Hown; simpa [bC_app, bC] using this) (by simp; omega) (unhide Hgr) (unhide Hat)
            exact ⟨m / 128, P ++ [m % 128 + 128], _, by go_num, by omega, hide (by rw [← unhide HP, num_step m (by omega) (by omega)]; simp), hide k1, hide k2, hide k3⟩
  · have hw : wNum (L, e) n = (L, e) := by unfold wNum; simp [he]
    rw [hw]
    have he' : (e == 0) = false := by simpa using he
    have HB := hide h
    clear h hw
    go_enter Tryz.func25, Tryz.ntmps25
    go_wp2_with (go_at_call 54; refine (unhide HE).mono ?_; rintro r W ⟨rfl, rfl⟩)
    refine bodyPost_ret (results_none rfl _ _ _) rfl ?_
    exact ⟨rfl, v, unhide HB, Kp.refl _ _, OwnAt.refl _ _⟩

theorem Wr.len {w : World} {p : Nat} {v : Value} {L : List Nat} {e : Int} (h : Wr w p v L e) : w.ownsRow (p + 1) 5 1 v L.length (bC L) := h.row

set_option maxRecDepth 100000 in
set_option maxHeartbeats 2000000 in
theorem wText_in {w : World} {p : Nat} {v : Value} {L : List Nat} {e : Int} (t : ByteArray) (h : Wr w p v L e) (ht : t.size ≤ 100000000000) (hL : L.length ≤ 10000000000) :
    Calls Tryz.prog 167 #[.pointer (some ⟨p, 0, none⟩), .string t] w fun r W => r = .returned (.tuple #[]) ∧ ∃ v', Wr W p v' (wTxt (L, e) t).1 (wTxt (L, e) t).2 ∧ Kp (wOwn p v) w W ∧ OwnAt w v v' := by
  have HE := hide (wErr_in h)
  by_cases he : e = 0
  · subst he
    have hw : wTxt (L, 0) t = (L ++ num t.size ++ sB t, 0) := by unfold wTxt; simp
    rw [hw]
    clear hw
    have HN := hide (wNumber_in (t.size : Nat) h (by omega) (by omega) (by omega))
    have hw2 : wNum (L, 0) ((t.size : Nat) : Int) = (L ++ num t.size, 0) := by unfold wNum; simp
    rw [hw2] at HN
    have Ht := hide ht
    have HL := hide hL
    clear h hw2 ht hL
    go_enter Tryz.func167, Tryz.ntmps167
    go_wp2_with fail
    refine (unhide HE).mono ?_
    rintro r W ⟨rfl, rfl⟩
    go_wp2_with fail
    refine (unhide HN).mono ?_
    rintro r W ⟨rfl, v1, HW, HK, HO⟩
    replace HW := hide HW
    replace HK := hide HK
    replace HO := hide HO
    have c0 := (unhide HW).box.cell 0 _ rfl
    have hp := (unhide HW).box.lt
    have HPL := hide (num_len t.size)
    go_wp2_with (at_builtin; refine wpList_append_text_at rfl _ _ rfl (p + 1) _ _ _ rfl (unhide HW).row t rfl (by have := unhide HPL; have := unhide HL; have := unhide Ht; simp; omega) (by omega) ?_; intro v' w1 hown hgrow hat; simp only [List.length_append] at hown; obtain ⟨a', c', rfl⟩ := owns_form hown; have hbx := (unhide HW).grown0 hgrow; have cx := hbx.cell 0 _ rfl; have fx := hbx.frozen 0; have Hown := hide hown; have Hgr := hide hgrow; have Hat := hide hat; clear hown hgrow hat hbx)
    go_end0
    obtain ⟨k1, k2, k3⟩ := wr_step0 (M := L ++ num t.size ++ sB t) (unhide HW) (unhide HK) (unhide HO) (by have := unhide Hown; rw [bC_app _ (sB t), sB_cells]; exact this) (by rw [List.length_append, List.length_append, sB_len]) (unhide Hgr) (unhide Hat)
    exact ⟨rfl, _, k1, k2, k3⟩
  · have hw : wTxt (L, e) t = (L, e) := by unfold wTxt; simp [he]
    rw [hw]
    have he' : (e == 0) = false := by simpa using he
    have HB := hide h
    clear h hw ht hL
    go_enter Tryz.func167, Tryz.ntmps167
    go_wp2_with (go_at_call 54; refine (unhide HE).mono ?_; rintro r W ⟨rfl, rfl⟩)
    refine bodyPost_ret (results_none rfl _ _ _) rfl ?_
    exact ⟨rfl, v, unhide HB, Kp.refl _ _, OwnAt.refl _ _⟩

theorem bytes_of {W : World} {v : Value} {L : List Nat} (h : RC W v L.length (bC L)) : ∀ b off cap, v = .slice (some ⟨b, off, none⟩) L.length cap → ∀ i, i < L.length → W.cell? ((⟨b, off, none⟩ : Addr).add i) = some (.int .u8 ((L.map fun x : Nat => (x : Int)).getD i 0)) := by
  intro b off cap e i hi
  subst e
  rcases h with ⟨h0, _⟩ | ⟨b', off', cap', e', _, _, hc⟩
  · omega
  · simp at e'
    obtain ⟨⟨rfl, rfl⟩, rfl⟩ := e'
    rw [Addr.add_lit, hc i _ (bC_get L i L[i] (List.getElem?_eq_getElem hi))]
    simp [hi]

/-- a copy of bytes -/
theorem bClone_in (w : World) (v : Value) (L : List Nat) (h : RC w v L.length (bC L)) (hL : L.length ≤ 140737488355328) :
    Calls Tryz.prog 31 #[v] w fun r W => ∃ v', r = .returned v' ∧ W.ownsRow w.heap.size 5 1 v' L.length (bC L) ∧ Below w.heap.size w W := by
  obtain ⟨a, cap, e⟩ := h.form
  cases a with
  | none =>
    rcases h with ⟨h0, _⟩ | ⟨b', off', cap', e', _, _, hc⟩
    · subst e
      have := Any.bytes_Clone_nil shBytes L.length cap w
      change Calls Tryz.prog 31 _ _ _ at this
      refine this.mono ?_
      rintro r W ⟨rfl, rfl⟩
      have hl : L = [] := List.eq_nil_of_length_eq_zero h0
      subst hl
      exact ⟨_, rfl, World.ownsRow_nil _ _ _ _, Below.refl _ _⟩
    · rw [e] at e'
      cases e'
  | some ad =>
    have hx : ∀ i, i < L.length → w.cell? (ad.add i) = some (.int .u8 ((L.map fun x : Nat => (x : Int)).getD i 0)) := by
      intro i hi
      rcases h with ⟨h0, _⟩ | ⟨b', off', cap', e', h1, h2, h3⟩
      · omega
      · rw [e] at e'
        simp at e'
        obtain ⟨rfl, rfl⟩ := e'
        exact bytes_of (v := .slice (some ⟨b', off', none⟩) L.length cap) (.inr ⟨b', off', cap, rfl, h1, h2, h3⟩) b' off' cap rfl i hi
    have := Any.bytes_Clone_at shBytes ad L.length cap (L.map fun x : Nat => (x : Int)) w (by simp) hL hx
    change Calls Tryz.prog 31 _ _ _ at this
    subst e
    refine this.mono ?_
    rintro r W ⟨v', rfl, h1, h2, h3⟩
    refine ⟨v', rfl, ?_, h3⟩
    have e2 : (L.map fun x : Nat => (x : Int)).map (Value.int .u8) = bC L := by
      unfold bC
      rw [List.map_map]
      rfl
    rw [e2] at h1
    exact h1

set_option maxRecDepth 100000 in
theorem wData_in {w : World} {p : Nat} {v : Value} {L : List Nat} {e : Int} (h : Wr w p v L e) (hL : L.length ≤ 140737488355328) :
    Calls Tryz.prog 30 #[.pointer (some ⟨p, 0, none⟩)] w fun r W => ∃ v', r = .returned v' ∧ W.ownsRow w.heap.size 5 1 v' L.length (bC L) ∧ Below w.heap.size w W := by
  have c0 := h.box.cell 0 _ rfl
  have HC := hide (bClone_in w v L (RC.of_owns h.row) hL)
  obtain ⟨a, c, rfl⟩ := h.form
  clear h hL
  go_enter Tryz.func30, Tryz.ntmps30
  go_wp2_with fail
  refine (unhide HC).mono ?_
  rintro r W ⟨v', rfl, hown, hb⟩
  go_wp2
  go_ret
  exact ⟨_, rfl, hown, hb⟩

set_option maxRecDepth 100000 in
theorem wData_nil (w : World) : Calls Tryz.prog 30 #[.pointer none] w fun r W => r = .returned (.slice none 0 0) ∧ w = W := by
  go_enter Tryz.func30, Tryz.ntmps30
  go_wp2
  go_ret
  exact ⟨rfl, rfl⟩
set_option maxRecDepth 100000 in
theorem wNumber_nil (w : World) (n : Int) : Calls Tryz.prog 25 #[.pointer none, .int .i64 n] w fun r W => r = .returned (.tuple #[]) ∧ w = W := by
  have HE := hide (wErr_nil w)
  go_enter Tryz.func25, Tryz.ntmps25
  go_wp2_with (go_at_call 54; refine (unhide HE).mono ?_; rintro r W ⟨rfl, rfl⟩)
  refine bodyPost_ret (results_none rfl _ _ _) rfl ?_
  exact ⟨rfl, rfl⟩
set_option maxRecDepth 100000 in
theorem wText_nil (w : World) (t : ByteArray) : Calls Tryz.prog 167 #[.pointer none, .string t] w fun r W => r = .returned (.tuple #[]) ∧ w = W := by
  have HE := hide (wErr_nil w)
  go_enter Tryz.func167, Tryz.ntmps167
  go_wp2_with (go_at_call 54; refine (unhide HE).mono ?_; rintro r W ⟨rfl, rfl⟩)
  refine bodyPost_ret (results_none rfl _ _ _) rfl ?_
  exact ⟨rfl, rfl⟩

end Go.Proofs.YtkffonoifbaifaaGreat
