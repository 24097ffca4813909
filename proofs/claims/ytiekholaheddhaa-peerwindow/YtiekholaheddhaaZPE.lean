/-
  A Peer in memory: land, Heard, Clear.
-/
import Derived.Test.YtiekholaheddhaaZPD
set_option linter.unusedSimpArgs false
set_option linter.unusedVariables false
namespace Go.Proofs.Ytiekholaheddhaa
open Go.RowKit Go.Lib

variable {P N : Nat → Prop} {w W W' : World} {t : TypeId} {b : Nat} {v : Value} {s : St}
theorem leaves_in (g x : Int) (w : World) : Calls Try.prog 28 #[.int .i64 g, .int .i64 x] w fun e W => e = .returned (.bool (decide (g < x))) ∧ w = W := by
  obtain ⟨R, hR⟩ : ∃ R, decide (g < x) = R := ⟨_, rfl⟩
  rw [hR]
  cases R with
  | true =>
    have h := of_decide_eq_true hR
    clear hR
    go_enter Try.func28, Try.ntmps28
    go_wp2
    go_ret
    exact ⟨rfl, rfl⟩
  | false =>
    have h := of_decide_eq_false hR
    clear hR
    go_enter Try.func28, Try.ntmps28
    go_wp2
    go_ret
    exact ⟨rfl, rfl⟩
/-- where the first stands that is left -/
def IdA (l : List Int) (g : Int) (e : Ending) : Prop := (∃ i : Nat, e = .returned (.int .i64 (i : Nat)) ∧ i < l.length ∧ (∀ j x, j < i → l[j]? = some x → x ≤ g) ∧ (∀ x, l[i]? = some x → g < x)) ∨ (e = .returned (.int .i64 (-1)) ∧ ∀ (j : Nat) x, l[j]? = some x → x ≤ g)
set_option maxRecDepth 100000 in
set_option maxHeartbeats 4000000 in
theorem indexF_in (v : Value) (l : List Int) (g : Int) (w : World) (h : RN w v l) (hl : l.length ≤ 1000000) :
    Calls Try.prog 30 #[v, .func (.func 28) #[.int .i64 g] #[]] w fun e W => IdA l g e ∧ w = W := by
  obtain ⟨a, c, rfl⟩ := h.form
  have HH := hide h
  obtain ⟨n, hn⟩ : ∃ n, l.length = n := ⟨_, rfl⟩
  have Hn := hide hn
  rw [hn] at hl ⊢
  clear h hn
  go_enter Try.func30, Try.ntmps30
  go_wp2
  go_loopw [8] (fun u wr => ∃ i : Nat, i ≤ n ∧ u = .int .i64 (i : Nat) ∧ Hid (∀ j x, j < i → l[j]? = some x → x ≤ g) ∧ w = wr) (fun u _ => n - (RowKit.intOf u).toNat)
  case atStart => exact ⟨0, Nat.zero_le _, rfl, hide (fun j x hj => absurd hj (by omega)), rfl⟩
  case round =>
    obtain ⟨i, hi, rfl, HI, rfl⟩ := hrel
    by_cases hlt : i < n
    · have hlt' : (i : Int) < (n : Int) := by omega
      have hil : i < l.length := by rw [unhide Hn]; exact hlt
      obtain ⟨x, hx⟩ : ∃ e, l[i]? = some e := ⟨_, List.getElem?_eq_getElem hil⟩
      have hr := unhide HH
      rw [show (Value.slice a l.length c) = .slice a n c by rw [unhide Hn]] at hr
      obtain ⟨g0, off, rfl, hg, hc⟩ := RN.at hr hx
      have HC := hide (leaves_in g x w)
      obtain ⟨R, hR⟩ : ∃ R, decide (g < x) = R := ⟨_, rfl⟩
      rw [hR] at HC
      have HR := hide hR
      have Hx := hide hx
      clear hR hx hr
      go_wp2_with fail
      refine (unhide HC).mono ?_
      rintro e W1 ⟨rfl, rfl⟩
      clear HC
      cases R with
      | true =>
        go_wp2
        go_ret
        refine ⟨.inl ⟨i, rfl, by rw [unhide Hn]; exact hlt, unhide HI, fun y hy => ?_⟩, rfl⟩
        rw [unhide Hx] at hy
        cases hy
        exact of_decide_eq_true (unhide HR)
      | false =>
        go_wp2
        go_roundw
        case rel =>
          refine ⟨i + 1, by omega, by go_num, hide (fun j y hj hy => ?_), by first | trivial | rfl⟩
          by_cases ej : j = i
          · subst ej
            rw [unhide Hx] at hy
            cases hy
            have := of_decide_eq_false (unhide HR)
            omega
          · exact unhide HI j y (by omega) hy
        case measure => show n - ((i : Int) + 1).toNat < n - ((i : Nat) : Int).toNat; omega
    · have hlt' : ¬ (i : Int) < (n : Int) := by omega
      go_wp2
      go_ret
      refine ⟨.inr ⟨rfl, fun j x hx => unhide HI j x ?_ hx⟩, rfl⟩
      have := (List.getElem?_eq_some_iff.1 hx).1
      have := unhide Hn
      omega
/-- the flight is told anew -/
theorem PM.setfl (h : Bx W b t (pC s v)) (u : Value) (l : List Int) : Bx (W.setCell ⟨b, 3, none⟩ u) b t (pC { s with fl := l } u) := by
  have := h.set 3 u
  simpa [pC] using this
theorem Gd.cut {s : St} (h : Gd s) (g : Int) : Gd { s with fl := lft s.fl g } := by
  refine ⟨h.w0, h.w1, h.p0, h.p1, h.l0, h.l1, ?_, List.Pairwise.filter _ h.ris, fun x hx => h.le x (lft_mem.1 hx).1, h.g0, h.g1, h.c0, h.c1⟩
  have := lft_le s.fl g
  have := h.ln
  show ((lft s.fl g).length : Int) ≤ s.wd
  omega
set_option maxRecDepth 100000 in
set_option maxHeartbeats 4000000 in
theorem land_in (h : PL P w 39 b s) (g : Int) : Calls Try.prog 27 #[.pointer (some ⟨b, 0, none⟩), .func (.func 28) #[.int .i64 g] #[]] w fun e W => e = .returned (.bool (hrdB s g)) ∧ PL P W 39 b { s with fl := lft s.fl g } ∧ Kp P w W := by
  obtain ⟨v, h⟩ := h
  have c3 := h.c3
  have hln := h.len
  have HI := hide (indexF_in v s.fl g w h.row.rn (by omega))
  obtain ⟨a, c, rfl, hc⟩ := h.row.form
  have hne : ∀ i, (Value.slice a s.fl.length c).ownBlock = some i → i ≠ b := fun i hi e => by
    obtain ⟨cur, hcur⟩ := h.row.kind i hi
    exact Bx.apart hcur h.bx (by decide) e
  -- behind clear(flight[:i]), i at most the length
  have key : ∀ i, i ≤ s.fl.length → ∃ W1, (Builtin.clear_ #[37] 0 #[.slice a i c]).run Try.prog w = .ok (.tuple #[]) W1 ∧ Kp P w W1 ∧ Bx W1 b 39 (pC s (.slice a s.fl.length c)) ∧ RdN W1 (.slice a 0 c) [] ∧ (i < s.fl.length → ∃ g o, a = some ⟨g, o, none⟩ ∧ RdN W1 (.slice (some ⟨g, o + i, none⟩) (s.fl.length - i) (c - i)) (s.fl.drop i)) := fun i hi => by
    obtain ⟨W1, h1, h2, h3, h4⟩ := RdN.clr 0 h.row hi
    exact ⟨W1, h1, h2.wk (fun k hk => h.pk k hk), h.bx.kp h2 (fun e => hne _ e rfl), h3, h4⟩
  have HK := hide key
  have H := hide h
  obtain ⟨n, hn⟩ : ∃ n, s.fl.length = n := ⟨_, rfl⟩
  have Hn := hide hn
  obtain ⟨B, hB⟩ : ∃ B, hrdB s g = B := ⟨_, rfl⟩
  have HB := hide hB
  rw [hB]
  rw [hn] at c3 HI hc hln
  have hto := fun (W : World) (k : Nat) (hk : k ≤ c) => sl_toN W a n c k hk
  clear h hne key hn hB
  go_enter Try.func27, Try.ntmps27
  go_wp2_with fail
  refine (unhide HI).mono ?_
  rintro e W1 ⟨h1, rfl⟩
  clear HI
  rcases h1 with ⟨i, rfl, hi, hlo, hhi⟩ | ⟨rfl, hall⟩
  · have Hdrop := hide (lft_drop (unhide H).gd.ris hlo hhi)
    rw [unhide Hn] at hi
    obtain ⟨W1, hcl, k1, bx1, _, r0⟩ := unhide HK i (by rw [unhide Hn]; omega)
    obtain ⟨g0, o0, rfl, r1⟩ := r0 (by rw [unhide Hn]; exact hi)
    clear r0
    rw [unhide Hn] at r1 bx1
    have d3 : W1.cell? ⟨b, 3, none⟩ = some (.slice (some ⟨g0, o0, none⟩) n c) := bx1.cell 3 _ rfl
    have fz3 : W1.frozen? ⟨b, 3, none⟩ = false := bx1.frozen 3
    have hto1 := hto w i (by omega)
    have hfr := sl_fromN W1 ⟨g0, o0, none⟩ n c i (by omega) hc (by omega)
    have hnl : ¬ (i : Int) < 0 := by omega
    have hne : ((i : Int) == (n : Int)) = false := by rw [beq_eq_false_iff_ne]; omega
    rw [Addr.add_lit] at hfr
    obtain ⟨X, hX⟩ : ∃ X, W1.setCell ⟨b, 3, none⟩ (.slice (some ⟨g0, o0 + i, none⟩) (n - i) (c - i)) = X := ⟨_, rfl⟩
    have HF := hide (show PL P X 39 b { s with fl := lft s.fl g } ∧ Kp P w X by
      have hne' : ∀ k, (Value.slice (some ⟨g0, o0 + i, none⟩) (n - i) (c - i)).ownBlock = some k → k ≠ b := fun k hk e => by
        obtain ⟨cur, hcur⟩ := r1.kind k hk
        exact Bx.apart hcur bx1 (by decide) e
      rw [← hX]
      refine ⟨⟨_, (unhide H).pb, PM.setfl bx1 _ _, ?_, fun k hk => (unhide H).pk k hk, (unhide H).gd.cut g⟩, k1.trans (Kp.set (N := P) _ _ _ (unhide H).pb) (fun i hi => .inl hi)⟩
      show RdN _ _ (lft s.fl g)
      rw [unhide Hdrop]
      exact r1.kp (Kp.set (N := fun i => i = b) _ _ _ rfl) (fun k hk e => hne' k hk e))
    have hBi : B = decide (0 < i) := by
      rw [← unhide HB]
      unfold hrdB
      rw [unhide Hdrop, List.length_drop, unhide Hn]
      by_cases h0 : 0 < i
      · rw [decide_eq_true h0, decide_eq_true (by omega)]
      · rw [decide_eq_false h0, decide_eq_false (by omega)]
    have HBi := hide hBi
    clear hBi hlo hhi k1 bx1 r1 hto
    go_wp2_with (at_builtin; refine wpList_clear_eq rfl _ _ rfl _ _ _ rfl hcl ?_)
    go_ret
    refine ⟨?_, unhide HF⟩
    rw [unhide HBi]
    congr 2
  · have Hdrop : Hid (lft s.fl g = []) := by
      have := lft_drop (unhide H).gd.ris (g := g) (i := s.fl.length) (fun j x _ hx => hall j x hx) (fun x hx => by simp at hx)
      rw [this]
      exact List.drop_length
    obtain ⟨W1, hcl, k1, bx1, r1, _⟩ := unhide HK n (by rw [unhide Hn]; omega)
    rw [unhide Hn] at bx1
    have d3 : W1.cell? ⟨b, 3, none⟩ = some (.slice a n c) := bx1.cell 3 _ rfl
    have fz3 : W1.frozen? ⟨b, 3, none⟩ = false := bx1.frozen 3
    have hto1 := hto w n (by omega)
    have hto2 := hto W1 0 (by omega)
    obtain ⟨X, hX⟩ : ∃ X, W1.setCell ⟨b, 3, none⟩ (.slice a 0 c) = X := ⟨_, rfl⟩
    have HF := hide (show PL P X 39 b { s with fl := lft s.fl g } ∧ Kp P w X by
      have hne' : ∀ k, (Value.slice a 0 c).ownBlock = some k → k ≠ b := fun k hk e => by
        obtain ⟨cur, hcur⟩ := r1.kind k hk
        exact Bx.apart hcur bx1 (by decide) e
      have hob : (Value.slice a 0 c).ownBlock = (Value.slice a s.fl.length c).ownBlock := by cases a <;> rfl
      rw [← hX]
      refine ⟨⟨_, (unhide H).pb, PM.setfl bx1 _ _, ?_, fun k hk => (unhide H).pk k (hob ▸ hk), (unhide H).gd.cut g⟩, k1.trans (Kp.set (N := P) _ _ _ (unhide H).pb) (fun i hi => .inl hi)⟩
      show RdN _ _ (lft s.fl g)
      rw [unhide Hdrop]
      exact r1.kp (Kp.set (N := fun i => i = b) _ _ _ rfl) (fun k hk e => hne' k hk e))
    have hBi : B = decide (0 < n) := by
      rw [← unhide HB]
      unfold hrdB
      rw [unhide Hdrop, unhide Hn]
      rfl
    have HBi := hide hBi
    clear hBi hall k1 bx1 r1 hto
    go_wp2_with (at_builtin; refine wpList_clear_eq rfl _ _ rfl _ _ _ rfl hcl ?_)
    go_ret
    refine ⟨?_, unhide HF⟩
    rw [unhide HBi]
    congr 2

theorem Gd.gc {s : St} (h : Gd s) (n c : Int) : Gd { s with gt := gotS s n, cr := crdS c } := ⟨h.w0, h.w1, h.p0, h.p1, h.l0, h.l1, h.ln, h.ris, h.le, (h.hrd n 0 c).g0, (h.hrd n 0 c).g1, (h.hrd n 0 c).c0, (h.hrd n 0 c).c1⟩
theorem PM.setgc (h : PM P W t b v s) (n c : Int) (hne : ∀ i, v.ownBlock = some i → i ≠ b) {X Y : World} (hX : (gotS s n = s.gt ∧ X = W) ∨ X = W.setCell ⟨b, 4, none⟩ (.int .i64 (gotS s n))) (hY : X.setCell ⟨b, 5, none⟩ (.int .i64 (crdS c)) = Y) : PM P Y t b v { s with gt := gotS s n, cr := crdS c } ∧ Kp P W Y ∧ X.frozen? ⟨b, 5, none⟩ = false ∧ X.cell? ⟨b, 5, none⟩ = some (.int .i64 s.cr) := by
  have hbx : Bx X b t (pC { s with gt := gotS s n } v) ∧ Kp (fun i => i = b) W X := by
    rcases hX with ⟨e, rfl⟩ | rfl
    · rw [e]; exact ⟨h.bx, Kp.refl _ _⟩
    · refine ⟨?_, Kp.set _ _ _ rfl⟩
      have := h.bx.set 4 (.int .i64 (gotS s n))
      simpa [pC] using this
  have k2 : Kp (fun i => i = b) W Y := by rw [← hY]; exact hbx.2.trans (Kp.set (N := fun i => i = b) _ _ _ rfl) (fun i hi => .inl hi)
  refine ⟨⟨h.pb, ?_, h.row.kp k2 (fun i hi e => hne i hi e), h.pk, h.gd.gc n c⟩, k2.wk (fun i hi => by rw [hi]; exact h.pb), hbx.1.frozen 5, hbx.1.cell 5 _ rfl⟩
  rw [← hY]
  have := hbx.1.set 5 (.int .i64 (crdS c))
  simpa [pC] using this
theorem PM.ne (h : PM P W 39 b v s) : ∀ i, v.ownBlock = some i → i ≠ b := fun i hi e => by
  obtain ⟨cur, hcur⟩ := h.row.kind i hi
  exact Bx.apart hcur h.bx (by decide) e
set_option maxRecDepth 100000 in
set_option maxHeartbeats 4000000 in
theorem Heard_in (h : PL P w 39 b s) (n g c : Int) : Calls Try.prog 15 #[.pointer (some ⟨b, 0, none⟩), .int .i64 n, .int .i64 g, .int .i64 c] w (CP P w 39 b (hrdS s n g c) (.bool (hrdB s g))) := by
  obtain ⟨v, h⟩ := h
  have c4 := h.c4
  have fz4 := h.fz 4
  have fz5 := h.fz 5
  have HFin : Hid (∀ (Y : World), PM P Y 39 b v { s with gt := gotS s n, cr := crdS c } → Kp P w Y → Calls Try.prog 27 #[.pointer (some ⟨b, 0, none⟩), .func (.func 28) #[.int .i64 g] #[]] Y fun e W => e = .returned (.bool (hrdB s g)) ∧ Hid (CP P w 39 b (hrdS s n g c) (.bool (hrdB s g)) (.returned (.bool (hrdB s g))) W)) := fun Y hY kY => by
    refine (land_in ⟨v, hY⟩ g).mono ?_
    rintro e W ⟨rfl, h1, h2⟩
    exact ⟨rfl, rfl, h1.mono (fun _ => .inl), kY.trans h2 (fun i hi => .inl hi)⟩
  generalize hrdB s g = R at *
  obtain ⟨cv, hcv⟩ : ∃ cv, crdS c = cv := ⟨_, rfl⟩
  have hcv' : min (max c 0) 256 = cv := hcv
  by_cases hn : n ≤ 2147483647
  · have hg : gotS s n = max s.gt n := by unfold gotS; rw [if_pos hn]
    obtain ⟨X, hX⟩ : ∃ X, w.setCell ⟨b, 4, none⟩ (.int .i64 (max s.gt n)) = X := ⟨_, rfl⟩
    obtain ⟨Y, hY⟩ : ∃ Y, X.setCell ⟨b, 5, none⟩ (.int .i64 (crdS c)) = Y := ⟨_, rfl⟩
    obtain ⟨hp, hk, fzX, cX⟩ := h.setgc n c h.ne (.inr (by rw [hg]; exact hX.symm)) hY
    have HL := hide (unhide HFin Y hp hk)
    rw [hcv] at hY
    clear h hp hk HFin hg hcv
    generalize s.gt = gt at *
    generalize s.cr = cr at *
    go_enter Try.func15, Try.ntmps15
    go_wp2_with fail
    refine (unhide HL).mono ?_
    rintro e W ⟨rfl, H1⟩
    clear HL
    go_wp2
    go_ret
    exact unhide H1
  · have hg : gotS s n = s.gt := by unfold gotS; rw [if_neg hn]
    obtain ⟨Y, hY⟩ : ∃ Y, w.setCell ⟨b, 5, none⟩ (.int .i64 (crdS c)) = Y := ⟨_, rfl⟩
    obtain ⟨hp, hk, fzX, cX⟩ := h.setgc n c h.ne (.inl ⟨hg, rfl⟩) hY
    have HL := hide (unhide HFin Y hp hk)
    rw [hcv] at hY
    clear h hp hk HFin hg hcv
    generalize s.gt = gt at *
    generalize s.cr = cr at *
    go_enter Try.func15, Try.ntmps15
    go_wp2_with fail
    refine (unhide HL).mono ?_
    rintro e W ⟨rfl, H1⟩
    clear HL
    go_wp2
    go_ret
    exact unhide H1
set_option maxRecDepth 100000 in
theorem Clear_in (h : PL P w 39 b s) : Calls Try.prog 13 #[.pointer (some ⟨b, 0, none⟩)] w (CP P w 39 b (clrS s) (.tuple #[])) := by
  have HL := hide (land_in h 2147483647)
  rw [lft_all h.gd] at HL
  generalize hrdB s 2147483647 = R at *
  clear h
  go_enter Try.func13, Try.ntmps13
  go_wp2_with fail
  refine (unhide HL).mono ?_
  rintro e W ⟨rfl, h1, h2⟩
  replace h1 := hide h1
  replace h2 := hide h2
  clear HL
  go_wp2
  refine bodyPost_end (results_none rfl _ _ _) rfl ?_
  exact ⟨rfl, (unhide h1).mono (fun _ => .inl), unhide h2⟩

end Go.Proofs.Ytiekholaheddhaa
