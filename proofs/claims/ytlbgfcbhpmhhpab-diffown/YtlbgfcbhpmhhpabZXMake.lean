/-
  edits: the least change.
-/
import Derived.Test.YtlbgfcbhpmhhpabZXWalk
import Derived.Test.YtlbgfcbhpmhhpabZBad
import Derived.Test.YtlbgfcbhpmhhpabZCnt
import Derived.Laws.AppendOwn

set_option linter.unusedSimpArgs false
set_option linter.unusedVariables false
namespace Go.Proofs.Ytlbgfcbhpmhhpab
open Go.RowKit Go.Lib

theorem infoEdit : (Try.prog.info? 31).map (fun i => (i.zero, i.size, i.bytes)) = some (some (.agg #[.int .i64 0, .int .i64 0, .string ⟨#[]⟩]), 3, 32) := by kernel_rfl

theorem new_three (W : World) (c0 c1 c2 : Value) (t : TypeId) : ∀ j u, ([c0, c1, c2] : List Value)[j]? = some u → (W.alloc (.cells #[c0, c1, c2] t)).cell? ((⟨W.heap.size, 0, none⟩ : Addr).add j) = some u := by
  intro j u h
  match j, h with
  | 0, h => simp at h; subst h; simp [go_sem, Addr.add]
  | 1, h => simp at h; subst h; simp [go_sem, Addr.add]
  | 2, h => simp at h; subst h; simp [go_sem, Addr.add]
  | j + 3, h => simp at h

set_option maxRecDepth 100000 in
set_option maxHeartbeats 4000000 in
theorem edits_in {w0 w : World} {X Y : List Int} {N M : Nat} {a : Option Addr} {bb ca cb : Nat} {r : Nat → Nat} (h : Ws w0 w.heap.size w X Y N M a (some ⟨bb, 0, none⟩) ca cb r 0 0) (ra : RS w0 (.slice a N ca) X) (rb : RS w0 (.slice (some ⟨bb, 0, none⟩) M cb) Y) (nx : X.length = N) (ny : Y.length = M) (hn : N ≤ 1000000) (hm : M ≤ 1000000) (hcb : M ≤ cb) :
    Calls Try.prog 14 #[.pointer (some ⟨w0.heap.size + 1, 0, none⟩)] w fun e W => ∃ v, e = .returned v ∧ W.ownsRow w.heap.size 31 3 v (mkL X Y).length (edsC (mkL X Y)) ∧ Below w0.heap.size w0 W := by
  obtain ⟨i0, hinf, hz0, hz1, hz2⟩ := info_parts infoEdit
  have Hra := hide ra
  have Hrb := hide rb
  have Hnx := hide nx
  have Hny := hide ny
  have Hws := hide h
  have hsz := h.sz
  obtain ⟨H, hH⟩ : ∃ H, w.heap.size = H := ⟨_, rfl⟩
  rw [hH] at Hws hsz ⊢
  clear h ra rb nx ny hH
  go_enter Try.func14, Try.ntmps14
  go_wp2
  go_loopw [3] (fun lv wr => ∃ (i j : Nat) (L : List Ed), i ≤ N ∧ j ≤ M ∧ L.length ≤ i + j ∧ Ws w0 H wr X Y N M a (some ⟨bb, 0, none⟩) ca cb r i j ∧ wr.ownsRow H 31 3 lv L.length (edsC L) ∧ Hid (L ++ (gx X Y 0 0 [] i j).map edOf = mkL X Y)) (fun _ wr => N + M - (cI wr (w0.heap.size + 1) 2 + cI wr (w0.heap.size + 1) 3))
  case atStart => exact ⟨0, 0, [], by omega, by omega, by simp, unhide Hws, World.ownsRow_nil _ _ _ _, hide rfl⟩
  case round =>
    obtain ⟨i, j, L, hi, hj, hL, hws, hrow, hgx⟩ := hrel
    have hkeep := hide (keep_in hws (unhide Hra) (unhide Hrb) (unhide Hnx) (unhide Hny) hn hm hi hj)
    have Hw := hide hws
    have Hrow := hide hrow
    clear hws hrow
    go_wp2_with fail
    refine (unhide hkeep).mono ?_
    rintro e W1 ⟨k, rfl, hk1, hk2, hws1, hok1, hsm, hgk⟩
    have hend := hide (ended_in (hws1.wk (unhide Hra) (unhide Hrb) (unhide Hnx) (unhide Hny) hn hm) hk1 hk2)
    have Hw1 := hide hws1
    have Hsm := hide hsm
    have Hgk := hide hgk
    have Hrow1 := hide (hok1 _ _ _ (unhide Hrow))
    clear hkeep hws1 hsm hgk hok1
    by_cases hen : i + k = N ∧ j + k = M
    · have hde : (decide (i + k = N) && decide (j + k = M)) = true := by simp [hen]
      rw [hde] at hend
      clear hde
      have hLm : L = mkL X Y := by
        rw [← unhide hgx, unhide Hgk]
        have := gx_none X Y k
        rw [unhide Hnx, unhide Hny] at this
        rw [hen.1, hen.2, this]
        simp
      have HLm := hide hLm
      clear hen hLm
      go_wp2_with (go_at_call 25; refine (unhide hend).mono ?_; rintro e w' ⟨rfl, nd, rfl⟩)
      go_ret
      refine ⟨_, rfl, ?_, ((unhide Hw1).drew nd).bel⟩
      rw [← unhide HLm]
      exact unhide Hrow1
    · have hde : (decide (i + k = N) && decide (j + k = M)) = false := by
        by_cases h : i + k = N
        · have h2 : ¬ j + k = M := fun e => hen ⟨h, e⟩
          simp [h2]
        · simp [h]
      rw [hde] at hend
      clear hde
      have Hen := hide hen
      clear hen
      go_wp2_with (first | (go_at_call 25; refine (unhide hend).mono ?_; rintro e w' ⟨rfl, nd, rfl⟩) | fail)
      refine (replace_in ((unhide Hw1).drew _) (unhide Hra) (unhide Hrb) (unhide Hnx) (unhide Hny) hn hm hcb hk1 hk2 (unhide Hsm) (unhide Hen)).mono ?_
      rintro e W2 ⟨i', j', rfl, g1, g2, g3, g4, hlt, hws2, hok2, hgr⟩
      have hgr' := hide (hgr k)
      have Hw2 := hide hws2
      have hrow2 := hok2 _ _ _ (unhide Hrow1)
      have Hrow2 := hide hrow2
      have hs2 := hws2.hH
      clear hgr hws2 hok2 hrow2
      obtain ⟨d, hd⟩ : ∃ d, i' - (i + k) = d := ⟨_, rfl⟩
      obtain ⟨t, ht⟩ : ∃ t, (Y.drop (j + k)).take (j' - (j + k)) = t := ⟨_, rfl⟩
      rw [hd, ht] at hgr' ⊢
      clear hd ht
      go_wp2_with (at_builtin; refine wpList_append_own _ rfl _ _ 23 rfl H 31 i0 _ 3 32 Try.underlying23 hinf hz0 hz1 hz2 rfl (by decide) u3 L.length (edsC L) rfl (World.ownsRow.alloc (unhide Hrow2) _) ⟨W2.heap.size, 0, none⟩ 1 1 (edC ((k : Int), (d : Int), runesBytes t)) rfl rfl (new_three _ _ _ _ _) (by simp [edC, Value.oneCell']) (by unfold maxLen; omega) (by omega) (by simp; omega) ?_; intro v4 W4 ho4 hg4 _)
      have hB : Below H W2 W4 := ((Below.refl H W2).alloc hs2 _).grown hg4 (by simp; omega) (fun q e => ((unhide Hrow2).lt q e).1)
      have hw4 := (unhide Hw2).later hB
      refine ⟨⟨i', j', L ++ [((k : Int), (d : Int), runesBytes t)], g3, g4, by simp; omega, hw4, ?_, hide ?_⟩, ?_⟩
      · rw [edsC_append, List.length_append]
        exact ho4
      · rw [← unhide hgx, unhide Hgk, unhide hgr']
        simp [edOf]
      · obtain ⟨a1, a2⟩ := hw4.cI2
        obtain ⟨b1, b2⟩ := (unhide Hw).cI2
        rw [a1, a2, b1, b2]
        omega

theorem owns_base {W : World} {B B' e m n : Nat} {v : Value} {xs : List Value} (h : W.ownsRow B e m v n xs) (hb : B' ≤ B) : W.ownsRow B' e m v n xs :=
  ⟨h.1, h.2.imp id fun ⟨g, cap, cur, e1, e2, rest⟩ => ⟨g, cap, cur, e1, Nat.le_trans hb e2, rest⟩⟩
theorem owns_below {W W' : World} {B e m n : Nat} {v : Value} {xs : List Value} (h : W.ownsRow B e m v n xs) (hb : Below W.heap.size W W') : W'.ownsRow B e m v n xs := by
  refine ⟨h.1, h.2.imp id fun ⟨g, cap, cur, e1, e2, e3, rest⟩ => ⟨g, cap, cur, e1, e2, ?_, rest⟩⟩
  exact (hb.block g (Array.getElem?_eq_some_iff.1 e3).1).trans e3

/-- a text of runes all through -/
def goodB (s : ByteArray) : Bool := decide (firstBad s (allL s) < 0)
def mkErr (s t : ByteArray) : Int := if goodB s && goodB t then (if 400 < max (allL s).length (allL t).length then 7 else 0) else 2
def mkRes (s t : ByteArray) : List Ed := if mkErr s t = 0 then mkL (runeL s) (runeL t) else []

end Go.Proofs.Ytlbgfcbhpmhhpab

/-
  Make: the least change, or the error.
-/
set_option linter.unusedSimpArgs false
set_option linter.unusedVariables false
namespace Go.Proofs.Ytlbgfcbhpmhhpab
open Go.RowKit Go.Lib

theorem goodB_true {s : ByteArray} (h : goodB s = true) : ¬ (0 ≤ firstBad s (allL s)) := by unfold goodB at h; have := of_decide_eq_true h; omega
theorem goodB_false {s : ByteArray} (h : goodB s = false) : 0 ≤ firstBad s (allL s) := by unfold goodB at h; have := of_decide_eq_false h; omega

set_option maxRecDepth 100000 in
set_option maxHeartbeats 4000000 in
theorem make_in (s t : ByteArray) (hs : s.size ≤ 1000000000) (ht : t.size ≤ 1000000000) (w : World) :
    Calls Try.prog 5 #[.string s, .string t] w fun e W => ∃ v, e = .returned (.tuple #[v, .int .i64 (mkErr s t)]) ∧ W.ownsRow w.heap.size 31 3 v (mkRes s t).length (edsC (mkRes s t)) ∧ Below w.heap.size w W := by
  have hb1 := fun W => hide (badAt_in s (by omega) W)
  have hb2 := fun W => hide (badAt_in t (by omega) W)
  have hc1 := fun W => hide (count_in s (by omega) W)
  have hc2 := fun W => hide (count_in t (by omega) W)
  have hr1 := fun W => hide (runes_in s (by omega) W)
  have hr2 := fun W => hide (runes_in t (by omega) W)
  have hl1 := allL_length s
  have hl2 := allL_length t
  have hm1 := runeL_length s
  have hm2 := runeL_length t
  unfold mkRes mkErr
  cases hg1 : goodB s with
  | false =>
    have hf := goodB_false hg1
    simp only [Bool.false_and, Bool.false_eq_true, if_false, show (2 : Int) ≠ 0 by decide, hg1]
    generalize firstBad s (allL s) = F at hb1 hf
    have hfd : decide ((0 : Int) ≤ F) = true := decide_eq_true hf
    clear hb2 hc1 hc2 hr1 hr2 hg1
    go_enter Try.func5, Try.ntmps5
    go_wp2_with (go_at_call 10; refine (unhide (hb1 _)).mono ?_; rintro e W1 ⟨rfl, hB1⟩)
    go_ret2
    exact ⟨_, rfl, World.ownsRow_nil _ _ _ _, hB1⟩
  | true =>
    have hf := goodB_true hg1
    cases hg2 : goodB t with
    | false =>
      have hf2 := goodB_false hg2
      simp only [Bool.and_false, Bool.false_eq_true, if_false, show (2 : Int) ≠ 0 by decide, hg2]
      generalize firstBad s (allL s) = F at hb1 hf
      generalize firstBad t (allL t) = F2 at hb2 hf2
      have hfd : decide ((0 : Int) ≤ F) = false := decide_eq_false hf
      have hfd2 : decide ((0 : Int) ≤ F2) = true := decide_eq_true hf2
      clear hc1 hc2 hr1 hr2 hg1 hg2
      go_enter Try.func5, Try.ntmps5
      go_wp2_with fail
      refine (unhide (hb1 _)).mono ?_
      rintro e W1 ⟨rfl, hB1⟩
      go_wp2_with fail
      refine (unhide (hb2 _)).mono ?_
      rintro e W2 ⟨rfl, hB2⟩
      go_wp2
      go_ret2
      exact ⟨_, rfl, World.ownsRow_nil _ _ _ _, hB1.trans (hB2.mono hB1.size)⟩
    | true =>
      have hf2 := goodB_true hg2
      simp only [Bool.and_true, if_true]
      generalize firstBad s (allL s) = F at hb1 hf
      generalize firstBad t (allL t) = F2 at hb2 hf2
      have hfd : decide ((0 : Int) ≤ F) = false := decide_eq_false hf
      have hfd2 : decide ((0 : Int) ≤ F2) = false := decide_eq_false hf2
      rw [hm1] at hr1
      rw [hm2] at hr2
      generalize hN : (allL s).length = N at *
      generalize hM : (allL t).length = M at *
      have hN' := hide hN
      have hM' := hide hM
      clear hg1 hg2 hN hM
      by_cases hlong : 400 < max N M
      · simp only [if_pos hlong, show (7 : Int) ≠ 0 by decide, if_false]
        have hlg : decide ((400 : Int) < max (N : Int) (M : Int)) = true := by rw [decide_eq_true_iff]; omega
        clear hr1 hr2 hm1 hm2
        go_enter Try.func5, Try.ntmps5
        go_wp2_with fail
        refine (unhide (hb1 _)).mono ?_
        rintro e W1 ⟨rfl, hB1⟩
        go_wp2_with fail
        refine (unhide (hb2 _)).mono ?_
        rintro e W2 ⟨rfl, hB2⟩
        go_wp2_with fail
        refine (unhide (hc1 _)).mono ?_
        rintro e W3 ⟨rfl, hB3⟩
        go_wp2_with fail
        refine (unhide (hc2 _)).mono ?_
        rintro e W4 ⟨rfl, hB4⟩
        have hB : Below w.heap.size w W4 := ((hB1.trans (hB2.mono hB1.size)).trans (hB3.mono (Nat.le_trans hB1.size hB2.size))).trans (hB4.mono (Nat.le_trans hB1.size (Nat.le_trans hB2.size hB3.size)))
        go_wp2
        all_goals (first | (exfalso; omega) | (go_ret2; exact ⟨_, rfl, World.ownsRow_nil _ _ _ _, hB⟩))
      · simp only [if_neg hlong, if_true]
        have hlg : decide ((400 : Int) < max (N : Int) (M : Int)) = false := by rw [decide_eq_false_iff_not]; omega
        have hN4 : N ≤ 400 := by omega
        have hM4 : M ≤ 400 := by omega
        have Hm1 := hide hm1
        have Hm2 := hide hm2
        clear hm1 hm2
        go_enter Try.func5, Try.ntmps5
        go_wp2_with fail
        refine (unhide (hb1 _)).mono ?_
        rintro e W1 ⟨rfl, hB1⟩
        go_wp2_with fail
        refine (unhide (hb2 _)).mono ?_
        rintro e W2 ⟨rfl, hB2⟩
        go_wp2_with fail
        refine (unhide (hc1 _)).mono ?_
        rintro e W3 ⟨rfl, hB3⟩
        go_wp2_with fail
        refine (unhide (hc2 _)).mono ?_
        rintro e W4 ⟨rfl, hB4⟩
        have hB : Below w.heap.size w W4 := ((hB1.trans (hB2.mono hB1.size)).trans (hB3.mono (Nat.le_trans hB1.size hB2.size))).trans (hB4.mono (Nat.le_trans hB1.size (Nat.le_trans hB2.size hB3.size)))
        clear hB1 hB2 hB3 hB4 hb1 hb2 hc1 hc2
        go_wp2_with fail
        all_goals
          refine (unhide (hr1 _)).mono ?_
          rintro e W5 ⟨v5, rfl, ho5, hB5, ca, rfl⟩
          go_wp2_with fail
          refine (unhide (hr2 _)).mono ?_
          rintro e W6 ⟨v6, rfl, ho6, hB6, cb, rfl⟩
          have ra : RS W6 (.slice (some ⟨W4.heap.size, 0, none⟩) N ca) (runeL s) := RS.below hB6 (RS.of_owns (by rw [unhide Hm1]; exact ho5))
          have rb : RS W6 (.slice (some ⟨W5.heap.size, 0, none⟩) M cb) (runeL t) := RS.of_owns (by rw [unhide Hm2]; exact ho6)
          have hcb : M ≤ cb := by
            rcases ho6.2 with ⟨e, _⟩ | ⟨g, cap, cur, e, _, _, h3, _⟩
            · cases e
            · simp at e; omega
          have Hra := hide ra
          have Hrb := hide rb
          clear ra rb ho5 ho6
          go_wp2_with fail
          refine (newWalk_in W6 (runeL s) (runeL t) N M _ _ ca cb (unhide Hra) (unhide Hrb) (unhide Hm1) (unhide Hm2) (by omega) (by omega)).mono ?_
          rintro e W7 ⟨rfl, r, hbo⟩
          have Hbo := hide hbo
          clear hbo
          go_wp2_with fail
          refine (edits_in (Ws.of (unhide Hbo)) (unhide Hra) (unhide Hrb) (unhide Hm1) (unhide Hm2) (by omega) (by omega) hcb).mono ?_
          rintro e W8 ⟨v8, rfl, ho8, hB8⟩
          have hz := hB.size
          have hz5 := hB5.size
          have hz6 := hB6.size
          have hz7 := (unhide Hbo).bel.size
          have hBB : Below w.heap.size w W8 := ((hB.trans (hB5.mono hz)).trans (hB6.mono (by omega))).trans (hB8.mono (by omega))
          go_wp2
          go_ret2
          exact ⟨_, rfl, owns_base ho8 (by omega), hBB⟩

end Go.Proofs.Ytlbgfcbhpmhhpab
