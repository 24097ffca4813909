/-
  The row of timers in memory: Len, Less, Swap.
-/
import Derived.Test.YtknomhgglmgciaaZAP
import Derived.Test.YtknomhgglmgciaaZW0
import Derived.Deep.CutRange
set_option linter.unusedSimpArgs false
set_option linter.unusedVariables false
namespace Go.Proofs.Ytknomhgglmgciaa
open Go.RowKit Go.Lib

def ptrV (a : Nat) : Value := .pointer (some ⟨a, 0, none⟩)
def tmV (x : Tm) (i : Nat) : Array Value := #[.int .i64 x.key, .int .i64 x.gap, .int .i64 x.due, .int .i64 (i : Nat)]
/-- a row of timers, in blocks of which P holds -/
structure QS (P : Nat → Prop) (W : World) (v : Value) (ps : List Nat) (t : Nat → Tm) : Prop where
  row : W.ownsRow 0 60 1 v ps.length (ps.map ptrV)
  pk : ∀ k, v.ownBlock = some k → P k
  tm : ∀ i, i < ps.length → Bx W (pg ps i) 64 (tmV (t (pg ps i)) i) ∧ P (pg ps i)
variable {P N : Nat → Prop} {W W' : World} {v : Value} {ps : List Nat} {t : Nat → Tm}
theorem QS.kp (h : QS P W v ps t) (k : Kp N W W') (hn : ∀ i, N i → ¬ P i) : QS P W' v ps t :=
  ⟨owns_kp h.row k (fun i hi e => hn i e (h.pk i hi)), h.pk, fun i hi => ⟨(h.tm i hi).1.kp k (fun e => hn _ e (h.tm i hi).2), (h.tm i hi).2⟩⟩
theorem QS.below (h : QS P W v ps t) (hb : Below W.heap.size W W') : QS P W' v ps t := h.kp (N := fun _ => False) (Kp.of_below hb) (fun _ h => h.elim)
theorem QS.mono {P' : Nat → Prop} (h : QS P W v ps t) (hp : ∀ i, P i → P' i) : QS P' W v ps t := ⟨h.row, fun k hk => hp k (h.pk k hk), fun i hi => ⟨(h.tm i hi).1, hp _ (h.tm i hi).2⟩⟩
theorem QS.form (h : QS P W v ps t) : ∃ a c, v = .slice a ps.length c := owns_form h.row
theorem QS.inj (h : QS P W v ps t) {i k : Nat} (hi : i < ps.length) (hk : k < ps.length) (e : pg ps i = pg ps k) : i = k := by
  have h1 := (h.tm i hi).1
  have h2 := (h.tm k hk).1
  rw [e] at h1
  have e1 : W.heap[pg ps k]? = _ := h1
  have e2 : W.heap[pg ps k]? = _ := h2
  rw [e1] at e2
  simp [tmV] at e2
  omega
theorem QS.at {a : Option Addr} {n c : Nat} (h : QS P W (.slice a n c) ps t) {i : Nat} (hi : i < ps.length) : n = ps.length ∧ ∃ g, a = some ⟨g, 0, none⟩ ∧ W.cell? ⟨g, i, none⟩ = some (ptrV (pg ps i)) ∧ (∀ j, W.frozen? ⟨g, j, none⟩ = false) ∧ P g ∧ ∃ cur, Bx W g 60 cur := by
  obtain ⟨g, c', e, hc, cur, hb⟩ := owns_some h.row (by omega)
  simp at e
  obtain ⟨rfl, rfl, rfl⟩ := e
  refine ⟨rfl, g, rfl, ?_, fun j => h.row.frozenAt j, h.pk g rfl, cur, hb⟩
  rw [h.row.cellAt i (by omega), List.getElem?_map, pg_get hi]
  rfl
theorem QS.cells (h : QS P W v ps t) {i : Nat} (hi : i < ps.length) : W.cell? ⟨pg ps i, 0, none⟩ = some (.int .i64 (t (pg ps i)).key) ∧ W.cell? ⟨pg ps i, 1, none⟩ = some (.int .i64 (t (pg ps i)).gap) ∧ W.cell? ⟨pg ps i, 2, none⟩ = some (.int .i64 (t (pg ps i)).due) ∧ W.cell? ⟨pg ps i, 3, none⟩ = some (.int .i64 (i : Nat)) ∧ ∀ j, W.frozen? ⟨pg ps i, j, none⟩ = false := by
  have hb := (h.tm i hi).1
  exact ⟨hb.cell 0 _ rfl, hb.cell 1 _ rfl, hb.cell 2 _ rfl, hb.cell 3 _ rfl, fun j => hb.frozen j⟩

theorem qLen_in (a : Option Addr) (n c : Nat) (w : World) : Calls Try.prog 57 #[.slice a n c] w fun e W => e = .returned (.int .i64 (n : Nat)) ∧ w = W := by
  go_enter Try.func57, Try.ntmps57
  go_wp2
  go_ret
  exact ⟨rfl, rfl⟩

set_option maxRecDepth 100000 in
set_option maxHeartbeats 2000000 in
theorem qLess_in (h : QS P W v ps t) (hl : ps.length ≤ 1000000) (i k : Nat) (hi : i < ps.length) (hk : k < ps.length) :
    Calls Try.prog 58 #[v, .int .i64 (i : Nat), .int .i64 (k : Nat)] W fun e W' => e = .returned (.bool (ltT (t (pg ps i)) (t (pg ps k)))) ∧ Below W.heap.size W W' := by
  obtain ⟨a, c, rfl⟩ := h.form
  obtain ⟨_, g, rfl, c1, _⟩ := h.at hi
  obtain ⟨_, g', e, c2, _⟩ := h.at hk
  simp at e
  subst e
  obtain ⟨k1, _, k2, _⟩ := h.cells hi
  obtain ⟨l1, _, l2, _⟩ := h.cells hk
  unfold ptrV at c1 c2
  obtain ⟨R, hR⟩ : ∃ R, ltT (t (pg ps i)) (t (pg ps k)) = R := ⟨_, rfl⟩
  rw [hR]
  unfold ltT at hR
  generalize (t (pg ps i)).key = x1 at *
  generalize (t (pg ps i)).due = x2 at *
  generalize (t (pg ps k)).key = y1 at *
  generalize (t (pg ps k)).due = y2 at *
  generalize pg ps i = A at *
  generalize pg ps k = B at *
  clear h
  generalize ps.length = n at *
  have HR := hide hR
  clear hR
  have hi' : (i : Int) < (n : Int) := by omega
  have hk' : (k : Int) < (n : Int) := by omega
  by_cases h1 : x2 = y2
  · subst h1
    have hR := unhide HR
    simp only [Int.lt_irrefl, true_and, false_or] at hR
    clear HR
    obtain rfl : decide (x1 < y1) = R := hR
    go_enter Try.func58, Try.ntmps58
    go_wp2
    go_quiet (fail)
    go_wp2
    go_quiet (fail)
    go_wp2
    go_ret
    exact ⟨rfl, bdrew (bdrew (Below.refl _ _) _) _⟩
  · have hR := unhide HR
    simp only [h1, false_and, or_false] at hR
    clear HR
    obtain rfl : decide (x2 < y2) = R := hR
    have h2 : (x2 != y2) = true := by simpa using h1
    go_enter Try.func58, Try.ntmps58
    go_wp2
    go_quiet (fail)
    go_wp2
    go_quiet (fail)
    go_wp2
    go_ret
    exact ⟨rfl, bdrew (bdrew (Below.refl _ _) _) _⟩

set_option maxRecDepth 100000 in
set_option maxHeartbeats 2000000 in
theorem qSwap_in (h : QS P W v ps t) (hl : ps.length ≤ 1000000) (i k : Nat) (hi : i < ps.length) (hk : k < ps.length) (hik : i ≠ k) :
    Calls Try.prog 59 #[v, .int .i64 (i : Nat), .int .i64 (k : Nat)] W fun e W' => e = .returned (.tuple #[]) ∧ QS P W' v (swp ps i k) t ∧ Kp P W W' := by
  obtain ⟨a, c, rfl⟩ := h.form
  obtain ⟨_, g, rfl, c1, fg, pg1, cur, bg⟩ := h.at hi
  obtain ⟨_, g', e, c2, _⟩ := h.at hk
  simp at e
  subst e
  obtain ⟨_, _, _, k3, fi⟩ := h.cells hi
  obtain ⟨_, _, _, l3, fk⟩ := h.cells hk
  have hAB : pg ps i ≠ pg ps k := fun e => hik (h.inj hi hk e)
  have hgA : g ≠ pg ps i := bg.apart (h.tm i hi).1 (by decide)
  have hgB : g ≠ pg ps k := bg.apart (h.tm k hk).1 (by decide)
  have HH := hide h
  unfold ptrV at c1 c2
  generalize hA : pg ps i = A at *
  generalize hB : pg ps k = B at *
  have HA := hide hA
  have HB := hide hB
  clear h hA hB
  obtain ⟨n, hn⟩ : ∃ n, ps.length = n := ⟨_, rfl⟩
  have Hn := hide hn
  rw [hn] at hi hk hl
  have hi' : (i : Int) < (n : Int) := by omega
  have hk' : (k : Int) < (n : Int) := by omega
  rw [hn]
  clear hn
  have o1 := (unhide HH).row
  rw [unhide Hn] at o1
  obtain ⟨o2, g2⟩ := o1.stored i (.pointer (some ⟨B, 0, none⟩))
  obtain ⟨o3, g3⟩ := o2.stored k (.pointer (some ⟨A, 0, none⟩))
  have k3' : Kp (fun i => i = g) W ((W.setCell ⟨g, i, none⟩ (.pointer (some ⟨B, 0, none⟩))).setCell ⟨g, k, none⟩ (.pointer (some ⟨A, 0, none⟩))) := (Kp.set (N := fun i => i = g) W ⟨g, i, none⟩ _ rfl).trans (Kp.set (N := fun i => i = g) _ ⟨g, k, none⟩ _ rfl) (fun i hi => .inl hi)
  have O3 := hide (And.intro o3 k3')
  clear o1 o2 o3 g2 g3 k3'
  go_enter Try.func59, Try.ntmps59
  go_wp2
  go_cut [6] from 6 to 19 (fun v wx => Hid (wx.ownsRow 0 60 1 (.slice (some ⟨g, 0, none⟩) n c) n (((ps.map ptrV).set i (.pointer (some ⟨B, 0, none⟩))).set k (.pointer (some ⟨A, 0, none⟩))) ∧ Kp (fun i => i = g) W wx))
  case first =>
    go_region
    go_wp2
    go_meet
    exact ⟨(unhide O3).1.drew, (unhide O3).2.drew⟩
  case rest =>
    obtain ⟨o4, k4⟩ := unhide hcut
    have bG := bg
    clear O3 hcut c1 c2 k3 l3 fi fk fg bg
    have hL : (ps.map ptrV).length = n := by rw [List.length_map, unhide Hn]
    have c1 : wc.cell? ⟨g, i, none⟩ = some (.pointer (some ⟨B, 0, none⟩)) := by
      rw [o4.cellAt i (by omega), List.getElem?_set_ne (Ne.symm hik), List.getElem?_set_self (by rw [hL]; exact hi)]
    have c2 : wc.cell? ⟨g, k, none⟩ = some (.pointer (some ⟨A, 0, none⟩)) := by
      rw [o4.cellAt k (by omega), List.getElem?_set_self (by rw [List.length_set, hL]; exact hk)]
    have bA := ((unhide HH).tm i (by rw [unhide Hn]; exact hi)).1.kp k4 (by rw [unhide HA]; exact fun e => hgA e.symm)
    have bB := ((unhide HH).tm k (by rw [unhide Hn]; exact hk)).1.kp k4 (by rw [unhide HB]; exact fun e => hgB e.symm)
    rw [unhide HA] at bA
    rw [unhide HB] at bB
    have fA := bA.frozen 3
    have fB := bB.frozen 3
    have dA := bA.cell 3 _ rfl
    have dB := bB.cell 3 _ rfl
    have OO := hide (And.intro o4 (And.intro k4 (And.intro bA bB)))
    clear o4 k4 bA bB
    have OH := hide (And.intro hL (And.intro hi hk))
    go_wp2
    go_region
    go_wp2
    refine bodyPost_end (results_none rfl _ _ _) rfl ?_
    obtain ⟨o4, k4, bA, bB⟩ := unhide OO
    obtain ⟨hL, hi, hk⟩ := unhide OH
    have hn := unhide Hn
    have kS : Kp (fun i => i = A ∨ i = B) wc ((wc.setCell ⟨B, 3, none⟩ (.int .i64 (i : Nat))).setCell ⟨A, 3, none⟩ (.int .i64 (k : Nat))).drew := ((Kp.set (N := fun i => i = A ∨ i = B) wc ⟨B, 3, none⟩ _ (.inr rfl)).trans (Kp.set (N := fun i => i = A ∨ i = B) _ ⟨A, 3, none⟩ _ (.inl rfl)) (fun i hi => .inl hi)).drew
    have hs : (swp ps i k).map ptrV = ((ps.map ptrV).set i (.pointer (some ⟨B, 0, none⟩))).set k (.pointer (some ⟨A, 0, none⟩)) := by
      unfold swp
      rw [List.map_set, List.map_set, unhide HA, unhide HB]
      rfl
    refine ⟨rfl, ⟨?_, (unhide HH).pk, fun j hj => ?_⟩, ?_⟩
    · rw [swp_len, hn, hs]
      refine owns_kp o4 kS (fun i hi e => ?_)
      simp [Value.ownBlock] at hi
      subst hi
      rcases e with e | e
      · exact hgA e
      · exact hgB e
    · rw [swp_len] at hj
      rw [pg_swp (by omega) (by omega)]
      by_cases e1 : j = k
      · rw [if_pos e1, unhide HA, e1]
        have := ((unhide HH).tm i (by omega)).2
        rw [unhide HA] at this
        refine ⟨?_, this⟩
        have b1 := (bA.setO ⟨B, 3, none⟩ hAB (.int .i64 (i : Nat))).set 3 (.int .i64 (k : Nat))
        exact b1
      · rw [if_neg e1]
        by_cases e2 : j = i
        · rw [if_pos e2, unhide HB, e2]
          have := ((unhide HH).tm k (by omega)).2
          rw [unhide HB] at this
          refine ⟨?_, this⟩
          have b1 := (bB.set 3 (.int .i64 (i : Nat))).setO ⟨A, 3, none⟩ (Ne.symm hAB) (.int .i64 (k : Nat))
          exact b1
        · rw [if_neg e2]
          have hx := (unhide HH).tm j hj
          refine ⟨(hx.1.kp k4 ?_).kp kS ?_, hx.2⟩
          · rintro e
            exact bG.apart hx.1 (by decide) e.symm
          · rintro (e | e)
            · exact e2 ((unhide HH).inj hj (by omega) (by rw [e, unhide HA]))
            · exact e1 ((unhide HH).inj hj (by omega) (by rw [e, unhide HB]))
    · have pA := ((unhide HH).tm i (by omega)).2
      have pB := ((unhide HH).tm k (by omega)).2
      rw [unhide HA] at pA
      rw [unhide HB] at pB
      exact (k4.wk (N' := P) (fun i hi => hi ▸ pg1)).trans kS (fun i hi => .inl (by rcases hi with rfl | rfl; exact pA; exact pB))

end Go.Proofs.Ytknomhgglmgciaa
