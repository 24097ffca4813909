/-
  What the document's own Class answers: the class of every number.
-/
import Derived.Test.YtiakhpfljjfaeaaZRIn
import Derived.RangeFuncRecord
set_option linter.unusedSimpArgs false
set_option linter.unusedVariables false
namespace Go.Proofs.Ytiakhpfljjfaeaa
open Go.RowKit Go.Lib

theorem below_drewN {n : Nat} {w W : World} (h : Below n w W) (k : Nat) : Below n w (W.drewN k) := ⟨h.os, h.tape, h.output, h.size, h.block⟩

theorem refInLit (r : Int) (zs : List Int) (W : World) (t cap : Nat) (n : Nat) (arr : Array Value) (hn : n = zs.length) (ha : arr = (zs.map (Value.int .i32)).toArray) (hl : zs.length ≤ 1000) :
    Calls Try.prog 65 #[.int .i32 r, .slice (some ⟨W.heap.size, 0, none⟩) n cap] (W.alloc (.cells arr t)) fun e W' => e = .returned (.bool (inP r zs)) ∧ Below W.heap.size W W' := by
  subst hn ha
  refine (refIn r _ zs _ (.inr ⟨W.heap.size, 0, cap, rfl, fun j hj => ?_⟩) hl).mono ?_
  · rw [World.cell?, World.alloc_heap_new]
    simp [hj]
  · rintro e w' ⟨rfl, k, rfl⟩
    exact ⟨rfl, below_drewN ((Below.refl _ W).alloc (Nat.le_refl _) _) k⟩

set_option maxHeartbeats 2000000 in
set_option maxRecDepth 100000 in
theorem refClass_in (r : Int) (h1 : -2147483648 ≤ r) (h2 : r ≤ 2147483647) (w : World) :
    Calls Try.prog 60 #[.int .i32 r] w fun e W' => e = .returned (.int .i64 (cls r)) ∧ Below w.heap.size w W' := by
  by_cases e1 : r = 13
  · subst e1
    go_enter Try.func60, Try.ntmps60
    go_wp2
    go_ret
    exact ⟨rfl, Below.refl _ _⟩
  by_cases e2 : r = 10
  · subst e2
    go_enter Try.func60, Try.ntmps60
    go_wp2
    go_ret
    exact ⟨rfl, Below.refl _ _⟩
  have q1 : (r == 13) = false := by rw [beq_eq_false_iff_ne]; exact e1
  have q2 : (r == 10) = false := by rw [beq_eq_false_iff_ne]; exact e2
  have H1 := hide e1
  have H2 := hide e2
  clear e1 e2
  have hB0 := Below.refl w.heap.size w
  go_enter Try.func60, Try.ntmps60
  go_wp2_with fail
  refine (refInLit r eCtl w _ _ _ _ rfl rfl (by decide)).mono ?_
  rintro e w1 ⟨rfl, hb1⟩
  have hB1 := hB0.trans (hb1.mono hB0.size)
  cases c1 : inP r eCtl with
  | true =>
    have hc : Hid (cls r = 3) := hide (by unfold cls; rw [if_neg (unhide H1), if_neg (unhide H2), if_pos c1])
    go_wp2
    go_ret
    exact ⟨by rw [unhide hc]; rfl, hB1⟩
  | false =>
  have HeCtl := hide c1
  by_cases e4 : r = 8205
  · have hc : Hid (cls r = 4) := hide (by unfold cls; rw [if_neg (unhide H1), if_neg (unhide H2), if_neg (by rw [unhide HeCtl]; decide), if_pos e4])
    have q4 : (r == 8205) = true := by rw [beq_iff_eq]; exact e4
    clear e4
    go_wp2
    go_ret
    exact ⟨by rw [unhide hc]; rfl, hB1⟩
  have q4 : (r == 8205) = false := by rw [beq_eq_false_iff_ne]; exact e4
  have H4 := hide e4
  clear e4
  go_wp2_with fail
  refine (refInLit r eMk w1 _ _ _ _ rfl rfl (by decide)).mono ?_
  rintro e w2 ⟨rfl, hb2⟩
  have hB2 := hB1.trans (hb2.mono hB1.size)
  cases c2 : inP r eMk with
  | true =>
    have hc : Hid (cls r = 5) := hide (by unfold cls; rw [if_neg (unhide H1), if_neg (unhide H2), if_neg (by rw [unhide HeCtl]; decide), if_neg (unhide H4), if_pos c2])
    go_wp2
    go_ret
    exact ⟨by rw [unhide hc]; rfl, hB2⟩
  | false =>
  have HeMk := hide c2
  go_wp2_with fail
  refine (refInLit r eFl w2 _ _ _ _ rfl rfl (by decide)).mono ?_
  rintro e w3 ⟨rfl, hb3⟩
  have hB3 := hB2.trans (hb3.mono hB2.size)
  cases c3 : inP r eFl with
  | true =>
    have hc : Hid (cls r = 6) := hide (by unfold cls; rw [if_neg (unhide H1), if_neg (unhide H2), if_neg (by rw [unhide HeCtl]; decide), if_neg (unhide H4), if_neg (by rw [unhide HeMk]; decide), if_pos c3])
    go_wp2
    go_ret
    exact ⟨by rw [unhide hc]; rfl, hB3⟩
  | false =>
  have HeFl := hide c3
  go_wp2_with fail
  refine (refInLit r eL w3 _ _ _ _ rfl rfl (by decide)).mono ?_
  rintro e w4 ⟨rfl, hb4⟩
  have hB4 := hB3.trans (hb4.mono hB3.size)
  cases c4 : inP r eL with
  | true =>
    have hc : Hid (cls r = 7) := hide (by unfold cls; rw [if_neg (unhide H1), if_neg (unhide H2), if_neg (by rw [unhide HeCtl]; decide), if_neg (unhide H4), if_neg (by rw [unhide HeMk]; decide), if_neg (by rw [unhide HeFl]; decide), if_pos c4])
    go_wp2
    go_ret
    exact ⟨by rw [unhide hc]; rfl, hB4⟩
  | false =>
  have HeL := hide c4
  go_wp2_with fail
  refine (refInLit r eV w4 _ _ _ _ rfl rfl (by decide)).mono ?_
  rintro e w5 ⟨rfl, hb5⟩
  have hB5 := hB4.trans (hb5.mono hB4.size)
  cases c5 : inP r eV with
  | true =>
    have hc : Hid (cls r = 8) := hide (by unfold cls; rw [if_neg (unhide H1), if_neg (unhide H2), if_neg (by rw [unhide HeCtl]; decide), if_neg (unhide H4), if_neg (by rw [unhide HeMk]; decide), if_neg (by rw [unhide HeFl]; decide), if_neg (by rw [unhide HeL]; decide), if_pos c5])
    go_wp2
    go_ret
    exact ⟨by rw [unhide hc]; rfl, hB5⟩
  | false =>
  have HeV := hide c5
  go_wp2_with fail
  refine (refInLit r eT w5 _ _ _ _ rfl rfl (by decide)).mono ?_
  rintro e w6 ⟨rfl, hb6⟩
  have hB6 := hB5.trans (hb6.mono hB5.size)
  cases c6 : inP r eT with
  | true =>
    have hc : Hid (cls r = 9) := hide (by unfold cls; rw [if_neg (unhide H1), if_neg (unhide H2), if_neg (by rw [unhide HeCtl]; decide), if_neg (unhide H4), if_neg (by rw [unhide HeMk]; decide), if_neg (by rw [unhide HeFl]; decide), if_neg (by rw [unhide HeL]; decide), if_neg (by rw [unhide HeV]; decide), if_pos c6])
    go_wp2
    go_ret
    exact ⟨by rw [unhide hc]; rfl, hB6⟩
  | false =>
  have HeT := hide c6
  by_cases e5 : 44032 ≤ r ∧ r ≤ 55203
  · obtain ⟨a1, a2⟩ := e5
    by_cases e6 : (r - 44032) % 28 = 0
    · have hc : Hid (cls r = 10) := hide (by unfold cls; rw [if_neg (unhide H1), if_neg (unhide H2), if_neg (by rw [unhide HeCtl]; decide), if_neg (unhide H4), if_neg (by rw [unhide HeMk]; decide), if_neg (by rw [unhide HeFl]; decide), if_neg (by rw [unhide HeL]; decide), if_neg (by rw [unhide HeV]; decide), if_neg (by rw [unhide HeT]; decide), if_pos ⟨a1, a2⟩, if_pos e6])
      have q6 : ((r - 44032) % 28 == 0) = true := by rw [beq_iff_eq]; exact e6
      clear e6
      go_wp2
      go_ret
      exact ⟨by rw [unhide hc]; rfl, hB6⟩
    · have hc : Hid (cls r = 11) := hide (by unfold cls; rw [if_neg (unhide H1), if_neg (unhide H2), if_neg (by rw [unhide HeCtl]; decide), if_neg (unhide H4), if_neg (by rw [unhide HeMk]; decide), if_neg (by rw [unhide HeFl]; decide), if_neg (by rw [unhide HeL]; decide), if_neg (by rw [unhide HeV]; decide), if_neg (by rw [unhide HeT]; decide), if_pos ⟨a1, a2⟩, if_neg e6])
      have q6 : ((r - 44032) % 28 == 0) = false := by rw [beq_eq_false_iff_ne]; exact e6
      clear e6
      go_wp2
      go_ret
      exact ⟨by rw [unhide hc]; rfl, hB6⟩
  have H5 := hide e5
  clear e5
  by_cases e7 : 44032 ≤ r
  · have e8 : ¬ r ≤ 55203 := fun h => unhide H5 ⟨e7, h⟩
    go_wp2_with fail
    refine (refInLit r ePc w6 _ _ _ _ rfl rfl (by decide)).mono ?_
    rintro e w8 ⟨rfl, hb8⟩
    have hB8 := hB6.trans (hb8.mono hB6.size)
    have hc : Hid (cls r = if inP r ePc then 12 else 0) := hide (by unfold cls; rw [if_neg (unhide H1), if_neg (unhide H2), if_neg (by rw [unhide HeCtl]; decide), if_neg (unhide H4), if_neg (by rw [unhide HeMk]; decide), if_neg (by rw [unhide HeFl]; decide), if_neg (by rw [unhide HeL]; decide), if_neg (by rw [unhide HeV]; decide), if_neg (by rw [unhide HeT]; decide), if_neg (unhide H5)])
    cases c8 : inP r ePc with
    | true =>
      rw [c8] at hc
      go_wp2
      go_ret
      exact ⟨by rw [unhide hc]; rfl, hB8⟩
    | false =>
      rw [c8] at hc
      go_wp2
      go_ret
      exact ⟨by rw [unhide hc]; rfl, hB8⟩
  · go_wp2_with fail
    refine (refInLit r ePc w6 _ _ _ _ rfl rfl (by decide)).mono ?_
    rintro e w8 ⟨rfl, hb8⟩
    have hB8 := hB6.trans (hb8.mono hB6.size)
    have hc : Hid (cls r = if inP r ePc then 12 else 0) := hide (by unfold cls; rw [if_neg (unhide H1), if_neg (unhide H2), if_neg (by rw [unhide HeCtl]; decide), if_neg (unhide H4), if_neg (by rw [unhide HeMk]; decide), if_neg (by rw [unhide HeFl]; decide), if_neg (by rw [unhide HeL]; decide), if_neg (by rw [unhide HeV]; decide), if_neg (by rw [unhide HeT]; decide), if_neg (unhide H5)])
    cases c8 : inP r ePc with
    | true =>
      rw [c8] at hc
      go_wp2
      go_ret
      exact ⟨by rw [unhide hc]; rfl, hB8⟩
    | false =>
      rw [c8] at hc
      go_wp2
      go_ret
      exact ⟨by rw [unhide hc]; rfl, hB8⟩

end Go.Proofs.Ytiakhpfljjfaeaa
