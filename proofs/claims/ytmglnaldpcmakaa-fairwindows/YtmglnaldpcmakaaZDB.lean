/-
  The document's within, several; the law's same.
-/
import Derived.Test.YtmglnaldpcmakaaZDA
set_option linter.unusedSimpArgs false
set_option linter.unusedVariables false
namespace Go.Proofs.Ytmglnaldpcmakaa
open Go.RowKit Go.Lib Go.Shelf

set_option maxRecDepth 100000 in
set_option maxHeartbeats 4000000 in
theorem within_in (e : Ev) (a b s t : Int) (w : World) : Calls Try.prog 42 #[.agg (evC e).toArray, .int .i64 a, .int .i64 b, .int .i64 s, .int .i64 t] w fun r W => r = .returned (.bool (decide (Wn e a b s t))) ∧ Below w.heap.size w W := by
  obtain ⟨step, kind, copy, fr, dst, sent, bad⟩ := e
  obtain ⟨R, hR⟩ : ∃ R : Bool, decide (Wn ⟨step, kind, copy, fr, dst, sent, bad⟩ a b s t) = R := ⟨_, rfl⟩
  have hRR : R = (decide (kind = 2) && !bad && decide (fr = a) && decide (dst = b) && decide (s ≤ step) && decide (s ≤ sent) && decide (step < t) && decide (sent < t)) := by
    rw [← hR]
    unfold Wn
    cases bad <;> simp [Bool.and_assoc]
  rw [hR]
  clear hR
  simp only [evC]
  have HR := hide hRR
  clear hRR
  have al0 : ∀ V, V = w.alloc (.cells #[.int .i64 step, .int .i64 kind, .int .i64 copy, .int .i64 fr, .int .i64 dst, .int .i64 sent, .bool bad] 27) → Below w.heap.size w V := by
    rintro V rfl
    exact ballc (Below.refl w.heap.size w) _
  have al := hide al0
  clear al0
  by_cases h1 : kind = 2
  · subst h1
    cases bad
    · by_cases h2 : fr = a
      · subst h2
        by_cases h3 : dst = b
        · subst h3
          by_cases h4 : s ≤ step
          · by_cases h5 : s ≤ sent
            · by_cases h6 : step < t
              · by_cases h7 : sent < t
                · obtain rfl : R = true := by rw [unhide HR]; simp [h4, h5, h6, h7]
                  go_enter Try.func42, Try.ntmps42
                  go_wp2
                  go_ret
                  exact ⟨by simp, unhide al _ rfl⟩
                · obtain rfl : R = false := by rw [unhide HR]; simp [h7]
                  go_enter Try.func42, Try.ntmps42
                  go_wp2
                  go_ret
                  exact ⟨by simp, unhide al _ rfl⟩
              · obtain rfl : R = false := by rw [unhide HR]; simp [h6]
                go_enter Try.func42, Try.ntmps42
                go_wp2
                go_ret
                exact ⟨by simp, unhide al _ rfl⟩
            · obtain rfl : R = false := by rw [unhide HR]; simp [h5]
              go_enter Try.func42, Try.ntmps42
              go_wp2
              go_ret
              exact ⟨by simp, unhide al _ rfl⟩
          · obtain rfl : R = false := by rw [unhide HR]; simp [h4]
            go_enter Try.func42, Try.ntmps42
            go_wp2
            go_ret
            exact ⟨by simp, unhide al _ rfl⟩
        · obtain rfl : R = false := by rw [unhide HR]; simp [h3]
          have h3' : (dst == b) = false := by rw [beq_eq_false_iff_ne]; exact h3
          go_enter Try.func42, Try.ntmps42
          go_wp2
          go_ret
          exact ⟨by simp, unhide al _ rfl⟩
      · obtain rfl : R = false := by rw [unhide HR]; simp [h2]
        have h2' : (fr == a) = false := by rw [beq_eq_false_iff_ne]; exact h2
        go_enter Try.func42, Try.ntmps42
        go_wp2
        go_ret
        exact ⟨by simp, unhide al _ rfl⟩
    · obtain rfl : R = false := by rw [unhide HR]; simp
      go_enter Try.func42, Try.ntmps42
      go_wp2
      go_ret
      exact ⟨by simp, unhide al _ rfl⟩
  · obtain rfl : R = false := by rw [unhide HR]; simp [h1]
    have h1' : (kind == 2) = false := by rw [beq_eq_false_iff_ne]; exact h1
    go_enter Try.func42, Try.ntmps42
    go_wp2
    go_ret
    exact ⟨by simp, unhide al _ rfl⟩

theorem sev_first (lv : List Int) (x : Int) (h0 : lv[0]? = some x) : Sev lv ↔ ∃ y ∈ lv, y ≠ x := by
  have hx : x ∈ lv := List.mem_of_getElem? h0
  constructor
  · rintro ⟨a, ha, b, hb, e⟩
    by_cases h : a = x
    · exact ⟨b, hb, fun c => e (by rw [h, c])⟩
    · exact ⟨a, ha, h⟩
  · rintro ⟨y, hy, e⟩
    exact ⟨y, hy, x, hx, e⟩
theorem sev_nil : ¬ Sev [] := by rintro ⟨a, ha, _⟩; simp at ha

set_option maxRecDepth 100000 in
set_option maxHeartbeats 2000000 in
theorem several_in (w : World) (v : Value) (lv : List Int) (h : RN w v lv) (hl : lv.length ≤ 1000000) : Calls Try.prog 20 #[v] w fun e W => e = .returned (.bool (decide (Sev lv))) ∧ Below w.heap.size w W := by
  obtain ⟨a, c, rfl⟩ := h.form
  obtain ⟨R, hR⟩ : ∃ R : Bool, decide (Sev lv) = R := ⟨_, rfl⟩
  rw [hR]
  have HR := hide hR
  have H := hide h
  obtain ⟨n, hn⟩ : ∃ n, lv.length = n := ⟨_, rfl⟩
  have Hn := hide hn
  rw [hn] at hl ⊢
  clear hR h hn
  go_enter Try.func20, Try.ntmps20
  go_wp2
  go_loopw [3] (fun iv wr => ∃ i : Nat, 1 ≤ i ∧ iv = .int .i64 (i : Nat) ∧ Hid ((∀ j y x, j < i → lv[j]? = some y → lv[0]? = some x → y = x) ∧ Below w.heap.size w wr)) (fun iv _ => n + 1 - (RowKit.intOf iv).toNat)
  case atStart => exact ⟨1, by omega, rfl, hide ⟨fun j y x hj hy hx => (by have hj0 : j = 0 := (by omega); subst hj0; rw [hy] at hx; simpa using hx), Below.refl _ _⟩⟩
  case round =>
    obtain ⟨i, hi, rfl, HI⟩ := hrel
    by_cases hlt : i < n
    · have hlt' : (i : Int) < (n : Int) := by omega
      have hn0 : (0 : Int) < (n : Int) := by omega
      obtain ⟨hall, hb⟩ := unhide HI
      have hil : i < lv.length := by rw [unhide Hn]; exact hlt
      have hr := (unhide H).below hb
      rw [unhide Hn] at hr
      obtain ⟨x, hx⟩ : ∃ x, lv[0]? = some x := ⟨_, List.getElem?_eq_getElem (by omega)⟩
      obtain ⟨y, hy⟩ : ∃ y, lv[i]? = some y := ⟨_, List.getElem?_eq_getElem hil⟩
      obtain ⟨b, off, rfl, hbl, k0⟩ := RN.at hr hx
      obtain ⟨b', off', e, _, k1⟩ := RN.at hr hy
      simp only [Option.some.injEq, Addr.mk.injEq, and_true] at e
      obtain ⟨rfl, rfl⟩ := e
      rw [Nat.add_zero] at k0
      have Hb := hide hb
      have Hall := hide hall
      have Hy := hide hy
      have Hx := hide hx
      clear hr hb hall HI hy hx
      by_cases e : y = x
      · subst e
        go_wp2
        go_quiet (fail)
        go_wp2
        go_roundw
        case rel =>
          refine ⟨i + 1, by omega, by go_num, hide ⟨fun j z x' hj hz hx' => ?_, bdrew (unhide Hb) _⟩⟩
          have e0 : x' = y := by have := unhide Hx; rw [hx'] at this; simpa using this
          by_cases e1 : j = i
          · subst e1
            have := unhide Hy
            rw [hz] at this
            rw [e0]; simpa using this
          · exact unhide Hall j z x' (by omega) hz hx'
        case measure => show n + 1 - ((i : Int) + 1).toNat < n + 1 - ((i : Nat) : Int).toNat; omega
      · have e' : (y != x) = true := by simpa using e
        have hs : R = true := by
          rw [← unhide HR]
          exact decide_eq_true ((sev_first lv x (unhide Hx)).2 ⟨y, List.mem_of_getElem? (unhide Hy), e⟩)
        subst hs
        go_wp2
        go_quiet (fail)
        go_wp2
        go_ret
        exact ⟨rfl, bdrew (unhide Hb) _⟩
    · have hlt' : ¬ (i : Int) < (n : Int) := by omega
      obtain ⟨hall, hb⟩ := unhide HI
      have hs : R = false := by
        rw [← unhide HR]
        refine decide_eq_false fun hs => ?_
        cases lv with
        | nil => exact sev_nil hs
        | cons x lv =>
          obtain ⟨y, hy, hne⟩ := (sev_first (x :: lv) x rfl).1 hs
          obtain ⟨j, hj⟩ := List.mem_iff_getElem?.1 hy
          exact hne (hall j y x (by have := (List.getElem?_eq_some_iff.1 hj).1; rw [unhide Hn] at this; omega) hj rfl)
      subst hs
      have Hb := hide hb
      clear hall hb HI
      go_wp2
      go_ret
      exact ⟨rfl, unhide Hb⟩

end Go.Proofs.Ytmglnaldpcmakaa
