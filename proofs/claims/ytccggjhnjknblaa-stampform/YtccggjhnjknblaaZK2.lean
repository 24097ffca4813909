/-
  Has.
-/
import Derived.Test.YtccggjhnjknblaaZK1
import Derived.Test.YtccggjhnjknblaaZShB
set_option linter.unusedSimpArgs false
set_option linter.unusedVariables false
namespace Go.Proofs.Ytccggjhnjknblaa
open Go.RowKit Go.Lib

/-- is an identifier among a run's? -/
def inR (x : Int × Int) (r : (Int × Int) × Int) : Bool := decide (x.2 = r.1.2) && (decide (r.1.1 ≤ x.1) && decide (x.1 - r.1.1 < r.2))
def inRw (x : Int × Int) (r : (Int × Int) × Int) : Bool := decide (x.2 = r.1.2) && (decide (r.1.1 ≤ x.1) && decide (wrap64 (x.1 - r.1.1) < r.2))
def hasR (l : List ((Int × Int) × Int)) (x : Int × Int) : Bool := decide (chk l = 0) && l.any (inR x)

theorem inRw_ways (x1 x2 t s c : Int) : (decide (x2 = s) = false ∧ inRw (x1, x2) ((t, s), c) = false) ∨ (decide (x2 = s) = true ∧ ¬ t ≤ x1 ∧ inRw (x1, x2) ((t, s), c) = false) ∨ (decide (x2 = s) = true ∧ t ≤ x1 ∧ inRw (x1, x2) ((t, s), c) = decide (wrap64 (x1 - t) < c)) := by
  unfold inRw
  by_cases h1 : x2 = s <;> by_cases h2 : t ≤ x1 <;> simp [h1, h2]

set_option maxRecDepth 100000 in
theorem hasP_in (x1 x2 t s c : Int) (B : Nat) (W : World) (c0 : W.cell? ⟨B, 0, none⟩ = some (.int .i64 x1)) (c1 : W.cell? ⟨B, 1, none⟩ = some (.int .i64 x2)) :
    Calls Try.prog 35 #[.agg #[.int .i64 t, .int .i64 s, .int .i64 c], .pointer (some ⟨B, 0, none⟩)] W fun e W' => e = .returned (.bool (inRw (x1, x2) ((t, s), c))) ∧ Below W.heap.size W W' := by
  have hB := cell_lt c0
  simp only at hB
  rcases inRw_ways x1 x2 t s c with ⟨h1, e⟩ | ⟨h1, h2, e⟩ | ⟨h1, h2, e⟩
  · rw [e]; clear e
    have h1' : (x2 == s) = false := by simpa using h1
    clear h1
    go_enter Try.func35, Try.ntmps35
    go_wp2
    go_ret
    exact ⟨rfl, ballc (Below.refl _ _) _⟩
  · rw [e]; clear e
    have h1' : (x2 == s) = true := by simpa using h1
    clear h1
    go_enter Try.func35, Try.ntmps35
    go_wp2
    go_ret
    exact ⟨rfl, ballc (Below.refl _ _) _⟩
  · rw [e]; clear e
    have h1' : (x2 == s) = true := by simpa using h1
    clear h1
    go_enter Try.func35, Try.ntmps35
    go_wp2
    go_ret
    exact ⟨rfl, ballc (Below.refl _ _) _⟩

set_option maxRecDepth 100000 in
theorem idx0_in (a : Option Addr) (cap : Nat) (f : Value) (w : World) :
    Calls Try.prog 47 #[.slice a 0 cap, f] w fun e W => e = .returned (.int .i64 (-1)) ∧ w = W := by
  go_enter Try.func47, Try.ntmps47
  go_wp2
  refine wp_loop_rounds 1 ?_
  rw [rounds_succ]; go_wp2
  go_ret
  exact ⟨rfl, rfl⟩
set_option maxRecDepth 100000 in
theorem contains0_in (a : Option Addr) (cap : Nat) (f : Value) (w : World) :
    Calls Try.prog 34 #[.slice a 0 cap, f] w fun e W => e = .returned (.bool false) ∧ Below w.heap.size w W := by
  have HI := hide (idx0_in a cap f w)
  go_enter Try.func34, Try.ntmps34
  go_wp2_with fail
  refine (unhide HI).mono ?_
  rintro r W ⟨rfl, rfl⟩
  go_wp2
  go_ret
  exact ⟨rfl, Below.refl _ _⟩

theorem contains_in (v : Value) (l : List ((Int × Int) × Int)) (x1 x2 : Int) (B : Nat) (w : World) (h : RR w v l) (hl : l.length ≤ 1000000000) (c0 : w.cell? ⟨B, 0, none⟩ = some (.int .i64 x1)) (c1 : w.cell? ⟨B, 1, none⟩ = some (.int .i64 x2)) :
    Calls Try.prog 34 #[v, .func (.func 35) #[] #[.pointer (some ⟨B, 0, none⟩)]] w fun e W => e = .returned (.bool (l.any (inRw (x1, x2)))) ∧ Below w.heap.size w W := by
  have h' := h
  rcases h with ⟨h0, a, cap, rfl⟩ | ⟨b, off, cap, rfl, h1, h2, h3⟩
  · have e : l = [] := List.eq_nil_of_length_eq_zero h0
    subst e
    exact contains0_in a cap _ w
  · have eg : ∀ args w, (callFunc 35 args).run Try.prog w = .ok (.enter 35 args) w := enters_of Try.func35 (by kernel_rfl) rfl
    have hp : PredBelow Try.prog 35 #[.pointer (some ⟨B, 0, none⟩)] (fun r => .agg (encR r).toArray) (inRw (x1, x2)) w := fun W r hb => by
      obtain ⟨⟨t, s⟩, c⟩ := r
      refine (hasP_in x1 x2 t s c B W ((hb.cell (p := ⟨B, 0, none⟩) (cell_lt c0)).trans c0) ((hb.cell (p := ⟨B, 1, none⟩) (cell_lt c1)).trans c1)).mono ?_
      rintro e W' ⟨rfl, hb'⟩
      exact ⟨rfl, bnext hb hb'⟩
    have := AnyQ.slices_ContainsFunc shHas 3 Try.isAgg32 Try.sizeOf32 encR encR_len (inRw (x1, x2)) 35 #[.pointer (some ⟨B, 0, none⟩)] eg b off l.length cap l w hp (Nat.le_refl _) (by omega) h2 (fun j hj i u hu => by
      have hi : i < 3 := by have := (List.getElem?_eq_some_iff.1 hu).1; rw [encR_len] at this; exact this
      rw [Nat.add_assoc]
      refine h3 (j * 3 + i) u ?_
      rw [flat_get encR_len l j i _ (List.getElem?_eq_getElem hj) hi, ← hu]
      congr 1
      simp [getElem!_pos l j hj])
    change Calls Try.prog 34 _ _ _ at this
    rw [List.take_length] at this
    exact this

theorem chkA_all : ∀ (l done : List ((Int × Int) × Int)), chkA done l = 0 → ∀ r ∈ l, isR r = true
  | [], _, _, r, hr => by cases hr
  | q :: l, done, h, r, hr => by
    rw [chkA] at h
    split at h
    · cases h
    · split at h
      · cases h
      · split at h
        · cases h
        · rename_i h1 _ _
          rcases List.mem_cons.1 hr with rfl | hr
          · simpa using h1
          · exact chkA_all l _ h r hr
theorem any_inRw {l : List ((Int × Int) × Int)} (h : chk l = 0) (x1 x2 : Int) (hx : in64 x1) : l.any (inRw (x1, x2)) = l.any (inR (x1, x2)) := by
  have hall := chkA_all l [] h
  rw [Bool.eq_iff_iff, List.any_eq_true, List.any_eq_true]
  refine exists_congr fun r => and_congr_right fun hr => ?_
  obtain ⟨h1, h2, h3, h4, h5, h6⟩ := isR_range (hall r hr)
  unfold inRw inR
  by_cases ht : r.1.1 ≤ x1
  · rw [IntWalk.wrap64_in _ (by have := hx.1; have := hx.2; simp only; omega)]
  · simp [ht]

set_option maxRecDepth 100000 in
set_option maxHeartbeats 1000000 in
theorem Has_in (v : Value) (l : List ((Int × Int) × Int)) (x1 x2 : Int) (w : World) (h : RR w v l) (hin : ∀ r ∈ l, runIn r) (hl : l.length ≤ 1000000000) (hx : in64 x1) :
    Calls Try.prog 16 #[v, .agg #[.int .i64 x1, .int .i64 x2]] w fun e W => e = .returned (.bool (hasR l (x1, x2))) ∧ Below w.heap.size w W := by
  have H := hide h
  have HC := hide (Check_in v l (w.alloc (.cells #[.int .i64 x1, .int .i64 x2] 30)) (h.below (ballc (Below.refl _ _) _)) hin hl)
  obtain ⟨a, cap, rfl⟩ := RC.form h
  clear h hin
  by_cases hc : chk l = 0
  · have he : hasR l (x1, x2) = l.any (inRw (x1, x2)) := by unfold hasR; rw [any_inRw hc x1 x2 hx]; simp [hc]
    rw [he]
    rw [hc] at HC
    clear hc he
    obtain ⟨A, hA⟩ : ∃ A, l.any (inRw (x1, x2)) = A := ⟨_, rfl⟩
    rw [hA]
    replace hA := hide hA
    go_enter Try.func16, Try.ntmps16
    go_wp2_with fail
    refine (unhide HC).mono ?_
    rintro e W1 ⟨rfl, hb1⟩
    have bx := (Bx.new w 30 #[.int .i64 x1, .int .i64 x2]).below hb1
    have hb2 := bnext (ballc (Below.refl _ w) _) hb1
    have HK := hide (contains_in _ l x1 x2 w.heap.size W1 ((unhide H).below hb2) hl (bx.cell 0 _ rfl) (bx.cell 1 _ rfl))
    replace hb2 := hide hb2
    rw [unhide hA] at HK
    clear bx hb1 HC
    go_wp2_with fail
    refine (unhide HK).mono ?_
    rintro e W2 ⟨rfl, hb3⟩
    replace hb3 := hide hb3
    go_wp2
    go_ret
    exact ⟨rfl, bnext (unhide hb2) (unhide hb3)⟩
  · have he : hasR l (x1, x2) = false := by unfold hasR; simp [hc]
    rw [he]
    have hc' : (chk l == 0) = false := by simpa using hc
    generalize chk l = C at *
    clear he hc
    go_enter Try.func16, Try.ntmps16
    go_wp2_with fail
    refine (unhide HC).mono ?_
    rintro e W1 ⟨rfl, hb1⟩
    replace hb1 := hide hb1
    go_wp2
    go_ret
    exact ⟨rfl, bnext (ballc (Below.refl _ w) _) (unhide hb1)⟩

end Go.Proofs.Ytccggjhnjknblaa
