/-
  Chapter 2's law ClumpBreaks returns true for every text and every number, and leaves its arguments as they were; no condition.
-/
import Derived.Test.YtcagfapdhopmjaaRows
import Derived.WalkKit
import Derived.ProofKit
import Derived.OpenShut
import Derived.ShutString
import Derived.ChangeOld
import Derived.Below
import Derived.Test.YtcagfapdhopmjaaKno
set_option linter.unusedVariables false
set_option linter.unusedSimpArgs false
namespace Go.Proofs.Ytcagfapdhopmjaa
namespace LClumpBreaks
open Go.ChangeShapes Go.WideShapes Go.ChangeAt Go.RowKit Go.Lib
open Go.ChangeMaps (open_string shut_string)

/-- where a rising list stands, against a number -/
structure Cur (l : List Nat) (k i : Nat) : Prop where
  le : k ≤ l.length
  lo : ∀ (j y : Nat), j < k → l[j]? = some y → y < i
  hi : ∀ (j y : Nat), k ≤ j → l[j]? = some y → i ≤ y

theorem sorted_get {l : List Nat} (hs : l.Pairwise (· < ·)) {j k x y : Nat} (hjk : j < k) (hj : l[j]? = some x) (hk : l[k]? = some y) : x < y := by
  obtain ⟨h1, rfl⟩ := List.getElem?_eq_some_iff.1 hj
  obtain ⟨h2, rfl⟩ := List.getElem?_eq_some_iff.1 hk
  exact List.pairwise_iff_getElem.1 hs j k h1 h2 hjk

theorem Cur.yes {l : List Nat} {k i : Nat} (h : Cur l k i) (hs : l.Pairwise (· < ·)) (hk : l[k]? = some i) : Cur l (k + 1) (i + 1) := by
  refine ⟨(List.getElem?_eq_some_iff.1 hk).1, fun j y hj hy => ?_, fun j y hj hy => ?_⟩
  · by_cases e : j = k
    · subst e; rw [hk] at hy; cases hy; omega
    · have := h.lo j y (by omega) hy; omega
  · have := sorted_get hs (show k < j by omega) hk hy; omega
theorem Cur.no {l : List Nat} {k i : Nat} (h : Cur l k i) (hs : l.Pairwise (· < ·)) (hk : ∀ y, l[k]? = some y → y ≠ i) : Cur l k (i + 1) ∧ i ∉ l := by
  have hi : ∀ (j y : Nat), k ≤ j → l[j]? = some y → i + 1 ≤ y := fun j y hj hy => by
    have h1 := h.hi j y hj hy
    by_cases e : j = k
    · subst e; have := hk y hy; omega
    · have hlt : j < l.length := (List.getElem?_eq_some_iff.1 hy).1
      have hkk : l[k]? = some l[k] := List.getElem?_eq_getElem (by omega)
      have h2 := h.hi k _ (Nat.le_refl _) hkk
      have := sorted_get hs (show k < j by omega) hkk hy
      omega
  refine ⟨⟨h.le, fun j y hj hy => by have := h.lo j y hj hy; omega, hi⟩, fun hm => ?_⟩
  obtain ⟨j, hj, e⟩ := List.getElem_of_mem hm
  have hy : l[j]? = some i := by rw [List.getElem?_eq_getElem hj, e]
  by_cases hjk : j < k
  · have := h.lo j i hjk hy; omega
  · have := hi j i (by omega) hy; omega

set_option maxRecDepth 100000 in
set_option maxHeartbeats 4000000 in
theorem walk (a0 : ByteArray) (a1 : Int) (w0 : a0.size ≤ maxLen) (w1 : (Lit.int .i64 a1).wf = true) (w : World) :
    Calls Try.prog 4 #[.string a0, .int .i64 a1] w fun e w' => e = .returned (.bool true) ∧ Below w.heap.size w w' := by
  unfold maxLen at w0
  by_cases hbig : 2000 < a0.size
  · go_enter Try.func4, Try.ntmps4
    go_wp2_with (go_at_call 9; refine (known_in _).mono ?_; rintro e w' ⟨rfl, hB⟩)
    go_ret
    exact ⟨rfl, hB⟩
  · have hs8 : a0.size ≤ 100000000 := by omega
    have hs : a0.size ≤ 140737488355328 := by omega
    have hlen := brL_length a0
    have hcl := cpL_length a0
    have hso := hide (brL_sorted a0)
    go_enter Try.func4, Try.ntmps4
    go_wp2_with fail
    refine (breaks_in a0 hs8 _).mono ?_
    rintro e W ⟨v, rfl, ho, hB⟩
    have hsW := hB.size
    obtain ⟨x, c, rfl⟩ := owns_form ho
    have his : Hid (∀ k : Nat, isBr a0 (k : Int) = decide (k ∈ brL a0)) := hide (isBr_nat a0)
    go_wp2
    go_loopw [6, 7] (fun kv iv wr => ∃ k i : Nat, kv = .int .i64 k ∧ iv = .int .i64 i ∧ i ≤ a0.size + 1 ∧ k ≤ (brL a0).length ∧ Hid (Cur (brL a0) k i) ∧ Below W.heap.size W wr) (fun _ iv _ => a0.size + 1 - (RowKit.intOf iv).toNat)
    case atStart => exact ⟨0, 0, rfl, rfl, by omega, by omega, hide ⟨by omega, fun j y h => by omega, fun j y _ _ => by omega⟩, Below.refl _ _⟩
    case round =>
      obtain ⟨k, i, rfl, rfl, hi, hkl, hcur, hBr⟩ := hrel
      have hszr := hBr.size
      by_cases hlt : i ≤ a0.size
      · have i1 : (i : Int) ≤ (a0.size : Int) := by omega
        by_cases hk : k < (brL a0).length
        · have i2 : (k : Int) < ((brL a0).length : Int) := by omega
          obtain ⟨g, rfl⟩ := owns_some ho (by omega)
          obtain ⟨y, hy⟩ : ∃ y, (brL a0)[k]? = some y := ⟨_, List.getElem?_eq_getElem hk⟩
          have c1 := iv_cell (owns_below ho hBr) hy
          by_cases he : y = i
          · subst he
            have hcu := hide ((unhide hcur).yes (unhide hso) hy)
            have hib : Hid (isBr a0 (y : Int) = true) := hide (by rw [unhide his, decide_eq_true (List.mem_of_getElem? hy)])
            clear hy hcur
            go_wp2_with (go_at_call 14; refine (break_in _ _ hs _).mono ?_; rintro e w' ⟨rfl, hb⟩; rw [unhide hib])
            go_roundw
            case rel => exact ⟨k + 1, y + 1, by go_num, by go_num, by omega, by omega, hcu, hBr.trans (hb.mono hszr)⟩
            case measure => simp [RowKit.intOf]; omega
          · obtain ⟨h1, h2⟩ := (unhide hcur).no (unhide hso) (fun z hz => by rw [hy] at hz; cases hz; exact he)
            have hcu := hide h1
            have hib : Hid (isBr a0 (i : Int) = false) := hide (by rw [unhide his, decide_eq_false h2])
            have heb : ((y : Int) == (i : Int)) = false := by rw [beq_eq_false_iff_ne]; omega
            clear hy hcur h1 h2
            have He := hide he
            clear he
            go_wp2_with (go_at_call 14; refine (break_in _ _ hs _).mono ?_; rintro e w' ⟨rfl, hb⟩; rw [unhide hib])
            go_roundw
            case rel => exact ⟨k, i + 1, by go_num, by go_num, by omega, by omega, hcu, hBr.trans (hb.mono hszr)⟩
            case measure => simp [RowKit.intOf]; omega
        · have i2 : ¬ (k : Int) < ((brL a0).length : Int) := by omega
          obtain ⟨h1, h2⟩ := (unhide hcur).no (unhide hso) (fun z hz => by have := (List.getElem?_eq_some_iff.1 hz).1; omega)
          have hcu := hide h1
          have hib : Hid (isBr a0 (i : Int) = false) := hide (by rw [unhide his, decide_eq_false h2])
          clear hcur h1 h2
          go_wp2_with (go_at_call 14; refine (break_in _ _ hs _).mono ?_; rintro e w' ⟨rfl, hb⟩; rw [unhide hib])
          go_roundw
          case rel => exact ⟨k, i + 1, by go_num, by go_num, by omega, by omega, hcu, hBr.trans (hb.mono hszr)⟩
          case measure => simp [RowKit.intOf]; omega
      · have i1 : ¬ (i : Int) ≤ (a0.size : Int) := by omega
        have hB1 := hB.trans (hBr.mono hsW)
        clear hcur ho
        have q1 : ∀ b : Bool, (b == b) = true := fun b => by simp
        go_wp2_with fail
        refine (break_in _ _ hs _).mono ?_
        rintro e w2 ⟨rfl, b2⟩
        have hB2 := hB1.trans (b2.mono hB1.size)
        go_wp2_with fail
        refine (refBrk_in _ _ hs8 _).mono ?_
        rintro e w3 ⟨rfl, b3⟩
        have hB3 := hB2.trans (b3.mono hB2.size)
        go_wp2_with fail
        refine (clumpCount_in _ hs (by omega) _).mono ?_
        rintro e w4 ⟨rfl, b4⟩
        have hB4 := hB3.trans (b4.mono hB3.size)
        go_wp2_with fail
        refine (refCnt_in _ hs8 _).mono ?_
        rintro e w5 ⟨rfl, b5⟩
        have hB5 := hB4.trans (b5.mono hB4.size)
        go_wp2_with fail
        refine (known_in _).mono ?_
        rintro e w6 ⟨rfl, b6⟩
        go_wp2
        go_ret
        exact ⟨rfl, hB5.trans (b6.mono hB5.size)⟩

theorem own : ownKnob Try.prog.godebug = none := by kernel_rfl

set_option maxRecDepth 100000 in
theorem lifted (os : Os) (started : os.Started) (H : Type) (enc : TypeId × Value → H) :
    ReturnsInHanded {} Try.checked os 4 .any (Rows.clumpBreaksSpec.pre6 enc Try.prog Try.f4 Rows.clumpBreaksRow.domain false) (Rows.clumpBreaksSpec.post enc Try.prog Try.f4 false true false false) := by
  refine returnsInHanded_of_change (C := Try.checked) own started (by kernel_rfl) Try.func4
    (ChangeSpec.witness6 (enc := enc) (C := Try.checked) false ⟨#[], #[.string ByteArray.empty, .int .i64 0], []⟩ 8 (by kernel_rfl) (by kernel_rfl) (by kernel_rfl) (by kernel_rfl)) ?_
  intro W base args ds gs before hval0 hW hcnd _
  have hval : ∀ (j : Nat) t v, Try.f4.params[j]? = some t → args[j]? = some v → Value.okWide Try.prog W .any base t v := hval0
  have hW' := hW
  obtain ⟨p, q, hA0, hV, rfl, hfz, hnd⟩ := hW
  have hA : DataW.TrodAll enc Try.prog W 0 (fun _ => true) true Try.f4.params.toList args.toList ds p := hA0
  rw [Try.params4] at hA hval
  obtain ⟨v0, vs0, d0, ds0, p0, q0, hargs, rfl, rfl, h0, r0⟩ := trodAll_cons hA
  obtain ⟨v1, vs1, d1, ds1, p1, q1, rfl, rfl, rfl, h1, r1⟩ := trodAll_cons r0
  obtain ⟨rfl, rfl, rfl⟩ := trodAll_nil r1
  obtain rfl : args = #[v0, v1] := by cases args; simp_all
  obtain ⟨rfl, rfl⟩ := trodVars_none hV
  obtain ⟨a0, rfl, rfl, rfl, w0⟩ := open_string Try.underlying9 (hval 0 9 v0 rfl rfl) h0
  obtain ⟨a1, rfl, rfl, rfl, w1⟩ := open_int Try.underlying3 (hval 1 3 v1 rfl rfl) h1
  clear hA0 hval0
  simp only [List.append_nil] at hW'
  refine (walk a0 a1 w0 w1 W).mono fun e W' ⟨he, bel⟩ => ?_
  subst he
  exact ⟨_, rfl, _, _, _, [], _, [], hW', trodAll_mk1 (shut_bool Try.underlying4 _), (trodAll_cons_mk (shut_string Try.underlying9 w0) (trodAll_cons_mk (shut_int Try.underlying3 w1) trodAll_mk0)), rfl, bel.frame _, fun h => by cases h⟩

theorem over : Rows.clumpBreaksRow.holds Try.pinned (OpenSpec.ofChange Rows.clumpBreaksSpec) :=
  OpenClaim.holds_of_wide 4 Try.f4 rfl rfl rfl rfl rfl rfl rfl ⟨rfl, rfl, rfl, rfl, rfl⟩ rfl rfl rfl rfl rfl (by kernel_rfl) Try.func4 (by kernel_rfl)
    (of_decide_eq_true (by kernel_rfl)) (by unfold Func.isWrapper; first | (rw [if_pos (by decide +kernel)]; kernel_rfl) | (rw [if_neg (by decide +kernel)]; exact ⟨rfl, rfl⟩))
    (fun os started H enc _ => lifted os started H enc)

end LClumpBreaks

theorem clumpBreaks_holds : Rows.ClumpBreaksSaid := LClumpBreaks.over

end Go.Proofs.Ytcagfapdhopmjaa
