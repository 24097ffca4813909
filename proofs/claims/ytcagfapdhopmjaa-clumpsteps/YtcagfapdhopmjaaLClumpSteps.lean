/-
  Chapter 2's law ClumpSteps returns true for every text and every number, and leaves its arguments as they were; no condition.
-/
import Derived.Test.YtcagfapdhopmjaaRows
import Derived.WalkKit
import Derived.ProofKit
import Derived.OpenShut
import Derived.ShutString
import Derived.ChangeOld
import Derived.Below
import Derived.Test.YtcagfapdhopmjaaKno
import Derived.Test.YtcagfapdhopmjaaRegB
set_option linter.unusedVariables false
set_option linter.unusedSimpArgs false
namespace Go.Proofs.Ytcagfapdhopmjaa
namespace LClumpSteps
open Go.ChangeShapes Go.WideShapes Go.ChangeAt Go.RowKit Go.Lib
open Go.ChangeMaps (open_string shut_string)

theorem get_sorted {l : List Nat} (hs : l.Pairwise (· < ·)) {j k x y : Nat} (hjk : j < k) (hj : l[j]? = some x) (hk : l[k]? = some y) : x < y := by
  obtain ⟨h1, rfl⟩ := List.getElem?_eq_some_iff.1 hj
  obtain ⟨h2, rfl⟩ := List.getElem?_eq_some_iff.1 hk
  exact List.pairwise_iff_getElem.1 hs j k h1 h2 hjk

/-- between two neighbours of a rising list -/
theorem nxt_between {l : List Nat} (hs : l.Pairwise (· < ·)) {k x y z : Nat} {a : Int} (hx : l[k]? = some x) (hy : l[k + 1]? = some y) (h1 : (x : Int) ≤ a) (h2 : a < (y : Int)) : nxt l a z = y := by
  refine nxt_mem hs (List.mem_of_getElem? hy) h2 (fun q hq ha => ?_)
  obtain ⟨j, hj, rfl⟩ := List.getElem_of_mem hq
  have hjj : l[j]? = some l[j] := List.getElem?_eq_getElem hj
  by_cases h : j < k + 1
  · have : l[j] ≤ x := by
      by_cases e : j = k
      · subst e; rw [hjj] at hx; cases hx; exact Nat.le_refl _
      · exact Nat.le_of_lt (get_sorted hs (by omega) hjj hx)
    omega
  · by_cases e : j = k + 1
    · subst e; rw [hjj] at hy; cases hy; exact Nat.le_refl _
    · exact Nat.le_of_lt (get_sorted hs (by omega) hy hjj)
theorem prv_between {l : List Nat} (hs : l.Pairwise (· < ·)) {k x y : Nat} {a : Int} (hx : l[k]? = some x) (hy : l[k + 1]? = some y) (h1 : (x : Int) < a) (h2 : a ≤ (y : Int)) : prv l a = x := by
  refine prv_mem hs (List.mem_of_getElem? hx) h1 (fun q hq ha => ?_)
  obtain ⟨j, hj, rfl⟩ := List.getElem_of_mem hq
  have hjj : l[j]? = some l[j] := List.getElem?_eq_getElem hj
  by_cases h : j < k + 1
  · by_cases e : j = k
    · subst e; rw [hjj] at hx; cases hx; exact Nat.le_refl _
    · exact Nat.le_of_lt (get_sorted hs (by omega) hjj hx)
  · have : y ≤ l[j] := by
      by_cases e : j = k + 1
      · subst e; rw [hjj] at hy; cases hy; exact Nat.le_refl _
      · exact Nat.le_of_lt (get_sorted hs (by omega) hy hjj)
    omega

set_option maxRecDepth 100000 in
set_option maxHeartbeats 8000000 in
theorem walk (a0 : ByteArray) (a1 : Int) (w0 : a0.size ≤ maxLen) (w1 : (Lit.int .i64 a1).wf = true) (w : World) :
    Calls Try.prog 6 #[.string a0, .int .i64 a1] w fun e w' => e = .returned (.bool true) ∧ Below w.heap.size w w' := by
  unfold maxLen at w0
  have hb64 := Go.bounds_i64 w1
  by_cases hbig : 20000 < a0.size
  · go_enter Try.func6, Try.ntmps6
    go_wp2_with (go_at_call 9; refine (known_in _).mono ?_; rintro e w' ⟨rfl, hB⟩)
    go_ret
    exact ⟨rfl, hB⟩
  · have hs8 : a0.size ≤ 100000000 := by omega
    have hs : a0.size ≤ 140737488355328 := by omega
    have hd0 : decide ((20000 : Int) < (a0.size : Int)) = false := by simp; omega
    have hlen := brL_length a0
    have hso := hide (brL_sorted a0)
    have hle := hide (fun k (h : k ∈ brL a0) => brL_le h)
    have q1 : ∀ c : Int, (c != c) = false := fun c => by simp
    go_enter Try.func6, Try.ntmps6
    go_wp2_with fail
    refine (next_in _ _ hs hb64.2 _).mono ?_
    rintro e w2 ⟨rfl, b2⟩
    go_wp2_with fail
    refine (refNxt_in _ _ hs8 _).mono ?_
    rintro e w3 ⟨rfl, b3⟩
    have hB3 := b2.trans (b3.mono b2.size)
    go_wp2_with fail
    refine (prev_in _ _ hs _).mono ?_
    rintro e w4 ⟨rfl, b4⟩
    have hB4 := hB3.trans (b4.mono hB3.size)
    go_wp2_with fail
    refine (refPrv_in _ _ hs8 _).mono ?_
    rintro e w5 ⟨rfl, b5⟩
    have hB5 := hB4.trans (b5.mono hB4.size)
    go_wp2_with fail
    refine (breaks_in a0 hs8 _).mono ?_
    rintro e W ⟨v, rfl, ho, hB6⟩
    have hBW := hB5.trans (hB6.mono hB5.size)
    have hsW := hBW.size
    clear b2 b3 b4 b5 hB3 hB4 hB5 hB6
    obtain ⟨x, c, rfl⟩ := owns_form ho
    obtain ⟨l, hl⟩ : ∃ l, brL a0 = l := ⟨_, rfl⟩
    rw [hl] at ho hlen hso hle ⊢
    have Hl := hide hl
    clear hl
    generalize nxt (brL a0) a1 a0.size = n1
    generalize prv (brL a0) a1 = n2
    go_wp2
    go_loopw [6] (fun iv wr => ∃ k : Nat, k ≤ l.length ∧ iv = .int .i64 k ∧ Below W.heap.size W wr) (fun iv _ => l.length - (RowKit.intOf iv).toNat)
    case atStart => exact ⟨0, by omega, rfl, Below.refl _ _⟩
    case round =>
      obtain ⟨k, hk, rfl, hBr⟩ := hrel
      have fin : ∀ (b : Bool), True := fun _ => trivial
      by_cases hlt : k + 1 < l.length
      · have i1 : (k : Int) + 1 < (l.length : Int) := by omega
        have i2 : (0 : Int) ≤ (k : Int) := by omega
        have i3 : (k : Int) < (l.length : Int) := by omega
        have i5 : ¬ ((k : Int) + 1 < 0) := by omega
        by_cases h300 : k < 300
        · have i4 : (k : Int) < 300 := by omega
          obtain ⟨g, rfl⟩ := owns_some ho (by omega)
          obtain ⟨x, hx⟩ : ∃ x, l[k]? = some x := ⟨_, List.getElem?_eq_getElem (by omega)⟩
          obtain ⟨y, hy⟩ : ∃ y, l[k + 1]? = some y := ⟨_, List.getElem?_eq_getElem hlt⟩
          have hcx : ∀ w', Below wr.heap.size wr w' → w'.cell? ⟨g, k, none⟩ = some (.int .i64 (x : Int)) := fun w' hb => iv_cell (owns_below (owns_below ho hBr) hb) hx
          have hcy : ∀ w', Below wr.heap.size wr w' → w'.cell? ⟨g, k + 1, none⟩ = some (.int .i64 (y : Int)) := fun w' hb => iv_cell (owns_below (owns_below ho hBr) hb) hy
          have hxy := get_sorted (unhide hso) (Nat.lt_succ_self k) hx hy
          have hys := unhide hle y (List.mem_of_getElem? hy)
          have n1' : nxt (brL a0) (x : Int) a0.size = y := by rw [unhide Hl]; exact nxt_between (unhide hso) hx hy (by omega) (by omega)
          have n2' : prv (brL a0) (y : Int) = x := by rw [unhide Hl]; exact prv_between (unhide hso) hx hy (by omega) (by omega)
          have n3' : nxt (brL a0) ((y : Int) - 1) a0.size = y := by rw [unhide Hl]; exact nxt_between (unhide hso) hx hy (by omega) (by omega)
          have n4' : prv (brL a0) ((x : Int) + 1) = x := by rw [unhide Hl]; exact prv_between (unhide hso) hx hy (by omega) (by omega)
          have hszr := hBr.size
          have N1 := hide n1'
          have N2 := hide n2'
          have N3 := hide n3'
          have N4 := hide n4'
          clear n1' n2' n3' n4' hx hy
          go_wp2
          refine wp_region_any (by kernel_rfl) ?_
          change wpAny _ _ _ _ _ _ _ (World.drew _)
          refine region_invB 97 (fun j => 40 + j) [(0, (Value.string a0)), (1, (Value.int IntKind.i64 a1)), (2, undef), (3, undef), (4, u4), (5, (Value.slice (some { block := g, off := 0 }) l.length c)), (6, (Value.int IntKind.i64 ↑k)), (7, (Value.string a0)), (8, (Value.int IntKind.i64 ↑a0.size)), (9, (Value.bool false)), (10, undef), (11, (Value.string a0)), (12, (Value.int IntKind.i64 a1)), (13, (Value.int IntKind.i64 ↑(nxt l a1 a0.size))), (14, (Value.string a0)), (15, (Value.int IntKind.i64 a1)), (16, (Value.int IntKind.i64 ↑(nxt l a1 a0.size))), (17, (Value.bool false)), (18, (Value.bool false)), (19, (Value.string a0)), (20, (Value.int IntKind.i64 a1)), (21, (Value.int IntKind.i64 ↑(prv l a1))), (22, (Value.string a0)), (23, (Value.int IntKind.i64 a1)), (24, (Value.int IntKind.i64 ↑(prv l a1))), (25, (Value.bool false)), (26, (Value.bool false)), (27, (Value.string a0)), (28, (Value.slice (some { block := g, off := 0 }) l.length c)), (29, (Value.int IntKind.i64 ↑k)), (30, (Value.int IntKind.i64 (↑k + 1))), (31, (Value.slice (some { block := g, off := 0 }) l.length c)), (32, (Value.int IntKind.i64 ↑l.length)), (33, (Value.bool true)), (34, (Value.bool true)), (35, (Value.int IntKind.i64 ↑k)), (36, (Value.bool true)), (37, (Value.bool true)), (38, u38), (39, u39), (96, undef)] (fun W' => Below wr.heap.size wr W') (valsOf [isV ((Value.string a0)), isV ((Value.slice (some { block := g, off := 0 }) l.length c)), isV ((Value.int IntKind.i64 ↑k)), isV ((.pointer (some ⟨g, k, none⟩))), isV ((.int .i64 (x : Int))), isV ((.int .i64 (y : Int))), isV ((Value.slice (some { block := g, off := 0 }) l.length c)), isV ((Value.int IntKind.i64 ↑k)), isV ((.int .i64 ((k : Int) + 1))), isV ((.pointer (some ⟨g, k + 1, none⟩))), isV ((.int .i64 (y : Int))), isV ((.bool false)), isV ((.bool false)), isV ((Value.string a0)), isV ((Value.slice (some { block := g, off := 0 }) l.length c)), isV ((Value.int IntKind.i64 ↑k)), isV ((.int .i64 ((k : Int) + 1))), isV ((.pointer (some ⟨g, k + 1, none⟩))), isV ((.int .i64 (y : Int))), isV ((.int .i64 (x : Int))), isV ((Value.slice (some { block := g, off := 0 }) l.length c)), isV ((Value.int IntKind.i64 ↑k)), isV ((.pointer (some ⟨g, k, none⟩))), isV ((.int .i64 (x : Int))), isV ((.bool false)), isV ((.bool false)), isV ((.bool false)), isV ((Value.string a0)), isV ((Value.slice (some { block := g, off := 0 }) l.length c)), isV ((Value.int IntKind.i64 ↑k)), isV ((.int .i64 ((k : Int) + 1))), isV ((.pointer (some ⟨g, k + 1, none⟩))), isV ((.int .i64 (y : Int))), isV ((.int .i64 ((y : Int) - 1))), isV ((.int .i64 (y : Int))), isV ((Value.slice (some { block := g, off := 0 }) l.length c)), isV ((Value.int IntKind.i64 ↑k)), isV ((.int .i64 ((k : Int) + 1))), isV ((.pointer (some ⟨g, k + 1, none⟩))), isV ((.int .i64 (y : Int))), isV ((.bool false)), isV ((.bool false)), isV ((.bool false)), isV ((Value.string a0)), isV ((Value.slice (some { block := g, off := 0 }) l.length c)), isV ((Value.int IntKind.i64 ↑k)), isV ((.pointer (some ⟨g, k, none⟩))), isV ((.int .i64 (x : Int))), isV ((.int .i64 ((x : Int) + 1))), isV ((.int .i64 (x : Int))), isV ((Value.slice (some { block := g, off := 0 }) l.length c)), isV ((Value.int IntKind.i64 ↑k)), isV ((.pointer (some ⟨g, k, none⟩))), isV ((.int .i64 (x : Int))), isV ((.bool false)), isV ((.bool false))]) (fun w w' => Below w.heap.size w w') ?fit (fun w1 w2 h hG => h.trans (hG.mono h.size)) (valsOf_stable ?stable) [(12, false), (26, false), (42, false)] ?gs ?gv ?steps ?fin _ _ ?sz rfl ?base ((Below.refl _ _).drew)
          case fit => kernel_rfl
          case sz => rfl
          case gs => kernel_rfl
          case gv => intro p hp w v hv; simp only [List.mem_cons, List.not_mem_nil, or_false] at hp; rcases hp with rfl | rfl | rfl <;> exact hv
          case base => intro p hp; repeat (first | (rcases List.mem_cons.1 hp with rfl | hp; · rfl) | cases hp)
          case stable => exact Stables.all (by repeat (first | exact .nil | refine .same ?_))
          case steps =>
            refine .cons (fun ρ w hρ hJ hb hd => by
              have d0 : ρ (.tmp 0) = (Value.string a0) := hb (0, _) (List.mem_of_getElem? (i := 0) rfl)
              exact step_move (.tmp 0) rfl ⟨Below.refl _ _, d0⟩) ?_
            refine .cons (fun ρ w hρ hJ hb hd => by
              have d0 : ρ (.tmp 5) = (Value.slice (some { block := g, off := 0 }) l.length c) := hb (5, _) (List.mem_of_getElem? (i := 5) rfl)
              exact step_move (.tmp 5) rfl ⟨Below.refl _ _, d0⟩) ?_
            refine .cons (fun ρ w hρ hJ hb hd => by
              have d0 : ρ (.tmp 6) = (Value.int IntKind.i64 ↑k) := hb (6, _) (List.mem_of_getElem? (i := 6) rfl)
              exact step_move (.tmp 6) rfl ⟨Below.refl _ _, d0⟩) ?_
            refine .cons (fun ρ w hρ hJ hb hd => by
              have d0 : ρ (.tmp 41) = (Value.slice (some { block := g, off := 0 }) l.length c) := hd 0 _ rfl rfl
              have d1 : ρ (.tmp 42) = (Value.int IntKind.i64 ↑k) := hd 1 _ rfl rfl
              exact step_val (v := (.pointer (some ⟨g, k, none⟩))) (w' := w) (by simp [go_sem, execOp, d0, d1, hρ.const, i1, i2, i3, i5]) ⟨Below.refl _ _, rfl⟩) ?_
            refine .cons (fun ρ w hρ hJ hb hd => by
              have d0 : ρ (.tmp 43) = (.pointer (some ⟨g, k, none⟩)) := hd 0 _ rfl rfl
              have c1 := hcx w hJ
              exact step_val (v := (.int .i64 (x : Int))) (w' := w) (by simp [go_sem, execOp, d0, c1]) ⟨Below.refl _ _, rfl⟩) ?_
            refine .cons (fun ρ w hρ hJ hb hd => by
              have d0 : ρ (.tmp 40) = (Value.string a0) := hd 0 _ rfl rfl
              have d1 : ρ (.tmp 44) = (.int .i64 (x : Int)) := hd 1 _ rfl rfl
              refine step_func 23 _ _ #[.string a0, .int .i64 (x : Int)] hρ rfl (enters_of Try.func23 (by kernel_rfl) rfl) (by simp [d0, d1]) ?_
              refine (next_in _ _ hs (by omega) _).mono ?_
              rintro e w2 ⟨rfl, hB⟩
              exact ⟨_, rfl, hB, by rw [unhide N1]; rfl⟩) ?_
            refine .cons (fun ρ w hρ hJ hb hd => by
              have d0 : ρ (.tmp 5) = (Value.slice (some { block := g, off := 0 }) l.length c) := hb (5, _) (List.mem_of_getElem? (i := 5) rfl)
              exact step_move (.tmp 5) rfl ⟨Below.refl _ _, d0⟩) ?_
            refine .cons (fun ρ w hρ hJ hb hd => by
              have d0 : ρ (.tmp 6) = (Value.int IntKind.i64 ↑k) := hb (6, _) (List.mem_of_getElem? (i := 6) rfl)
              exact step_move (.tmp 6) rfl ⟨Below.refl _ _, d0⟩) ?_
            refine .cons (fun ρ w hρ hJ hb hd => by
              have d0 : ρ (.tmp 47) = (Value.int IntKind.i64 ↑k) := hd 0 _ rfl rfl
              refine step_val (v := (.int .i64 ((k : Int) + 1))) (w' := w) ?_ ⟨Below.refl _ _, rfl⟩
              simp [go_sem, execOp, d0, hρ.const]
              exact wrap_small (by omega) (by omega)) ?_
            refine .cons (fun ρ w hρ hJ hb hd => by
              have d0 : ρ (.tmp 46) = (Value.slice (some { block := g, off := 0 }) l.length c) := hd 0 _ rfl rfl
              have d1 : ρ (.tmp 48) = (.int .i64 ((k : Int) + 1)) := hd 1 _ rfl rfl
              exact step_val (v := (.pointer (some ⟨g, k + 1, none⟩))) (w' := w) (by simp [go_sem, execOp, d0, d1, hρ.const, i1, i2, i3, i5]) ⟨Below.refl _ _, rfl⟩) ?_
            refine .cons (fun ρ w hρ hJ hb hd => by
              have d0 : ρ (.tmp 49) = (.pointer (some ⟨g, k + 1, none⟩)) := hd 0 _ rfl rfl
              have c1 := hcy w hJ
              exact step_val (v := (.int .i64 (y : Int))) (w' := w) (by simp [go_sem, execOp, d0, c1]) ⟨Below.refl _ _, rfl⟩) ?_
            refine .cons (fun ρ w hρ hJ hb hd => by
              have d0 : ρ (.tmp 45) = (.int .i64 (y : Int)) := hd 0 _ rfl rfl
              have d1 : ρ (.tmp 50) = (.int .i64 (y : Int)) := hd 1 _ rfl rfl
              exact step_val (v := (.bool false)) (w' := w) (by simp [go_sem, execOp, d0, d1, hρ.const, i1, i2, i3, i5]) ⟨Below.refl _ _, rfl⟩) ?_
            refine .cons (fun ρ w hρ hJ hb hd => by
              have d0 : ρ (.tmp 51) = (.bool false) := hd 0 _ rfl rfl
              exact step_move (.tmp 51) rfl ⟨Below.refl _ _, d0⟩) ?_
            refine .cons (fun ρ w hρ hJ hb hd => by
              have d0 : ρ (.tmp 0) = (Value.string a0) := hb (0, _) (List.mem_of_getElem? (i := 0) rfl)
              exact step_move (.tmp 0) rfl ⟨Below.refl _ _, d0⟩) ?_
            refine .cons (fun ρ w hρ hJ hb hd => by
              have d0 : ρ (.tmp 5) = (Value.slice (some { block := g, off := 0 }) l.length c) := hb (5, _) (List.mem_of_getElem? (i := 5) rfl)
              exact step_move (.tmp 5) rfl ⟨Below.refl _ _, d0⟩) ?_
            refine .cons (fun ρ w hρ hJ hb hd => by
              have d0 : ρ (.tmp 6) = (Value.int IntKind.i64 ↑k) := hb (6, _) (List.mem_of_getElem? (i := 6) rfl)
              exact step_move (.tmp 6) rfl ⟨Below.refl _ _, d0⟩) ?_
            refine .cons (fun ρ w hρ hJ hb hd => by
              have d0 : ρ (.tmp 55) = (Value.int IntKind.i64 ↑k) := hd 0 _ rfl rfl
              refine step_val (v := (.int .i64 ((k : Int) + 1))) (w' := w) ?_ ⟨Below.refl _ _, rfl⟩
              simp [go_sem, execOp, d0, hρ.const]
              exact wrap_small (by omega) (by omega)) ?_
            refine .cons (fun ρ w hρ hJ hb hd => by
              have d0 : ρ (.tmp 54) = (Value.slice (some { block := g, off := 0 }) l.length c) := hd 0 _ rfl rfl
              have d1 : ρ (.tmp 56) = (.int .i64 ((k : Int) + 1)) := hd 1 _ rfl rfl
              exact step_val (v := (.pointer (some ⟨g, k + 1, none⟩))) (w' := w) (by simp [go_sem, execOp, d0, d1, hρ.const, i1, i2, i3, i5]) ⟨Below.refl _ _, rfl⟩) ?_
            refine .cons (fun ρ w hρ hJ hb hd => by
              have d0 : ρ (.tmp 57) = (.pointer (some ⟨g, k + 1, none⟩)) := hd 0 _ rfl rfl
              have c1 := hcy w hJ
              exact step_val (v := (.int .i64 (y : Int))) (w' := w) (by simp [go_sem, execOp, d0, c1]) ⟨Below.refl _ _, rfl⟩) ?_
            refine .cons (fun ρ w hρ hJ hb hd => by
              have d0 : ρ (.tmp 53) = (Value.string a0) := hd 0 _ rfl rfl
              have d1 : ρ (.tmp 58) = (.int .i64 (y : Int)) := hd 1 _ rfl rfl
              refine step_func 25 _ _ #[.string a0, .int .i64 (y : Int)] hρ rfl (enters_of Try.func25 (by kernel_rfl) rfl) (by simp [d0, d1]) ?_
              refine (prev_in _ _ hs _).mono ?_
              rintro e w2 ⟨rfl, hB⟩
              exact ⟨_, rfl, hB, by rw [unhide N2]; rfl⟩) ?_
            refine .cons (fun ρ w hρ hJ hb hd => by
              have d0 : ρ (.tmp 5) = (Value.slice (some { block := g, off := 0 }) l.length c) := hb (5, _) (List.mem_of_getElem? (i := 5) rfl)
              exact step_move (.tmp 5) rfl ⟨Below.refl _ _, d0⟩) ?_
            refine .cons (fun ρ w hρ hJ hb hd => by
              have d0 : ρ (.tmp 6) = (Value.int IntKind.i64 ↑k) := hb (6, _) (List.mem_of_getElem? (i := 6) rfl)
              exact step_move (.tmp 6) rfl ⟨Below.refl _ _, d0⟩) ?_
            refine .cons (fun ρ w hρ hJ hb hd => by
              have d0 : ρ (.tmp 60) = (Value.slice (some { block := g, off := 0 }) l.length c) := hd 0 _ rfl rfl
              have d1 : ρ (.tmp 61) = (Value.int IntKind.i64 ↑k) := hd 1 _ rfl rfl
              exact step_val (v := (.pointer (some ⟨g, k, none⟩))) (w' := w) (by simp [go_sem, execOp, d0, d1, hρ.const, i1, i2, i3, i5]) ⟨Below.refl _ _, rfl⟩) ?_
            refine .cons (fun ρ w hρ hJ hb hd => by
              have d0 : ρ (.tmp 62) = (.pointer (some ⟨g, k, none⟩)) := hd 0 _ rfl rfl
              have c1 := hcx w hJ
              exact step_val (v := (.int .i64 (x : Int))) (w' := w) (by simp [go_sem, execOp, d0, c1]) ⟨Below.refl _ _, rfl⟩) ?_
            refine .cons (fun ρ w hρ hJ hb hd => by
              have d0 : ρ (.tmp 59) = (.int .i64 (x : Int)) := hd 0 _ rfl rfl
              have d1 : ρ (.tmp 63) = (.int .i64 (x : Int)) := hd 1 _ rfl rfl
              exact step_val (v := (.bool false)) (w' := w) (by simp [go_sem, execOp, d0, d1, hρ.const, i1, i2, i3, i5]) ⟨Below.refl _ _, rfl⟩) ?_
            refine .cons (fun ρ w hρ hJ hb hd => by
              have d0 : ρ (.tmp 52) = (.bool false) := hd 0 _ rfl rfl
              have d1 : ρ (.tmp 64) = (.bool false) := hd 1 _ rfl rfl
              exact step_val (v := (.bool false)) (w' := w) (by simp [go_sem, execOp, d0, d1, hρ.const, i1, i2, i3, i5]) ⟨Below.refl _ _, rfl⟩) ?_
            refine .cons (fun ρ w hρ hJ hb hd => by
              have d0 : ρ (.tmp 65) = (.bool false) := hd 0 _ rfl rfl
              exact step_move (.tmp 65) rfl ⟨Below.refl _ _, d0⟩) ?_
            refine .cons (fun ρ w hρ hJ hb hd => by
              have d0 : ρ (.tmp 0) = (Value.string a0) := hb (0, _) (List.mem_of_getElem? (i := 0) rfl)
              exact step_move (.tmp 0) rfl ⟨Below.refl _ _, d0⟩) ?_
            refine .cons (fun ρ w hρ hJ hb hd => by
              have d0 : ρ (.tmp 5) = (Value.slice (some { block := g, off := 0 }) l.length c) := hb (5, _) (List.mem_of_getElem? (i := 5) rfl)
              exact step_move (.tmp 5) rfl ⟨Below.refl _ _, d0⟩) ?_
            refine .cons (fun ρ w hρ hJ hb hd => by
              have d0 : ρ (.tmp 6) = (Value.int IntKind.i64 ↑k) := hb (6, _) (List.mem_of_getElem? (i := 6) rfl)
              exact step_move (.tmp 6) rfl ⟨Below.refl _ _, d0⟩) ?_
            refine .cons (fun ρ w hρ hJ hb hd => by
              have d0 : ρ (.tmp 69) = (Value.int IntKind.i64 ↑k) := hd 0 _ rfl rfl
              refine step_val (v := (.int .i64 ((k : Int) + 1))) (w' := w) ?_ ⟨Below.refl _ _, rfl⟩
              simp [go_sem, execOp, d0, hρ.const]
              exact wrap_small (by omega) (by omega)) ?_
            refine .cons (fun ρ w hρ hJ hb hd => by
              have d0 : ρ (.tmp 68) = (Value.slice (some { block := g, off := 0 }) l.length c) := hd 0 _ rfl rfl
              have d1 : ρ (.tmp 70) = (.int .i64 ((k : Int) + 1)) := hd 1 _ rfl rfl
              exact step_val (v := (.pointer (some ⟨g, k + 1, none⟩))) (w' := w) (by simp [go_sem, execOp, d0, d1, hρ.const, i1, i2, i3, i5]) ⟨Below.refl _ _, rfl⟩) ?_
            refine .cons (fun ρ w hρ hJ hb hd => by
              have d0 : ρ (.tmp 71) = (.pointer (some ⟨g, k + 1, none⟩)) := hd 0 _ rfl rfl
              have c1 := hcy w hJ
              exact step_val (v := (.int .i64 (y : Int))) (w' := w) (by simp [go_sem, execOp, d0, c1]) ⟨Below.refl _ _, rfl⟩) ?_
            refine .cons (fun ρ w hρ hJ hb hd => by
              have d0 : ρ (.tmp 72) = (.int .i64 (y : Int)) := hd 0 _ rfl rfl
              refine step_val (v := (.int .i64 ((y : Int) - 1))) (w' := w) ?_ ⟨Below.refl _ _, rfl⟩
              simp [go_sem, execOp, d0, hρ.const]
              exact wrap_small (by omega) (by omega)) ?_
            refine .cons (fun ρ w hρ hJ hb hd => by
              have d0 : ρ (.tmp 67) = (Value.string a0) := hd 0 _ rfl rfl
              have d1 : ρ (.tmp 73) = (.int .i64 ((y : Int) - 1)) := hd 1 _ rfl rfl
              refine step_func 23 _ _ #[.string a0, .int .i64 ((y : Int) - 1)] hρ rfl (enters_of Try.func23 (by kernel_rfl) rfl) (by simp [d0, d1]) ?_
              refine (next_in _ _ hs (by omega) _).mono ?_
              rintro e w2 ⟨rfl, hB⟩
              exact ⟨_, rfl, hB, by rw [unhide N3]; rfl⟩) ?_
            refine .cons (fun ρ w hρ hJ hb hd => by
              have d0 : ρ (.tmp 5) = (Value.slice (some { block := g, off := 0 }) l.length c) := hb (5, _) (List.mem_of_getElem? (i := 5) rfl)
              exact step_move (.tmp 5) rfl ⟨Below.refl _ _, d0⟩) ?_
            refine .cons (fun ρ w hρ hJ hb hd => by
              have d0 : ρ (.tmp 6) = (Value.int IntKind.i64 ↑k) := hb (6, _) (List.mem_of_getElem? (i := 6) rfl)
              exact step_move (.tmp 6) rfl ⟨Below.refl _ _, d0⟩) ?_
            refine .cons (fun ρ w hρ hJ hb hd => by
              have d0 : ρ (.tmp 76) = (Value.int IntKind.i64 ↑k) := hd 0 _ rfl rfl
              refine step_val (v := (.int .i64 ((k : Int) + 1))) (w' := w) ?_ ⟨Below.refl _ _, rfl⟩
              simp [go_sem, execOp, d0, hρ.const]
              exact wrap_small (by omega) (by omega)) ?_
            refine .cons (fun ρ w hρ hJ hb hd => by
              have d0 : ρ (.tmp 75) = (Value.slice (some { block := g, off := 0 }) l.length c) := hd 0 _ rfl rfl
              have d1 : ρ (.tmp 77) = (.int .i64 ((k : Int) + 1)) := hd 1 _ rfl rfl
              exact step_val (v := (.pointer (some ⟨g, k + 1, none⟩))) (w' := w) (by simp [go_sem, execOp, d0, d1, hρ.const, i1, i2, i3, i5]) ⟨Below.refl _ _, rfl⟩) ?_
            refine .cons (fun ρ w hρ hJ hb hd => by
              have d0 : ρ (.tmp 78) = (.pointer (some ⟨g, k + 1, none⟩)) := hd 0 _ rfl rfl
              have c1 := hcy w hJ
              exact step_val (v := (.int .i64 (y : Int))) (w' := w) (by simp [go_sem, execOp, d0, c1]) ⟨Below.refl _ _, rfl⟩) ?_
            refine .cons (fun ρ w hρ hJ hb hd => by
              have d0 : ρ (.tmp 74) = (.int .i64 (y : Int)) := hd 0 _ rfl rfl
              have d1 : ρ (.tmp 79) = (.int .i64 (y : Int)) := hd 1 _ rfl rfl
              exact step_val (v := (.bool false)) (w' := w) (by simp [go_sem, execOp, d0, d1, hρ.const, i1, i2, i3, i5]) ⟨Below.refl _ _, rfl⟩) ?_
            refine .cons (fun ρ w hρ hJ hb hd => by
              have d0 : ρ (.tmp 66) = (.bool false) := hd 0 _ rfl rfl
              have d1 : ρ (.tmp 80) = (.bool false) := hd 1 _ rfl rfl
              exact step_val (v := (.bool false)) (w' := w) (by simp [go_sem, execOp, d0, d1, hρ.const, i1, i2, i3, i5]) ⟨Below.refl _ _, rfl⟩) ?_
            refine .cons (fun ρ w hρ hJ hb hd => by
              have d0 : ρ (.tmp 81) = (.bool false) := hd 0 _ rfl rfl
              exact step_move (.tmp 81) rfl ⟨Below.refl _ _, d0⟩) ?_
            refine .cons (fun ρ w hρ hJ hb hd => by
              have d0 : ρ (.tmp 0) = (Value.string a0) := hb (0, _) (List.mem_of_getElem? (i := 0) rfl)
              exact step_move (.tmp 0) rfl ⟨Below.refl _ _, d0⟩) ?_
            refine .cons (fun ρ w hρ hJ hb hd => by
              have d0 : ρ (.tmp 5) = (Value.slice (some { block := g, off := 0 }) l.length c) := hb (5, _) (List.mem_of_getElem? (i := 5) rfl)
              exact step_move (.tmp 5) rfl ⟨Below.refl _ _, d0⟩) ?_
            refine .cons (fun ρ w hρ hJ hb hd => by
              have d0 : ρ (.tmp 6) = (Value.int IntKind.i64 ↑k) := hb (6, _) (List.mem_of_getElem? (i := 6) rfl)
              exact step_move (.tmp 6) rfl ⟨Below.refl _ _, d0⟩) ?_
            refine .cons (fun ρ w hρ hJ hb hd => by
              have d0 : ρ (.tmp 84) = (Value.slice (some { block := g, off := 0 }) l.length c) := hd 0 _ rfl rfl
              have d1 : ρ (.tmp 85) = (Value.int IntKind.i64 ↑k) := hd 1 _ rfl rfl
              exact step_val (v := (.pointer (some ⟨g, k, none⟩))) (w' := w) (by simp [go_sem, execOp, d0, d1, hρ.const, i1, i2, i3, i5]) ⟨Below.refl _ _, rfl⟩) ?_
            refine .cons (fun ρ w hρ hJ hb hd => by
              have d0 : ρ (.tmp 86) = (.pointer (some ⟨g, k, none⟩)) := hd 0 _ rfl rfl
              have c1 := hcx w hJ
              exact step_val (v := (.int .i64 (x : Int))) (w' := w) (by simp [go_sem, execOp, d0, c1]) ⟨Below.refl _ _, rfl⟩) ?_
            refine .cons (fun ρ w hρ hJ hb hd => by
              have d0 : ρ (.tmp 87) = (.int .i64 (x : Int)) := hd 0 _ rfl rfl
              refine step_val (v := (.int .i64 ((x : Int) + 1))) (w' := w) ?_ ⟨Below.refl _ _, rfl⟩
              simp [go_sem, execOp, d0, hρ.const]
              exact wrap_small (by omega) (by omega)) ?_
            refine .cons (fun ρ w hρ hJ hb hd => by
              have d0 : ρ (.tmp 83) = (Value.string a0) := hd 0 _ rfl rfl
              have d1 : ρ (.tmp 88) = (.int .i64 ((x : Int) + 1)) := hd 1 _ rfl rfl
              refine step_func 25 _ _ #[.string a0, .int .i64 ((x : Int) + 1)] hρ rfl (enters_of Try.func25 (by kernel_rfl) rfl) (by simp [d0, d1]) ?_
              refine (prev_in _ _ hs _).mono ?_
              rintro e w2 ⟨rfl, hB⟩
              exact ⟨_, rfl, hB, by rw [unhide N4]; rfl⟩) ?_
            refine .cons (fun ρ w hρ hJ hb hd => by
              have d0 : ρ (.tmp 5) = (Value.slice (some { block := g, off := 0 }) l.length c) := hb (5, _) (List.mem_of_getElem? (i := 5) rfl)
              exact step_move (.tmp 5) rfl ⟨Below.refl _ _, d0⟩) ?_
            refine .cons (fun ρ w hρ hJ hb hd => by
              have d0 : ρ (.tmp 6) = (Value.int IntKind.i64 ↑k) := hb (6, _) (List.mem_of_getElem? (i := 6) rfl)
              exact step_move (.tmp 6) rfl ⟨Below.refl _ _, d0⟩) ?_
            refine .cons (fun ρ w hρ hJ hb hd => by
              have d0 : ρ (.tmp 90) = (Value.slice (some { block := g, off := 0 }) l.length c) := hd 0 _ rfl rfl
              have d1 : ρ (.tmp 91) = (Value.int IntKind.i64 ↑k) := hd 1 _ rfl rfl
              exact step_val (v := (.pointer (some ⟨g, k, none⟩))) (w' := w) (by simp [go_sem, execOp, d0, d1, hρ.const, i1, i2, i3, i5]) ⟨Below.refl _ _, rfl⟩) ?_
            refine .cons (fun ρ w hρ hJ hb hd => by
              have d0 : ρ (.tmp 92) = (.pointer (some ⟨g, k, none⟩)) := hd 0 _ rfl rfl
              have c1 := hcx w hJ
              exact step_val (v := (.int .i64 (x : Int))) (w' := w) (by simp [go_sem, execOp, d0, c1]) ⟨Below.refl _ _, rfl⟩) ?_
            refine .cons (fun ρ w hρ hJ hb hd => by
              have d0 : ρ (.tmp 89) = (.int .i64 (x : Int)) := hd 0 _ rfl rfl
              have d1 : ρ (.tmp 93) = (.int .i64 (x : Int)) := hd 1 _ rfl rfl
              exact step_val (v := (.bool false)) (w' := w) (by simp [go_sem, execOp, d0, d1, hρ.const, i1, i2, i3, i5]) ⟨Below.refl _ _, rfl⟩) ?_
            refine .cons (fun ρ w hρ hJ hb hd => by
              have d0 : ρ (.tmp 82) = (.bool false) := hd 0 _ rfl rfl
              have d1 : ρ (.tmp 94) = (.bool false) := hd 1 _ rfl rfl
              exact step_val (v := (.bool false)) (w' := w) (by simp [go_sem, execOp, d0, d1, hρ.const, i1, i2, i3, i5]) ⟨Below.refl _ _, rfl⟩) (.nil _)
          case fin =>
            intro a W5 hsz2 hds hb hJ hv
            obtain rfl := frame_of ([(0, (Value.string a0)), (1, (Value.int IntKind.i64 a1)), (2, undef), (3, undef), (4, u4), (5, (Value.slice (some { block := g, off := 0 }) l.length c)), (6, (Value.int IntKind.i64 ↑k)), (7, (Value.string a0)), (8, (Value.int IntKind.i64 ↑a0.size)), (9, (Value.bool false)), (10, undef), (11, (Value.string a0)), (12, (Value.int IntKind.i64 a1)), (13, (Value.int IntKind.i64 ↑(nxt l a1 a0.size))), (14, (Value.string a0)), (15, (Value.int IntKind.i64 a1)), (16, (Value.int IntKind.i64 ↑(nxt l a1 a0.size))), (17, (Value.bool false)), (18, (Value.bool false)), (19, (Value.string a0)), (20, (Value.int IntKind.i64 a1)), (21, (Value.int IntKind.i64 ↑(prv l a1))), (22, (Value.string a0)), (23, (Value.int IntKind.i64 a1)), (24, (Value.int IntKind.i64 ↑(prv l a1))), (25, (Value.bool false)), (26, (Value.bool false)), (27, (Value.string a0)), (28, (Value.slice (some { block := g, off := 0 }) l.length c)), (29, (Value.int IntKind.i64 ↑k)), (30, (Value.int IntKind.i64 (↑k + 1))), (31, (Value.slice (some { block := g, off := 0 }) l.length c)), (32, (Value.int IntKind.i64 ↑l.length)), (33, (Value.bool true)), (34, (Value.bool true)), (35, (Value.int IntKind.i64 ↑k)), (36, (Value.bool true)), (37, (Value.bool true)), (38, u38), (39, u39), (96, undef)] ++ [(40, (Value.string a0)), (41, (Value.slice (some { block := g, off := 0 }) l.length c)), (42, (Value.int IntKind.i64 ↑k)), (43, (.pointer (some ⟨g, k, none⟩))), (44, (.int .i64 (x : Int))), (45, (.int .i64 (y : Int))), (46, (Value.slice (some { block := g, off := 0 }) l.length c)), (47, (Value.int IntKind.i64 ↑k)), (48, (.int .i64 ((k : Int) + 1))), (49, (.pointer (some ⟨g, k + 1, none⟩))), (50, (.int .i64 (y : Int))), (51, (.bool false)), (52, (.bool false)), (53, (Value.string a0)), (54, (Value.slice (some { block := g, off := 0 }) l.length c)), (55, (Value.int IntKind.i64 ↑k)), (56, (.int .i64 ((k : Int) + 1))), (57, (.pointer (some ⟨g, k + 1, none⟩))), (58, (.int .i64 (y : Int))), (59, (.int .i64 (x : Int))), (60, (Value.slice (some { block := g, off := 0 }) l.length c)), (61, (Value.int IntKind.i64 ↑k)), (62, (.pointer (some ⟨g, k, none⟩))), (63, (.int .i64 (x : Int))), (64, (.bool false)), (65, (.bool false)), (66, (.bool false)), (67, (Value.string a0)), (68, (Value.slice (some { block := g, off := 0 }) l.length c)), (69, (Value.int IntKind.i64 ↑k)), (70, (.int .i64 ((k : Int) + 1))), (71, (.pointer (some ⟨g, k + 1, none⟩))), (72, (.int .i64 (y : Int))), (73, (.int .i64 ((y : Int) - 1))), (74, (.int .i64 (y : Int))), (75, (Value.slice (some { block := g, off := 0 }) l.length c)), (76, (Value.int IntKind.i64 ↑k)), (77, (.int .i64 ((k : Int) + 1))), (78, (.pointer (some ⟨g, k + 1, none⟩))), (79, (.int .i64 (y : Int))), (80, (.bool false)), (81, (.bool false)), (82, (.bool false)), (83, (Value.string a0)), (84, (Value.slice (some { block := g, off := 0 }) l.length c)), (85, (Value.int IntKind.i64 ↑k)), (86, (.pointer (some ⟨g, k, none⟩))), (87, (.int .i64 (x : Int))), (88, (.int .i64 ((x : Int) + 1))), (89, (.int .i64 (x : Int))), (90, (Value.slice (some { block := g, off := 0 }) l.length c)), (91, (Value.int IntKind.i64 ↑k)), (92, (.pointer (some ⟨g, k, none⟩))), (93, (.int .i64 (x : Int))), (94, (.bool false)), (95, (.bool false))]) [(Value.string a0), (Value.int IntKind.i64 a1), undef, undef, u4, (Value.slice (some { block := g, off := 0 }) l.length c), (Value.int IntKind.i64 ↑k), (Value.string a0), (Value.int IntKind.i64 ↑a0.size), (Value.bool false), undef, (Value.string a0), (Value.int IntKind.i64 a1), (Value.int IntKind.i64 ↑(nxt l a1 a0.size)), (Value.string a0), (Value.int IntKind.i64 a1), (Value.int IntKind.i64 ↑(nxt l a1 a0.size)), (Value.bool false), (Value.bool false), (Value.string a0), (Value.int IntKind.i64 a1), (Value.int IntKind.i64 ↑(prv l a1)), (Value.string a0), (Value.int IntKind.i64 a1), (Value.int IntKind.i64 ↑(prv l a1)), (Value.bool false), (Value.bool false), (Value.string a0), (Value.slice (some { block := g, off := 0 }) l.length c), (Value.int IntKind.i64 ↑k), (Value.int IntKind.i64 (↑k + 1)), (Value.slice (some { block := g, off := 0 }) l.length c), (Value.int IntKind.i64 ↑l.length), (Value.bool true), (Value.bool true), (Value.int IntKind.i64 ↑k), (Value.bool true), (Value.bool true), u38, u39, (Value.string a0), (Value.slice (some { block := g, off := 0 }) l.length c), (Value.int IntKind.i64 ↑k), (.pointer (some ⟨g, k, none⟩)), (.int .i64 (x : Int)), (.int .i64 (y : Int)), (Value.slice (some { block := g, off := 0 }) l.length c), (Value.int IntKind.i64 ↑k), (.int .i64 ((k : Int) + 1)), (.pointer (some ⟨g, k + 1, none⟩)), (.int .i64 (y : Int)), (.bool false), (.bool false), (Value.string a0), (Value.slice (some { block := g, off := 0 }) l.length c), (Value.int IntKind.i64 ↑k), (.int .i64 ((k : Int) + 1)), (.pointer (some ⟨g, k + 1, none⟩)), (.int .i64 (y : Int)), (.int .i64 (x : Int)), (Value.slice (some { block := g, off := 0 }) l.length c), (Value.int IntKind.i64 ↑k), (.pointer (some ⟨g, k, none⟩)), (.int .i64 (x : Int)), (.bool false), (.bool false), (.bool false), (Value.string a0), (Value.slice (some { block := g, off := 0 }) l.length c), (Value.int IntKind.i64 ↑k), (.int .i64 ((k : Int) + 1)), (.pointer (some ⟨g, k + 1, none⟩)), (.int .i64 (y : Int)), (.int .i64 ((y : Int) - 1)), (.int .i64 (y : Int)), (Value.slice (some { block := g, off := 0 }) l.length c), (Value.int IntKind.i64 ↑k), (.int .i64 ((k : Int) + 1)), (.pointer (some ⟨g, k + 1, none⟩)), (.int .i64 (y : Int)), (.bool false), (.bool false), (.bool false), (Value.string a0), (Value.slice (some { block := g, off := 0 }) l.length c), (Value.int IntKind.i64 ↑k), (.pointer (some ⟨g, k, none⟩)), (.int .i64 (x : Int)), (.int .i64 ((x : Int) + 1)), (.int .i64 (x : Int)), (Value.slice (some { block := g, off := 0 }) l.length c), (Value.int IntKind.i64 ↑k), (.pointer (some ⟨g, k, none⟩)), (.int .i64 (x : Int)), (.bool false), (.bool false), undef] hsz2 hds (fun p hp => by
              rcases List.mem_append.1 hp with h | h
              · exact hb p h
              · simp only [List.mem_cons, List.not_mem_nil, or_false] at h
                rcases h with rfl | rfl | rfl | rfl | rfl | rfl | rfl | rfl | rfl | rfl | rfl | rfl | rfl | rfl | rfl | rfl | rfl | rfl | rfl | rfl | rfl | rfl | rfl | rfl | rfl | rfl | rfl | rfl | rfl | rfl | rfl | rfl | rfl | rfl | rfl | rfl | rfl | rfl | rfl | rfl | rfl | rfl | rfl | rfl | rfl | rfl | rfl | rfl | rfl | rfl | rfl | rfl | rfl | rfl | rfl | rfl
                · exact hv 0 (by decide)
                · exact hv 1 (by decide)
                · exact hv 2 (by decide)
                · exact hv 3 (by decide)
                · exact hv 4 (by decide)
                · exact hv 5 (by decide)
                · exact hv 6 (by decide)
                · exact hv 7 (by decide)
                · exact hv 8 (by decide)
                · exact hv 9 (by decide)
                · exact hv 10 (by decide)
                · exact hv 11 (by decide)
                · exact hv 12 (by decide)
                · exact hv 13 (by decide)
                · exact hv 14 (by decide)
                · exact hv 15 (by decide)
                · exact hv 16 (by decide)
                · exact hv 17 (by decide)
                · exact hv 18 (by decide)
                · exact hv 19 (by decide)
                · exact hv 20 (by decide)
                · exact hv 21 (by decide)
                · exact hv 22 (by decide)
                · exact hv 23 (by decide)
                · exact hv 24 (by decide)
                · exact hv 25 (by decide)
                · exact hv 26 (by decide)
                · exact hv 27 (by decide)
                · exact hv 28 (by decide)
                · exact hv 29 (by decide)
                · exact hv 30 (by decide)
                · exact hv 31 (by decide)
                · exact hv 32 (by decide)
                · exact hv 33 (by decide)
                · exact hv 34 (by decide)
                · exact hv 35 (by decide)
                · exact hv 36 (by decide)
                · exact hv 37 (by decide)
                · exact hv 38 (by decide)
                · exact hv 39 (by decide)
                · exact hv 40 (by decide)
                · exact hv 41 (by decide)
                · exact hv 42 (by decide)
                · exact hv 43 (by decide)
                · exact hv 44 (by decide)
                · exact hv 45 (by decide)
                · exact hv 46 (by decide)
                · exact hv 47 (by decide)
                · exact hv 48 (by decide)
                · exact hv 49 (by decide)
                · exact hv 50 (by decide)
                · exact hv 51 (by decide)
                · exact hv 52 (by decide)
                · exact hv 53 (by decide)
                · exact hv 54 (by decide)
                · exact hv 55 (by decide)) rfl
            clear hb hv hds hsz2
            have hB9 := hBr.trans (hJ.mono hszr)
            go_wp2
            go_roundw
            case rel => exact ⟨k + 1, by omega, by go_num, hB9⟩
            case measure => simp [RowKit.intOf]; omega
        · have i4 : ¬ (k : Int) < 300 := by omega
          have hB9 := hBW.trans (hBr.mono hsW)
          go_wp2_with (go_at_call 9; refine (known_in _).mono ?_; rintro e w' ⟨rfl, hBk⟩)
          go_ret
          exact ⟨rfl, hB9.trans (hBk.mono hB9.size)⟩
      · have i1 : ¬ (k : Int) + 1 < (l.length : Int) := by omega
        have hB9 := hBW.trans (hBr.mono hsW)
        go_wp2_with (go_at_call 9; refine (known_in _).mono ?_; rintro e w' ⟨rfl, hBk⟩)
        go_ret
        exact ⟨rfl, hB9.trans (hBk.mono hB9.size)⟩

theorem own : ownKnob Try.prog.godebug = none := by kernel_rfl

set_option maxRecDepth 100000 in
theorem lifted (os : Os) (started : os.Started) (H : Type) (enc : TypeId × Value → H) :
    ReturnsInHanded {} Try.checked os 6 .any (Rows.clumpStepsSpec.pre6 enc Try.prog Try.f6 Rows.clumpStepsRow.domain false) (Rows.clumpStepsSpec.post enc Try.prog Try.f6 false true false false) := by
  refine returnsInHanded_of_change (C := Try.checked) own started (by kernel_rfl) Try.func6
    (ChangeSpec.witness6 (enc := enc) (C := Try.checked) false ⟨#[], #[.string ByteArray.empty, .int .i64 0], []⟩ 8 (by kernel_rfl) (by kernel_rfl) (by kernel_rfl) (by kernel_rfl)) ?_
  intro W base args ds gs before hval0 hW hcnd _
  have hval : ∀ (j : Nat) t v, Try.f6.params[j]? = some t → args[j]? = some v → Value.okWide Try.prog W .any base t v := hval0
  have hW' := hW
  obtain ⟨p, q, hA0, hV, rfl, hfz, hnd⟩ := hW
  have hA : DataW.TrodAll enc Try.prog W 0 (fun _ => true) true Try.f6.params.toList args.toList ds p := hA0
  rw [Try.params6] at hA hval
  obtain ⟨v0, vs0, d0, ds0, p0, q0, hargs, rfl, rfl, h0, r0⟩ := trodAll_cons hA
  obtain ⟨v1, vs1, d1, ds1, p1, q1, rfl, rfl, rfl, h1, r1⟩ := trodAll_cons r0
  obtain ⟨rfl, rfl, rfl⟩ := trodAll_nil r1
  obtain rfl : args = #[v0, v1] := by cases args; simp_all
  obtain ⟨rfl, rfl⟩ := trodVars_none hV
  obtain ⟨a0, rfl, rfl, rfl, w0⟩ := open_string Try.underlying9 (hval 0 9 v0 rfl rfl) h0
  obtain ⟨a1, rfl, rfl, rfl, w1⟩ := open_int Try.underlying3 (hval 1 3 v1 rfl rfl) h1
  clear hA0 hval0
  simp only [List.append_nil] at hW'
  refine (walk a0 a1 w0 w1 W).mono fun e W' ⟨he, bel⟩ => ?_
  subst he
  exact ⟨_, rfl, _, _, _, [], _, [], hW', trodAll_mk1 (shut_bool Try.underlying4 _), (trodAll_cons_mk (shut_string Try.underlying9 w0) (trodAll_cons_mk (shut_int Try.underlying3 w1) trodAll_mk0)), rfl, bel.frame _, fun h => by cases h⟩

theorem over : Rows.clumpStepsRow.holds Try.pinned (OpenSpec.ofChange Rows.clumpStepsSpec) :=
  OpenClaim.holds_of_wide 6 Try.f6 rfl rfl rfl rfl rfl rfl rfl ⟨rfl, rfl, rfl, rfl, rfl⟩ rfl rfl rfl rfl rfl (by kernel_rfl) Try.func6 (by kernel_rfl)
    (of_decide_eq_true (by kernel_rfl)) (by unfold Func.isWrapper; first | (rw [if_pos (by decide +kernel)]; kernel_rfl) | (rw [if_neg (by decide +kernel)]; exact ⟨rfl, rfl⟩))
    (fun os started H enc _ => lifted os started H enc)

end LClumpSteps

theorem clumpSteps_holds : Rows.ClumpStepsSaid := LClumpSteps.over

end Go.Proofs.Ytcagfapdhopmjaa
