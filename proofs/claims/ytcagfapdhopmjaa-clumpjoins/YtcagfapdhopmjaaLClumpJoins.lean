/-
  Chapter 2's law ClumpJoins returns true for every text, and leaves its argument as it was; no condition.
-/
import Derived.Test.YtcagfapdhopmjaaRows
import Derived.WalkKit
import Derived.ProofKit
import Derived.OpenShut
import Derived.ShutString
import Derived.ChangeOld
import Derived.Below
import Derived.Test.YtcagfapdhopmjaaKno
import Derived.Test.YtcagfapdhopmjaaPrt2
import Derived.Test.YtcagfapdhopmjaaRegB
import Derived.Lib.Strings
set_option linter.unusedVariables false
set_option linter.unusedSimpArgs false
namespace Go.Proofs.Ytcagfapdhopmjaa
namespace LClumpJoins
open Go.ChangeShapes Go.WideShapes Go.ChangeAt Go.RowKit Go.Lib
open Go.ChangeMaps (open_string shut_string)

theorem cp_get {s : ByteArray} {i a b : Nat} (h : (cpL s)[i]? = some (a, b)) : (brL s)[i]? = some a ∧ (brL s)[i + 1]? = some b := by
  unfold cpL pairs at h
  rw [List.getElem?_zip_eq_some] at h
  refine ⟨h.1, ?_⟩
  have := h.2
  rw [List.getElem?_tail] at this
  exact this

theorem get_sorted {l : List Nat} (hs : l.Pairwise (· < ·)) {j k x y : Nat} (hjk : j < k) (hj : l[j]? = some x) (hk : l[k]? = some y) : x < y := by
  obtain ⟨h1, rfl⟩ := List.getElem?_eq_some_iff.1 hj
  obtain ⟨h2, rfl⟩ := List.getElem?_eq_some_iff.1 hk
  exact List.pairwise_iff_getElem.1 hs j k h1 h2 hjk

/-- between two neighbours of a rising list -/
theorem at_between {l : List Nat} (hs : l.Pairwise (· < ·)) {k x y q : Nat} (hx : l[k]? = some x) (hy : l[k + 1]? = some y) (hq : q ∈ l) : q ≤ x ∨ y ≤ q := by
  obtain ⟨j, hj, rfl⟩ := List.getElem_of_mem hq
  have hjj : l[j]? = some l[j] := List.getElem?_eq_getElem hj
  by_cases h : j < k + 1
  · left
    by_cases e : j = k
    · subst e; rw [hjj] at hx; cases hx; exact Nat.le_refl _
    · exact Nat.le_of_lt (get_sorted hs (by omega) hjj hx)
  · right
    by_cases e : j = k + 1
    · subst e; rw [hjj] at hy; cases hy; exact Nat.le_refl _
    · exact Nat.le_of_lt (get_sorted hs (by omega) hy hjj)
theorem nxt_between {l : List Nat} (hs : l.Pairwise (· < ·)) {k x y z : Nat} {a : Int} (hx : l[k]? = some x) (hy : l[k + 1]? = some y) (h1 : (x : Int) ≤ a) (h2 : a < (y : Int)) : nxt l a z = y :=
  nxt_mem hs (List.mem_of_getElem? hy) h2 (fun q hq ha => by rcases at_between hs hx hy hq with h | h <;> omega)
theorem prv_between {l : List Nat} (hs : l.Pairwise (· < ·)) {k x y : Nat} {a : Int} (hx : l[k]? = some x) (hy : l[k + 1]? = some y) (h1 : (x : Int) < a) (h2 : a ≤ (y : Int)) : prv l a = x :=
  prv_mem hs (List.mem_of_getElem? hx) h1 (fun q hq ha => by rcases at_between hs hx hy hq with h | h <;> omega)

theorem ext_append (s : ByteArray) (a b : Nat) (hab : a ≤ b) : s.extract 0 a ++ s.extract a b = s.extract 0 b := by
  rw [ByteArray.extract_append_extract]
  congr 1
  omega

theorem st_cell {W : World} {B g cap : Nat} {s : ByteArray} {l : List (Nat × Nat)} (h : W.ownsRow B 9 1 (.slice (some ⟨g, 0, none⟩) l.length cap) l.length (cpC s l)) {k a b : Nat} (hk : l[k]? = some (a, b)) : W.cell? ⟨g, k, none⟩ = some (.string (s.extract a b)) := by
  have hlt : k < l.length := (List.getElem?_eq_some_iff.1 hk).1
  rw [h.cellAt k (by omega)]
  simp [cpC, hk]

set_option maxRecDepth 100000 in
set_option maxHeartbeats 16000000 in
theorem walk (a0 : ByteArray) (w0 : a0.size ≤ maxLen) (w : World) :
    Calls Try.prog 7 #[.string a0] w fun e w' => e = .returned (.bool true) ∧ Below w.heap.size w w' := by
  unfold maxLen at w0
  by_cases hbig : 20000 < a0.size
  · go_enter Try.func7, Try.ntmps7
    go_wp2_with (go_at_call 9; refine (known_in _).mono ?_; rintro e w' ⟨rfl, hB⟩)
    go_ret
    exact ⟨rfl, hB⟩
  · have hs6 : a0.size ≤ 1000000 := by omega
    have hs : a0.size ≤ 140737488355328 := by omega
    have hd0 : decide ((20000 : Int) < (a0.size : Int)) = false := by simp; omega
    have hcl := cp_len a0
    have hso := hide (brL_sorted a0)
    have hz0 := hide (isBr_zero a0)
    have hzs := hide (isBr_size a0)
    have q1 : ∀ c : Int, (c != c) = false := fun c => by simp
    go_enter Try.func7, Try.ntmps7
    go_wp2_with fail
    refine (parts_in a0 hs6 _).mono ?_
    rintro e W1 ⟨v, rfl, ho, hB1⟩
    obtain ⟨x, c, rfl⟩ := owns_form ho
    go_wp2_with fail
    refine (clumpCount_in _ hs (by omega) _).mono ?_
    rintro e W2 ⟨rfl, b2⟩
    have hB2 := hB1.trans (b2.mono hB1.size)
    have ho2 := owns_below ho b2
    go_wp2_with fail
    refine (break_in _ _ hs _).mono ?_
    rintro e W3 ⟨rfl, b3⟩
    rw [unhide hz0]
    have hB3 := hB2.trans (b3.mono hB2.size)
    have ho3 := owns_below ho2 b3
    go_wp2_with fail
    refine (break_in _ _ hs _).mono ?_
    rintro e W ⟨rfl, b4⟩
    rw [unhide hzs]
    have hBW := hB3.trans (b4.mono hB3.size)
    have hoW := owns_below ho3 b4
    have hsW := hBW.size
    clear ho ho2 ho3 b2 b3 b4 hB1 hB2 hB3
    obtain ⟨L, hL⟩ : ∃ L, (cpL a0).length = L := ⟨_, rfl⟩
    rw [hL] at hcl ⊢
    have hoL := hide hoW
    have hoV : ∃ g', 0 < L → x = some ⟨g', 0, none⟩ := by
      by_cases h : 0 < L
      · obtain ⟨g', e⟩ := owns_some hoW (by omega); exact ⟨g', fun _ => e⟩
      · exact ⟨0, fun h' => absurd h' h⟩
    obtain ⟨g, hg⟩ := hoV
    have HL := hide hL
    clear hL hoW
    go_wp2
    go_loopw [5, 6, 7] (fun sv av iv wr => ∃ i a : Nat, i ≤ L ∧ a ≤ a0.size ∧ iv = .int .i64 i ∧ av = .int .i64 a ∧ sv = .string (a0.extract 0 a) ∧ Hid (a = atL ((cpL a0).take i)) ∧ Below W.heap.size W wr) (fun _ _ iv _ => L - (RowKit.intOf iv).toNat)
    case atStart => exact ⟨0, 0, by omega, by omega, rfl, rfl, by simp; rfl, hide rfl, Below.refl _ _⟩
    case round =>
      obtain ⟨i, a, hiL, has, rfl, rfl, rfl, hat, hBr⟩ := hrel
      have hszr := hBr.size
      by_cases hlt : i < L
      · have i1 : (i : Int) < (L : Int) := by omega
        have i2 : (0 : Int) ≤ (i : Int) := by omega
        obtain rfl := hg (by omega)
        obtain ⟨⟨a', b⟩, hab⟩ : ∃ p, (cpL a0)[i]? = some p := ⟨_, List.getElem?_eq_getElem (by rw [unhide HL]; exact hlt)⟩
        have hsp : (cpL a0).take i ++ (a', b) :: (cpL a0).drop (i + 1) = cpL a0 := by
          have hgx : (cpL a0)[i]'(by rw [unhide HL]; exact hlt) = (a', b) := by
            have := hab; rw [List.getElem?_eq_getElem (by rw [unhide HL]; exact hlt)] at this; simpa using this
          rw [← hgx, ← List.drop_eq_getElem_cons, List.take_append_drop]
        obtain ⟨h1, h2, h3, h4, h5⟩ := cp_at hsp
        dsimp only at h1 h2 h3 h4 h5
        obtain rfl : a' = a := by rw [h1, ← unhide hat]
        have hat2 : Hid (b = atL ((cpL a0).take (i + 1))) := hide (by rw [List.take_add_one, hab, Option.toList_some, atL_snoc])
        obtain ⟨hx, hy⟩ := cp_get hab
        have hcell : ∀ w', Below wr.heap.size wr w' → w'.cell? ⟨g, i, none⟩ = some (.string (a0.extract a' b)) := fun w' hb => by
          have := owns_below (owns_below (unhide hoL) hBr) hb
          exact st_cell this hab
        have c1 := hcell wr (Below.refl _ _)
        have happ := hide (ext_append a0 a' b (by omega))
        have hsx : (a0.extract a' b).size = b - a' := size_ext a0 a' b h3
        have e9 : (a' : Int) + ((b - a' : Nat) : Int) = (b : Int) := by omega
        have N0 : Hid (isBr a0 (a' : Int) = true) := hide (by rw [isBr_nat, decide_eq_true h4])
        have N1 : Hid (nxt (brL a0) (a' : Int) a0.size = b) := hide (nxt_between (unhide hso) hx hy (by omega) (by omega))
        have N2 : Hid (prv (brL a0) (b : Int) = a') := hide (prv_between (unhide hso) hx hy (by omega) (by omega))
        have N3 : Hid (∀ k : Nat, 0 < k → a' + k < b → isBr a0 ((a' : Int) + (k : Int)) = false ∧ prv (brL a0) ((a' : Int) + (k : Int)) = a' ∧ nxt (brL a0) ((a' : Int) + (k : Int)) a0.size = b) := hide (fun k hk0 hkb => ⟨by
          rw [show (a' : Int) + (k : Int) = ((a' + k : Nat) : Int) by omega, isBr_nat, decide_eq_false]
          intro hm
          rcases at_between (unhide hso) hx hy hm with h | h <;> omega, prv_between (unhide hso) hx hy (by omega) (by omega), nxt_between (unhide hso) hx hy (by omega) (by omega)⟩)
        clear hx hy h1 h4 h5 hsp hab hat
        have happ2 := unhide happ
        go_wp2
        refine wp_region_any (by kernel_rfl) ?_
        change wpAny _ _ _ _ _ _ _ (World.drew _)
        refine region_invB 150 (fun j => 51 + j) [(0, (Value.string a0)), (1, undef), (2, u2), (3, (Value.slice (some { block := g, off := 0 }) L c)), (4, (Value.bool true)), (5, (Value.string (a0.extract 0 b))), (6, (Value.int IntKind.i64 ↑a')), (7, (Value.int IntKind.i64 ↑i)), (8, u8), (9, (Value.string a0)), (10, (Value.int IntKind.i64 ↑a0.size)), (11, (Value.bool false)), (12, undef), (13, (Value.tuple #[Value.slice (some { block := g, off := 0 }) L c, Value.bool true])), (14, (Value.string a0)), (15, (Value.tuple #[Value.slice (some { block := g, off := 0 }) L c, Value.bool true])), (16, (Value.slice (some { block := g, off := 0 }) L c)), (17, (Value.bool true)), (18, (Value.bool true)), (19, (Value.bool false)), (20, (Value.bool false)), (21, (Value.string a0)), (22, (Value.int IntKind.i64 ↑L)), (23, (Value.slice (some { block := g, off := 0 }) L c)), (24, (Value.int IntKind.i64 ↑L)), (25, (Value.bool false)), (26, (Value.bool false)), (27, (Value.bool false)), (28, (Value.string a0)), (29, (Value.bool true)), (30, (Value.bool false)), (31, (Value.bool false)), (32, (Value.bool false)), (33, (Value.string a0)), (34, (Value.string a0)), (35, (Value.int IntKind.i64 ↑a0.size)), (36, (Value.bool true)), (37, (Value.bool false)), (38, (Value.bool false)), (39, (Value.int IntKind.i64 ↑i)), (40, (Value.slice (some { block := g, off := 0 }) L c)), (41, (Value.int IntKind.i64 ↑L)), (42, (Value.bool true)), (43, u43), (44, u44), (45, (Value.string (a0.extract 0 a'))), (46, (Value.slice (some { block := g, off := 0 }) L c)), (47, (Value.int IntKind.i64 ↑i)), (48, (Value.pointer (some { block := g, off := i }))), (49, (Value.string (a0.extract a' b))), (50, (Value.string (a0.extract 0 b))), (81, u81), (82, u82), (83, u83), (84, u84), (85, u85), (86, u86), (87, u87), (88, u88), (89, u89), (90, u90), (91, u91), (92, u92), (93, u93), (94, u94), (95, u95), (96, u96), (97, u97), (98, u98), (99, u99), (100, u100), (101, u101), (102, u102), (103, u103), (104, u104), (105, u105), (106, u106), (107, u107), (108, u108), (109, u109), (110, u110), (111, u111), (112, u112), (113, u113), (114, u114), (115, u115), (116, u116), (117, u117), (118, u118), (119, u119), (120, u120), (121, u121), (122, u122), (123, u123), (124, u124), (125, u125), (126, u126), (127, u127), (128, u128), (129, u129), (130, undef), (131, undef), (132, undef), (133, undef), (134, undef), (135, undef), (136, undef), (137, undef), (138, undef), (139, undef), (140, undef), (141, undef), (142, undef), (143, undef), (144, undef), (145, undef), (146, undef), (147, undef), (148, undef), (149, undef)] (fun W' => Below wr.heap.size wr W') (valsOf [isV ((Value.string a0)), isV ((Value.int IntKind.i64 ↑a')), isV ((.bool true)), isV ((.bool false)), isV ((.bool false)), isV ((Value.string a0)), isV ((Value.int IntKind.i64 ↑a')), isV ((.int .i64 (b : Int))), isV ((Value.int IntKind.i64 ↑a')), isV ((Value.slice (some { block := g, off := 0 }) L c)), isV ((Value.int IntKind.i64 ↑i)), isV ((.pointer (some ⟨g, i, none⟩))), isV ((.string (a0.extract a' b))), isV ((.int .i64 ((b - a' : Nat) : Int))), isV ((.int .i64 (b : Int))), isV ((.bool false)), isV ((.bool false)), isV ((.bool false)), isV ((Value.string a0)), isV ((Value.int IntKind.i64 ↑a')), isV ((Value.slice (some { block := g, off := 0 }) L c)), isV ((Value.int IntKind.i64 ↑i)), isV ((.pointer (some ⟨g, i, none⟩))), isV ((.string (a0.extract a' b))), isV ((.int .i64 ((b - a' : Nat) : Int))), isV ((.int .i64 (b : Int))), isV ((.int .i64 (a' : Int))), isV ((Value.int IntKind.i64 ↑a')), isV ((.bool false)), isV ((.bool false))]) (fun w w' => Below w.heap.size w w') ?fit (fun w1 w2 h hG => h.trans (hG.mono h.size)) (valsOf_stable ?stable) [(4, false), (17, false)] ?gs ?gv ?steps ?fin _ _ ?sz rfl ?base ((Below.refl _ _).drew)
        case fit => kernel_rfl
        case sz => rfl
        case gs => kernel_rfl
        case gv => intro p hp w v hv; simp only [List.mem_cons, List.not_mem_nil, or_false] at hp; rcases hp with rfl | rfl <;> exact hv
        case base => intro p hp; repeat (first | (rcases List.mem_cons.1 hp with rfl | hp; · rfl) | cases hp)
        case stable => exact Stables.all (by repeat (first | exact .nil | refine .same ?_))
        case steps =>
          refine .cons (fun ρ w hρ hJ hb hd => by
            have d0 : ρ (.tmp 0) = (Value.string a0) := hb (0, _) (List.mem_of_getElem? (i := 0) rfl)
            exact step_move (.tmp 0) rfl ⟨Below.refl _ _, d0⟩) ?_
          refine .cons (fun ρ w hρ hJ hb hd => by
            have d0 : ρ (.tmp 6) = (Value.int IntKind.i64 ↑a') := hb (6, _) (List.mem_of_getElem? (i := 6) rfl)
            exact step_move (.tmp 6) rfl ⟨Below.refl _ _, d0⟩) ?_
          refine .cons (fun ρ w hρ hJ hb hd => by
            have d0 : ρ (.tmp 51) = (Value.string a0) := hd 0 _ rfl rfl
            have d1 : ρ (.tmp 52) = (Value.int IntKind.i64 ↑a') := hd 1 _ rfl rfl
            refine step_func 14 _ _ #[.string a0, .int .i64 (a' : Int)] hρ rfl (enters_of Try.func14 (by kernel_rfl) rfl) (by simp [d0, d1]) ?_
            refine (break_in _ _ hs _).mono ?_
            rintro e w2 ⟨rfl, hB⟩
            exact ⟨_, rfl, hB, by rw [unhide N0]; rfl⟩) ?_
          refine .cons (fun ρ w hρ hJ hb hd => by
            have d0 : ρ (.tmp 53) = (.bool true) := hd 0 _ rfl rfl
            exact step_val (v := (.bool false)) (w' := w) (by simp [go_sem, execOp, d0, hρ.const, i1, i2]) ⟨Below.refl _ _, rfl⟩) ?_
          refine .cons (fun ρ w hρ hJ hb hd => by
            have d0 : ρ (.tmp 54) = (.bool false) := hd 0 _ rfl rfl
            exact step_move (.tmp 54) rfl ⟨Below.refl _ _, d0⟩) ?_
          refine .cons (fun ρ w hρ hJ hb hd => by
            have d0 : ρ (.tmp 0) = (Value.string a0) := hb (0, _) (List.mem_of_getElem? (i := 0) rfl)
            exact step_move (.tmp 0) rfl ⟨Below.refl _ _, d0⟩) ?_
          refine .cons (fun ρ w hρ hJ hb hd => by
            have d0 : ρ (.tmp 6) = (Value.int IntKind.i64 ↑a') := hb (6, _) (List.mem_of_getElem? (i := 6) rfl)
            exact step_move (.tmp 6) rfl ⟨Below.refl _ _, d0⟩) ?_
          refine .cons (fun ρ w hρ hJ hb hd => by
            have d0 : ρ (.tmp 56) = (Value.string a0) := hd 0 _ rfl rfl
            have d1 : ρ (.tmp 57) = (Value.int IntKind.i64 ↑a') := hd 1 _ rfl rfl
            refine step_func 23 _ _ #[.string a0, .int .i64 (a' : Int)] hρ rfl (enters_of Try.func23 (by kernel_rfl) rfl) (by simp [d0, d1]) ?_
            refine (next_in _ _ hs (by omega) _).mono ?_
            rintro e w2 ⟨rfl, hB⟩
            exact ⟨_, rfl, hB, by rw [unhide N1]; rfl⟩) ?_
          refine .cons (fun ρ w hρ hJ hb hd => by
            have d0 : ρ (.tmp 6) = (Value.int IntKind.i64 ↑a') := hb (6, _) (List.mem_of_getElem? (i := 6) rfl)
            exact step_move (.tmp 6) rfl ⟨Below.refl _ _, d0⟩) ?_
          refine .cons (fun ρ w hρ hJ hb hd => by
            have d0 : ρ (.tmp 3) = (Value.slice (some { block := g, off := 0 }) L c) := hb (3, _) (List.mem_of_getElem? (i := 3) rfl)
            exact step_move (.tmp 3) rfl ⟨Below.refl _ _, d0⟩) ?_
          refine .cons (fun ρ w hρ hJ hb hd => by
            have d0 : ρ (.tmp 7) = (Value.int IntKind.i64 ↑i) := hb (7, _) (List.mem_of_getElem? (i := 7) rfl)
            exact step_move (.tmp 7) rfl ⟨Below.refl _ _, d0⟩) ?_
          refine .cons (fun ρ w hρ hJ hb hd => by
            have d0 : ρ (.tmp 60) = (Value.slice (some { block := g, off := 0 }) L c) := hd 0 _ rfl rfl
            have d1 : ρ (.tmp 61) = (Value.int IntKind.i64 ↑i) := hd 1 _ rfl rfl
            exact step_val (v := (.pointer (some ⟨g, i, none⟩))) (w' := w) (by simp [go_sem, execOp, d0, d1, hρ.const, i1, i2]) ⟨Below.refl _ _, rfl⟩) ?_
          refine .cons (fun ρ w hρ hJ hb hd => by
            have d0 : ρ (.tmp 62) = (.pointer (some ⟨g, i, none⟩)) := hd 0 _ rfl rfl
            have c1 := hcell w hJ
            exact step_val (v := (.string (a0.extract a' b))) (w' := w) (by simp [go_sem, execOp, d0, c1]) ⟨Below.refl _ _, rfl⟩) ?_
          refine .cons (fun ρ w hρ hJ hb hd => by
            have d0 : ρ (.tmp 63) = (.string (a0.extract a' b)) := hd 0 _ rfl rfl
            exact step_val (v := (.int .i64 ((b - a' : Nat) : Int))) (w' := w) (by simp [go_sem, execOp, d0, hsx]) ⟨Below.refl _ _, rfl⟩) ?_
          refine .cons (fun ρ w hρ hJ hb hd => by
            have d0 : ρ (.tmp 59) = (Value.int IntKind.i64 ↑a') := hd 0 _ rfl rfl
            have d1 : ρ (.tmp 64) = (.int .i64 ((b - a' : Nat) : Int)) := hd 1 _ rfl rfl
            refine step_val (v := (.int .i64 (b : Int))) (w' := w) ?_ ⟨Below.refl _ _, rfl⟩
            simp [go_sem, execOp, d0, d1, e9]
            exact wrap_small (by omega) (by omega)) ?_
          refine .cons (fun ρ w hρ hJ hb hd => by
            have d0 : ρ (.tmp 58) = (.int .i64 (b : Int)) := hd 0 _ rfl rfl
            have d1 : ρ (.tmp 65) = (.int .i64 (b : Int)) := hd 1 _ rfl rfl
            exact step_val (v := (.bool false)) (w' := w) (by simp [go_sem, execOp, d0, d1, hρ.const, i1, i2]) ⟨Below.refl _ _, rfl⟩) ?_
          refine .cons (fun ρ w hρ hJ hb hd => by
            have d0 : ρ (.tmp 55) = (.bool false) := hd 0 _ rfl rfl
            have d1 : ρ (.tmp 66) = (.bool false) := hd 1 _ rfl rfl
            exact step_val (v := (.bool false)) (w' := w) (by simp [go_sem, execOp, d0, d1, hρ.const, i1, i2]) ⟨Below.refl _ _, rfl⟩) ?_
          refine .cons (fun ρ w hρ hJ hb hd => by
            have d0 : ρ (.tmp 67) = (.bool false) := hd 0 _ rfl rfl
            exact step_move (.tmp 67) rfl ⟨Below.refl _ _, d0⟩) ?_
          refine .cons (fun ρ w hρ hJ hb hd => by
            have d0 : ρ (.tmp 0) = (Value.string a0) := hb (0, _) (List.mem_of_getElem? (i := 0) rfl)
            exact step_move (.tmp 0) rfl ⟨Below.refl _ _, d0⟩) ?_
          refine .cons (fun ρ w hρ hJ hb hd => by
            have d0 : ρ (.tmp 6) = (Value.int IntKind.i64 ↑a') := hb (6, _) (List.mem_of_getElem? (i := 6) rfl)
            exact step_move (.tmp 6) rfl ⟨Below.refl _ _, d0⟩) ?_
          refine .cons (fun ρ w hρ hJ hb hd => by
            have d0 : ρ (.tmp 3) = (Value.slice (some { block := g, off := 0 }) L c) := hb (3, _) (List.mem_of_getElem? (i := 3) rfl)
            exact step_move (.tmp 3) rfl ⟨Below.refl _ _, d0⟩) ?_
          refine .cons (fun ρ w hρ hJ hb hd => by
            have d0 : ρ (.tmp 7) = (Value.int IntKind.i64 ↑i) := hb (7, _) (List.mem_of_getElem? (i := 7) rfl)
            exact step_move (.tmp 7) rfl ⟨Below.refl _ _, d0⟩) ?_
          refine .cons (fun ρ w hρ hJ hb hd => by
            have d0 : ρ (.tmp 71) = (Value.slice (some { block := g, off := 0 }) L c) := hd 0 _ rfl rfl
            have d1 : ρ (.tmp 72) = (Value.int IntKind.i64 ↑i) := hd 1 _ rfl rfl
            exact step_val (v := (.pointer (some ⟨g, i, none⟩))) (w' := w) (by simp [go_sem, execOp, d0, d1, hρ.const, i1, i2]) ⟨Below.refl _ _, rfl⟩) ?_
          refine .cons (fun ρ w hρ hJ hb hd => by
            have d0 : ρ (.tmp 73) = (.pointer (some ⟨g, i, none⟩)) := hd 0 _ rfl rfl
            have c1 := hcell w hJ
            exact step_val (v := (.string (a0.extract a' b))) (w' := w) (by simp [go_sem, execOp, d0, c1]) ⟨Below.refl _ _, rfl⟩) ?_
          refine .cons (fun ρ w hρ hJ hb hd => by
            have d0 : ρ (.tmp 74) = (.string (a0.extract a' b)) := hd 0 _ rfl rfl
            exact step_val (v := (.int .i64 ((b - a' : Nat) : Int))) (w' := w) (by simp [go_sem, execOp, d0, hsx]) ⟨Below.refl _ _, rfl⟩) ?_
          refine .cons (fun ρ w hρ hJ hb hd => by
            have d0 : ρ (.tmp 70) = (Value.int IntKind.i64 ↑a') := hd 0 _ rfl rfl
            have d1 : ρ (.tmp 75) = (.int .i64 ((b - a' : Nat) : Int)) := hd 1 _ rfl rfl
            refine step_val (v := (.int .i64 (b : Int))) (w' := w) ?_ ⟨Below.refl _ _, rfl⟩
            simp [go_sem, execOp, d0, d1, e9]
            exact wrap_small (by omega) (by omega)) ?_
          refine .cons (fun ρ w hρ hJ hb hd => by
            have d0 : ρ (.tmp 69) = (Value.string a0) := hd 0 _ rfl rfl
            have d1 : ρ (.tmp 76) = (.int .i64 (b : Int)) := hd 1 _ rfl rfl
            refine step_func 25 _ _ #[.string a0, .int .i64 (b : Int)] hρ rfl (enters_of Try.func25 (by kernel_rfl) rfl) (by simp [d0, d1]) ?_
            refine (prev_in _ _ hs _).mono ?_
            rintro e w2 ⟨rfl, hB⟩
            exact ⟨_, rfl, hB, by rw [unhide N2]; rfl⟩) ?_
          refine .cons (fun ρ w hρ hJ hb hd => by
            have d0 : ρ (.tmp 6) = (Value.int IntKind.i64 ↑a') := hb (6, _) (List.mem_of_getElem? (i := 6) rfl)
            exact step_move (.tmp 6) rfl ⟨Below.refl _ _, d0⟩) ?_
          refine .cons (fun ρ w hρ hJ hb hd => by
            have d0 : ρ (.tmp 77) = (.int .i64 (a' : Int)) := hd 0 _ rfl rfl
            have d1 : ρ (.tmp 78) = (Value.int IntKind.i64 ↑a') := hd 1 _ rfl rfl
            exact step_val (v := (.bool false)) (w' := w) (by simp [go_sem, execOp, d0, d1, hρ.const, i1, i2]) ⟨Below.refl _ _, rfl⟩) ?_
          refine .cons (fun ρ w hρ hJ hb hd => by
            have d0 : ρ (.tmp 68) = (.bool false) := hd 0 _ rfl rfl
            have d1 : ρ (.tmp 79) = (.bool false) := hd 1 _ rfl rfl
            exact step_val (v := (.bool false)) (w' := w) (by simp [go_sem, execOp, d0, d1, hρ.const, i1, i2]) ⟨Below.refl _ _, rfl⟩) (.nil _)
        case fin =>
          intro ac W5 hsz2 hds hb hJ hv
          obtain rfl := frame_of ([(0, (Value.string a0)), (1, undef), (2, u2), (3, (Value.slice (some { block := g, off := 0 }) L c)), (4, (Value.bool true)), (5, (Value.string (a0.extract 0 b))), (6, (Value.int IntKind.i64 ↑a')), (7, (Value.int IntKind.i64 ↑i)), (8, u8), (9, (Value.string a0)), (10, (Value.int IntKind.i64 ↑a0.size)), (11, (Value.bool false)), (12, undef), (13, (Value.tuple #[Value.slice (some { block := g, off := 0 }) L c, Value.bool true])), (14, (Value.string a0)), (15, (Value.tuple #[Value.slice (some { block := g, off := 0 }) L c, Value.bool true])), (16, (Value.slice (some { block := g, off := 0 }) L c)), (17, (Value.bool true)), (18, (Value.bool true)), (19, (Value.bool false)), (20, (Value.bool false)), (21, (Value.string a0)), (22, (Value.int IntKind.i64 ↑L)), (23, (Value.slice (some { block := g, off := 0 }) L c)), (24, (Value.int IntKind.i64 ↑L)), (25, (Value.bool false)), (26, (Value.bool false)), (27, (Value.bool false)), (28, (Value.string a0)), (29, (Value.bool true)), (30, (Value.bool false)), (31, (Value.bool false)), (32, (Value.bool false)), (33, (Value.string a0)), (34, (Value.string a0)), (35, (Value.int IntKind.i64 ↑a0.size)), (36, (Value.bool true)), (37, (Value.bool false)), (38, (Value.bool false)), (39, (Value.int IntKind.i64 ↑i)), (40, (Value.slice (some { block := g, off := 0 }) L c)), (41, (Value.int IntKind.i64 ↑L)), (42, (Value.bool true)), (43, u43), (44, u44), (45, (Value.string (a0.extract 0 a'))), (46, (Value.slice (some { block := g, off := 0 }) L c)), (47, (Value.int IntKind.i64 ↑i)), (48, (Value.pointer (some { block := g, off := i }))), (49, (Value.string (a0.extract a' b))), (50, (Value.string (a0.extract 0 b))), (81, u81), (82, u82), (83, u83), (84, u84), (85, u85), (86, u86), (87, u87), (88, u88), (89, u89), (90, u90), (91, u91), (92, u92), (93, u93), (94, u94), (95, u95), (96, u96), (97, u97), (98, u98), (99, u99), (100, u100), (101, u101), (102, u102), (103, u103), (104, u104), (105, u105), (106, u106), (107, u107), (108, u108), (109, u109), (110, u110), (111, u111), (112, u112), (113, u113), (114, u114), (115, u115), (116, u116), (117, u117), (118, u118), (119, u119), (120, u120), (121, u121), (122, u122), (123, u123), (124, u124), (125, u125), (126, u126), (127, u127), (128, u128), (129, u129), (130, undef), (131, undef), (132, undef), (133, undef), (134, undef), (135, undef), (136, undef), (137, undef), (138, undef), (139, undef), (140, undef), (141, undef), (142, undef), (143, undef), (144, undef), (145, undef), (146, undef), (147, undef), (148, undef), (149, undef)] ++ [(51, (Value.string a0)), (52, (Value.int IntKind.i64 ↑a')), (53, (.bool true)), (54, (.bool false)), (55, (.bool false)), (56, (Value.string a0)), (57, (Value.int IntKind.i64 ↑a')), (58, (.int .i64 (b : Int))), (59, (Value.int IntKind.i64 ↑a')), (60, (Value.slice (some { block := g, off := 0 }) L c)), (61, (Value.int IntKind.i64 ↑i)), (62, (.pointer (some ⟨g, i, none⟩))), (63, (.string (a0.extract a' b))), (64, (.int .i64 ((b - a' : Nat) : Int))), (65, (.int .i64 (b : Int))), (66, (.bool false)), (67, (.bool false)), (68, (.bool false)), (69, (Value.string a0)), (70, (Value.int IntKind.i64 ↑a')), (71, (Value.slice (some { block := g, off := 0 }) L c)), (72, (Value.int IntKind.i64 ↑i)), (73, (.pointer (some ⟨g, i, none⟩))), (74, (.string (a0.extract a' b))), (75, (.int .i64 ((b - a' : Nat) : Int))), (76, (.int .i64 (b : Int))), (77, (.int .i64 (a' : Int))), (78, (Value.int IntKind.i64 ↑a')), (79, (.bool false)), (80, (.bool false))]) [(Value.string a0), undef, u2, (Value.slice (some { block := g, off := 0 }) L c), (Value.bool true), (Value.string (a0.extract 0 b)), (Value.int IntKind.i64 ↑a'), (Value.int IntKind.i64 ↑i), u8, (Value.string a0), (Value.int IntKind.i64 ↑a0.size), (Value.bool false), undef, (Value.tuple #[Value.slice (some { block := g, off := 0 }) L c, Value.bool true]), (Value.string a0), (Value.tuple #[Value.slice (some { block := g, off := 0 }) L c, Value.bool true]), (Value.slice (some { block := g, off := 0 }) L c), (Value.bool true), (Value.bool true), (Value.bool false), (Value.bool false), (Value.string a0), (Value.int IntKind.i64 ↑L), (Value.slice (some { block := g, off := 0 }) L c), (Value.int IntKind.i64 ↑L), (Value.bool false), (Value.bool false), (Value.bool false), (Value.string a0), (Value.bool true), (Value.bool false), (Value.bool false), (Value.bool false), (Value.string a0), (Value.string a0), (Value.int IntKind.i64 ↑a0.size), (Value.bool true), (Value.bool false), (Value.bool false), (Value.int IntKind.i64 ↑i), (Value.slice (some { block := g, off := 0 }) L c), (Value.int IntKind.i64 ↑L), (Value.bool true), u43, u44, (Value.string (a0.extract 0 a')), (Value.slice (some { block := g, off := 0 }) L c), (Value.int IntKind.i64 ↑i), (Value.pointer (some { block := g, off := i })), (Value.string (a0.extract a' b)), (Value.string (a0.extract 0 b)), (Value.string a0), (Value.int IntKind.i64 ↑a'), (.bool true), (.bool false), (.bool false), (Value.string a0), (Value.int IntKind.i64 ↑a'), (.int .i64 (b : Int)), (Value.int IntKind.i64 ↑a'), (Value.slice (some { block := g, off := 0 }) L c), (Value.int IntKind.i64 ↑i), (.pointer (some ⟨g, i, none⟩)), (.string (a0.extract a' b)), (.int .i64 ((b - a' : Nat) : Int)), (.int .i64 (b : Int)), (.bool false), (.bool false), (.bool false), (Value.string a0), (Value.int IntKind.i64 ↑a'), (Value.slice (some { block := g, off := 0 }) L c), (Value.int IntKind.i64 ↑i), (.pointer (some ⟨g, i, none⟩)), (.string (a0.extract a' b)), (.int .i64 ((b - a' : Nat) : Int)), (.int .i64 (b : Int)), (.int .i64 (a' : Int)), (Value.int IntKind.i64 ↑a'), (.bool false), (.bool false), u81, u82, u83, u84, u85, u86, u87, u88, u89, u90, u91, u92, u93, u94, u95, u96, u97, u98, u99, u100, u101, u102, u103, u104, u105, u106, u107, u108, u109, u110, u111, u112, u113, u114, u115, u116, u117, u118, u119, u120, u121, u122, u123, u124, u125, u126, u127, u128, u129, undef, undef, undef, undef, undef, undef, undef, undef, undef, undef, undef, undef, undef, undef, undef, undef, undef, undef, undef, undef] hsz2 hds (fun p hp => by
            rcases List.mem_append.1 hp with h | h
            · exact hb p h
            · simp only [List.mem_cons, List.not_mem_nil, or_false] at h
              rcases h with rfl | rfl | rfl | rfl | rfl | rfl | rfl | rfl | rfl | rfl | rfl | rfl | rfl | rfl | rfl | rfl | rfl | rfl | rfl | rfl | rfl | rfl | rfl | rfl | rfl | rfl | rfl | rfl | rfl | rfl
              · exact hv 0 (by decide)
              · exact hv 1 (by decide)
              · exact hv 2 (by decide)
              · exact hv 3 (by decide)
              · exact hv 4 (by decide)
              · exact hv 5 (by decide)
              · exact hv 6 (by decide)
              · exact hv 7 (by decide)
              · exact hv 8 (by decide)
              · exact hv 9 (by decide)
              · exact hv 10 (by decide)
              · exact hv 11 (by decide)
              · exact hv 12 (by decide)
              · exact hv 13 (by decide)
              · exact hv 14 (by decide)
              · exact hv 15 (by decide)
              · exact hv 16 (by decide)
              · exact hv 17 (by decide)
              · exact hv 18 (by decide)
              · exact hv 19 (by decide)
              · exact hv 20 (by decide)
              · exact hv 21 (by decide)
              · exact hv 22 (by decide)
              · exact hv 23 (by decide)
              · exact hv 24 (by decide)
              · exact hv 25 (by decide)
              · exact hv 26 (by decide)
              · exact hv 27 (by decide)
              · exact hv 28 (by decide)
              · exact hv 29 (by decide)) rfl
          clear hb hv hds hsz2
          have hB5 := hBr.trans (hJ.mono hszr)
          have hcell5 : ∀ w', Below W5.heap.size W5 w' → w'.cell? ⟨g, i, none⟩ = some (.string (a0.extract a' b)) := fun w' hb => hcell w' (hJ.trans (hb.mono hJ.size))
          have hs5 := hB5.size
          clear hcell hBr hszr hJ c1 N0 N1 N2
          go_wp2
          go_loopw [8] (fun kv wr => ∃ k : Nat, 1 ≤ k ∧ k ≤ b - a' ∧ kv = .int .i64 k ∧ Below W5.heap.size W5 wr) (fun kv _ => (b - a') - (RowKit.intOf kv).toNat)
          case atStart => exact ⟨1, by omega, by omega, rfl, Below.refl _ _⟩
          case round =>
            obtain ⟨k, hk1, hk2, rfl, hBk⟩ := hrel
            have hszk := hBk.size
            have c1 := hcell5 wr hBk
            have fin1 : True := trivial
            by_cases hkb : k < b - a'
            · have j1 : (k : Int) < ((b - a' : Nat) : Int) := by omega
              by_cases hk40 : k < 40
              · have j2 : (k : Int) < 40 := by omega
                obtain ⟨M0, M1, M2⟩ := unhide N3 k (by omega) (by omega)
                have m0 := hide M0
                have m1 := hide M1
                have m2 := hide M2
                clear M0 M1 M2
                have hcellk : ∀ w', Below wr.heap.size wr w' → w'.cell? ⟨g, i, none⟩ = some (.string (a0.extract a' b)) := fun w' hb => hcell5 w' (hBk.trans (hb.mono hszk))
                go_wp2
                refine wp_region_any (by kernel_rfl) ?_
                change wpAny _ _ _ _ _ _ _ (World.drew _)
                refine region_invB 150 (fun j => 94 + j) [(0, (Value.string a0)), (1, undef), (2, u2), (3, (Value.slice (some { block := g, off := 0 }) L c)), (4, (Value.bool true)), (5, (Value.string (a0.extract 0 b))), (6, (Value.int IntKind.i64 ↑a')), (7, (Value.int IntKind.i64 ↑i)), (8, (Value.int IntKind.i64 ↑k)), (9, (Value.string a0)), (10, (Value.int IntKind.i64 ↑a0.size)), (11, (Value.bool false)), (12, undef), (13, (Value.tuple #[Value.slice (some { block := g, off := 0 }) L c, Value.bool true])), (14, (Value.string a0)), (15, (Value.tuple #[Value.slice (some { block := g, off := 0 }) L c, Value.bool true])), (16, (Value.slice (some { block := g, off := 0 }) L c)), (17, (Value.bool true)), (18, (Value.bool true)), (19, (Value.bool false)), (20, (Value.bool false)), (21, (Value.string a0)), (22, (Value.int IntKind.i64 ↑L)), (23, (Value.slice (some { block := g, off := 0 }) L c)), (24, (Value.int IntKind.i64 ↑L)), (25, (Value.bool false)), (26, (Value.bool false)), (27, (Value.bool false)), (28, (Value.string a0)), (29, (Value.bool true)), (30, (Value.bool false)), (31, (Value.bool false)), (32, (Value.bool false)), (33, (Value.string a0)), (34, (Value.string a0)), (35, (Value.int IntKind.i64 ↑a0.size)), (36, (Value.bool true)), (37, (Value.bool false)), (38, (Value.bool false)), (39, (Value.int IntKind.i64 ↑i)), (40, (Value.slice (some { block := g, off := 0 }) L c)), (41, (Value.int IntKind.i64 ↑L)), (42, (Value.bool true)), (43, u43), (44, u44), (45, (Value.string (a0.extract 0 a'))), (46, (Value.slice (some { block := g, off := 0 }) L c)), (47, (Value.int IntKind.i64 ↑i)), (48, (Value.pointer (some { block := g, off := i }))), (49, (Value.string (a0.extract a' b))), (50, (Value.string (a0.extract 0 b))), (51, (Value.string a0)), (52, (Value.int IntKind.i64 ↑a')), (53, (Value.bool true)), (54, (Value.bool false)), (55, (Value.bool false)), (56, (Value.string a0)), (57, (Value.int IntKind.i64 ↑a')), (58, (Value.int IntKind.i64 ↑b)), (59, (Value.int IntKind.i64 ↑a')), (60, (Value.slice (some { block := g, off := 0 }) L c)), (61, (Value.int IntKind.i64 ↑i)), (62, (Value.pointer (some { block := g, off := i }))), (63, (Value.string (a0.extract a' b))), (64, (Value.int IntKind.i64 ↑(b - a'))), (65, (Value.int IntKind.i64 ↑b)), (66, (Value.bool false)), (67, (Value.bool false)), (68, (Value.bool false)), (69, (Value.string a0)), (70, (Value.int IntKind.i64 ↑a')), (71, (Value.slice (some { block := g, off := 0 }) L c)), (72, (Value.int IntKind.i64 ↑i)), (73, (Value.pointer (some { block := g, off := i }))), (74, (Value.string (a0.extract a' b))), (75, (Value.int IntKind.i64 ↑(b - a'))), (76, (Value.int IntKind.i64 ↑b)), (77, (Value.int IntKind.i64 ↑a')), (78, (Value.int IntKind.i64 ↑a')), (79, (Value.bool false)), (80, (Value.bool false)), (81, (Value.int IntKind.i64 ↑k)), (82, (Value.slice (some { block := g, off := 0 }) L c)), (83, (Value.int IntKind.i64 ↑i)), (84, (Value.pointer (some { block := g, off := i }))), (85, (Value.string (a0.extract a' b))), (86, (Value.int IntKind.i64 ↑(b - a'))), (87, (Value.bool true)), (88, (Value.bool true)), (89, (Value.int IntKind.i64 ↑k)), (90, (Value.bool true)), (91, (Value.bool true)), (92, u92), (93, u93), (123, u123), (124, u124), (125, u125), (126, u126), (127, u127), (128, u128), (129, u129), (130, undef), (131, undef), (132, undef), (133, undef), (134, undef), (135, undef), (136, undef), (137, undef), (138, undef), (139, undef), (140, undef), (141, undef), (142, undef), (143, undef), (144, undef), (145, undef), (146, undef), (147, undef), (148, undef), (149, undef)] (fun W' => Below wr.heap.size wr W') (valsOf [isV ((Value.string a0)), isV ((Value.int IntKind.i64 ↑a')), isV ((Value.int IntKind.i64 ↑k)), isV ((.int .i64 ((a' : Int) + (k : Int)))), isV ((.bool false)), isV ((.bool false)), isV ((Value.string a0)), isV ((Value.int IntKind.i64 ↑a')), isV ((Value.int IntKind.i64 ↑k)), isV ((.int .i64 ((a' : Int) + (k : Int)))), isV ((.int .i64 (a' : Int))), isV ((Value.int IntKind.i64 ↑a')), isV ((.bool false)), isV ((.bool false)), isV ((.bool false)), isV ((Value.string a0)), isV ((Value.int IntKind.i64 ↑a')), isV ((Value.int IntKind.i64 ↑k)), isV ((.int .i64 ((a' : Int) + (k : Int)))), isV ((.int .i64 (b : Int))), isV ((Value.int IntKind.i64 ↑a')), isV ((Value.slice (some { block := g, off := 0 }) L c)), isV ((Value.int IntKind.i64 ↑i)), isV ((.pointer (some ⟨g, i, none⟩))), isV ((.string (a0.extract a' b))), isV ((.int .i64 ((b - a' : Nat) : Int))), isV ((.int .i64 (b : Int))), isV ((.bool false)), isV ((.bool false))]) (fun w w' => Below w.heap.size w w') ?fit2 (fun w1 w2 h hG => h.trans (hG.mono h.size)) (valsOf_stable ?stable2) [(5, false), (14, false)] ?gs2 ?gv2 ?steps2 ?fin2 _ _ ?sz2 rfl ?base2 ((Below.refl _ _).drew)
                case fit2 => kernel_rfl
                case sz2 => rfl
                case gs2 => kernel_rfl
                case gv2 => intro p hp w v hv; simp only [List.mem_cons, List.not_mem_nil, or_false] at hp; rcases hp with rfl | rfl <;> exact hv
                case base2 => intro p hp; repeat (first | (rcases List.mem_cons.1 hp with rfl | hp; · rfl) | cases hp)
                case stable2 => exact Stables.all (by repeat (first | exact .nil | refine .same ?_))
                case steps2 =>
                  refine .cons (fun ρ w hρ hJ hb hd => by
                    have d0 : ρ (.tmp 0) = (Value.string a0) := hb (0, _) (List.mem_of_getElem? (i := 0) rfl)
                    exact step_move (.tmp 0) rfl ⟨Below.refl _ _, d0⟩) ?_
                  refine .cons (fun ρ w hρ hJ hb hd => by
                    have d0 : ρ (.tmp 6) = (Value.int IntKind.i64 ↑a') := hb (6, _) (List.mem_of_getElem? (i := 6) rfl)
                    exact step_move (.tmp 6) rfl ⟨Below.refl _ _, d0⟩) ?_
                  refine .cons (fun ρ w hρ hJ hb hd => by
                    have d0 : ρ (.tmp 8) = (Value.int IntKind.i64 ↑k) := hb (8, _) (List.mem_of_getElem? (i := 8) rfl)
                    exact step_move (.tmp 8) rfl ⟨Below.refl _ _, d0⟩) ?_
                  refine .cons (fun ρ w hρ hJ hb hd => by
                    have d0 : ρ (.tmp 95) = (Value.int IntKind.i64 ↑a') := hd 0 _ rfl rfl
                    have d1 : ρ (.tmp 96) = (Value.int IntKind.i64 ↑k) := hd 1 _ rfl rfl
                    refine step_val (v := (.int .i64 ((a' : Int) + (k : Int)))) (w' := w) ?_ ⟨Below.refl _ _, rfl⟩
                    simp [go_sem, execOp, d0, d1]
                    exact wrap_small (by omega) (by omega)) ?_
                  refine .cons (fun ρ w hρ hJ hb hd => by
                    have d0 : ρ (.tmp 94) = (Value.string a0) := hd 0 _ rfl rfl
                    have d1 : ρ (.tmp 97) = (.int .i64 ((a' : Int) + (k : Int))) := hd 1 _ rfl rfl
                    refine step_func 14 _ _ #[.string a0, .int .i64 ((a' : Int) + (k : Int))] hρ rfl (enters_of Try.func14 (by kernel_rfl) rfl) (by simp [d0, d1]) ?_
                    refine (break_in _ _ hs _).mono ?_
                    rintro e w2 ⟨rfl, hB⟩
                    exact ⟨_, rfl, hB, by rw [unhide m0]; rfl⟩) ?_
                  refine .cons (fun ρ w hρ hJ hb hd => by
                    have d0 : ρ (.tmp 98) = (.bool false) := hd 0 _ rfl rfl
                    exact step_move (.tmp 98) rfl ⟨Below.refl _ _, d0⟩) ?_
                  refine .cons (fun ρ w hρ hJ hb hd => by
                    have d0 : ρ (.tmp 0) = (Value.string a0) := hb (0, _) (List.mem_of_getElem? (i := 0) rfl)
                    exact step_move (.tmp 0) rfl ⟨Below.refl _ _, d0⟩) ?_
                  refine .cons (fun ρ w hρ hJ hb hd => by
                    have d0 : ρ (.tmp 6) = (Value.int IntKind.i64 ↑a') := hb (6, _) (List.mem_of_getElem? (i := 6) rfl)
                    exact step_move (.tmp 6) rfl ⟨Below.refl _ _, d0⟩) ?_
                  refine .cons (fun ρ w hρ hJ hb hd => by
                    have d0 : ρ (.tmp 8) = (Value.int IntKind.i64 ↑k) := hb (8, _) (List.mem_of_getElem? (i := 8) rfl)
                    exact step_move (.tmp 8) rfl ⟨Below.refl _ _, d0⟩) ?_
                  refine .cons (fun ρ w hρ hJ hb hd => by
                    have d0 : ρ (.tmp 101) = (Value.int IntKind.i64 ↑a') := hd 0 _ rfl rfl
                    have d1 : ρ (.tmp 102) = (Value.int IntKind.i64 ↑k) := hd 1 _ rfl rfl
                    refine step_val (v := (.int .i64 ((a' : Int) + (k : Int)))) (w' := w) ?_ ⟨Below.refl _ _, rfl⟩
                    simp [go_sem, execOp, d0, d1]
                    exact wrap_small (by omega) (by omega)) ?_
                  refine .cons (fun ρ w hρ hJ hb hd => by
                    have d0 : ρ (.tmp 100) = (Value.string a0) := hd 0 _ rfl rfl
                    have d1 : ρ (.tmp 103) = (.int .i64 ((a' : Int) + (k : Int))) := hd 1 _ rfl rfl
                    refine step_func 25 _ _ #[.string a0, .int .i64 ((a' : Int) + (k : Int))] hρ rfl (enters_of Try.func25 (by kernel_rfl) rfl) (by simp [d0, d1]) ?_
                    refine (prev_in _ _ hs _).mono ?_
                    rintro e w2 ⟨rfl, hB⟩
                    exact ⟨_, rfl, hB, by rw [unhide m1]; rfl⟩) ?_
                  refine .cons (fun ρ w hρ hJ hb hd => by
                    have d0 : ρ (.tmp 6) = (Value.int IntKind.i64 ↑a') := hb (6, _) (List.mem_of_getElem? (i := 6) rfl)
                    exact step_move (.tmp 6) rfl ⟨Below.refl _ _, d0⟩) ?_
                  refine .cons (fun ρ w hρ hJ hb hd => by
                    have d0 : ρ (.tmp 104) = (.int .i64 (a' : Int)) := hd 0 _ rfl rfl
                    have d1 : ρ (.tmp 105) = (Value.int IntKind.i64 ↑a') := hd 1 _ rfl rfl
                    exact step_val (v := (.bool false)) (w' := w) (by simp [go_sem, execOp, d0, d1, hρ.const, i1, i2]) ⟨Below.refl _ _, rfl⟩) ?_
                  refine .cons (fun ρ w hρ hJ hb hd => by
                    have d0 : ρ (.tmp 99) = (.bool false) := hd 0 _ rfl rfl
                    have d1 : ρ (.tmp 106) = (.bool false) := hd 1 _ rfl rfl
                    exact step_val (v := (.bool false)) (w' := w) (by simp [go_sem, execOp, d0, d1, hρ.const, i1, i2]) ⟨Below.refl _ _, rfl⟩) ?_
                  refine .cons (fun ρ w hρ hJ hb hd => by
                    have d0 : ρ (.tmp 107) = (.bool false) := hd 0 _ rfl rfl
                    exact step_move (.tmp 107) rfl ⟨Below.refl _ _, d0⟩) ?_
                  refine .cons (fun ρ w hρ hJ hb hd => by
                    have d0 : ρ (.tmp 0) = (Value.string a0) := hb (0, _) (List.mem_of_getElem? (i := 0) rfl)
                    exact step_move (.tmp 0) rfl ⟨Below.refl _ _, d0⟩) ?_
                  refine .cons (fun ρ w hρ hJ hb hd => by
                    have d0 : ρ (.tmp 6) = (Value.int IntKind.i64 ↑a') := hb (6, _) (List.mem_of_getElem? (i := 6) rfl)
                    exact step_move (.tmp 6) rfl ⟨Below.refl _ _, d0⟩) ?_
                  refine .cons (fun ρ w hρ hJ hb hd => by
                    have d0 : ρ (.tmp 8) = (Value.int IntKind.i64 ↑k) := hb (8, _) (List.mem_of_getElem? (i := 8) rfl)
                    exact step_move (.tmp 8) rfl ⟨Below.refl _ _, d0⟩) ?_
                  refine .cons (fun ρ w hρ hJ hb hd => by
                    have d0 : ρ (.tmp 110) = (Value.int IntKind.i64 ↑a') := hd 0 _ rfl rfl
                    have d1 : ρ (.tmp 111) = (Value.int IntKind.i64 ↑k) := hd 1 _ rfl rfl
                    refine step_val (v := (.int .i64 ((a' : Int) + (k : Int)))) (w' := w) ?_ ⟨Below.refl _ _, rfl⟩
                    simp [go_sem, execOp, d0, d1]
                    exact wrap_small (by omega) (by omega)) ?_
                  refine .cons (fun ρ w hρ hJ hb hd => by
                    have d0 : ρ (.tmp 109) = (Value.string a0) := hd 0 _ rfl rfl
                    have d1 : ρ (.tmp 112) = (.int .i64 ((a' : Int) + (k : Int))) := hd 1 _ rfl rfl
                    refine step_func 23 _ _ #[.string a0, .int .i64 ((a' : Int) + (k : Int))] hρ rfl (enters_of Try.func23 (by kernel_rfl) rfl) (by simp [d0, d1]) ?_
                    refine (next_in _ _ hs (by omega) _).mono ?_
                    rintro e w2 ⟨rfl, hB⟩
                    exact ⟨_, rfl, hB, by rw [unhide m2]; rfl⟩) ?_
                  refine .cons (fun ρ w hρ hJ hb hd => by
                    have d0 : ρ (.tmp 6) = (Value.int IntKind.i64 ↑a') := hb (6, _) (List.mem_of_getElem? (i := 6) rfl)
                    exact step_move (.tmp 6) rfl ⟨Below.refl _ _, d0⟩) ?_
                  refine .cons (fun ρ w hρ hJ hb hd => by
                    have d0 : ρ (.tmp 3) = (Value.slice (some { block := g, off := 0 }) L c) := hb (3, _) (List.mem_of_getElem? (i := 3) rfl)
                    exact step_move (.tmp 3) rfl ⟨Below.refl _ _, d0⟩) ?_
                  refine .cons (fun ρ w hρ hJ hb hd => by
                    have d0 : ρ (.tmp 7) = (Value.int IntKind.i64 ↑i) := hb (7, _) (List.mem_of_getElem? (i := 7) rfl)
                    exact step_move (.tmp 7) rfl ⟨Below.refl _ _, d0⟩) ?_
                  refine .cons (fun ρ w hρ hJ hb hd => by
                    have d0 : ρ (.tmp 115) = (Value.slice (some { block := g, off := 0 }) L c) := hd 0 _ rfl rfl
                    have d1 : ρ (.tmp 116) = (Value.int IntKind.i64 ↑i) := hd 1 _ rfl rfl
                    exact step_val (v := (.pointer (some ⟨g, i, none⟩))) (w' := w) (by simp [go_sem, execOp, d0, d1, hρ.const, i1, i2]) ⟨Below.refl _ _, rfl⟩) ?_
                  refine .cons (fun ρ w hρ hJ hb hd => by
                    have d0 : ρ (.tmp 117) = (.pointer (some ⟨g, i, none⟩)) := hd 0 _ rfl rfl
                    have c1 := hcellk w hJ
                    exact step_val (v := (.string (a0.extract a' b))) (w' := w) (by simp [go_sem, execOp, d0, c1]) ⟨Below.refl _ _, rfl⟩) ?_
                  refine .cons (fun ρ w hρ hJ hb hd => by
                    have d0 : ρ (.tmp 118) = (.string (a0.extract a' b)) := hd 0 _ rfl rfl
                    exact step_val (v := (.int .i64 ((b - a' : Nat) : Int))) (w' := w) (by simp [go_sem, execOp, d0, hsx]) ⟨Below.refl _ _, rfl⟩) ?_
                  refine .cons (fun ρ w hρ hJ hb hd => by
                    have d0 : ρ (.tmp 114) = (Value.int IntKind.i64 ↑a') := hd 0 _ rfl rfl
                    have d1 : ρ (.tmp 119) = (.int .i64 ((b - a' : Nat) : Int)) := hd 1 _ rfl rfl
                    refine step_val (v := (.int .i64 (b : Int))) (w' := w) ?_ ⟨Below.refl _ _, rfl⟩
                    simp [go_sem, execOp, d0, d1, e9]
                    exact wrap_small (by omega) (by omega)) ?_
                  refine .cons (fun ρ w hρ hJ hb hd => by
                    have d0 : ρ (.tmp 113) = (.int .i64 (b : Int)) := hd 0 _ rfl rfl
                    have d1 : ρ (.tmp 120) = (.int .i64 (b : Int)) := hd 1 _ rfl rfl
                    exact step_val (v := (.bool false)) (w' := w) (by simp [go_sem, execOp, d0, d1, hρ.const, i1, i2]) ⟨Below.refl _ _, rfl⟩) ?_
                  refine .cons (fun ρ w hρ hJ hb hd => by
                    have d0 : ρ (.tmp 108) = (.bool false) := hd 0 _ rfl rfl
                    have d1 : ρ (.tmp 121) = (.bool false) := hd 1 _ rfl rfl
                    exact step_val (v := (.bool false)) (w' := w) (by simp [go_sem, execOp, d0, d1, hρ.const, i1, i2]) ⟨Below.refl _ _, rfl⟩) (.nil _)
                case fin2 =>
                  intro ac W7 hsz2 hds hb hJ hv
                  obtain rfl := frame_of ([(0, (Value.string a0)), (1, undef), (2, u2), (3, (Value.slice (some { block := g, off := 0 }) L c)), (4, (Value.bool true)), (5, (Value.string (a0.extract 0 b))), (6, (Value.int IntKind.i64 ↑a')), (7, (Value.int IntKind.i64 ↑i)), (8, (Value.int IntKind.i64 ↑k)), (9, (Value.string a0)), (10, (Value.int IntKind.i64 ↑a0.size)), (11, (Value.bool false)), (12, undef), (13, (Value.tuple #[Value.slice (some { block := g, off := 0 }) L c, Value.bool true])), (14, (Value.string a0)), (15, (Value.tuple #[Value.slice (some { block := g, off := 0 }) L c, Value.bool true])), (16, (Value.slice (some { block := g, off := 0 }) L c)), (17, (Value.bool true)), (18, (Value.bool true)), (19, (Value.bool false)), (20, (Value.bool false)), (21, (Value.string a0)), (22, (Value.int IntKind.i64 ↑L)), (23, (Value.slice (some { block := g, off := 0 }) L c)), (24, (Value.int IntKind.i64 ↑L)), (25, (Value.bool false)), (26, (Value.bool false)), (27, (Value.bool false)), (28, (Value.string a0)), (29, (Value.bool true)), (30, (Value.bool false)), (31, (Value.bool false)), (32, (Value.bool false)), (33, (Value.string a0)), (34, (Value.string a0)), (35, (Value.int IntKind.i64 ↑a0.size)), (36, (Value.bool true)), (37, (Value.bool false)), (38, (Value.bool false)), (39, (Value.int IntKind.i64 ↑i)), (40, (Value.slice (some { block := g, off := 0 }) L c)), (41, (Value.int IntKind.i64 ↑L)), (42, (Value.bool true)), (43, u43), (44, u44), (45, (Value.string (a0.extract 0 a'))), (46, (Value.slice (some { block := g, off := 0 }) L c)), (47, (Value.int IntKind.i64 ↑i)), (48, (Value.pointer (some { block := g, off := i }))), (49, (Value.string (a0.extract a' b))), (50, (Value.string (a0.extract 0 b))), (51, (Value.string a0)), (52, (Value.int IntKind.i64 ↑a')), (53, (Value.bool true)), (54, (Value.bool false)), (55, (Value.bool false)), (56, (Value.string a0)), (57, (Value.int IntKind.i64 ↑a')), (58, (Value.int IntKind.i64 ↑b)), (59, (Value.int IntKind.i64 ↑a')), (60, (Value.slice (some { block := g, off := 0 }) L c)), (61, (Value.int IntKind.i64 ↑i)), (62, (Value.pointer (some { block := g, off := i }))), (63, (Value.string (a0.extract a' b))), (64, (Value.int IntKind.i64 ↑(b - a'))), (65, (Value.int IntKind.i64 ↑b)), (66, (Value.bool false)), (67, (Value.bool false)), (68, (Value.bool false)), (69, (Value.string a0)), (70, (Value.int IntKind.i64 ↑a')), (71, (Value.slice (some { block := g, off := 0 }) L c)), (72, (Value.int IntKind.i64 ↑i)), (73, (Value.pointer (some { block := g, off := i }))), (74, (Value.string (a0.extract a' b))), (75, (Value.int IntKind.i64 ↑(b - a'))), (76, (Value.int IntKind.i64 ↑b)), (77, (Value.int IntKind.i64 ↑a')), (78, (Value.int IntKind.i64 ↑a')), (79, (Value.bool false)), (80, (Value.bool false)), (81, (Value.int IntKind.i64 ↑k)), (82, (Value.slice (some { block := g, off := 0 }) L c)), (83, (Value.int IntKind.i64 ↑i)), (84, (Value.pointer (some { block := g, off := i }))), (85, (Value.string (a0.extract a' b))), (86, (Value.int IntKind.i64 ↑(b - a'))), (87, (Value.bool true)), (88, (Value.bool true)), (89, (Value.int IntKind.i64 ↑k)), (90, (Value.bool true)), (91, (Value.bool true)), (92, u92), (93, u93), (123, u123), (124, u124), (125, u125), (126, u126), (127, u127), (128, u128), (129, u129), (130, undef), (131, undef), (132, undef), (133, undef), (134, undef), (135, undef), (136, undef), (137, undef), (138, undef), (139, undef), (140, undef), (141, undef), (142, undef), (143, undef), (144, undef), (145, undef), (146, undef), (147, undef), (148, undef), (149, undef)] ++ [(94, (Value.string a0)), (95, (Value.int IntKind.i64 ↑a')), (96, (Value.int IntKind.i64 ↑k)), (97, (.int .i64 ((a' : Int) + (k : Int)))), (98, (.bool false)), (99, (.bool false)), (100, (Value.string a0)), (101, (Value.int IntKind.i64 ↑a')), (102, (Value.int IntKind.i64 ↑k)), (103, (.int .i64 ((a' : Int) + (k : Int)))), (104, (.int .i64 (a' : Int))), (105, (Value.int IntKind.i64 ↑a')), (106, (.bool false)), (107, (.bool false)), (108, (.bool false)), (109, (Value.string a0)), (110, (Value.int IntKind.i64 ↑a')), (111, (Value.int IntKind.i64 ↑k)), (112, (.int .i64 ((a' : Int) + (k : Int)))), (113, (.int .i64 (b : Int))), (114, (Value.int IntKind.i64 ↑a')), (115, (Value.slice (some { block := g, off := 0 }) L c)), (116, (Value.int IntKind.i64 ↑i)), (117, (.pointer (some ⟨g, i, none⟩))), (118, (.string (a0.extract a' b))), (119, (.int .i64 ((b - a' : Nat) : Int))), (120, (.int .i64 (b : Int))), (121, (.bool false)), (122, (.bool false))]) [(Value.string a0), undef, u2, (Value.slice (some { block := g, off := 0 }) L c), (Value.bool true), (Value.string (a0.extract 0 b)), (Value.int IntKind.i64 ↑a'), (Value.int IntKind.i64 ↑i), (Value.int IntKind.i64 ↑k), (Value.string a0), (Value.int IntKind.i64 ↑a0.size), (Value.bool false), undef, (Value.tuple #[Value.slice (some { block := g, off := 0 }) L c, Value.bool true]), (Value.string a0), (Value.tuple #[Value.slice (some { block := g, off := 0 }) L c, Value.bool true]), (Value.slice (some { block := g, off := 0 }) L c), (Value.bool true), (Value.bool true), (Value.bool false), (Value.bool false), (Value.string a0), (Value.int IntKind.i64 ↑L), (Value.slice (some { block := g, off := 0 }) L c), (Value.int IntKind.i64 ↑L), (Value.bool false), (Value.bool false), (Value.bool false), (Value.string a0), (Value.bool true), (Value.bool false), (Value.bool false), (Value.bool false), (Value.string a0), (Value.string a0), (Value.int IntKind.i64 ↑a0.size), (Value.bool true), (Value.bool false), (Value.bool false), (Value.int IntKind.i64 ↑i), (Value.slice (some { block := g, off := 0 }) L c), (Value.int IntKind.i64 ↑L), (Value.bool true), u43, u44, (Value.string (a0.extract 0 a')), (Value.slice (some { block := g, off := 0 }) L c), (Value.int IntKind.i64 ↑i), (Value.pointer (some { block := g, off := i })), (Value.string (a0.extract a' b)), (Value.string (a0.extract 0 b)), (Value.string a0), (Value.int IntKind.i64 ↑a'), (Value.bool true), (Value.bool false), (Value.bool false), (Value.string a0), (Value.int IntKind.i64 ↑a'), (Value.int IntKind.i64 ↑b), (Value.int IntKind.i64 ↑a'), (Value.slice (some { block := g, off := 0 }) L c), (Value.int IntKind.i64 ↑i), (Value.pointer (some { block := g, off := i })), (Value.string (a0.extract a' b)), (Value.int IntKind.i64 ↑(b - a')), (Value.int IntKind.i64 ↑b), (Value.bool false), (Value.bool false), (Value.bool false), (Value.string a0), (Value.int IntKind.i64 ↑a'), (Value.slice (some { block := g, off := 0 }) L c), (Value.int IntKind.i64 ↑i), (Value.pointer (some { block := g, off := i })), (Value.string (a0.extract a' b)), (Value.int IntKind.i64 ↑(b - a')), (Value.int IntKind.i64 ↑b), (Value.int IntKind.i64 ↑a'), (Value.int IntKind.i64 ↑a'), (Value.bool false), (Value.bool false), (Value.int IntKind.i64 ↑k), (Value.slice (some { block := g, off := 0 }) L c), (Value.int IntKind.i64 ↑i), (Value.pointer (some { block := g, off := i })), (Value.string (a0.extract a' b)), (Value.int IntKind.i64 ↑(b - a')), (Value.bool true), (Value.bool true), (Value.int IntKind.i64 ↑k), (Value.bool true), (Value.bool true), u92, u93, (Value.string a0), (Value.int IntKind.i64 ↑a'), (Value.int IntKind.i64 ↑k), (.int .i64 ((a' : Int) + (k : Int))), (.bool false), (.bool false), (Value.string a0), (Value.int IntKind.i64 ↑a'), (Value.int IntKind.i64 ↑k), (.int .i64 ((a' : Int) + (k : Int))), (.int .i64 (a' : Int)), (Value.int IntKind.i64 ↑a'), (.bool false), (.bool false), (.bool false), (Value.string a0), (Value.int IntKind.i64 ↑a'), (Value.int IntKind.i64 ↑k), (.int .i64 ((a' : Int) + (k : Int))), (.int .i64 (b : Int)), (Value.int IntKind.i64 ↑a'), (Value.slice (some { block := g, off := 0 }) L c), (Value.int IntKind.i64 ↑i), (.pointer (some ⟨g, i, none⟩)), (.string (a0.extract a' b)), (.int .i64 ((b - a' : Nat) : Int)), (.int .i64 (b : Int)), (.bool false), (.bool false), u123, u124, u125, u126, u127, u128, u129, undef, undef, undef, undef, undef, undef, undef, undef, undef, undef, undef, undef, undef, undef, undef, undef, undef, undef, undef, undef] hsz2 hds (fun p hp => by
                    rcases List.mem_append.1 hp with h | h
                    · exact hb p h
                    · simp only [List.mem_cons, List.not_mem_nil, or_false] at h
                      rcases h with rfl | rfl | rfl | rfl | rfl | rfl | rfl | rfl | rfl | rfl | rfl | rfl | rfl | rfl | rfl | rfl | rfl | rfl | rfl | rfl | rfl | rfl | rfl | rfl | rfl | rfl | rfl | rfl | rfl
                      · exact hv 0 (by decide)
                      · exact hv 1 (by decide)
                      · exact hv 2 (by decide)
                      · exact hv 3 (by decide)
                      · exact hv 4 (by decide)
                      · exact hv 5 (by decide)
                      · exact hv 6 (by decide)
                      · exact hv 7 (by decide)
                      · exact hv 8 (by decide)
                      · exact hv 9 (by decide)
                      · exact hv 10 (by decide)
                      · exact hv 11 (by decide)
                      · exact hv 12 (by decide)
                      · exact hv 13 (by decide)
                      · exact hv 14 (by decide)
                      · exact hv 15 (by decide)
                      · exact hv 16 (by decide)
                      · exact hv 17 (by decide)
                      · exact hv 18 (by decide)
                      · exact hv 19 (by decide)
                      · exact hv 20 (by decide)
                      · exact hv 21 (by decide)
                      · exact hv 22 (by decide)
                      · exact hv 23 (by decide)
                      · exact hv 24 (by decide)
                      · exact hv 25 (by decide)
                      · exact hv 26 (by decide)
                      · exact hv 27 (by decide)
                      · exact hv 28 (by decide)) rfl
                  clear hb hv hds hsz2
                  have hB7 := hBk.trans (hJ.mono hszk)
                  go_wp2
                  go_roundw
                  case rel => exact ⟨k + 1, by omega, by omega, by go_num, hB7⟩
                  case measure => simp [RowKit.intOf]; omega
              · have j2 : ¬ (k : Int) < 40 := by omega
                have hB9 := hB5.trans (hBk.mono hs5)
                go_wp2
                go_roundw
                case rel => exact ⟨i + 1, b, by omega, by omega, by go_num, by go_num, rfl, hat2, hB9⟩
                case measure => simp [RowKit.intOf]; omega
            · have j1 : ¬ (k : Int) < ((b - a' : Nat) : Int) := by omega
              have hB9 := hB5.trans (hBk.mono hs5)
              go_wp2
              go_roundw
              case rel => exact ⟨i + 1, b, by omega, by omega, by go_num, by go_num, rfl, hat2, hB9⟩
              case measure => simp [RowKit.intOf]; omega
      · have i1 : ¬ (i : Int) < (L : Int) := by omega
        have hB9 := hBW.trans (hBr.mono hsW)
        have hae : a = a0.size := by rw [unhide hat, List.take_of_length_le (by rw [unhide HL]; omega), cp_end]
        subst hae
        have hfull : a0.extract 0 a0.size = a0 := by simp
        have f1 := hide (nxt_far (s := a0) (a := (a0.size : Int)) (by omega))
        have f2 := hide (prv_low (s := a0) (a := 0) (by omega))
        have q3 : (a0.toList == a0.toList) = true := by simp
        go_wp2_with fail
        refine (next_in _ _ hs (by omega) _).mono ?_
        rintro e w2 ⟨rfl, b2⟩
        rw [unhide f1]
        have hB2 := hB9.trans (b2.mono hB9.size)
        go_wp2_with fail
        refine (prev_in _ _ hs _).mono ?_
        rintro e w3 ⟨rfl, b3⟩
        rw [unhide f2]
        have hB3 := hB2.trans (b3.mono hB2.size)
        go_wp2_with fail
        refine (known_in _).mono ?_
        rintro e w4 ⟨rfl, b4⟩
        go_wp2
        go_ret
        exact ⟨rfl, hB3.trans (b4.mono hB3.size)⟩

theorem own : ownKnob Try.prog.godebug = none := by kernel_rfl

set_option maxRecDepth 100000 in
theorem lifted (os : Os) (started : os.Started) (H : Type) (enc : TypeId × Value → H) :
    ReturnsInHanded {} Try.checked os 7 .any (Rows.clumpJoinsSpec.pre6 enc Try.prog Try.f7 Rows.clumpJoinsRow.domain false) (Rows.clumpJoinsSpec.post enc Try.prog Try.f7 false true false false) := by
  refine returnsInHanded_of_change (C := Try.checked) own started (by kernel_rfl) Try.func7
    (ChangeSpec.witness6 (enc := enc) (C := Try.checked) false ⟨#[], #[.string ByteArray.empty], []⟩ 8 (by kernel_rfl) (by kernel_rfl) (by kernel_rfl) (by kernel_rfl)) ?_
  intro W base args ds gs before hval0 hW hcnd _
  have hval : ∀ (j : Nat) t v, Try.f7.params[j]? = some t → args[j]? = some v → Value.okWide Try.prog W .any base t v := hval0
  have hW' := hW
  obtain ⟨p, q, hA0, hV, rfl, hfz, hnd⟩ := hW
  have hA : DataW.TrodAll enc Try.prog W 0 (fun _ => true) true Try.f7.params.toList args.toList ds p := hA0
  rw [Try.params7] at hA hval
  obtain ⟨v0, vs0, d0, ds0, p0, q0, hargs, rfl, rfl, h0, r0⟩ := trodAll_cons hA
  obtain ⟨rfl, rfl, rfl⟩ := trodAll_nil r0
  obtain rfl : args = #[v0] := by cases args; simp_all
  obtain ⟨rfl, rfl⟩ := trodVars_none hV
  obtain ⟨a0, rfl, rfl, rfl, w0⟩ := open_string Try.underlying9 (hval 0 9 v0 rfl rfl) h0
  clear hA0 hval0
  simp only [List.append_nil] at hW'
  refine (walk a0 w0 W).mono fun e W' ⟨he, bel⟩ => ?_
  subst he
  exact ⟨_, rfl, _, _, _, [], _, [], hW', trodAll_mk1 (shut_bool Try.underlying4 _), (trodAll_cons_mk (shut_string Try.underlying9 w0) trodAll_mk0), rfl, bel.frame _, fun h => by cases h⟩

theorem over : Rows.clumpJoinsRow.holds Try.pinned (OpenSpec.ofChange Rows.clumpJoinsSpec) :=
  OpenClaim.holds_of_wide 7 Try.f7 rfl rfl rfl rfl rfl rfl rfl ⟨rfl, rfl, rfl, rfl, rfl⟩ rfl rfl rfl rfl rfl (by kernel_rfl) Try.func7 (by kernel_rfl)
    (of_decide_eq_true (by kernel_rfl)) (by unfold Func.isWrapper; first | (rw [if_pos (by decide +kernel)]; kernel_rfl) | (rw [if_neg (by decide +kernel)]; exact ⟨rfl, rfl⟩))
    (fun os started H enc _ => lifted os started H enc)

end LClumpJoins

theorem clumpJoins_holds : Rows.ClumpJoinsSaid := LClumpJoins.over

end Go.Proofs.Ytcagfapdhopmjaa
