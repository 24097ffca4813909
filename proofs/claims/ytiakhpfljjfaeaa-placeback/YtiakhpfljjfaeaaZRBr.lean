/-
  What the document's own Breaks answers: the places of a text's breaks.
-/
import Derived.Test.YtiakhpfljjfaeaaZRBw
import Derived.Test.YtiakhpfljjfaeaaZRCls
import Derived.Test.YtiakhpfljjfaeaaZRefPcs
import Derived.Laws.OwnMore
set_option linter.unusedSimpArgs false
set_option linter.unusedVariables false
namespace Go.Proofs.Ytiakhpfljjfaeaa
open Go.RowKit Go.Lib

theorem infoInt : (Try.prog.info? 3).map (fun i => (i.zero, i.size, i.bytes)) = some (some (.int .i64 0), 1, 8) := by kernel_rfl

theorem owns_below {W W' : World} {B e m n : Nat} {v : Value} {xs : List Value} (h : W.ownsRow B e m v n xs) (hb : Below W.heap.size W W') : W'.ownsRow B e m v n xs := by
  refine ⟨h.1, ?_⟩
  rcases h.2 with h2 | ⟨g, cap, cur, e1, e2, e3, rest⟩
  · exact .inl h2
  · exact .inr ⟨g, cap, cur, e1, e2, (hb.block g (Array.getElem?_eq_some_iff.1 e3).1).trans e3, rest⟩
theorem owns_base {W : World} {B B' e m n : Nat} {v : Value} {xs : List Value} (h : W.ownsRow B e m v n xs) (hb : B' ≤ B) : W.ownsRow B' e m v n xs := by
  refine ⟨h.1, ?_⟩
  rcases h.2 with h2 | ⟨g, cap, cur, e1, e2, rest⟩
  · exact .inl h2
  · exact .inr ⟨g, cap, cur, e1, Nat.le_trans hb e2, rest⟩
theorem owns_form {W : World} {B e m n : Nat} {v : Value} {xs : List Value} (h : W.ownsRow B e m v n xs) : ∃ a c, v = .slice a n c := by
  rcases h.2 with ⟨rfl, rfl⟩ | ⟨g, cap, cur, rfl, _⟩
  · exact ⟨_, _, rfl⟩
  · exact ⟨_, _, rfl⟩
theorem owns_some {W : World} {B e m n c : Nat} {a : Option Addr} {xs : List Value} (h : W.ownsRow B e m (.slice a n c) n xs) (hn : 0 < n) : ∃ g, a = some ⟨g, 0, none⟩ := by
  rcases h.2 with ⟨e1, e2⟩ | ⟨g, cap, cur, e1, _⟩
  · omega
  · exact ⟨g, by simpa using (congrArg (fun v => match v with | Value.slice a _ _ => a | _ => none) e1)⟩

theorem pcs_cell {W : World} {B g cap : Nat} {s : ByteArray} {l : List Nat} (h : W.ownsRow B 67 4 (.slice (some ⟨g, 0, none⟩) l.length cap) l.length (pcsC s l)) {k i : Nat} (hk : l[k]? = some i) (q : Nat) (hq : q < 4) :
    W.cell? ⟨g, k * 4 + q, none⟩ = (pcC s i)[q]? := by
  have hlt : k < l.length := (List.getElem?_eq_some_iff.1 hk).1
  rw [h.cellAt (k * 4 + q) (by omega), pcsC_get s l k q i hk hq]

/-- numbers in cells -/
def ivC (l : List Nat) : List Value := l.map fun (k : Nat) => Value.int .i64 (k : Int)
theorem ivC_snoc (l : List Nat) (k : Nat) : ivC (l ++ [k]) = ivC l ++ [.int .i64 (k : Int)] := by simp [ivC]
theorem ivC_length (l : List Nat) : (ivC l).length = l.length := by simp [ivC]

/-- the breaks among the first pieces -/
def brK (s : ByteArray) (k : Nat) : List Nat := (bq (C s) ((allL s).take k).reverse).reverse

theorem brK_step {s : ByteArray} {k x y : Nat} (hx : (allL s)[k]? = some x) (hy : (allL s)[k + 1]? = some y) :
    brK s (k + 2) = if bk ((((allL s).map (C s)).take k).reverse) (C s x) (C s y) then brK s (k + 1) ++ [y] else brK s (k + 1) := by
  have e1 : ((allL s).take (k + 1)).reverse = x :: ((allL s).take k).reverse := by rw [List.take_add_one, hx]; simp
  have e2 : ((allL s).take (k + 2)).reverse = y :: x :: ((allL s).take k).reverse := by rw [List.take_add_one, hy]; simp [e1]
  unfold brK
  rw [e1, e2, ← List.map_take, ← List.map_reverse]
  conv => lhs; unfold bq
  split
  · simp
  · rfl

set_option maxRecDepth 100000 in
set_option maxHeartbeats 4000000 in
theorem breaks_in (s : ByteArray) (hs : s.size ≤ 100000000) (w : World) :
    Calls Try.prog 43 #[.string s] w fun e W' => ∃ v, e = .returned v ∧ W'.ownsRow w.heap.size 3 1 v (brL s).length (ivC (brL s)) ∧ Below w.heap.size w W' := by
  obtain ⟨i0, hi, hz0, hz1, hz2⟩ := info_parts infoInt
  have hlen := allL_length s
  go_enter Try.func43, Try.ntmps43
  go_wp2_with fail
  refine (pieces_in s (by omega) _).mono ?_
  rintro e W ⟨v, rfl, ho, hB⟩
  have hstep := fun k x y => @brK_step s k x y
  have Hstep := hide hstep
  clear hstep
  have h0 : Hid (0 < s.size → brK s 1 = [0]) := hide (fun h => by
    obtain ⟨r, hr⟩ := allL_zero s (by omega)
    unfold brK; rw [hr]; rfl)
  have hend : Hid (brL s = if s.size = 0 then [0] else brK s (allL s).length ++ [s.size]) := hide (by unfold brL brK; rw [List.take_length])
  have hne : 0 < s.size → 0 < (allL s).length := fun h => by obtain ⟨r, hr⟩ := allL_zero s (by omega); rw [hr]; simp
  have hlt : ∀ x ∈ allL s, x < s.size := fun x hx => (mem_allL.1 hx).1
  have hbl : Hid (∀ k, (brK s k).length ≤ (allL s).length) := hide (fun k => by
    have hsub : ∀ Q : List Nat, (bq (C s) Q).length ≤ Q.length := fun Q => by
      induction Q with
      | nil => exact Nat.le_refl _
      | cons a Q ih =>
        cases Q with
        | nil => exact Nat.le_refl _
        | cons b Q =>
          unfold bq
          split
          · simpa using ih
          · simp only [List.length_cons] at ih ⊢; omega
    unfold brK
    have := hsub ((allL s).take k).reverse
    rw [List.length_reverse] at this ⊢
    rw [List.length_take] at this
    omega)
  generalize allL s = l at *
  have Hlt := hide hlt
  clear hlt
  obtain ⟨a, c, rfl⟩ := owns_form ho
  have hsW := hB.size
  go_wp2
  go_loopw [4, 5] (fun rv iv wr => ∃ k : Nat, k ≤ l.length ∧ iv = .int .i64 k ∧ wr.ownsRow W.heap.size 3 1 rv k ((l.take k).map fun i => Value.int .i64 (C s i)) ∧ Below W.heap.size W wr) (fun _ iv _ => l.length - (RowKit.intOf iv).toNat)
  case atStart => exact ⟨0, by omega, rfl, by simpa using World.ownsRow_nil _ _ _ _, Below.refl _ _⟩
  case round =>
    obtain ⟨k, hk, rfl, hrow, hBr⟩ := hrel
    by_cases hlt : k < l.length
    · obtain ⟨g, rfl⟩ := owns_some ho (by omega)
      obtain ⟨x, hx⟩ : ∃ x, l[k]? = some x := ⟨_, List.getElem?_eq_getElem hlt⟩
      have hxs := unhide Hlt x (List.mem_of_getElem? hx)
      have hrx := rn_lt s x hxs
      have c1 := pcs_cell (owns_below ho hBr) hx 1 (by omega)
      simp only [pcC, List.getElem?_cons_zero, List.getElem?_cons_succ] at c1
      have C3 := hide (fun (w2 : World) (hb : Below wr.heap.size wr w2) => pcs_cell (owns_below (owns_below ho hBr) hb) hx 3 (by omega))
      have hst : (l.take (k + 1)).map (fun i => Value.int .i64 (C s i)) = (l.take k).map (fun i => Value.int .i64 (C s i)) ++ [.int .i64 (C s x)] := by
        rw [List.take_add_one, hx]; simp
      have Hst := hide hst
      clear hx hst
      have i1 : (k : Int) < (l.length : Int) := by omega
      have hsz := hBr.size
      go_wp2_with fail
      refine (refClass_in _ (by omega) (by omega) _).mono ?_
      rintro e w2 ⟨rfl, hb2⟩
      have c3 := unhide C3 w2 hb2
      simp only [pcC, List.getElem?_cons_zero, List.getElem?_cons_succ] at c3
      have hB2 := hBr.trans (hb2.mono hsz)
      have hrow2 := owns_below hrow hb2
      have hsz2 := hB2.size
      have hCx : cls (rn s x : Nat) = C s x := rfl
      rw [hCx]
      clear C3 hrow hBr hb2 c1
      cases hok : okR s x with
      | true =>
        rw [hok] at c3
        go_wp2_with (at_builtin; refine wpList_append_own _ rfl _ _ 81 rfl W.heap.size 3 i0 (.int .i64 0) 1 8 Try.underlying81 hi hz0 hz1 hz2 rfl (by decide) u4 k _ rfl (hrow2.alloc _) ⟨w2.heap.size, 0, none⟩ 1 1 [.int .i64 (C s x)] rfl rfl (cell_one_new _ _ _) (by simp [Value.oneCell']) (by unfold maxLen; omega) (by omega) (by simp; omega) ?_; intro v4 W4 ho4 hg4 _)
        go_roundw
        case rel => exact ⟨k + 1, by omega, by go_num, by rw [unhide Hst]; exact ho4, (hB2.alloc hsz2 _).grown hg4 (by simp; omega) (fun k e => (hrow2.lt k e).1)⟩
        case measure => simp [RowKit.intOf]; omega
      | false =>
        rw [hok] at c3
        have hc0 := hide (C_bad hok)
        go_wp2_with (at_builtin; refine wpList_append_own _ rfl _ _ 81 rfl W.heap.size 3 i0 (.int .i64 0) 1 8 Try.underlying81 hi hz0 hz1 hz2 rfl (by decide) u4 k _ rfl (hrow2.alloc _) ⟨w2.heap.size, 0, none⟩ 1 1 [.int .i64 0] rfl rfl (cell_one_new _ _ _) (by simp [Value.oneCell']) (by unfold maxLen; omega) (by omega) (by simp; omega) ?_; intro v4 W4 ho4 hg4 _)
        go_roundw
        case rel => exact ⟨k + 1, by omega, by go_num, by rw [unhide Hst, unhide hc0]; exact ho4, (hB2.alloc hsz2 _).grown hg4 (by simp; omega) (fun k e => (hrow2.lt k e).1)⟩
        case measure => simp [RowKit.intOf]; omega
    · obtain rfl : k = l.length := by omega
      obtain ⟨W2, rfl⟩ : ∃ W2 : World, W2 = wr := ⟨_, rfl⟩
      have hRK : RK .i64 W2 u4 (l.map (C s)) := RK.of_owns (by rw [List.length_map, List.map_map]; rw [List.take_length] at hrow; exact hrow)
      have hBw := hB.trans (hBr.mono hsW)
      have hszw := hBr.size
      obtain ⟨a4, c4, rfl⟩ := owns_form hrow
      obtain ⟨O, hO⟩ : ∃ O : Nat → List Nat, O = fun k => if s.size = 0 then [0] else brK s (k + 1) := ⟨_, rfl⟩
      have hO0 : Hid (O 0 = [0]) := hide (by
        rw [hO]; dsimp only
        split
        · rfl
        · exact unhide h0 (by omega))
      have hOl : Hid (∀ k, (O k).length ≤ l.length + 1) := hide (fun k => by
        rw [hO]; dsimp only
        split
        · simp
        · have := unhide hbl (k + 1); omega)
      have HO := hide hO
      have HRK := hide hRK
      have Hho := hide (owns_below ho hBr)
      clear hO hRK ho hrow h0 hbl
      go_wp2
      go_loopw [7, 8] (fun ov iv wr => ∃ k : Nat, iv = .int .i64 k ∧ k ≤ l.length ∧ (s.size = 0 ∨ k + 1 ≤ l.length) ∧ wr.ownsRow W2.heap.size 3 1 ov (O k).length (ivC (O k)) ∧ Below W2.heap.size W2 wr) (fun _ iv _ => l.length - (RowKit.intOf iv).toNat)
      case atStart =>
        refine ⟨0, rfl, by omega, ?_, ?_, (Below.refl _ _).alloc (Nat.le_refl _) _⟩
        · by_cases hz : s.size = 0
          · exact .inl hz
          · exact .inr (hne (by omega))
        · rw [unhide hO0]
          exact World.ownsRow_lit W2 #[.int .i64 0] 1 (Nat.le_refl _) (by decide) rfl
      case round =>
        obtain ⟨k, rfl, hk1, hk2, hrow2, hB2⟩ := hrel
        have hsz2 := hB2.size
        by_cases hlt : k + 1 < l.length
        · obtain ⟨x, hx⟩ : ∃ x, l[k]? = some x := ⟨_, List.getElem?_eq_getElem (by omega)⟩
          obtain ⟨y, hy⟩ : ∃ y, l[k + 1]? = some y := ⟨_, List.getElem?_eq_getElem hlt⟩
          have hbw := hide (between_in _ (l.map (C s)) k (C s x) (C s y) wr ((unhide HRK).below hB2) (by rw [List.length_map]; exact hlt) (by rw [List.length_map]; omega) (by rw [List.getElem?_map, hx]; rfl) (by rw [List.getElem?_map, hy]; rfl))
          have hst := unhide Hstep k x y hx hy
          have hsz0 : ¬ s.size = 0 := fun h => by omega
          have hO1 : Hid (O (k + 1) = if bk (((l.map (C s)).take k).reverse) (C s x) (C s y) then O k ++ [y] else O k) := hide (by
            rw [unhide HO]; dsimp only
            rw [if_neg hsz0, if_neg hsz0]; exact hst)
          clear hst
          obtain ⟨g, rfl⟩ := owns_some (unhide Hho) (by omega)
          have c0 := pcs_cell (owns_below (unhide Hho) hB2) hy 0 (by omega)
          simp only [pcC, List.getElem?_cons_zero, List.getElem?_cons_succ, Nat.add_zero] at c0
          clear hx hy
          have hlO := unhide hOl k
          have i1 : (k : Int) + 1 < (l.length : Int) := by omega
          have i2 : (k : Int) < (l.length : Int) := by omega
          go_wp2_with fail
          refine (unhide hbw).mono ?_
          rintro e w3 ⟨rfl, rfl⟩
          clear hbw
          cases hbk : bk (((l.map (C s)).take k).reverse) (C s x) (C s y) with
          | true =>
            rw [hbk, if_pos rfl] at hO1
            go_wp2_with (at_builtin; refine wpList_append_own _ rfl _ _ 81 rfl W2.heap.size 3 i0 (.int .i64 0) 1 8 Try.underlying81 hi hz0 hz1 hz2 rfl (by decide) u7 (O k).length _ rfl (hrow2.alloc _) ⟨w3.heap.size, 0, none⟩ 1 1 [.int .i64 (y : Int)] rfl rfl (cell_one_new _ _ _) (by simp [Value.oneCell']) (by unfold maxLen; omega) (by omega) (by simp; omega) ?_; intro v4 W4 ho4 hg4 _)
            go_roundw
            case rel => exact ⟨k + 1, by go_num, by omega, .inr (by omega), by rw [unhide hO1, ivC_snoc, List.length_append]; exact ho4, (hB2.alloc hsz2 _).grown hg4 (by simp; omega) (fun k e => (hrow2.lt k e).1)⟩
            case measure => simp [RowKit.intOf]; omega
          | false =>
            rw [hbk, if_neg (by decide)] at hO1
            go_wp2
            go_roundw
            case rel => exact ⟨k + 1, by go_num, by omega, .inr (by omega), by rw [unhide hO1]; exact hrow2, hB2⟩
            case measure => simp [RowKit.intOf]; omega
        · by_cases hz : s.size = 0
          · have hfin : Hid (brL s = O k) := hide (by rw [unhide hend, unhide HO, if_pos hz]; dsimp only; rw [if_pos hz])
            have q1 : ¬ 0 < s.size := by omega
            have Hz := hide hz
            clear hz
            go_wp2
            go_ret
            exact ⟨_, rfl, by rw [unhide hfin]; exact owns_base hrow2 (Nat.le_trans hsW hszw), hBw.trans (hB2.mono (Nat.le_trans hsW hszw))⟩
          · have hkl : k + 1 = l.length := by omega
            have hfin : Hid (brL s = O k ++ [s.size]) := hide (by rw [unhide hend, unhide HO, if_neg hz]; dsimp only; rw [if_neg hz, hkl])
            have q1 : 0 < s.size := by omega
            have hlO := unhide hOl k
            clear hz hkl
            go_wp2_with (at_builtin; refine wpList_append_own _ rfl _ _ 81 rfl W2.heap.size 3 i0 (.int .i64 0) 1 8 Try.underlying81 hi hz0 hz1 hz2 rfl (by decide) u7 (O k).length _ rfl (hrow2.alloc _) ⟨wr.heap.size, 0, none⟩ 1 1 [.int .i64 (s.size : Int)] rfl rfl (cell_one_new _ _ _) (by simp [Value.oneCell']) (by unfold maxLen; omega) (by omega) (by simp; omega) ?_; intro v4 W4 ho4 hg4 _)
            go_ret
            exact ⟨_, rfl, by rw [unhide hfin, ivC_snoc, List.length_append]; exact owns_base ho4 (Nat.le_trans hsW hszw), hBw.trans ((((hB2.alloc hsz2 _).grown hg4 (by simp; omega) (fun k e => (hrow2.lt k e).1))).mono (Nat.le_trans hsW hszw))⟩

end Go.Proofs.Ytiakhpfljjfaeaa
