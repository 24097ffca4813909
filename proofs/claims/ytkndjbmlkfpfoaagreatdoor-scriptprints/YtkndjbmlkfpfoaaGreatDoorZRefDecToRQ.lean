/-
  What the document's own begins, Decode and Last answer, for every text and every number.
-/
import Derived.Test.YtkndjbmlkfpfoaaGreatDoorZLowToBegD
import Derived.Test.YtkndjbmlkfpfoaaGreatDoorZPureWToPU
import Derived.Test.YtkndjbmlkfpfoaaGreatDoorZRf
import Derived.Lib.AppendStr
import Derived.OwnWalk
import Derived.Maps.AppendAt
import Derived.Laws.EntriesVeiled
import Derived.Test.YtkndjbmlkfpfoaaGreatDoorZRegBToRegL

set_option linter.unusedSimpArgs false
set_option linter.unusedVariables false
namespace Go.Proofs.YtkndjbmlkfpfoaaGreatDoor
open Go.RowKit Go.Lib

theorem begins_in (s : ByteArray) (k : Nat) (w : World) (hs : s.size ≤ 140737488355328) (hk : k < s.size) :
    Calls Tryz.prog 107 #[.string s, .int .i64 k] w fun e w' => e = .returned (.tuple #[.int .i32 (bR s k), .int .i64 (bN s k)]) ∧ ∃ n, w' = w.drewN n := by
  have hl := by_lt s k
  have up : ∀ {R : Ending → World → Prop}, (∀ e w', R e w' → e = .returned (.tuple #[.int .i32 (bR s k), .int .i64 (bN s k)]) ∧ w = w') → Calls Tryz.prog 107 #[.string s, .int .i64 k] w R → Calls Tryz.prog 107 #[.string s, .int .i64 k] w fun e w' => e = .returned (.tuple #[.int .i32 (bR s k), .int .i64 (bN s k)]) ∧ ∃ n, w' = w.drewN n :=
    fun h c => c.mono fun e w' r => ⟨(h e w' r).1, 0, (h e w' r).2.symm⟩
  rcases (by omega : by_ s k ≤ 127 ∨ (128 ≤ by_ s k ∧ by_ s k ≤ 193) ∨ (194 ≤ by_ s k ∧ by_ s k ≤ 223) ∨ (224 ≤ by_ s k ∧ by_ s k ≤ 224) ∨ (225 ≤ by_ s k ∧ by_ s k ≤ 236) ∨ (237 ≤ by_ s k ∧ by_ s k ≤ 237) ∨ (238 ≤ by_ s k ∧ by_ s k ≤ 239) ∨ (240 ≤ by_ s k ∧ by_ s k ≤ 240) ∨ (241 ≤ by_ s k ∧ by_ s k ≤ 243) ∨ (244 ≤ by_ s k ∧ by_ s k ≤ 244) ∨ (245 ≤ by_ s k ∧ by_ s k ≤ 255)) with h | ⟨h, h'⟩ | ⟨h, h'⟩ | ⟨h, h'⟩ | ⟨h, h'⟩ | ⟨h, h'⟩ | ⟨h, h'⟩ | ⟨h, h'⟩ | ⟨h, h'⟩ | ⟨h, h'⟩ | ⟨h, h'⟩
  · exact up (fun _ _ x => x) (begins_00 s k w hs hk h)
  · exact up (fun _ _ x => x) (begins_A1 s k w hs hk h h')
  · exact up (fun _ _ x => x) (begins_C2 s k w hs hk h h')
  · exact up (fun _ _ x => x) (begins_E0 s k w hs hk h h')
  · exact up (fun _ _ x => x) (begins_E1 s k w hs hk h h')
  · exact up (fun _ _ x => x) (begins_ED s k w hs hk h h')
  · exact up (fun _ _ x => x) (begins_EE s k w hs hk h h')
  · exact begins_F0 s k w hs hk h h'
  · exact begins_F1 s k w hs hk h h'
  · exact begins_F4 s k w hs hk h h'
  · exact up (fun _ _ x => x) (begins_F5 s k w hs hk h h')

set_option maxHeartbeats 1000000 in
theorem refDecode_any (s : ByteArray) (a : Int) (w : World) (hs : s.size ≤ 140737488355328) :
    Calls Tryz.prog 88 #[.string s, .int .i64 a] w fun e w' => e = .returned (.tuple #[.int .i32 (dR s a), .int .i64 (dN s a), .bool (dK s a)]) ∧ ∃ n, w' = w.drewN n := by
  by_cases hlo : a < 0
  · have hc : ¬ (0 ≤ a ∧ a < s.size) := by omega
    have e1 : dR s a = 0 := by unfold dR; rw [if_neg hc]
    have e2 : dN s a = 0 := by unfold dN; rw [if_neg hc]
    have e3 : dK s a = false := by unfold dK; rw [if_neg hc]
    rw [e1, e2, e3]
    go_enter Tryz.func88, Tryz.ntmps88
    go_wp2
    go_ret3
    exact ⟨rfl, 0, rfl⟩
  · by_cases hhi : (s.size : Int) ≤ a
    · have hc : ¬ (0 ≤ a ∧ a < s.size) := by omega
      have e1 : dR s a = 0 := by unfold dR; rw [if_neg hc]
      have e2 : dN s a = 0 := by unfold dN; rw [if_neg hc]
      have e3 : dK s a = false := by unfold dK; rw [if_neg hc]
      rw [e1, e2, e3]
      go_enter Tryz.func88, Tryz.ntmps88
      go_wp2
      go_ret3
      exact ⟨rfl, 0, rfl⟩
    · obtain ⟨k, rfl⟩ := Int.eq_ofNat_of_zero_le (show 0 ≤ a by omega)
      have hk : k < s.size := by omega
      rw [dR_in s k hk, dN_in s k hk, dK_in s k hk]
      have hp := wd_pos s k hk
      cases ho : okR s k with
      | false =>
        obtain ⟨h1, h2⟩ := ok_false_iff ho
        have e1 : bR s k = 0 := by unfold bR; rw [ho]; rfl
        have e2 : bN s k = 0 := by unfold bN; rw [ho]; rfl
        rw [h1, h2]
        go_enter Tryz.func88, Tryz.ntmps88
        go_wp2_with (go_at_call 107; refine (begins_in s k _ hs hk).mono ?_; rintro r w' ⟨rfl, nd, rfl⟩; simp only [e1, e2])
        go_ret3
        exact ⟨rfl, nd, rfl⟩
      | true =>
        have e1 : bR s k = rn s k := by unfold bR; rw [ho]; rfl
        have e2 : bN s k = wd s k := by unfold bN; rw [ho]; rfl
        have hne : ((wd s k : Int) == 0) = false := by rw [beq_eq_false_iff_ne]; omega
        go_enter Tryz.func88, Tryz.ntmps88
        go_wp2_with (go_at_call 107; refine (begins_in s k _ hs hk).mono ?_; rintro r w' ⟨rfl, nd, rfl⟩; simp only [e1, e2])
        go_ret3
        exact ⟨rfl, nd, rfl⟩


end Go.Proofs.YtkndjbmlkfpfoaaGreatDoor

/-
  What the document's own Pieces and Count answer.
-/
set_option linter.unusedSimpArgs false
set_option linter.unusedVariables false
namespace Go.Proofs.YtkndjbmlkfpfoaaGreatDoor
open Go.RowKit Go.Lib

theorem infoPiece : (Tryz.prog.info? 151).map (fun i => (i.zero, i.size, i.bytes)) = some (some (.agg #[.int .i64 0, .int .i32 0, .int .i64 0, .bool false]), 4, 32) := by kernel_rfl

/-- a piece's cells -/
def pcC (s : ByteArray) (i : Nat) : List Value := [.int .i64 (i : Int), .int .i32 (rn s i : Nat), .int .i64 (wd s i : Nat), .bool (okR s i)]
def pcsC (s : ByteArray) (l : List Nat) : List Value := l.flatMap (pcC s)

theorem pcsC_length (s : ByteArray) (l : List Nat) : (pcsC s l).length = l.length * 4 := by
  induction l with
  | nil => rfl
  | cons i l ih => simp [pcsC, pcC] at ih ⊢; omega
theorem pcsC_get (s : ByteArray) : ∀ (l : List Nat) (j q i : Nat), l[j]? = some i → q < 4 → (pcsC s l)[j * 4 + q]? = (pcC s i)[q]?
  | [], j, q, i, h, _ => by cases h
  | a :: l, 0, q, i, h, hq => by
    simp at h; subst h
    show (pcC s a ++ pcsC s l)[0 * 4 + q]? = _
    rw [List.getElem?_append_left (by simp [pcC]; omega)]
    simp
  | a :: l, j + 1, q, i, h, hq => by
    have ih := pcsC_get s l j q i (by simpa using h) hq
    show (pcC s a ++ pcsC s l)[(j + 1) * 4 + q]? = _
    rw [List.getElem?_append_right (by simp [pcC]; omega)]
    rw [← ih]
    congr 1
    simp [pcC]; omega

theorem new_four (W : World) (c0 c1 c2 c3 : Value) (t : TypeId) : ∀ j u, ([c0, c1, c2, c3] : List Value)[j]? = some u → (W.alloc (.cells #[c0, c1, c2, c3] t)).cell? ((⟨W.heap.size, 0, none⟩ : Addr).add j) = some u := by
  intro j u h
  match j, h with
  | 0, h => simp at h; subst h; simp [go_sem, Addr.add]
  | 1, h => simp at h; subst h; simp [go_sem, Addr.add]
  | 2, h => simp at h; subst h; simp [go_sem, Addr.add]
  | 3, h => simp at h; subst h; simp [go_sem, Addr.add]
  | j + 4, h => simp at h

set_option maxRecDepth 100000 in
set_option maxHeartbeats 2000000 in
theorem pieces_in (s : ByteArray) (hs : s.size ≤ 1000000000) (w : World) :
    Calls Tryz.prog 76 #[.string s] w fun e W' => ∃ v, e = .returned v ∧ W'.ownsRow w.heap.size 151 4 v (allL s).length (pcsC s (allL s)) ∧ Below w.heap.size w W' := by
  obtain ⟨i0, hi, hz0, hz1, hz2⟩ := info_parts infoPiece
  go_enter Tryz.func76, Tryz.ntmps76
  go_wp2
  go_loopw [3, 4] (fun lv av wr => ∃ (l : List Nat) (pos f : Nat), av = .int .i64 pos ∧ Hid (l ++ posL s f pos = allL s) ∧ s.size ≤ pos + f ∧ pos ≤ s.size ∧ wr.ownsRow w.heap.size 151 4 lv l.length (pcsC s l) ∧ Below w.heap.size w wr) (fun _ av _ => s.size - (RowKit.intOf av).toNat)
  case atStart => exact ⟨[], 0, s.size, rfl, hide rfl, by omega, by omega, World.ownsRow_nil _ _ _ _, Below.refl _ _⟩
  case round =>
    obtain ⟨l, pos, f, rfl, hall, hfu, hps, hrow, hB⟩ := hrel
    have hll : l.length ≤ s.size := by
      have h1 := allL_length s
      have h2 := congrArg List.length (unhide hall)
      rw [List.length_append] at h2
      omega
    by_cases hlt : pos < s.size
    · have hp := wd_pos s pos hlt
      have e1 := hide (dR_in s pos hlt)
      have e2 := hide (dN_in s pos hlt)
      have e3 := hide (dK_in s pos hlt)
      obtain ⟨g, rfl⟩ : ∃ g, f = g + 1 := ⟨f - 1, by omega⟩
      have hsz := hB.size
      have hwl : wd s pos ≤ 4 ∧ pos + wd s pos ≤ s.size := ⟨(wd_le s pos hlt).2, (wd_le s pos hlt).1⟩
      obtain ⟨hw1, hw2⟩ := hwl
      go_wp2_with fail
      refine (refDecode_any s _ _ (by omega)).mono ?_
      rintro e w2 ⟨rfl, nd, rfl⟩
      rw [unhide e1, unhide e2, unhide e3]
      go_wp2_with (at_builtin; refine wpList_append_own _ rfl _ _ 148 rfl w.heap.size 151 i0 _ 4 32 Tryz.underlying148 hi hz0 hz1 hz2 rfl (by decide) u3 l.length (pcsC s l) rfl (World.ownsRow.alloc (show (wr.drewN nd).ownsRow _ _ _ _ _ _ from hrow) _) ⟨wr.heap.size, 0, none⟩ 1 1 (pcC s pos) rfl rfl (new_four _ _ _ _ _ _) (by simp [pcC, Value.oneCell']) (by unfold maxLen; omega) (by omega) (by simp; omega) ?_; intro v4 W4 ho4 hg4 _)
      go_roundw
      case rel =>
        refine ⟨l ++ [pos], pos + wd s pos, g, by simp, hide ?_, by omega, hw2, by simpa [pcsC] using ho4, ((⟨hB.os, hB.tape, hB.output, hB.size, hB.block⟩ : Below w.heap.size w (wr.drewN nd)).alloc (by simpa using hsz) _).grown hg4 (by simp; omega) (fun k e => (hrow.lt k e).1)⟩
        rw [← unhide hall, posL_step s g pos hlt]; simp
      case measure => simp [RowKit.intOf]; omega
    · have hl : l = allL s := by
        have h := unhide hall
        rw [posL_end s f pos hlt, List.append_nil] at h
        exact h
      subst hl
      go_wp2
      go_ret
      exact ⟨_, rfl, hrow, hB⟩

theorem owns4_form {W : World} {B e n : Nat} {v : Value} {xs : List Value} (h : W.ownsRow B e 4 v n xs) : ∃ a c, v = .slice a n c := by
  rcases h.2 with ⟨rfl, rfl⟩ | ⟨g, cap, cur, rfl, _⟩
  · exact ⟨_, _, rfl⟩
  · exact ⟨_, _, rfl⟩


end Go.Proofs.YtkndjbmlkfpfoaaGreatDoor

/-
  What the document's own Quote answers: the same text in quotes.
-/
set_option linter.unusedSimpArgs false
set_option linter.unusedVariables false
namespace Go.Proofs.YtkndjbmlkfpfoaaGreatDoor
open Go.RowKit Go.Lib

theorem infoByte : (Tryz.prog.info? 5).map (fun i => (i.zero, i.size, i.bytes)) = some (some (.int .u8 0), 1, 1) := by kernel_rfl
theorem conv_own {W : World} {B n : Nat} {v : Value} {l : List UInt8} (h : W.ownsRow B 5 1 v n (byteCells l)) (hn : n = l.length) (hne : l ≠ []) :
    (convert 38 9 v).run Tryz.prog W = .ok (.string (ofL l)) W := by
  have h0 := h
  subst hn
  rcases h.2 with ⟨rfl, e⟩ | ⟨g, cap, cur, rfl, _⟩
  · exact absurd (List.eq_nil_of_length_eq_zero e) hne
  · have hc := conv_bytes W ⟨g, 0, none⟩ l.length cap (l.map fun b => ((b.toNat : Nat) : Int)) (by simp) (fun j hj => by
      have hj' : j < l.length := by simpa using hj
      refine h0.cells rfl j _ ?_
      simp [byteCells, List.getElem?_eq_getElem hj'])
    rw [u8_back] at hc
    exact hc
theorem pcs_cell {W : World} {B g cap : Nat} {s : ByteArray} {l : List Nat} (h : W.ownsRow B 151 4 (.slice (some ⟨g, 0, none⟩) l.length cap) l.length (pcsC s l)) {k i : Nat} (hk : l[k]? = some i) (q : Nat) (hq : q < 4) :
    W.cell? ⟨g, k * 4 + q, none⟩ = (pcC s i)[q]? := by
  have hlt : k < l.length := (List.getElem?_eq_some_iff.1 hk).1
  rw [h.cellAt (k * 4 + q) (by omega), pcsC_get s l k q i hk hq]
theorem owns4_below {W W' : World} {B n : Nat} {v : Value} {xs : List Value} (h : W.ownsRow B 151 4 v n xs) (hb : Below W.heap.size W W') : W'.ownsRow B 151 4 v n xs := by
  refine ⟨h.1, ?_⟩
  rcases h.2 with h2 | ⟨g, cap, cur, e1, e2, e3, rest⟩
  · exact .inl h2
  · exact .inr ⟨g, cap, cur, e1, e2, (hb.block g (Array.getElem?_eq_some_iff.1 e3).1).trans e3, rest⟩
theorem owns1_below {W W' : World} {B n : Nat} {v : Value} {xs : List Value} (h : W.ownsRow B 5 1 v n xs) (hb : Below W.heap.size W W') : W'.ownsRow B 5 1 v n xs := by
  refine ⟨h.1, ?_⟩
  rcases h.2 with h2 | ⟨g, cap, cur, e1, e2, e3, rest⟩
  · exact .inl h2
  · exact .inr ⟨g, cap, cur, e1, e2, (hb.block g (Array.getElem?_eq_some_iff.1 e3).1).trans e3, rest⟩
theorem new_two (W : World) (c0 c1 : Value) (t : TypeId) : ∀ j u, ([c0, c1] : List Value)[j]? = some u → (W.alloc (.cells #[c0, c1] t)).cell? ((⟨W.heap.size, 0, none⟩ : Addr).add j) = some u := by
  intro j u h
  have hb : (W.alloc (.cells #[c0, c1] t)).heap[W.heap.size]? = some (.cells #[c0, c1] t) := by show (W.heap.push _)[W.heap.size]? = _; simp
  rcases (by have := (List.getElem?_eq_some_iff.1 h).1; simp at this; omega : j = 0 ∨ j = 1) with rfl | rfl
  · simp at h; subst h
    show World.cell? _ ⟨W.heap.size, 0, none⟩ = _
    unfold World.cell?
    simp only [hb]
    rfl
  · simp at h; subst h
    show World.cell? _ ⟨W.heap.size, 0 + 1, none⟩ = _
    unfold World.cell?
    simp only [hb]
    rfl

theorem wrap64_nat (n : Nat) (h : n ≤ 4000000000) : wrap64 (n : Int) = (n : Int) := by unfold wrap64; omega
theorem wrap64_two (n m : Nat) (h : n + m ≤ 4000000000) : IntKind.i64.wrap ((n : Int) + (m : Int)) = (n : Int) + (m : Int) := by rw [IntKind.wrap_i64]; omega
theorem subL_len (s : ByteArray) (i n : Nat) (h : i + n ≤ s.size) : (subL s i n).length = n := by
  have : s.data.toList.length = s.size := by simp
  unfold subL; rw [List.length_take, List.length_drop]; omega
theorem ext_sub (s : ByteArray) (i n : Nat) : (s.extract i (i + n)).data.toList = subL s i n := by
  unfold subL; simp
theorem strCells_sub (s : ByteArray) (i n : Nat) (h : i + n ≤ s.size) : strCells (s.extract i (i + n)) = byteCells (subL s i n) := by
  unfold strCells; rw [ext_sub]; rfl
theorem run_append2 {P : Program} {o : Oper} {ρ : Operand → Value} {w : World} {v' : Value} {w' : World} (s x : Operand) (t t2 : TypeId)
    (ho : o.op = .call { callee := .builtin .append, args := #[s, x], argTypes := #[t, t2] }) {v u : Value} (hs : ρ s = v) (hx : ρ x = u) (hr : (Builtin.append_ #[t, t2] o.type #[v, u]).run P w = .ok v' w') : (execOp ρ o).run P w = .ok (.value v') w' := by
  unfold execOp
  simp only [ho, resolve, invoke, builtin, Sem.run_bind, Sem.run_pure, Result.andThen_ok, List.map_toArray, List.map_cons, List.map_nil, hs, hx, hr]

theorem ltN_none {r : Nat} (h1 : r ≠ 34) (h2 : r ≠ 92) (h3 : r ≠ 10) (h4 : r ≠ 13) (h5 : r ≠ 9) : ltN r = 0 := by unfold ltN; simp [h1, h2, h3, h4, h5]

set_option maxRecDepth 100000 in
set_option maxHeartbeats 2000000 in
theorem refQuote_in (s : ByteArray) (hs : s.size ≤ 1000000000) (w : World) :
    Calls Tryz.prog 42 #[.string s] w fun e w' => e = .returned (.string (qT s)) ∧ Below w.heap.size w w' := by
  obtain ⟨i0, hi, hz0, hz1, hz2⟩ := info_parts infoByte
  have hpc := fun W => hide (pieces_in s hs W)
  have hll := allL_length s
  go_enter Tryz.func42, Tryz.ntmps42
  go_wp2_with fail
  refine (unhide (hpc _)).mono ?_
  rintro e W1 ⟨pv, rfl, hpr, hB1⟩
  clear hpc
  obtain ⟨pa, pc, rfl⟩ := owns4_form hpr
  go_wp2_with (at_builtin; refine wpList_append_own _ rfl _ _ 38 rfl W1.heap.size 5 i0 (.int .u8 0) 1 1 Tryz.underlying38 hi hz0 hz1 hz2 rfl (by decide) (.slice none 0 0) 0 [] rfl (World.ownsRow_nil _ _ _ _) ⟨W1.heap.size, 0, none⟩ 1 1 [.int .u8 34] rfl rfl (cell_one_new _ _ _) (by simp [Value.oneCell']) (by unfold maxLen; omega) (by omega) (by simp) ?_; intro b0 W2 ho2 hg2 _)
  have hB2 : Below W1.heap.size W1 W2 := ((Below.refl _ W1).alloc (Nat.le_refl _) _).grown hg2 (by simp) (fun j hj => by cases hj)
  obtain ⟨L, hL⟩ : ∃ L, (allL s).length = L := ⟨_, rfl⟩
  rw [hL] at hpr hll ⊢
  have HL := hide hL
  have Hpr := hide hpr
  have HB1 := hide hB1
  clear hL hg2 hpr hB1
  go_wp2
  go_loopw [4, 5] (fun bv iv wr => ∃ (k : Nat), k ≤ L ∧ iv = .int .i64 k ∧ Hid (wr.ownsRow W1.heap.size 5 1 bv (34 :: qL s ((allL s).take k)).length (byteCells (34 :: qL s ((allL s).take k))) ∧ Below W1.heap.size W1 wr ∧ (qL s ((allL s).take k)).length ≤ 10 * k)) (fun _ iv _ => L - (RowKit.intOf iv).toNat)
  case atStart => exact ⟨0, by omega, rfl, hide ⟨ho2, hB2, by simp [qL]⟩⟩
  case round =>
    obtain ⟨k, hk, rfl, H⟩ := hrel
    by_cases hlt : k < L
    · have hz : k < (allL s).length := by rw [unhide HL]; exact hlt
      obtain ⟨x, hx⟩ : ∃ x, (allL s)[k]? = some x := ⟨_, List.getElem?_eq_getElem hz⟩
      have hxs : x < s.size := (mem_allL.1 (List.mem_of_getElem? hx)).1
      obtain ⟨g, rfl⟩ : ∃ g, pa = some ⟨g, 0, none⟩ := by
        rcases (unhide Hpr).2 with ⟨e, h0⟩ | ⟨g, cap, cur, e, _⟩
        · omega
        · exact ⟨g, by cases e; rfl⟩
      have hpw : wr.ownsRow w.heap.size 151 4 (.slice (some ⟨g, 0, none⟩) L pc) L (pcsC s (allL s)) := owns4_below (unhide Hpr) (unhide H).2.1
      rw [← unhide HL] at hpw
      have c0 : wr.cell? ⟨g, k * 4 + 0, none⟩ = some (.int .i64 (x : Int)) := pcs_cell hpw hx 0 (by omega)
      have c1 : wr.cell? ⟨g, k * 4 + 1, none⟩ = some (.int .i32 (rn s x : Nat)) := pcs_cell hpw hx 1 (by omega)
      have c2 : wr.cell? ⟨g, k * 4 + 2, none⟩ = some (.int .i64 (wd s x : Nat)) := pcs_cell hpw hx 2 (by omega)
      have c3 : wr.cell? ⟨g, k * 4 + 3, none⟩ = some (.bool (okR s x)) := pcs_cell hpw hx 3 (by omega)
      rw [Nat.add_zero] at c0
      have hst : qL s ((allL s).take (k + 1)) = qL s ((allL s).take k) ++ qP s x := by rw [List.take_add_one, hx, Option.toList_some, qL_snoc]
      have hq10 := qP_len s x hxs
      have i1 : (k : Int) < (L : Int) := by omega
      have i2 : (0 : Int) ≤ (k : Int) := by omega
      have hgp := by_get s x hxs
      have hrl := rn_le s x hxs
      obtain ⟨acc, hacc⟩ : ∃ acc, 34 :: qL s ((allL s).take k) = acc := ⟨_, rfl⟩
      have hrow := (unhide H).1
      have hBr := (unhide H).2.1
      have hal : acc.length ≤ 1 + 10 * k := by rw [← hacc]; have := (unhide H).2.2; simp; omega
      rw [hacc] at hrow
      have Hst := hide (show 34 :: qL s ((allL s).take (k + 1)) = acc ++ qP s x by rw [hst, ← hacc]; rfl)
      have Hql := hide (show (qL s ((allL s).take (k + 1))).length ≤ 10 * (k + 1) by rw [hst, List.length_append]; have := (unhide H).2.2; omega)
      have hsz := hBr.size
      have hgW : g < W1.heap.size := by
        rcases (unhide Hpr).2 with ⟨e, h0⟩ | ⟨g', cap, cur, e, e2, e3, _⟩
        · cases e
        · cases e
          exact (Array.getElem?_eq_some_iff.1 e3).1
      clear H hpw hst hacc hx hz
      cases hok : okR s x with
      | false =>
        have HP := hide (show qP s x = bxL (by_ s x) by
          have h65 := (ok_false_iff hok).1
          unfold qP rawB; rw [h65, hok]; rfl)
        rw [hok] at c3
        have hcal := hide (refTwo_in (by_ s x) (by_lt s x) wr)
        have hl4 : (ofL (bxL (by_ s x))).size = 4 := rfl
        clear hok
        go_wp2_with fail
        refine (unhide hcal).mono ?_
        rintro e V1 ⟨rfl, hV1⟩
        have hrow2 := owns1_below hrow hV1
        have hBr2 := hBr.trans (hV1.mono hsz)
        go_wp2_with (at_builtin; (refine wpList_append_own_string _ rfl _ _ 38 9 rfl W1.heap.size 5 i0 Tryz.underlying38 Tryz.underlying9 hi hz0 hz1 hz2 _ acc.length (byteCells acc) rfl hrow2 (ofL (bxL (by_ s x))) rfl (by unfold maxLen; omega) (by omega) hBr2.size ?_); intro v4 W4 ho4 hg4 _)
        go_roundw
        case rel =>
          rw [strCells_ofL, ← byteCells_append, ofL_size, ← List.length_append] at ho4
          exact ⟨k + 1, by omega, by go_num, hide ⟨by rw [unhide Hst, unhide HP]; exact ho4, hBr2.grown hg4 hBr2.size (fun j e => (hrow2.lt j e).1), unhide Hql⟩⟩
        case measure => simp [RowKit.intOf]; omega
      | true =>
        rw [hok] at c3
        by_cases h34 : rn s x = 34
        · have HP := hide (show qP s x = [92, 34] by unfold qP; rw [h34]; rfl)
          rw [h34] at c1
          go_wp2_with (at_builtin; refine wpList_append_own _ rfl _ _ 38 rfl W1.heap.size 5 i0 (.int .u8 0) 1 1 Tryz.underlying38 hi hz0 hz1 hz2 rfl (by decide) _ acc.length (byteCells acc) rfl (hrow.alloc _) ⟨wr.heap.size, 0, none⟩ 2 2 [.int .u8 92, .int .u8 34] rfl rfl (new_two _ _ _ _) (by simp [Value.oneCell']) (by unfold maxLen; omega) (by omega) (by simp; omega) ?_; intro v4 W4 ho4 hg4 _)
          go_roundw
          case rel =>
            exact ⟨k + 1, by omega, by go_num, hide ⟨by rw [unhide Hst, unhide HP, byteCells_append, List.length_append]; exact ho4, (hBr.alloc hsz _).grown hg4 (by simp; omega) (fun j e => (hrow.lt j e).1), unhide Hql⟩⟩
          case measure => simp [RowKit.intOf]; omega
        · have e34 : (((rn s x : Nat) : Int) == 34) = false := by rw [beq_eq_false_iff_ne]; omega
          by_cases h92 : rn s x = 92
          · have HP := hide (show qP s x = [92, 92] by unfold qP; rw [h92]; rfl)
            rw [h92] at c1
            clear e34
            go_wp2_with (at_builtin; refine wpList_append_own _ rfl _ _ 38 rfl W1.heap.size 5 i0 (.int .u8 0) 1 1 Tryz.underlying38 hi hz0 hz1 hz2 rfl (by decide) _ acc.length (byteCells acc) rfl (hrow.alloc _) ⟨wr.heap.size, 0, none⟩ 2 2 [.int .u8 92, .int .u8 92] rfl rfl (new_two _ _ _ _) (by simp [Value.oneCell']) (by unfold maxLen; omega) (by omega) (by simp; omega) ?_; intro v4 W4 ho4 hg4 _)
            go_roundw
            case rel =>
              exact ⟨k + 1, by omega, by go_num, hide ⟨by rw [unhide Hst, unhide HP, byteCells_append, List.length_append]; exact ho4, (hBr.alloc hsz _).grown hg4 (by simp; omega) (fun j e => (hrow.lt j e).1), unhide Hql⟩⟩
            case measure => simp [RowKit.intOf]; omega
          · have e92 : (((rn s x : Nat) : Int) == 92) = false := by rw [beq_eq_false_iff_ne]; omega
            by_cases h10 : rn s x = 10
            · have HP := hide (show qP s x = [92, 110] by unfold qP; rw [h10]; rfl)
              rw [h10] at c1
              clear e34
              clear e92
              go_wp2_with (at_builtin; refine wpList_append_own _ rfl _ _ 38 rfl W1.heap.size 5 i0 (.int .u8 0) 1 1 Tryz.underlying38 hi hz0 hz1 hz2 rfl (by decide) _ acc.length (byteCells acc) rfl (hrow.alloc _) ⟨wr.heap.size, 0, none⟩ 2 2 [.int .u8 92, .int .u8 110] rfl rfl (new_two _ _ _ _) (by simp [Value.oneCell']) (by unfold maxLen; omega) (by omega) (by simp; omega) ?_; intro v4 W4 ho4 hg4 _)
              go_roundw
              case rel =>
                exact ⟨k + 1, by omega, by go_num, hide ⟨by rw [unhide Hst, unhide HP, byteCells_append, List.length_append]; exact ho4, (hBr.alloc hsz _).grown hg4 (by simp; omega) (fun j e => (hrow.lt j e).1), unhide Hql⟩⟩
              case measure => simp [RowKit.intOf]; omega
            · have e10 : (((rn s x : Nat) : Int) == 10) = false := by rw [beq_eq_false_iff_ne]; omega
              by_cases h13 : rn s x = 13
              · have HP := hide (show qP s x = [92, 114] by unfold qP; rw [h13]; rfl)
                rw [h13] at c1
                clear e34
                clear e92
                clear e10
                go_wp2_with (at_builtin; refine wpList_append_own _ rfl _ _ 38 rfl W1.heap.size 5 i0 (.int .u8 0) 1 1 Tryz.underlying38 hi hz0 hz1 hz2 rfl (by decide) _ acc.length (byteCells acc) rfl (hrow.alloc _) ⟨wr.heap.size, 0, none⟩ 2 2 [.int .u8 92, .int .u8 114] rfl rfl (new_two _ _ _ _) (by simp [Value.oneCell']) (by unfold maxLen; omega) (by omega) (by simp; omega) ?_; intro v4 W4 ho4 hg4 _)
                go_roundw
                case rel =>
                  exact ⟨k + 1, by omega, by go_num, hide ⟨by rw [unhide Hst, unhide HP, byteCells_append, List.length_append]; exact ho4, (hBr.alloc hsz _).grown hg4 (by simp; omega) (fun j e => (hrow.lt j e).1), unhide Hql⟩⟩
                case measure => simp [RowKit.intOf]; omega
              · have e13 : (((rn s x : Nat) : Int) == 13) = false := by rw [beq_eq_false_iff_ne]; omega
                by_cases h9 : rn s x = 9
                · have HP := hide (show qP s x = [92, 116] by unfold qP; rw [h9]; rfl)
                  rw [h9] at c1
                  clear e34
                  clear e92
                  clear e10
                  clear e13
                  go_wp2_with (at_builtin; refine wpList_append_own _ rfl _ _ 38 rfl W1.heap.size 5 i0 (.int .u8 0) 1 1 Tryz.underlying38 hi hz0 hz1 hz2 rfl (by decide) _ acc.length (byteCells acc) rfl (hrow.alloc _) ⟨wr.heap.size, 0, none⟩ 2 2 [.int .u8 92, .int .u8 116] rfl rfl (new_two _ _ _ _) (by simp [Value.oneCell']) (by unfold maxLen; omega) (by omega) (by simp; omega) ?_; intro v4 W4 ho4 hg4 _)
                  go_roundw
                  case rel =>
                    exact ⟨k + 1, by omega, by go_num, hide ⟨by rw [unhide Hst, unhide HP, byteCells_append, List.length_append]; exact ho4, (hBr.alloc hsz _).grown hg4 (by simp; omega) (fun j e => (hrow.lt j e).1), unhide Hql⟩⟩
                  case measure => simp [RowKit.intOf]; omega
                · have e9 : (((rn s x : Nat) : Int) == 9) = false := by rw [beq_eq_false_iff_ne]; omega
                  have hl0 := ltN_none h34 h92 h10 h13 h9
                  by_cases hc : rn s x < 32 ∨ rn s x = 127
                  · have hlow := rn_low s x hxs (by omega)
                    have HP := hide (show qP s x = bxL (by_ s x) by
                      have hr : rawB s x = true := by
                        unfold rawB
                        rcases hc with h | h
                        · rw [decide_eq_true h]; rfl
                        · rw [decide_eq_true h]; simp
                      unfold qP; rw [if_neg (by rw [hl0]; decide), if_pos hr])
                    have hm8 : ((rn s x : Nat) : Int) % 256 = ((rn s x : Nat) : Int) := by omega
                    have hcal := hide (refTwo_in (rn s x) (by omega) wr)
                    have hl4 : (ofL (bxL (rn s x))).size = 4 := rfl
                    rw [hlow.1] at HP
                    have hcc : Hid (((rn s x : Nat) : Int) < 32 ∨ (¬ ((rn s x : Nat) : Int) < 32 ∧ (((rn s x : Nat) : Int) == 127) = true)) := hide (by
                      by_cases h : rn s x < 32
                      · left; omega
                      · right; exact ⟨by omega, by rw [beq_iff_eq]; omega⟩)
                    clear hl0 hc h34 h92 h10 h13 h9 hlow
                    obtain ⟨rr, hrr⟩ : ∃ rr, rn s x = rr := ⟨_, rfl⟩
                    rw [hrr] at c1 e34 e92 e10 e13 e9 hm8 hcc hcal hl4 HP
                    clear hrr hrl
                    rcases unhide hcc with hcc | ⟨hcc, hcd⟩
                    · go_wp2_with fail
                      refine (unhide hcal).mono ?_
                      rintro e V1 ⟨rfl, hV1⟩
                      have hrow2 := owns1_below hrow hV1
                      have hBr2 := hBr.trans (hV1.mono hsz)
                      go_wp2_with (at_builtin; (refine wpList_append_own_string _ rfl _ _ 38 9 rfl W1.heap.size 5 i0 Tryz.underlying38 Tryz.underlying9 hi hz0 hz1 hz2 _ acc.length (byteCells acc) rfl hrow2 (ofL (bxL rr)) rfl (by unfold maxLen; omega) (by omega) hBr2.size ?_); intro v4 W4 ho4 hg4 _)
                      go_roundw
                      case rel =>
                        rw [strCells_ofL, ← byteCells_append, ofL_size, ← List.length_append] at ho4
                        exact ⟨k + 1, by omega, by go_num, hide ⟨by rw [unhide Hst, unhide HP]; exact ho4, hBr2.grown hg4 hBr2.size (fun j e => (hrow2.lt j e).1), unhide Hql⟩⟩
                      case measure => simp [RowKit.intOf]; omega
                    · go_wp2_with fail
                      refine (unhide hcal).mono ?_
                      rintro e V1 ⟨rfl, hV1⟩
                      have hrow2 := owns1_below hrow hV1
                      have hBr2 := hBr.trans (hV1.mono hsz)
                      go_wp2_with (at_builtin; (refine wpList_append_own_string _ rfl _ _ 38 9 rfl W1.heap.size 5 i0 Tryz.underlying38 Tryz.underlying9 hi hz0 hz1 hz2 _ acc.length (byteCells acc) rfl hrow2 (ofL (bxL rr)) rfl (by unfold maxLen; omega) (by omega) hBr2.size ?_); intro v4 W4 ho4 hg4 _)
                      go_roundw
                      case rel =>
                        rw [strCells_ofL, ← byteCells_append, ofL_size, ← List.length_append] at ho4
                        exact ⟨k + 1, by omega, by go_num, hide ⟨by rw [unhide Hst, unhide HP]; exact ho4, hBr2.grown hg4 hBr2.size (fun j e => (hrow2.lt j e).1), unhide Hql⟩⟩
                      case measure => simp [RowKit.intOf]; omega
                  · have hraw : rawB s x = false := by unfold rawB; rw [decide_eq_false (by omega), decide_eq_false (by omega), hok]; rfl
                    have e32 : ¬ ((rn s x : Nat) : Int) < 32 := by omega
                    have e127 : (((rn s x : Nat) : Int) == 127) = false := by rw [beq_eq_false_iff_ne]; omega
                    have hhd := fun W => hide (refHidden_in (rn s x) hrl W)
                    cases hh : hidN (rn s x) with
                    | true =>
                      have HP := hide (show qP s x = uxL (rn s x) by unfold qP; rw [if_neg (by rw [hl0]; decide), if_neg (by rw [hraw]; decide), if_pos hh])
                      have hcal := hide (refBraces_in (rn s x) hrl wr)
                      have hl4 : (ofL (uxL (rn s x))).size ≤ 10 := by rw [ofL_size]; rw [unhide HP] at hq10; exact hq10
                      clear hl0 hc h34 h92 h10 h13 h9 hraw hq10
                      go_wp2_with (go_at_call 78; refine (unhide (hhd _)).mono ?_; rintro e w' ⟨rfl, rfl⟩)
                      refine (unhide hcal).mono ?_
                      rintro e V1 ⟨rfl, hV1⟩
                      have hrow2 := owns1_below hrow hV1
                      have hBr2 := hBr.trans (hV1.mono hsz)
                      go_wp2_with (at_builtin; (refine wpList_append_own_string _ rfl _ _ 38 9 rfl W1.heap.size 5 i0 Tryz.underlying38 Tryz.underlying9 hi hz0 hz1 hz2 _ acc.length (byteCells acc) rfl hrow2 (ofL (uxL (rn s x))) rfl (by unfold maxLen; omega) (by omega) hBr2.size ?_); intro v4 W4 ho4 hg4 _)
                      go_roundw
                      case rel =>
                        rw [strCells_ofL, ← byteCells_append, ofL_size, ← List.length_append] at ho4
                        exact ⟨k + 1, by omega, by go_num, hide ⟨by rw [unhide Hst, unhide HP]; exact ho4, hBr2.grown hg4 hBr2.size (fun j e => (hrow2.lt j e).1), unhide Hql⟩⟩
                      case measure => simp [RowKit.intOf]; omega
                    | false =>
                      have HP := hide (show qP s x = encL (rn s x : Nat) by unfold qP; rw [if_neg (by rw [hl0]; decide), if_neg (by rw [hraw]; decide), if_neg (by rw [hh]; decide)])
                      have hen := enc_ok s x hxs hok
                      have hw1 := wd_le s x hxs
                      clear hl0 hc h34 h92 h10 h13 h9 hraw hok
                      go_wp2_with (go_at_call 78; refine (unhide (hhd _)).mono ?_; rintro e w' ⟨rfl, rfl⟩)
                      refine wp_region_any (by kernel_rfl) ?_
                      change wpAny _ _ _ _ _ _ _ (World.drew _)
                      have hsz4 : (s.extract x (x + wd s x)).size = wd s x := by rw [ByteArray.size_extract]; omega
                      obtain ⟨v4, W4, hrun, ho4, hg4, _⟩ := run_append_own_string (P := Tryz.prog) wr.drew W1.heap.size 38 9 38 5 i0 Tryz.underlying38 Tryz.underlying9 hi hz0 hz1 hz2 u4 acc.length (byteCells acc) (show wr.drew.ownsRow _ _ _ _ _ _ from hrow) (s.extract x (x + wd s x)) (by rw [hsz4]; unfold maxLen; omega) (by rw [hsz4]; omega) hsz
                      have hB4 : Below W1.heap.size W1 W4 := hBr.drew.grown hg4 hsz (fun j e => (hrow.lt j e).1)
                      obtain ⟨Jo, hJo⟩ : ∃ Jo : (Nat → Bool) → World → Prop, Jo = fun f w => w = if f 19 then W4 else wr.drew := ⟨_, rfl⟩
                      have Jof : ∀ f w, Jo f w = (w = if f 19 then W4 else wr.drew) := fun f w => by rw [hJo]
                      have hJB : ∀ f w, Jo f w → Below W1.heap.size W1 w := by
                        intro f w h
                        rw [Jof] at h
                        subst h
                        split
                        · exact hB4
                        · exact hBr.drew
                      have hcells : ∀ V, Below W1.heap.size W1 V → V.cell? ⟨g, k * 4, none⟩ = some (.int .i64 (x : Int)) ∧ V.cell? ⟨g, k * 4 + 2, none⟩ = some (.int .i64 (wd s x : Nat)) := fun V hV => by
                        have e0 : wr.cell? ⟨g, k * 4, none⟩ = W1.cell? ⟨g, k * 4, none⟩ := hBr.cell (p := ⟨g, k * 4, none⟩) hgW
                        have e2 : wr.cell? ⟨g, k * 4 + 2, none⟩ = W1.cell? ⟨g, k * 4 + 2, none⟩ := hBr.cell (p := ⟨g, k * 4 + 2, none⟩) hgW
                        exact ⟨(hV.cell (p := ⟨g, k * 4, none⟩) hgW).trans (e0.symm.trans c0), (hV.cell (p := ⟨g, k * 4 + 2, none⟩) hgW).trans (e2.symm.trans c2)⟩
                      have j2 : (x : Int) + ((wd s x : Nat) : Int) ≤ (s.size : Int) := by omega
                      have j3 : (x : Int) ≤ (x : Int) + ((wd s x : Nat) : Int) := by omega
                      have j4 : ((x : Int) + ((wd s x : Nat) : Int)).toNat = x + wd s x := by omega
                      have j5 : (0 : Int) ≤ (x : Int) := Int.natCast_nonneg _
                      have j1 : IntKind.i64.wrap ((x : Int) + ((wd s x : Nat) : Int)) = (x : Int) + ((wd s x : Nat) : Int) := wrap64_two _ _ (by omega)
                      refine region_last 114 (fun j => if j = 20 then 4 else 23 + j) ((0, (Value.string s)) :: (1, undef) :: (2, (Value.string { data := #[] })) :: (3, (Value.slice (some { block := g, off := 0 }) L pc)) :: (5, (Value.int IntKind.i64 ↑k)) :: (6, (Value.int IntKind.i32 ↑(rn s x))) :: (7, (Value.string s)) :: (8, (Value.slice (some { block := g, off := 0 }) L pc)) :: (9, (Value.slice none 0 0)) :: (10, (Value.slice (some { block := W1.heap.size, off := 0 }) 1 1)) :: (11, b0) :: (12, (Value.int IntKind.i64 ↑k)) :: (13, (Value.slice (some { block := g, off := 0 }) L pc)) :: (14, (Value.int IntKind.i64 ↑L)) :: (15, (Value.bool true)) :: (16, u16) :: (17, u17) :: (18, (Value.slice (some { block := g, off := 0 }) L pc)) :: (19, (Value.int IntKind.i64 ↑k)) :: (20, (Value.pointer (some { block := g, off := k * 4 }))) :: (21, (Value.pointer (some { block := g, off := k * 4 + 1 }))) :: (22, (Value.int IntKind.i32 ↑(rn s x))) :: (43, (Value.bool false)) :: (44, (Value.slice (some { block := g, off := 0 }) L pc)) :: (45, (Value.int IntKind.i64 ↑k)) :: (46, (Value.pointer (some { block := g, off := k * 4 }))) :: (47, (Value.pointer (some { block := g, off := k * 4 + 3 }))) :: (48, (Value.bool true)) :: (49, (Value.bool false)) :: (50, u50) :: (51, u51) :: (52, u52) :: (53, u53) :: (54, u54) :: (55, u55) :: (56, u56) :: (57, u57) :: (58, u58) :: (59, u59) :: (60, (Value.bool false)) :: (61, (Value.int IntKind.i32 ↑(rn s x))) :: (62, (Value.bool false)) :: (63, u63) :: (64, u64) :: (65, u65) :: (66, (Value.bool false)) :: (67, (Value.int IntKind.i32 ↑(rn s x))) :: (68, (Value.bool false)) :: (69, u69) :: (70, u70) :: (71, u71) :: (72, (Value.bool false)) :: (73, (Value.int IntKind.i32 ↑(rn s x))) :: (74, (Value.bool false)) :: (75, u75) :: (76, u76) :: (77, u77) :: (78, (Value.bool false)) :: (79, (Value.int IntKind.i32 ↑(rn s x))) :: (80, (Value.bool false)) :: (81, u81) :: (82, u82) :: (83, u83) :: (84, (Value.bool false)) :: (85, (Value.int IntKind.i32 ↑(rn s x))) :: (86, (Value.bool false)) :: (87, u87) :: (88, u88) :: (89, u89) :: (90, (Value.bool false)) :: (91, (Value.int IntKind.i32 ↑(rn s x))) :: (92, (Value.bool false)) :: (93, (Value.bool false)) :: (94, (Value.int IntKind.i32 ↑(rn s x))) :: (95, (Value.bool false)) :: (96, (Value.bool false)) :: (97, u97) :: (98, u98) :: (99, u99) :: (100, u100) :: (101, u101) :: (102, (Value.bool false)) :: (103, (Value.int IntKind.i32 ↑(rn s x))) :: (104, (Value.bool false)) :: (105, u105) :: (106, u106) :: (107, u107) :: (108, u108) :: (109, undef) :: (110, undef) :: (111, undef) :: (112, undef) :: (113, undef) :: []) u4 Jo (valsOf [isV u4, isV (.string s), isV (Value.slice (some { block := g, off := 0 }) L pc), isV (.int .i64 (k : Int)), isV (.pointer (some ⟨g, k * 4, none⟩)), isV (.pointer (some ⟨g, k * 4, none⟩)), isV (.int .i64 (x : Int)), isV (Value.slice (some { block := g, off := 0 }) L pc), isV (.int .i64 (k : Int)), isV (.pointer (some ⟨g, k * 4, none⟩)), isV (.pointer (some ⟨g, k * 4, none⟩)), isV (.int .i64 (x : Int)), isV (Value.slice (some { block := g, off := 0 }) L pc), isV (.int .i64 (k : Int)), isV (.pointer (some ⟨g, k * 4, none⟩)), isV (.pointer (some ⟨g, k * 4 + 2, none⟩)), isV (.int .i64 (wd s x : Nat)), isV (.int .i64 ((x : Int) + ((wd s x : Nat) : Int))), isV (.string (s.extract x (x + wd s x))), isV v4, isV v4]) (fun w w' => w.heap.size ≤ w'.heap.size) ?fit ?last (fun j f => valsOf_stable (Stables.all ?stable) j) [] ?gs ?gv ?steps ?fin _ _ ?sz rfl ?base rfl (by rw [Jof]; simp)
                      case fit => kernel_rfl
                      case last => kernel_rfl
                      case sz => rfl
                      case gs => kernel_rfl
                      case gv => intro p hp; cases hp
                      case base => intro p hp; repeat (first | (rcases List.mem_cons.1 hp with rfl | hp; · rfl) | cases hp)
                      case stable => repeat (first | exact .nil | refine .same ?_)
                      case steps =>
                        refine .cons (fun f ρ w hno hyes hρ hJ hu hb hd => by
                          have d0 : ρ (.tmp 4) = u4 := hu
                          exact step_move (.tmp 4) rfl ⟨Nat.le_refl _, by rw [Jof] at hJ ⊢; simpa using hJ, d0⟩) ?_
                        refine .cons (fun f ρ w hno hyes hρ hJ hu hb hd => by
                          have d0 : ρ (.tmp 0) = (Value.string s) := hb (0, _) (List.mem_of_getElem? (i := 0) rfl)
                          exact step_move (.tmp 0) rfl ⟨Nat.le_refl _, by rw [Jof] at hJ ⊢; simpa using hJ, d0⟩) ?_
                        refine .cons (fun f ρ w hno hyes hρ hJ hu hb hd => by
                          have d0 : ρ (.tmp 3) = (Value.slice (some { block := g, off := 0 }) L pc) := hb (3, _) (List.mem_of_getElem? (i := 3) rfl)
                          exact step_move (.tmp 3) rfl ⟨Nat.le_refl _, by rw [Jof] at hJ ⊢; simpa using hJ, d0⟩) ?_
                        refine .cons (fun f ρ w hno hyes hρ hJ hu hb hd => by
                          have d0 : ρ (.tmp 5) = (Value.int IntKind.i64 ↑k) := hb (5, _) (List.mem_of_getElem? (i := 4) rfl)
                          exact step_move (.tmp 5) rfl ⟨Nat.le_refl _, by rw [Jof] at hJ ⊢; simpa using hJ, d0⟩) ?_
                        refine .cons (fun f ρ w hno hyes hρ hJ hu hb hd => by
                          have d0 : ρ (.tmp 25) = (Value.slice (some { block := g, off := 0 }) L pc) := hd 0 _ rfl rfl
                          have d1 : ρ (.tmp 26) = (.int .i64 (k : Int)) := hd 1 _ rfl rfl
                          exact step_val (v := (.pointer (some ⟨g, k * 4, none⟩))) (w' := w) (by simp [go_sem, execOp, d0, d1, hρ.const, i1, i2, j1, j2, j3, j4, j5]) ⟨Nat.le_refl _, by rw [Jof] at hJ ⊢; simpa using hJ, rfl⟩) ?_
                        refine .cons (fun f ρ w hno hyes hρ hJ hu hb hd => by
                          have d0 : ρ (.tmp 27) = (.pointer (some ⟨g, k * 4, none⟩)) := hd 0 _ rfl rfl
                          exact step_val (v := (.pointer (some ⟨g, k * 4, none⟩))) (w' := w) (by simp [go_sem, execOp, d0, hρ.const, i1, i2, j1, j2, j3, j4, j5]) ⟨Nat.le_refl _, by rw [Jof] at hJ ⊢; simpa using hJ, rfl⟩) ?_
                        refine .cons (fun f ρ w hno hyes hρ hJ hu hb hd => by
                          have d0 : ρ (.tmp 28) = (.pointer (some ⟨g, k * 4, none⟩)) := hd 0 _ rfl rfl
                          have hc1 := (hcells w (hJB f w hJ)).1
                          exact step_val (v := (.int .i64 (x : Int))) (w' := w) (by simp [go_sem, execOp, d0, hc1]) ⟨Nat.le_refl _, by rw [Jof] at hJ ⊢; simpa using hJ, rfl⟩) ?_
                        refine .cons (fun f ρ w hno hyes hρ hJ hu hb hd => by
                          have d0 : ρ (.tmp 3) = (Value.slice (some { block := g, off := 0 }) L pc) := hb (3, _) (List.mem_of_getElem? (i := 3) rfl)
                          exact step_move (.tmp 3) rfl ⟨Nat.le_refl _, by rw [Jof] at hJ ⊢; simpa using hJ, d0⟩) ?_
                        refine .cons (fun f ρ w hno hyes hρ hJ hu hb hd => by
                          have d0 : ρ (.tmp 5) = (Value.int IntKind.i64 ↑k) := hb (5, _) (List.mem_of_getElem? (i := 4) rfl)
                          exact step_move (.tmp 5) rfl ⟨Nat.le_refl _, by rw [Jof] at hJ ⊢; simpa using hJ, d0⟩) ?_
                        refine .cons (fun f ρ w hno hyes hρ hJ hu hb hd => by
                          have d0 : ρ (.tmp 30) = (Value.slice (some { block := g, off := 0 }) L pc) := hd 0 _ rfl rfl
                          have d1 : ρ (.tmp 31) = (.int .i64 (k : Int)) := hd 1 _ rfl rfl
                          exact step_val (v := (.pointer (some ⟨g, k * 4, none⟩))) (w' := w) (by simp [go_sem, execOp, d0, d1, hρ.const, i1, i2, j1, j2, j3, j4, j5]) ⟨Nat.le_refl _, by rw [Jof] at hJ ⊢; simpa using hJ, rfl⟩) ?_
                        refine .cons (fun f ρ w hno hyes hρ hJ hu hb hd => by
                          have d0 : ρ (.tmp 32) = (.pointer (some ⟨g, k * 4, none⟩)) := hd 0 _ rfl rfl
                          exact step_val (v := (.pointer (some ⟨g, k * 4, none⟩))) (w' := w) (by simp [go_sem, execOp, d0, hρ.const, i1, i2, j1, j2, j3, j4, j5]) ⟨Nat.le_refl _, by rw [Jof] at hJ ⊢; simpa using hJ, rfl⟩) ?_
                        refine .cons (fun f ρ w hno hyes hρ hJ hu hb hd => by
                          have d0 : ρ (.tmp 33) = (.pointer (some ⟨g, k * 4, none⟩)) := hd 0 _ rfl rfl
                          have hc1 := (hcells w (hJB f w hJ)).1
                          exact step_val (v := (.int .i64 (x : Int))) (w' := w) (by simp [go_sem, execOp, d0, hc1]) ⟨Nat.le_refl _, by rw [Jof] at hJ ⊢; simpa using hJ, rfl⟩) ?_
                        refine .cons (fun f ρ w hno hyes hρ hJ hu hb hd => by
                          have d0 : ρ (.tmp 3) = (Value.slice (some { block := g, off := 0 }) L pc) := hb (3, _) (List.mem_of_getElem? (i := 3) rfl)
                          exact step_move (.tmp 3) rfl ⟨Nat.le_refl _, by rw [Jof] at hJ ⊢; simpa using hJ, d0⟩) ?_
                        refine .cons (fun f ρ w hno hyes hρ hJ hu hb hd => by
                          have d0 : ρ (.tmp 5) = (Value.int IntKind.i64 ↑k) := hb (5, _) (List.mem_of_getElem? (i := 4) rfl)
                          exact step_move (.tmp 5) rfl ⟨Nat.le_refl _, by rw [Jof] at hJ ⊢; simpa using hJ, d0⟩) ?_
                        refine .cons (fun f ρ w hno hyes hρ hJ hu hb hd => by
                          have d0 : ρ (.tmp 35) = (Value.slice (some { block := g, off := 0 }) L pc) := hd 0 _ rfl rfl
                          have d1 : ρ (.tmp 36) = (.int .i64 (k : Int)) := hd 1 _ rfl rfl
                          exact step_val (v := (.pointer (some ⟨g, k * 4, none⟩))) (w' := w) (by simp [go_sem, execOp, d0, d1, hρ.const, i1, i2, j1, j2, j3, j4, j5]) ⟨Nat.le_refl _, by rw [Jof] at hJ ⊢; simpa using hJ, rfl⟩) ?_
                        refine .cons (fun f ρ w hno hyes hρ hJ hu hb hd => by
                          have d0 : ρ (.tmp 37) = (.pointer (some ⟨g, k * 4, none⟩)) := hd 0 _ rfl rfl
                          exact step_val (v := (.pointer (some ⟨g, k * 4 + 2, none⟩))) (w' := w) (by simp [go_sem, execOp, d0, hρ.const, i1, i2, j1, j2, j3, j4, j5]) ⟨Nat.le_refl _, by rw [Jof] at hJ ⊢; simpa using hJ, rfl⟩) ?_
                        refine .cons (fun f ρ w hno hyes hρ hJ hu hb hd => by
                          have d0 : ρ (.tmp 38) = (.pointer (some ⟨g, k * 4 + 2, none⟩)) := hd 0 _ rfl rfl
                          have hc1 := (hcells w (hJB f w hJ)).2
                          exact step_val (v := (.int .i64 (wd s x : Nat))) (w' := w) (by simp [go_sem, execOp, d0, hc1]) ⟨Nat.le_refl _, by rw [Jof] at hJ ⊢; simpa using hJ, rfl⟩) ?_
                        refine .cons (fun f ρ w hno hyes hρ hJ hu hb hd => by
                          have d0 : ρ (.tmp 34) = (.int .i64 (x : Int)) := hd 0 _ rfl rfl
                          have d1 : ρ (.tmp 39) = (.int .i64 (wd s x : Nat)) := hd 1 _ rfl rfl
                          exact step_val (v := (.int .i64 ((x : Int) + ((wd s x : Nat) : Int)))) (w' := w) (by simp [go_sem, execOp, d0, d1, hρ.const, i1, i2, j1, j2, j3, j4, j5]) ⟨Nat.le_refl _, by rw [Jof] at hJ ⊢; simpa using hJ, rfl⟩) ?_
                        refine .cons (fun f ρ w hno hyes hρ hJ hu hb hd => by
                          have d0 : ρ (.tmp 24) = (.string s) := hd 0 _ rfl rfl
                          have d1 : ρ (.tmp 29) = (.int .i64 (x : Int)) := hd 1 _ rfl rfl
                          have d2 : ρ (.tmp 40) = (.int .i64 ((x : Int) + ((wd s x : Nat) : Int))) := hd 2 _ rfl rfl
                          exact step_val (v := (.string (s.extract x (x + wd s x)))) (w' := w) (by simp [go_sem, execOp, d0, d1, d2, hρ.const, i1, i2, j1, j2, j3, j4, j5]) ⟨Nat.le_refl _, by rw [Jof] at hJ ⊢; simpa using hJ, rfl⟩) ?_
                        refine .cons (fun f ρ w hno hyes hρ hJ hu hb hd => by
                          have d0 : ρ (.tmp 23) = u4 := hd 0 _ rfl rfl
                          have d1 : ρ (.tmp 41) = (.string (s.extract x (x + wd s x))) := hd 1 _ rfl rfl
                          have e1 : w = wr.drew := by
                            rw [Jof] at hJ
                            simpa [hno 19 (.inl rfl)] using hJ
                          subst e1
                          exact step_val (v := v4) (w' := W4) (run_append2 (.tmp 23) (.tmp 41) 38 9 rfl d0 d1 hrun) ⟨hg4.size, by rw [Jof]; simp, rfl⟩) ?_
                        refine .cons (fun f ρ w hno hyes hρ hJ hu hb hd => by
                          have d0 : ρ (.tmp 42) = v4 := hd 0 _ rfl rfl
                          exact step_assign (.tmp 42) rfl ⟨Nat.le_refl _, by rw [Jof] at hJ ⊢; simpa using hJ, d0⟩) (.nil _)
                      case fin =>
                        intro ac W5 hsz2 hds hb hJ hv
                        obtain ⟨f, hf, hJ⟩ := hJ
                        obtain rfl : W5 = W4 := by rw [Jof, hf 19 (by decide)] at hJ; simpa using hJ
                        obtain rfl := frame_of (((0, (Value.string s)) :: (1, undef) :: (2, (Value.string { data := #[] })) :: (3, (Value.slice (some { block := g, off := 0 }) L pc)) :: (5, (Value.int IntKind.i64 ↑k)) :: (6, (Value.int IntKind.i32 ↑(rn s x))) :: (7, (Value.string s)) :: (8, (Value.slice (some { block := g, off := 0 }) L pc)) :: (9, (Value.slice none 0 0)) :: (10, (Value.slice (some { block := W1.heap.size, off := 0 }) 1 1)) :: (11, b0) :: (12, (Value.int IntKind.i64 ↑k)) :: (13, (Value.slice (some { block := g, off := 0 }) L pc)) :: (14, (Value.int IntKind.i64 ↑L)) :: (15, (Value.bool true)) :: (16, u16) :: (17, u17) :: (18, (Value.slice (some { block := g, off := 0 }) L pc)) :: (19, (Value.int IntKind.i64 ↑k)) :: (20, (Value.pointer (some { block := g, off := k * 4 }))) :: (21, (Value.pointer (some { block := g, off := k * 4 + 1 }))) :: (22, (Value.int IntKind.i32 ↑(rn s x))) :: (43, (Value.bool false)) :: (44, (Value.slice (some { block := g, off := 0 }) L pc)) :: (45, (Value.int IntKind.i64 ↑k)) :: (46, (Value.pointer (some { block := g, off := k * 4 }))) :: (47, (Value.pointer (some { block := g, off := k * 4 + 3 }))) :: (48, (Value.bool true)) :: (49, (Value.bool false)) :: (50, u50) :: (51, u51) :: (52, u52) :: (53, u53) :: (54, u54) :: (55, u55) :: (56, u56) :: (57, u57) :: (58, u58) :: (59, u59) :: (60, (Value.bool false)) :: (61, (Value.int IntKind.i32 ↑(rn s x))) :: (62, (Value.bool false)) :: (63, u63) :: (64, u64) :: (65, u65) :: (66, (Value.bool false)) :: (67, (Value.int IntKind.i32 ↑(rn s x))) :: (68, (Value.bool false)) :: (69, u69) :: (70, u70) :: (71, u71) :: (72, (Value.bool false)) :: (73, (Value.int IntKind.i32 ↑(rn s x))) :: (74, (Value.bool false)) :: (75, u75) :: (76, u76) :: (77, u77) :: (78, (Value.bool false)) :: (79, (Value.int IntKind.i32 ↑(rn s x))) :: (80, (Value.bool false)) :: (81, u81) :: (82, u82) :: (83, u83) :: (84, (Value.bool false)) :: (85, (Value.int IntKind.i32 ↑(rn s x))) :: (86, (Value.bool false)) :: (87, u87) :: (88, u88) :: (89, u89) :: (90, (Value.bool false)) :: (91, (Value.int IntKind.i32 ↑(rn s x))) :: (92, (Value.bool false)) :: (93, (Value.bool false)) :: (94, (Value.int IntKind.i32 ↑(rn s x))) :: (95, (Value.bool false)) :: (96, (Value.bool false)) :: (97, u97) :: (98, u98) :: (99, u99) :: (100, u100) :: (101, u101) :: (102, (Value.bool false)) :: (103, (Value.int IntKind.i32 ↑(rn s x))) :: (104, (Value.bool false)) :: (105, u105) :: (106, u106) :: (107, u107) :: (108, u108) :: (109, undef) :: (110, undef) :: (111, undef) :: (112, undef) :: (113, undef) :: []) ++ [(23, u4), (24, (.string s)), (25, (Value.slice (some { block := g, off := 0 }) L pc)), (26, (.int .i64 (k : Int))), (27, (.pointer (some ⟨g, k * 4, none⟩))), (28, (.pointer (some ⟨g, k * 4, none⟩))), (29, (.int .i64 (x : Int))), (30, (Value.slice (some { block := g, off := 0 }) L pc)), (31, (.int .i64 (k : Int))), (32, (.pointer (some ⟨g, k * 4, none⟩))), (33, (.pointer (some ⟨g, k * 4, none⟩))), (34, (.int .i64 (x : Int))), (35, (Value.slice (some { block := g, off := 0 }) L pc)), (36, (.int .i64 (k : Int))), (37, (.pointer (some ⟨g, k * 4, none⟩))), (38, (.pointer (some ⟨g, k * 4 + 2, none⟩))), (39, (.int .i64 (wd s x : Nat))), (40, (.int .i64 ((x : Int) + ((wd s x : Nat) : Int)))), (41, (.string (s.extract x (x + wd s x)))), (42, v4), (4, v4)]) ((Value.string s) :: undef :: (Value.string { data := #[] }) :: (Value.slice (some { block := g, off := 0 }) L pc) :: v4 :: (Value.int IntKind.i64 ↑k) :: (Value.int IntKind.i32 ↑(rn s x)) :: (Value.string s) :: (Value.slice (some { block := g, off := 0 }) L pc) :: (Value.slice none 0 0) :: (Value.slice (some { block := W1.heap.size, off := 0 }) 1 1) :: b0 :: (Value.int IntKind.i64 ↑k) :: (Value.slice (some { block := g, off := 0 }) L pc) :: (Value.int IntKind.i64 ↑L) :: (Value.bool true) :: u16 :: u17 :: (Value.slice (some { block := g, off := 0 }) L pc) :: (Value.int IntKind.i64 ↑k) :: (Value.pointer (some { block := g, off := k * 4 })) :: (Value.pointer (some { block := g, off := k * 4 + 1 })) :: (Value.int IntKind.i32 ↑(rn s x)) :: u4 :: (.string s) :: (Value.slice (some { block := g, off := 0 }) L pc) :: (.int .i64 (k : Int)) :: (.pointer (some ⟨g, k * 4, none⟩)) :: (.pointer (some ⟨g, k * 4, none⟩)) :: (.int .i64 (x : Int)) :: (Value.slice (some { block := g, off := 0 }) L pc) :: (.int .i64 (k : Int)) :: (.pointer (some ⟨g, k * 4, none⟩)) :: (.pointer (some ⟨g, k * 4, none⟩)) :: (.int .i64 (x : Int)) :: (Value.slice (some { block := g, off := 0 }) L pc) :: (.int .i64 (k : Int)) :: (.pointer (some ⟨g, k * 4, none⟩)) :: (.pointer (some ⟨g, k * 4 + 2, none⟩)) :: (.int .i64 (wd s x : Nat)) :: (.int .i64 ((x : Int) + ((wd s x : Nat) : Int))) :: (.string (s.extract x (x + wd s x))) :: v4 :: (Value.bool false) :: (Value.slice (some { block := g, off := 0 }) L pc) :: (Value.int IntKind.i64 ↑k) :: (Value.pointer (some { block := g, off := k * 4 })) :: (Value.pointer (some { block := g, off := k * 4 + 3 })) :: (Value.bool true) :: (Value.bool false) :: u50 :: u51 :: u52 :: u53 :: u54 :: u55 :: u56 :: u57 :: u58 :: u59 :: (Value.bool false) :: (Value.int IntKind.i32 ↑(rn s x)) :: (Value.bool false) :: u63 :: u64 :: u65 :: (Value.bool false) :: (Value.int IntKind.i32 ↑(rn s x)) :: (Value.bool false) :: u69 :: u70 :: u71 :: (Value.bool false) :: (Value.int IntKind.i32 ↑(rn s x)) :: (Value.bool false) :: u75 :: u76 :: u77 :: (Value.bool false) :: (Value.int IntKind.i32 ↑(rn s x)) :: (Value.bool false) :: u81 :: u82 :: u83 :: (Value.bool false) :: (Value.int IntKind.i32 ↑(rn s x)) :: (Value.bool false) :: u87 :: u88 :: u89 :: (Value.bool false) :: (Value.int IntKind.i32 ↑(rn s x)) :: (Value.bool false) :: (Value.bool false) :: (Value.int IntKind.i32 ↑(rn s x)) :: (Value.bool false) :: (Value.bool false) :: u97 :: u98 :: u99 :: u100 :: u101 :: (Value.bool false) :: (Value.int IntKind.i32 ↑(rn s x)) :: (Value.bool false) :: u105 :: u106 :: u107 :: u108 :: undef :: undef :: undef :: undef :: undef :: []) hsz2 hds (fun p hp => by
                          rcases List.mem_append.1 hp with h | h
                          · exact hb p h
                          · simp only [List.mem_cons, List.not_mem_nil, or_false] at h
                            rcases h with rfl | rfl | rfl | rfl | rfl | rfl | rfl | rfl | rfl | rfl | rfl | rfl | rfl | rfl | rfl | rfl | rfl | rfl | rfl | rfl | rfl
                            · exact hv 0 (by decide)
                            · exact hv 1 (by decide)
                            · exact hv 2 (by decide)
                            · exact hv 3 (by decide)
                            · exact hv 4 (by decide)
                            · exact hv 5 (by decide)
                            · exact hv 6 (by decide)
                            · exact hv 7 (by decide)
                            · exact hv 8 (by decide)
                            · exact hv 9 (by decide)
                            · exact hv 10 (by decide)
                            · exact hv 11 (by decide)
                            · exact hv 12 (by decide)
                            · exact hv 13 (by decide)
                            · exact hv 14 (by decide)
                            · exact hv 15 (by decide)
                            · exact hv 16 (by decide)
                            · exact hv 17 (by decide)
                            · exact hv 18 (by decide)
                            · exact hv 19 (by decide)
                            · exact hv 20 (by decide)) rfl
                        clear hb hv hds hsz2
                        go_wp2
                        go_roundw
                        case rel =>
                          have hcs : strCells (s.extract x (x + wd s x)) = byteCells (encL (rn s x : Nat)) := by rw [hen]; exact strCells_sub s x _ hw1.1
                          rw [hcs, ← byteCells_append, hsz4, show wd s x = (encL (rn s x : Nat)).length by rw [hen, subL_len s x _ hw1.1], ← List.length_append] at ho4
                          exact ⟨k + 1, by omega, by go_num, hide ⟨by rw [unhide Hst, unhide HP]; exact ho4, hB4, unhide Hql⟩⟩
                        case measure => simp [RowKit.intOf]; omega
    · have HE := hide (show qT s = ofL ((34 :: qL s ((allL s).take k)) ++ [34]) by
        have : (allL s).take k = allL s := List.take_of_length_le (by rw [unhide HL]; omega)
        rw [this]; rfl)
      have i1 : ¬ (k : Int) < (L : Int) := by omega
      obtain ⟨hrow, hBr, hal⟩ := unhide H
      generalize qL s ((allL s).take k) = ql at *
      have hsz := hBr.size
      go_wp2_with (at_builtin; refine wpList_append_own _ rfl _ _ 38 rfl W1.heap.size 5 i0 (.int .u8 0) 1 1 Tryz.underlying38 hi hz0 hz1 hz2 rfl (by decide) _ (34 :: ql).length (byteCells (34 :: ql)) rfl (hrow.alloc _) ⟨wr.heap.size, 0, none⟩ 1 1 [.int .u8 34] rfl rfl (cell_one_new _ _ _) (by simp [Value.oneCell']) (by unfold maxLen; simp; omega) (by simp; omega) (by simp; omega) ?_; intro v4 W4 ho4 hg4 _; have hcv := conv_own (l := (34 :: ql) ++ [34]) (by rw [byteCells_append]; exact ho4) (by simp) (by simp); have hB4 := hide ((hBr.alloc hsz _).grown hg4 (by simp; omega) (fun j e => (hrow.lt j e).1)); clear ho4 hg4)
      go_ret
      exact ⟨by rw [unhide HE]; rfl, (unhide HB1).trans ((unhide hB4).mono (unhide HB1).size)⟩

end Go.Proofs.YtkndjbmlkfpfoaaGreatDoor
