/-
  What the document's own begins, Decode and Last answer, for every text and every number.
-/
import Derived.Test.YtkkolefionbbcaaGreatZXBeg
import Derived.Test.YtkkolefionbbcaaGreatZXPure
import Derived.Maps.AppendAt

set_option linter.unusedSimpArgs false
set_option linter.unusedVariables false
namespace Go.Proofs.YtkkolefionbbcaaGreat
open Go.RowKit Go.Lib

theorem begins_in (s : ByteArray) (k : Nat) (w : World) (hs : s.size ≤ 140737488355328) (hk : k < s.size) :
    Calls Tryz.prog 117 #[.string s, .int .i64 k] w fun e w' => e = .returned (.tuple #[.int .i32 (bR s k), .int .i64 (bN s k)]) ∧ ∃ n, w' = w.drewN n := by
  have hl := by_lt s k
  have up : ∀ {R : Ending → World → Prop}, (∀ e w', R e w' → e = .returned (.tuple #[.int .i32 (bR s k), .int .i64 (bN s k)]) ∧ w = w') → Calls Tryz.prog 117 #[.string s, .int .i64 k] w R → Calls Tryz.prog 117 #[.string s, .int .i64 k] w fun e w' => e = .returned (.tuple #[.int .i32 (bR s k), .int .i64 (bN s k)]) ∧ ∃ n, w' = w.drewN n :=
    fun h c => c.mono fun e w' r => ⟨(h e w' r).1, 0, (h e w' r).2.symm⟩
  rcases (by omega : by_ s k ≤ 127 ∨ (128 ≤ by_ s k ∧ by_ s k ≤ 193) ∨ (194 ≤ by_ s k ∧ by_ s k ≤ 223) ∨ (224 ≤ by_ s k ∧ by_ s k ≤ 224) ∨ (225 ≤ by_ s k ∧ by_ s k ≤ 236) ∨ (237 ≤ by_ s k ∧ by_ s k ≤ 237) ∨ (238 ≤ by_ s k ∧ by_ s k ≤ 239) ∨ (240 ≤ by_ s k ∧ by_ s k ≤ 240) ∨ (241 ≤ by_ s k ∧ by_ s k ≤ 243) ∨ (244 ≤ by_ s k ∧ by_ s k ≤ 244) ∨ (245 ≤ by_ s k ∧ by_ s k ≤ 255)) with h | ⟨h, h'⟩ | ⟨h, h'⟩ | ⟨h, h'⟩ | ⟨h, h'⟩ | ⟨h, h'⟩ | ⟨h, h'⟩ | ⟨h, h'⟩ | ⟨h, h'⟩ | ⟨h, h'⟩ | ⟨h, h'⟩
  · exact up (fun _ _ x => x) (begins_00 s k w hs hk h)
  · exact up (fun _ _ x => x) (begins_A1 s k w hs hk h h')
  · exact up (fun _ _ x => x) (begins_C2 s k w hs hk h h')
  · exact up (fun _ _ x => x) (begins_E0 s k w hs hk h h')
  · exact up (fun _ _ x => x) (begins_E1 s k w hs hk h h')
  · exact up (fun _ _ x => x) (begins_ED s k w hs hk h h')
  · exact up (fun _ _ x => x) (begins_EE s k w hs hk h h')
  · exact begins_F0 s k w hs hk h h'
  · exact begins_F1 s k w hs hk h h'
  · exact begins_F4 s k w hs hk h h'
  · exact up (fun _ _ x => x) (begins_F5 s k w hs hk h h')

set_option maxHeartbeats 1000000 in
theorem refDecode_any (s : ByteArray) (a : Int) (w : World) (hs : s.size ≤ 140737488355328) :
    Calls Tryz.prog 116 #[.string s, .int .i64 a] w fun e w' => e = .returned (.tuple #[.int .i32 (dR s a), .int .i64 (dN s a), .bool (dK s a)]) ∧ ∃ n, w' = w.drewN n := by
  by_cases hlo : a < 0
  · have hc : ¬ (0 ≤ a ∧ a < s.size) := by omega
    have e1 : dR s a = 0 := by unfold dR; rw [if_neg hc]
    have e2 : dN s a = 0 := by unfold dN; rw [if_neg hc]
    have e3 : dK s a = false := by unfold dK; rw [if_neg hc]
    rw [e1, e2, e3]
    go_enter Tryz.func116, Tryz.ntmps116
    go_wp2
    go_ret3
    exact ⟨rfl, 0, rfl⟩
  · by_cases hhi : (s.size : Int) ≤ a
    · have hc : ¬ (0 ≤ a ∧ a < s.size) := by omega
      have e1 : dR s a = 0 := by unfold dR; rw [if_neg hc]
      have e2 : dN s a = 0 := by unfold dN; rw [if_neg hc]
      have e3 : dK s a = false := by unfold dK; rw [if_neg hc]
      rw [e1, e2, e3]
      go_enter Tryz.func116, Tryz.ntmps116
      go_wp2
      go_ret3
      exact ⟨rfl, 0, rfl⟩
    · obtain ⟨k, rfl⟩ := Int.eq_ofNat_of_zero_le (show 0 ≤ a by omega)
      have hk : k < s.size := by omega
      rw [dR_in s k hk, dN_in s k hk, dK_in s k hk]
      have hp := wd_pos s k hk
      cases ho : okR s k with
      | false =>
        obtain ⟨h1, h2⟩ := ok_false_iff ho
        have e1 : bR s k = 0 := by unfold bR; rw [ho]; rfl
        have e2 : bN s k = 0 := by unfold bN; rw [ho]; rfl
        rw [h1, h2]
        go_enter Tryz.func116, Tryz.ntmps116
        go_wp2_with (go_at_call 117; refine (begins_in s k _ hs hk).mono ?_; rintro r w' ⟨rfl, nd, rfl⟩; simp only [e1, e2])
        go_ret3
        exact ⟨rfl, nd, rfl⟩
      | true =>
        have e1 : bR s k = rn s k := by unfold bR; rw [ho]; rfl
        have e2 : bN s k = wd s k := by unfold bN; rw [ho]; rfl
        have hne : ((wd s k : Int) == 0) = false := by rw [beq_eq_false_iff_ne]; omega
        go_enter Tryz.func116, Tryz.ntmps116
        go_wp2_with (go_at_call 117; refine (begins_in s k _ hs hk).mono ?_; rintro r w' ⟨rfl, nd, rfl⟩; simp only [e1, e2])
        go_ret3
        exact ⟨rfl, nd, rfl⟩

end Go.Proofs.YtkkolefionbbcaaGreat

/-
  How wide a piece of a text is (pure).
-/
set_option linter.unusedSimpArgs false
set_option linter.unusedVariables false
namespace Go.Proofs.YtkkolefionbbcaaGreat
open Go.RowKit Go.Lib

theorem ok_cases (s : ByteArray) (k : Nat) (hk : k < s.size) (ho : okR s k = true) :
    (by_ s k ≤ 127 ∧ rn s k = by_ s k ∧ wd s k = 1) ∨
    (hW (by_ s k) = 2 ∧ k + 2 ≤ s.size ∧ g1 s k ∧ rn s k = by_ s k % 32 * 64 + by_ s (k + 1) % 64 ∧ wd s k = 2) ∨
    (hW (by_ s k) = 3 ∧ k + 3 ≤ s.size ∧ g1 s k ∧ g2 s k ∧ rn s k = by_ s k % 16 * 4096 + by_ s (k + 1) % 64 * 64 + by_ s (k + 2) % 64 ∧ wd s k = 3) ∨
    (hW (by_ s k) = 4 ∧ k + 4 ≤ s.size ∧ g1 s k ∧ g2 s k ∧ g3 s k ∧ rn s k = by_ s k % 8 * 262144 + by_ s (k + 1) % 64 * 4096 + by_ s (k + 2) % 64 * 64 + by_ s (k + 3) % 64 ∧ wd s k = 4) := by
  have h4 := hW_le (by_ s k)
  have no : ∀ {P : Prop}, Utf8.decode s k = (65533, 1) → P := fun h => by rw [ok_bad h] at ho; cases ho
  by_cases h1 : by_ s k ≤ 127
  · have hd := dec_one s k h1
    exact .inl ⟨h1, rn_of hd, wd_of hd⟩
  · by_cases h0 : hW (by_ s k) = 0
    · exact no (dec_bad s k h0)
    · by_cases hn : s.size - k < hW (by_ s k)
      · exact no (dec_short s k hk hn)
      · have hne : hW (by_ s k) ≠ 1 := by unfold hW; (repeat' split) <;> omega
        by_cases hg1 : g1 s k
        · rcases (by omega : hW (by_ s k) = 2 ∨ hW (by_ s k) = 3 ∨ hW (by_ s k) = 4) with hc | hc | hc
          · have hd := dec_two s k hk hc (by omega) hg1
            exact .inr (.inl ⟨hc, by omega, hg1, rn_of hd, wd_of hd⟩)
          · by_cases hg2 : g2 s k
            · have hd := dec_three s k hk hc (by omega) hg1 hg2
              exact .inr (.inr (.inl ⟨hc, by omega, hg1, hg2, rn_of hd, wd_of hd⟩))
            · exact no (dec_no2 s k hk (by omega) hg2)
          · by_cases hg2 : g2 s k
            · by_cases hg3 : g3 s k
              · have hd := dec_four s k hk hc (by omega) hg1 hg2 hg3
                exact .inr (.inr (.inr ⟨hc, by omega, hg1, hg2, hg3, rn_of hd, wd_of hd⟩))
              · exact no (dec_no3 s k hk hc hg3)
            · exact no (dec_no2 s k hk (by omega) hg2)
        · exact no (dec_no1 s k hk (by omega) hg1)

theorem hW2_range {b : Nat} (h : hW b = 2) : 194 ≤ b ∧ b ≤ 223 := by unfold hW at h; (repeat' split at h) <;> omega
theorem hW3_range {b : Nat} (h : hW b = 3) : 224 ≤ b ∧ b ≤ 239 := by unfold hW at h; (repeat' split at h) <;> omega
theorem hW4_range {b : Nat} (h : hW b = 4) : 240 ≤ b ∧ b ≤ 244 := by unfold hW at h; (repeat' split at h) <;> omega
/-- the second byte's range, by the first one -/
theorem g1_range {s : ByteArray} {k : Nat} (hb : 194 ≤ by_ s k ∧ by_ s k ≤ 244) (h : g1 s k) :
    128 ≤ by_ s (k + 1) ∧ by_ s (k + 1) ≤ 191 ∧ (by_ s k = 224 → 160 ≤ by_ s (k + 1)) ∧ (by_ s k = 237 → by_ s (k + 1) ≤ 159) ∧ (by_ s k = 240 → 144 ≤ by_ s (k + 1)) ∧ (by_ s k = 244 → by_ s (k + 1) ≤ 143) := by
  unfold g1 hLo hHi at h
  (repeat' split at h) <;> omega


theorem wd_le (s : ByteArray) (k : Nat) (hk : k < s.size) : k + wd s k ≤ s.size ∧ wd s k ≤ 4 := by
  cases ho : okR s k with
  | false => have := ok_false_iff ho; omega
  | true => rcases ok_cases s k hk ho with ⟨h1, hr, hw⟩ | ⟨hc, hn, hg, hr, hw⟩ | ⟨hc, hn, hg, hg2, hr, hw⟩ | ⟨hc, hn, hg, hg2, hg3, hr, hw⟩ <;> omega


theorem allL_pos {s : ByteArray} (h : 0 < s.size) : 0 < (allL s).length := by
  obtain ⟨f, hf⟩ : ∃ f, s.size = f + 1 := ⟨s.size - 1, by omega⟩
  unfold allL
  rw [hf, posL_step s f 0 h]
  simp

end Go.Proofs.YtkkolefionbbcaaGreat

/-
  What the document's own Pieces and Count answer.
-/
set_option linter.unusedSimpArgs false
set_option linter.unusedVariables false
namespace Go.Proofs.YtkkolefionbbcaaGreat
open Go.RowKit Go.Lib

theorem infoPiece : (Tryz.prog.info? 161).map (fun i => (i.zero, i.size, i.bytes)) = some (some (.agg #[.int .i64 0, .int .i32 0, .int .i64 0, .bool false]), 4, 32) := by kernel_rfl

/-- a piece's cells -/
def pcC (s : ByteArray) (i : Nat) : List Value := [.int .i64 (i : Int), .int .i32 (rn s i : Nat), .int .i64 (wd s i : Nat), .bool (okR s i)]
def pcsC (s : ByteArray) (l : List Nat) : List Value := l.flatMap (pcC s)

theorem pcsC_length (s : ByteArray) (l : List Nat) : (pcsC s l).length = l.length * 4 := by
  induction l with
  | nil => rfl
  | cons i l ih => simp [pcsC, pcC] at ih ⊢; omega
theorem pcsC_get (s : ByteArray) : ∀ (l : List Nat) (j q i : Nat), l[j]? = some i → q < 4 → (pcsC s l)[j * 4 + q]? = (pcC s i)[q]?
  | [], j, q, i, h, _ => by cases h
  | a :: l, 0, q, i, h, hq => by
    simp at h; subst h
    show (pcC s a ++ pcsC s l)[0 * 4 + q]? = _
    rw [List.getElem?_append_left (by simp [pcC]; omega)]
    simp
  | a :: l, j + 1, q, i, h, hq => by
    have ih := pcsC_get s l j q i (by simpa using h) hq
    show (pcC s a ++ pcsC s l)[(j + 1) * 4 + q]? = _
    rw [List.getElem?_append_right (by simp [pcC]; omega)]
    rw [← ih]
    congr 1
    simp [pcC]; omega

theorem new_four (W : World) (c0 c1 c2 c3 : Value) (t : TypeId) : ∀ j u, ([c0, c1, c2, c3] : List Value)[j]? = some u → (W.alloc (.cells #[c0, c1, c2, c3] t)).cell? ((⟨W.heap.size, 0, none⟩ : Addr).add j) = some u := by
  intro j u h
  match j, h with
  | 0, h => simp at h; subst h; simp [go_sem, Addr.add]
  | 1, h => simp at h; subst h; simp [go_sem, Addr.add]
  | 2, h => simp at h; subst h; simp [go_sem, Addr.add]
  | 3, h => simp at h; subst h; simp [go_sem, Addr.add]
  | j + 4, h => simp at h

set_option maxRecDepth 100000 in
set_option maxHeartbeats 2000000 in
theorem pieces_in (s : ByteArray) (hs : s.size ≤ 1000000000) (w : World) :
    Calls Tryz.prog 114 #[.string s] w fun e W' => ∃ v, e = .returned v ∧ W'.ownsRow w.heap.size 161 4 v (allL s).length (pcsC s (allL s)) ∧ Below w.heap.size w W' := by
  obtain ⟨i0, hi, hz0, hz1, hz2⟩ := info_parts infoPiece
  go_enter Tryz.func114, Tryz.ntmps114
  go_wp2
  go_loopw [3, 4] (fun lv av wr => ∃ (l : List Nat) (pos f : Nat), av = .int .i64 pos ∧ Hid (l ++ posL s f pos = allL s) ∧ s.size ≤ pos + f ∧ pos ≤ s.size ∧ wr.ownsRow w.heap.size 161 4 lv l.length (pcsC s l) ∧ Below w.heap.size w wr) (fun _ av _ => s.size - (RowKit.intOf av).toNat)
  case atStart => exact ⟨[], 0, s.size, rfl, hide rfl, by omega, by omega, World.ownsRow_nil _ _ _ _, Below.refl _ _⟩
  case round =>
    obtain ⟨l, pos, f, rfl, hall, hfu, hps, hrow, hB⟩ := hrel
    have hll : l.length ≤ s.size := by
      have h1 := allL_length s
      have h2 := congrArg List.length (unhide hall)
      rw [List.length_append] at h2
      omega
    by_cases hlt : pos < s.size
    · have hp := wd_pos s pos hlt
      have e1 := hide (dR_in s pos hlt)
      have e2 := hide (dN_in s pos hlt)
      have e3 := hide (dK_in s pos hlt)
      obtain ⟨g, rfl⟩ : ∃ g, f = g + 1 := ⟨f - 1, by omega⟩
      have hsz := hB.size
      have hwl : wd s pos ≤ 4 ∧ pos + wd s pos ≤ s.size := ⟨(wd_le s pos hlt).2, (wd_le s pos hlt).1⟩
      obtain ⟨hw1, hw2⟩ := hwl
      go_wp2_with fail
      refine (refDecode_any s _ _ (by omega)).mono ?_
      rintro e w2 ⟨rfl, nd, rfl⟩
      rw [unhide e1, unhide e2, unhide e3]
      go_wp2_with (at_builtin; refine wpList_append_own _ rfl _ _ 156 rfl w.heap.size 161 i0 _ 4 32 Tryz.underlying156 hi hz0 hz1 hz2 rfl (by decide) u3 l.length (pcsC s l) rfl (World.ownsRow.alloc (show (wr.drewN nd).ownsRow _ _ _ _ _ _ from hrow) _) ⟨wr.heap.size, 0, none⟩ 1 1 (pcC s pos) rfl rfl (new_four _ _ _ _ _ _) (by simp [pcC, Value.oneCell']) (by unfold maxLen; omega) (by omega) (by simp; omega) ?_; intro v4 W4 ho4 hg4 _)
      go_roundw
      case rel =>
        refine ⟨l ++ [pos], pos + wd s pos, g, by simp, hide ?_, by omega, hw2, by simpa [pcsC] using ho4, ((⟨hB.os, hB.tape, hB.output, hB.size, hB.block⟩ : Below w.heap.size w (wr.drewN nd)).alloc (by simpa using hsz) _).grown hg4 (by simp; omega) (fun k e => (hrow.lt k e).1)⟩
        rw [← unhide hall, posL_step s g pos hlt]; simp
      case measure => simp [RowKit.intOf]; omega
    · have hl : l = allL s := by
        have h := unhide hall
        rw [posL_end s f pos hlt, List.append_nil] at h
        exact h
      subst hl
      go_wp2
      go_ret
      exact ⟨_, rfl, hrow, hB⟩

theorem owns4_form {W : World} {B e n : Nat} {v : Value} {xs : List Value} (h : W.ownsRow B e 4 v n xs) : ∃ a c, v = .slice a n c := by
  rcases h.2 with ⟨rfl, rfl⟩ | ⟨g, cap, cur, rfl, _⟩
  · exact ⟨_, _, rfl⟩
  · exact ⟨_, _, rfl⟩

set_option maxHeartbeats 1000000 in
theorem refCount_in (s : ByteArray) (hs : s.size ≤ 1000000000) (w : World) :
    Calls Tryz.prog 104 #[.string s] w fun e W' => e = .returned (.int .i64 ((allL s).length : Nat)) ∧ Below w.heap.size w W' := by
  go_enter Tryz.func104, Tryz.ntmps104
  go_wp2_with fail
  refine (pieces_in s hs _).mono ?_
  rintro e w2 ⟨v, rfl, ho, hB⟩
  obtain ⟨a, c, rfl⟩ := owns4_form ho
  go_wp2
  go_ret
  exact ⟨rfl, hB⟩

end Go.Proofs.YtkkolefionbbcaaGreat

/-
  What the document's own BadAt, Good and Count answer.
-/
set_option linter.unusedSimpArgs false
set_option linter.unusedVariables false
namespace Go.Proofs.YtkkolefionbbcaaGreat
open Go.RowKit Go.Lib

theorem pcs_cell {W : World} {B g cap : Nat} {s : ByteArray} {l : List Nat} (h : W.ownsRow B 161 4 (.slice (some ⟨g, 0, none⟩) l.length cap) l.length (pcsC s l)) {k i : Nat} (hk : l[k]? = some i) (q : Nat) (hq : q < 4) :
    W.cell? ⟨g, k * 4 + q, none⟩ = (pcC s i)[q]? := by
  have hlt : k < l.length := (List.getElem?_eq_some_iff.1 hk).1
  rw [h.cellAt (k * 4 + q) (by omega), pcsC_get s l k q i hk hq]

set_option maxHeartbeats 1000000 in
theorem refBadAt_in (s : ByteArray) (hs : s.size ≤ 1000000000) (w : World) :
    Calls Tryz.prog 113 #[.string s] w fun e W' => e = .returned (.int .i64 (firstBad s (allL s))) ∧ Below w.heap.size w W' := by
  have hlen := allL_length s
  go_enter Tryz.func113, Tryz.ntmps113
  go_wp2_with fail
  refine (pieces_in s hs _).mono ?_
  rintro e W ⟨v, rfl, ho, hB⟩
  obtain ⟨l, hl⟩ : ∃ l, allL s = l := ⟨_, rfl⟩
  rw [hl] at ho hlen
  have Hl := hide hl
  clear hl
  obtain ⟨a, c, rfl⟩ := owns4_form ho
  go_wp2
  go_loop [4] (fun iv => ∃ k : Nat, k ≤ l.length ∧ iv = .int .i64 k ∧ Hid (∀ j i, j < k → l[j]? = some i → okR s i = true)) (fun iv => l.length - (RowKit.intOf iv).toNat)
  case atStart => exact ⟨0, by omega, rfl, hide (fun j i h => by omega)⟩
  case round =>
    obtain ⟨k, hk, rfl, hb⟩ := hrel
    by_cases hlt : k < l.length
    · obtain ⟨g, rfl⟩ : ∃ g, a = some ⟨g, 0, none⟩ := by
        rcases ho.2 with ⟨e1, e2⟩ | ⟨g, cap, cur, e1, _⟩
        · omega
        · exact ⟨g, by simpa using (congrArg (fun v => match v with | Value.slice a _ _ => a | _ => none) e1)⟩
      obtain ⟨x, hx⟩ : ∃ x, l[k]? = some x := ⟨_, List.getElem?_eq_getElem hlt⟩
      have c0 := pcs_cell ho hx 0 (by omega)
      have c3 := pcs_cell ho hx 3 (by omega)
      simp only [pcC, List.getElem?_cons_zero, List.getElem?_cons_succ, Nat.add_zero] at c0 c3
      have Hx := hide hx
      clear hx
      have i1 : (k : Int) < (l.length : Int) := by omega
      cases hok : okR s x with
      | true =>
        rw [hok] at c3
        go_wp2
        go_round
        case rel => exact ⟨k + 1, by omega, by go_num, hide (fun j i hj hi => by
          by_cases e : j = k
          · subst e; rw [unhide Hx] at hi; cases hi; exact hok
          · exact unhide hb j i (by omega) hi)⟩
        case measure => simp [RowKit.intOf]; omega
      | false =>
        rw [hok] at c3
        have hf : firstBad s (allL s) = (x : Int) := by
          rw [unhide Hl]
          have e : l = l.take k ++ x :: l.drop (k + 1) := by
            have hgx : l[k] = x := by have := unhide Hx; rw [List.getElem?_eq_getElem hlt] at this; simpa using this
            rw [← hgx, ← List.drop_eq_getElem_cons hlt, List.take_append_drop]
          rw [e]
          refine firstBad_at (fun j hj => ?_) hok
          obtain ⟨m, hm, rfl⟩ := List.getElem_of_mem hj
          have hm' : m < k := by rw [List.length_take] at hm; omega
          refine unhide hb m _ hm' ?_
          rw [List.getElem_take, List.getElem?_eq_getElem]
        have Hf := hide hf
        clear hf
        go_wp2
        go_ret
        exact ⟨by rw [unhide Hf]; rfl, hB⟩
    · have hf : firstBad s (allL s) = -1 := by
        rw [unhide Hl]
        refine firstBad_none (fun i hi => ?_)
        obtain ⟨m, hm, rfl⟩ := List.getElem_of_mem hi
        exact unhide hb m _ (by omega) (List.getElem?_eq_getElem hm)
      have Hf := hide hf
      clear hf
      go_wp2
      go_ret
      exact ⟨by rw [unhide Hf]; rfl, hB⟩

set_option maxHeartbeats 400000 in
theorem refGood_in (s : ByteArray) (hs : s.size ≤ 1000000000) (w : World) :
    Calls Tryz.prog 103 #[.string s] w fun e W' => e = .returned (.bool (decide (firstBad s (allL s) < 0))) ∧ Below w.heap.size w W' := by
  have h := hide (refBadAt_in s hs w)
  obtain ⟨b, hb⟩ : ∃ b, firstBad s (allL s) = b := ⟨_, rfl⟩
  rw [hb] at h ⊢
  clear hb
  go_enter Tryz.func103, Tryz.ntmps103
  go_wp2_with (go_at_call 113; refine (unhide h).mono ?_; rintro e w' ⟨rfl, hB⟩)
  go_ret
  exact ⟨rfl, hB⟩
end Go.Proofs.YtkkolefionbbcaaGreat
