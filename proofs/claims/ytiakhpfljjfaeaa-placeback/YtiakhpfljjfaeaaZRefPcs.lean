/-
  What the document's own Pieces and Count answer.
-/
import Derived.Test.YtiakhpfljjfaeaaZRefDec
set_option linter.unusedSimpArgs false
set_option linter.unusedVariables false
namespace Go.Proofs.Ytiakhpfljjfaeaa
open Go.RowKit Go.Lib

theorem infoPiece : (Try.prog.info? 67).map (fun i => (i.zero, i.size, i.bytes)) = some (some (.agg #[.int .i64 0, .int .i32 0, .int .i64 0, .bool false]), 4, 32) := by kernel_rfl

/-- a piece's cells -/
def pcC (s : ByteArray) (i : Nat) : List Value := [.int .i64 (i : Int), .int .i32 (rn s i : Nat), .int .i64 (wd s i : Nat), .bool (okR s i)]
def pcsC (s : ByteArray) (l : List Nat) : List Value := l.flatMap (pcC s)

theorem pcsC_length (s : ByteArray) (l : List Nat) : (pcsC s l).length = l.length * 4 := by
  induction l with
  | nil => rfl
  | cons i l ih => simp [pcsC, pcC] at ih ⊢; omega
theorem pcsC_get (s : ByteArray) : ∀ (l : List Nat) (j q i : Nat), l[j]? = some i → q < 4 → (pcsC s l)[j * 4 + q]? = (pcC s i)[q]?
  | [], j, q, i, h, _ => by cases h
  | a :: l, 0, q, i, h, hq => by
    simp at h; subst h
    show (pcC s a ++ pcsC s l)[0 * 4 + q]? = _
    rw [List.getElem?_append_left (by simp [pcC]; omega)]
    simp
  | a :: l, j + 1, q, i, h, hq => by
    have ih := pcsC_get s l j q i (by simpa using h) hq
    show (pcC s a ++ pcsC s l)[(j + 1) * 4 + q]? = _
    rw [List.getElem?_append_right (by simp [pcC]; omega)]
    rw [← ih]
    congr 1
    simp [pcC]; omega

theorem new_four (W : World) (c0 c1 c2 c3 : Value) (t : TypeId) : ∀ j u, ([c0, c1, c2, c3] : List Value)[j]? = some u → (W.alloc (.cells #[c0, c1, c2, c3] t)).cell? ((⟨W.heap.size, 0, none⟩ : Addr).add j) = some u := by
  intro j u h
  match j, h with
  | 0, h => simp at h; subst h; simp [go_sem, Addr.add]
  | 1, h => simp at h; subst h; simp [go_sem, Addr.add]
  | 2, h => simp at h; subst h; simp [go_sem, Addr.add]
  | 3, h => simp at h; subst h; simp [go_sem, Addr.add]
  | j + 4, h => simp at h

set_option maxRecDepth 100000 in
set_option maxHeartbeats 2000000 in
theorem pieces_in (s : ByteArray) (hs : s.size ≤ 1000000000) (w : World) :
    Calls Try.prog 30 #[.string s] w fun e W' => ∃ v, e = .returned v ∧ W'.ownsRow w.heap.size 67 4 v (allL s).length (pcsC s (allL s)) ∧ Below w.heap.size w W' := by
  obtain ⟨i0, hi, hz0, hz1, hz2⟩ := info_parts infoPiece
  go_enter Try.func30, Try.ntmps30
  go_wp2
  go_loopw [3, 4] (fun lv av wr => ∃ (l : List Nat) (pos f : Nat), av = .int .i64 pos ∧ Hid (l ++ posL s f pos = allL s) ∧ s.size ≤ pos + f ∧ pos ≤ s.size ∧ wr.ownsRow w.heap.size 67 4 lv l.length (pcsC s l) ∧ Below w.heap.size w wr) (fun _ av _ => s.size - (RowKit.intOf av).toNat)
  case atStart => exact ⟨[], 0, s.size, rfl, hide rfl, by omega, by omega, World.ownsRow_nil _ _ _ _, Below.refl _ _⟩
  case round =>
    obtain ⟨l, pos, f, rfl, hall, hfu, hps, hrow, hB⟩ := hrel
    have hll : l.length ≤ s.size := by
      have h1 := allL_length s
      have h2 := congrArg List.length (unhide hall)
      rw [List.length_append] at h2
      omega
    by_cases hlt : pos < s.size
    · have hp := wd_pos s pos hlt
      have e1 := hide (dR_in s pos hlt)
      have e2 := hide (dN_in s pos hlt)
      have e3 := hide (dK_in s pos hlt)
      obtain ⟨g, rfl⟩ : ∃ g, f = g + 1 := ⟨f - 1, by omega⟩
      have hsz := hB.size
      have hwl : wd s pos ≤ 4 ∧ pos + wd s pos ≤ s.size := ⟨(wd_le s pos hlt).2, (wd_le s pos hlt).1⟩
      obtain ⟨hw1, hw2⟩ := hwl
      go_wp2_with fail
      refine (refDecode_any s _ _ (by omega)).mono ?_
      rintro e w2 ⟨rfl, nd, rfl⟩
      rw [unhide e1, unhide e2, unhide e3]
      go_wp2_with (at_builtin; refine wpList_append_own _ rfl _ _ 64 rfl w.heap.size 67 i0 _ 4 32 Try.underlying64 hi hz0 hz1 hz2 rfl (by decide) u3 l.length (pcsC s l) rfl (World.ownsRow.alloc (show (wr.drewN nd).ownsRow _ _ _ _ _ _ from hrow) _) ⟨wr.heap.size, 0, none⟩ 1 1 (pcC s pos) rfl rfl (new_four _ _ _ _ _ _) (by simp [pcC, Value.oneCell']) (by unfold maxLen; omega) (by omega) (by simp; omega) ?_; intro v4 W4 ho4 hg4 _)
      go_roundw
      case rel =>
        refine ⟨l ++ [pos], pos + wd s pos, g, by simp, hide ?_, by omega, hw2, by simpa [pcsC] using ho4, ((⟨hB.os, hB.tape, hB.output, hB.size, hB.block⟩ : Below w.heap.size w (wr.drewN nd)).alloc (by simpa using hsz) _).grown hg4 (by simp; omega) (fun k e => (hrow.lt k e).1)⟩
        rw [← unhide hall, posL_step s g pos hlt]; simp
      case measure => simp [RowKit.intOf]; omega
    · have hl : l = allL s := by
        have h := unhide hall
        rw [posL_end s f pos hlt, List.append_nil] at h
        exact h
      subst hl
      go_wp2
      go_ret
      exact ⟨_, rfl, hrow, hB⟩

theorem owns4_form {W : World} {B e n : Nat} {v : Value} {xs : List Value} (h : W.ownsRow B e 4 v n xs) : ∃ a c, v = .slice a n c := by
  rcases h.2 with ⟨rfl, rfl⟩ | ⟨g, cap, cur, rfl, _⟩
  · exact ⟨_, _, rfl⟩
  · exact ⟨_, _, rfl⟩


end Go.Proofs.Ytiakhpfljjfaeaa
