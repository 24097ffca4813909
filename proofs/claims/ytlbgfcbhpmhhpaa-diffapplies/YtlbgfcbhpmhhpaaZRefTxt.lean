/-
  What the document's own Text answers: the runes' bytes, one behind the other.
-/
import Derived.Test.YtlbgfcbhpmhhpaaZRefEnc
import Derived.Lib.AppendStr
set_option linter.unusedSimpArgs false
set_option linter.unusedVariables false
namespace Go.Proofs.Ytlbgfcbhpmhhpaa
open Go.RowKit Go.Lib

theorem infoByte : (Try.prog.info? 5).map (fun i => (i.zero, i.size, i.bytes)) = some (some (.int .u8 0), 1, 1) := by kernel_rfl

theorem strCells_b (b : ByteArray) : strCells b = byteCells (bL b) := rfl
theorem size_b (b : ByteArray) : b.size = (bL b).length := by simp [bL]

theorem conv_nil (w : World) : (convert 61 9 (.slice none 0 0)).run Try.prog w = .ok (.string (ofL [])) w := by
  rw [run_convert_bytes_string _ 61 9 5 _ _ _ Try.underlying61 Try.underlying5 Try.underlying9]
  rfl

theorem u8_back (l : List UInt8) : (l.map fun b => ((b.toNat : Nat) : Int)).map (fun z => UInt8.ofNat z.toNat) = l := by
  rw [List.map_map]
  conv => rhs; rw [← List.map_id l]
  apply List.map_congr_left
  intro b _
  simp

theorem conv_own {W : World} {B n : Nat} {v : Value} {l : List UInt8} (h : W.ownsRow B 5 1 v n (byteCells l)) (hn : n = l.length) :
    (convert 61 9 v).run Try.prog W = .ok (.string (ofL l)) W := by
  have h0 := h
  subst hn
  rcases h.2 with ⟨rfl, e⟩ | ⟨g, cap, cur, rfl, _⟩
  · obtain rfl : l = [] := List.eq_nil_of_length_eq_zero e
    exact conv_nil W
  · have hc := conv_bytes W ⟨g, 0, none⟩ l.length cap (l.map fun b => ((b.toNat : Nat) : Int)) (by simp) (fun j hj => by
      have hj' : j < l.length := by simpa using hj
      refine h0.cells rfl j _ ?_
      simp [byteCells, List.getElem?_eq_getElem hj'])
    rw [u8_back] at hc
    exact hc

set_option maxRecDepth 100000 in
set_option maxHeartbeats 1000000 in
theorem refText_in (v : Value) (zs : List Int) (w : World) (h : RS w v zs) (hl : zs.length ≤ 1000000000) :
    Calls Try.prog 36 #[v] w fun e w' => e = .returned (.string (runesBytes zs)) ∧ Below w.heap.size w w' := by
  obtain ⟨i0, hi, hz0, hz1, hz2⟩ := info_parts infoByte
  obtain ⟨L, hL⟩ : ∃ L, zs.length = L := ⟨_, rfl⟩
  obtain ⟨a, cp, rfl⟩ : ∃ a cap, v = .slice a L cap := h.elim (fun ⟨e, a, c, h⟩ => ⟨a, c, by rw [← hL, e]; exact h⟩) (fun ⟨b, off, cap, e, _⟩ => ⟨_, _, by rw [← hL]; exact e⟩)
  have HL := hide hL
  have Hr := hide h
  rw [hL] at hl
  clear h hL
  go_enter Try.func36, Try.ntmps36
  go_wp2
  go_loopw [3, 4] (fun bv iv wr => ∃ (k : Nat) (l : List UInt8), k ≤ L ∧ iv = .int .i64 k ∧ Hid (l = (zs.take k).flatMap encL) ∧ l.length ≤ 4 * k ∧ wr.ownsRow w.heap.size 5 1 bv l.length (byteCells l) ∧ Below w.heap.size w wr) (fun _ iv _ => L - (RowKit.intOf iv).toNat)
  case atStart => exact ⟨0, [], by omega, rfl, hide (by simp), by simp, World.ownsRow_nil _ _ _ _, Below.refl _ _⟩
  case round =>
    obtain ⟨k, l, hk, rfl, hacc, hll, hrow, hB⟩ := hrel
    by_cases hlt : k < L
    · have hz : k < zs.length := by rw [unhide HL]; exact hlt
      obtain ⟨x, hx⟩ : ∃ x, zs[k]? = some x := ⟨_, List.getElem?_eq_getElem hz⟩
      obtain ⟨b1, off1, c1, e1, hc1⟩ := (RS.below hB (unhide Hr)).resolve_left (fun h => by have := h.1; subst this; simp at hz)
      have d1 := hc1 k hz
      rw [hx] at d1
      simp only [Option.getD_some] at d1
      obtain ⟨ea, -, ec⟩ : a = some ⟨b1, off1, none⟩ ∧ L = zs.length ∧ cp = c1 := by simpa using e1
      subst ea ec
      have hsz := hB.size
      have hes := encode_size_le x
      have hst : (zs.take (k + 1)).flatMap encL = (zs.take k).flatMap encL ++ encL x := by
        rw [List.take_add_one, hx]; simp
      have Hst := hide hst
      have Hx := hide hx
      clear hst hx hc1 e1 hz
      go_wp2_with fail
      refine (refEncode_any x _).mono ?_
      rintro e w2 ⟨rfl, hB2⟩
      have hrow2 : w2.ownsRow w.heap.size 5 1 u3 l.length (byteCells l) := by
        refine ⟨hrow.1, ?_⟩
        rcases hrow.2 with h2 | ⟨g, cap, cur, e1, e2, e3, rest⟩
        · exact .inl h2
        · exact .inr ⟨g, cap, cur, e1, e2, (hB2.block g (Array.getElem?_eq_some_iff.1 e3).1).trans e3, rest⟩
      have hBb := hB.trans (hB2.mono hsz)
      go_wp2_with (at_builtin; refine wpList_append_own_string _ rfl _ _ 61 9 rfl w.heap.size 5 i0 Try.underlying61 Try.underlying9 hi hz0 hz1 hz2 u3 l.length (byteCells l) rfl hrow2 (Utf8.encode x) rfl (by unfold maxLen; omega) (by omega) hBb.size ?_; intro v4 W4 ho4 hg4 _)
      go_roundw
      case rel =>
        rw [strCells_b, ← byteCells_append, size_b, ← List.length_append] at ho4
        refine ⟨k + 1, l ++ encL x, by omega, by simp, hide (by rw [unhide Hst, ← unhide hacc]), ?_, ho4, hBb.grown hg4 hBb.size (fun k e => (hrow2.lt k e).1)⟩
        have : (encL x).length ≤ 4 := by rw [size_b] at hes; exact hes
        rw [List.length_append]; omega
      case measure => simp [RowKit.intOf]; omega
    · have hcv := conv_own hrow rfl
      have he : runesBytes zs = ofL l := by
        rw [runesBytes_eq, unhide hacc, List.take_of_length_le (by rw [unhide HL]; omega)]; rfl
      have He := hide he
      clear he
      go_wp2_with (simp only [hcv])
      go_ret
      exact ⟨by rw [unhide He]; rfl, hB⟩

end Go.Proofs.Ytlbgfcbhpmhhpaa
