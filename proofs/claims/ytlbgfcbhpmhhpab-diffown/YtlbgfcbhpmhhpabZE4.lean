/-
  Apply.
-/
import Derived.Test.YtlbgfcbhpmhhpabZE2
import Derived.Test.YtlbgfcbhpmhhpabZMend
set_option linter.unusedSimpArgs false
set_option linter.unusedVariables false
namespace Go.Proofs.Ytlbgfcbhpmhhpab
open Go.RowKit Go.Lib

/-- what is left of a text, when an Edit is done -/
def rst (s : ByteArray) (e : Ed) : ByteArray := cutR (cutR s e.1) e.2.1
/-- what a change makes of a text -/
def apW : ByteArray → List Ed → List UInt8
  | s, [] => bL s
  | s, e :: l => bL (cutL s e.1) ++ bL e.2.2 ++ apW (rst s e) l

theorem builderF_below {T e : TypeId} {B b : Nat} {bs : List Value} {W W' : World} (h : IsBuilderF T e B b bs W) (hb : Below W.heap.size W W') : IsBuilderF T e B b bs W' := by
  have keep : ∀ {k : Nat} {c : Array Value} {t : TypeId} {fz : Nat × Nat}, W.heap[k]? = some (.cells c t fz) → W'.heap[k]? = some (.cells c t fz) := fun hk => (hb.block _ (Array.getElem?_eq_some_iff.1 hk).1).trans hk
  have one : ∀ {p : Value}, BuilderAtF T e B b p bs W → BuilderAtF T e B b p bs W' := by
    rintro p ⟨hB, v, hb', hown, hne⟩
    refine ⟨hB, v, keep hb', ⟨hown.1, ?_⟩, hne⟩
    rcases hown.2 with hn | ⟨g, cap, cur, fz, hv, hbg, hgg, rest⟩
    · exact .inl hn
    · exact .inr ⟨g, cap, cur, fz, hv, hbg, keep hgg, rest⟩
  exact h.imp one one

theorem strCells_bL (s : ByteArray) : strCells s = byteCells (bL s) := rfl
theorem bL_len (s : ByteArray) : (bL s).length = s.size := by simp [bL]
theorem box_others {W W' : World} {q b : Nat} {v0 v1 v2 : Value} (h : Box3 W q v0 v1 v2) (hk : OthersKept 5 (some b) W W') (hne : q ≠ b) : Box3 W' q v0 v1 v2 :=
  hk q _ h (by intro e; cases e; exact hne rfl) (fun c fz e => by cases e)

set_option maxRecDepth 100000 in
set_option maxHeartbeats 4000000 in
theorem apply_in (s : ByteArray) (l : List Ed) (v : Value) (w : World) (h : RE w v l) (hs : s.size ≤ 1000000000) (hl : l.length ≤ 1000000000) (hok : ∀ e ∈ l, EdOk e) (hap : (apW s l).length ≤ 1000000000) :
    Calls Try.prog 8 #[.string s, v] w fun e W => e = .returned (.tuple #[.string (if chk s l = 0 then ofL (apW s l) else ⟨#[]⟩), .int .i64 (chk s l)]) ∧ Below w.heap.size w W := by
  have hck := fun W hr => hide (check_in s l v W hr hs hl hok)
  by_cases hz : chk s l = 0
  · rw [if_pos hz]
    rw [hz] at hck ⊢
    clear hz
    rcases h with ⟨rfl, a, cap, rfl⟩ | ⟨b, off, cap, rfl, hc⟩
    · have hck0 := hide (unhide (hck w (.inl ⟨rfl, a, cap, rfl⟩)))
      clear hck
      go_enter Try.func8, Try.ntmps8
      go_wp2_with fail
      refine (unhide hck0).mono ?_
      rintro e W1 ⟨rfl, hB1⟩
      go_wp2_with fail
      have I0 : IsBuilderF 49 5 W1.heap.size W1.heap.size [] (W1.alloc (.cells #[.pointer none, .slice none 0 0] 49)) := IsBuilderF.of (fresh_isBuilder 49 5 W1)
      have HI := hide I0
      have hB2 : Below W1.heap.size W1 (W1.alloc (.cells #[.pointer none, .slice none 0 0] 49)) := (Below.refl _ _).alloc (Nat.le_refl _) _
      obtain ⟨W2, hW2⟩ : ∃ W2, W1.alloc (.cells #[.pointer none, .slice none 0 0] 49) = W2 := ⟨_, rfl⟩
      rw [hW2] at HI hB2 ⊢
      clear I0 hW2
      go_loopw [0, 19] (fun sv iv wr => sv = .string s ∧ iv = .int .i64 0 ∧ wr = W2) (fun _ _ _ => 0)
      case atStart => exact ⟨rfl, rfl, rfl⟩
      case round =>
        obtain ⟨rfl, rfl, rfl⟩ := hrel
        go_wp2_with fail
        refine (writeString_k W1.heap.size W1.heap.size [] s _ (unhide HI) (by rw [List.length_nil]; omega) hB2.size).mono ?_
        rintro e W3 ⟨rfl, hI3, hB3, hK3⟩
        have HI3 := hide hI3
        clear hI3
        go_wp2_with fail
        refine (string_any_k W1.heap.size W1.heap.size (bL s) _ (.inr (by have := unhide HI3; rw [List.nil_append, strCells_bL] at this; exact this)) (Nat.le_trans hB2.size hB3.size)).mono ?_
        rintro e W4 ⟨rfl, hB4, hK4⟩
        go_wp2
        go_ret2
        refine ⟨?_, hB1.trans (((hB2.trans hB3).trans hB4).mono hB1.size)⟩
        rw [show ofL (apW s []) = ⟨(bL s).toArray⟩ from rfl]
        rfl
    · have hre : RE w (.slice (some ⟨b, off, none⟩) l.length cap) l := .inr ⟨b, off, cap, rfl, hc⟩
      have hck0 := hide (unhide (hck w hre))
      have Hc := hide hc
      have Hok := hide hok
      clear hck hre hc hok
      obtain ⟨L, hL⟩ : ∃ L, l.length = L := ⟨_, rfl⟩
      rw [hL] at hl hck0 ⊢
      have HL := hide hL
      clear hL
      go_enter Try.func8, Try.ntmps8
      go_wp2_with fail
      refine (unhide hck0).mono ?_
      rintro e W1 ⟨rfl, hB1⟩
      go_wp2_with fail
      have I0 : IsBuilderF 49 5 W1.heap.size W1.heap.size [] (W1.alloc (.cells #[.pointer none, .slice none 0 0] 49)) := IsBuilderF.of (fresh_isBuilder 49 5 W1)
      have HI := hide I0
      have hB2 : Below W1.heap.size W1 (W1.alloc (.cells #[.pointer none, .slice none 0 0] 49)) := (Below.refl _ _).alloc (Nat.le_refl _) _
      have hz2 : W1.heap.size < (W1.alloc (.cells #[.pointer none, .slice none 0 0] 49)).heap.size := by simp
      obtain ⟨W2, hW2⟩ : ∃ W2, W1.alloc (.cells #[.pointer none, .slice none 0 0] 49) = W2 := ⟨_, rfl⟩
      rw [hW2] at HI hB2 hz2 ⊢
      clear I0 hW2 hck0
      go_loopw [0, 19] (fun sv iv wr => ∃ (i : Nat) (s' : ByteArray) (bs : List UInt8), i ≤ L ∧ iv = .int .i64 (i : Nat) ∧ sv = .string s' ∧ s'.size ≤ 1000000000 ∧ W1.heap.size < wr.heap.size ∧ Hid (bs ++ apW s' (l.drop i) = apW s l) ∧ IsBuilderF 49 5 W1.heap.size W1.heap.size (byteCells bs) wr ∧ Below W1.heap.size W1 wr) (fun _ iv _ => L - (RowKit.intOf iv).toNat)
      case atStart => exact ⟨0, s, [], by omega, rfl, rfl, hs, hz2, hide rfl, unhide HI, hB2⟩
      case round =>
        obtain ⟨i, s', bs, hi, rfl, rfl, hs', hz', hw, hI, hB⟩ := hrel
        have HIb := hide hI
        clear hI
        have hlenA : bs.length + (apW s' (l.drop i)).length ≤ 1000000000 := by
          have := congrArg List.length (unhide hw)
          rw [List.length_append] at this
          omega
        by_cases hlt : i < L
        · have hlt' : i < l.length := by rw [unhide HL]; exact hlt
          obtain ⟨c0, c1, c2⟩ := unhide Hc i _ (List.getElem?_eq_getElem hlt')
          have hstep : apW s' (l.drop i) = bL (cutL s' l[i].1) ++ bL l[i].2.2 ++ apW (rst s' l[i]) (l.drop (i + 1)) := by rw [List.drop_eq_getElem_cons hlt']; rfl
          have hek := unhide Hok _ (List.getElem_mem hlt')
          obtain ⟨⟨k, d, t⟩, he⟩ : ∃ e, l[i] = e := ⟨_, rfl⟩
          rw [he] at c0 c1 c2 hstep hek
          simp only at c0 c1 c2 hstep
          have hBw : Below w.heap.size w wr := hB1.trans (hB.mono hB1.size)
          have c0' := cell_below c0 hBw
          have c1' := cell_below c1 hBw
          have c2' := cell_below c2 hBw
          have b0' := World.block_lt_of_cell? _ _ c0'
          simp only at b0'
          have i1 : (i : Int) < (L : Int) := by omega
          have hsp := fun W => hide (split_in s' k d t W hs' hek)
          have hrz : (rst s' (k, d, t)).size ≤ 1000000000 := by
            have h1 := cutR_size s' k
            have h2 := cutR_size (cutR s' k) d
            unfold rst
            simp only
            omega
          have hrd : rst s' (k, d, t) = cutR (cutR s' k) d := rfl
          rw [hrd] at hrz hstep
          rw [hstep] at hlenA
          simp only [List.length_append, bL_len] at hlenA
          have hw' := unhide hw
          rw [hstep] at hw'
          have Hw' := hide hw'
          clear hw' hstep hrd he c0 c1 c2 hw
          generalize cutL s' k = A at *
          generalize cutL (cutR s' k) d = D at *
          generalize cutR (cutR s' k) d = R at *
          go_wp2_with fail
          refine (unhide (hsp _)).mono ?_
          rintro e W3 ⟨rfl, hB3⟩
          have hbx := ((Box3.new wr (.int .i64 k) (.int .i64 d) (.string t)).below hB3)
          have hal : Below wr.heap.size wr W3 := ((Below.refl _ wr).alloc (Nat.le_refl _) _).trans (hB3.mono (by simp))
          have hI3 := builderF_below (unhide HIb) hal
          have HI3 := hide hI3
          have Hbx := hide hbx
          have hbz := hbx.lt
          clear hI3 hbx
          go_wp2_with fail
          refine (writeString_k W1.heap.size W1.heap.size _ A _ (unhide HI3) (by rw [byteCells_length]; omega) (by omega)).mono ?_
          rintro e W4 ⟨rfl, hI4, hB4, hK4⟩
          have hbx4 := box_others (unhide Hbx) hK4 (by omega)
          obtain ⟨x0, x1, x2⟩ := hbx4.facts
          have hxl := hbx4.lt
          have HI4 := hide hI4
          have hz4 := hB4.size
          clear hI4 hbx4 hK4
          go_wp2_with fail
          refine (writeString_k W1.heap.size W1.heap.size _ t _ (.inr (unhide HI4)) (by rw [List.length_append, byteCells_length, strCells_bL, byteCells_length, bL_len]; omega) (by omega)).mono ?_
          rintro e W5 ⟨rfl, hI5, hB5, hK5⟩
          have HI5 := hide hI5
          have hz5 := hB5.size
          clear hI5 hK5
          go_wp2
          go_roundw
          case rel =>
            refine ⟨i + 1, R, bs ++ (bL A ++ bL t), by omega, by go_num, rfl, hrz, by omega, hide ?_, .inr ?_, hB.trans (((hal.mono (by omega)).trans hB4).trans hB5)⟩
            · rw [← unhide Hw']; simp
            · have := unhide HI5
              rw [strCells_bL, strCells_bL, ← byteCells_append, ← byteCells_append, List.append_assoc] at this
              exact this
          case measure => simp [RowKit.intOf]; omega
        · have hd : l.drop i = [] := List.drop_eq_nil_of_le (by rw [unhide HL]; omega)
          rw [hd] at hlenA
          have hfin : bs ++ bL s' = apW s l := by rw [← unhide hw, hd]; rfl
          have Hfin := hide hfin
          have hl2 : (apW s' []).length = s'.size := bL_len s'
          rw [hl2] at hlenA
          clear hd hfin hw hl2
          go_wp2_with fail
          refine (writeString_k W1.heap.size W1.heap.size _ s' _ (unhide HIb) (by rw [byteCells_length]; omega) (by omega)).mono ?_
          rintro e W3 ⟨rfl, hI3, hB3, hK3⟩
          have HI3 := hide hI3
          have hz3 := hB3.size
          clear hI3
          go_wp2_with fail
          refine (string_any_k W1.heap.size W1.heap.size (bs ++ bL s') _ (.inr (by have := unhide HI3; rwa [strCells_bL, ← byteCells_append] at this)) (by omega)).mono ?_
          rintro e W4 ⟨rfl, hB4, hK4⟩
          go_wp2
          go_ret2
          exact ⟨by rw [← unhide Hfin]; rfl, hB1.trans (((hB.trans hB3).trans hB4).mono hB1.size)⟩
  · rw [if_neg hz]
    have hzd : ((chk s l) != 0) = true := by rw [bne_iff_ne]; exact hz
    obtain ⟨a, cap, rfl⟩ := h.form
    have hck0 := hide (unhide (hck w h))
    generalize chk s l = E at *
    clear hck h hz
    go_enter Try.func8, Try.ntmps8
    go_wp2_with fail
    refine (unhide hck0).mono ?_
    rintro e W1 ⟨rfl, hB1⟩
    go_wp2
    go_ret2
    exact ⟨rfl, hB1⟩

end Go.Proofs.Ytlbgfcbhpmhhpab
