/-
  What quote.Quote answers: the text in quotes.
-/
import Derived.Test.YtkndjbmlkfpfoaaGreatDoorZShelfToFi
import Derived.Lib.OthersKept

set_option linter.unusedSimpArgs false
set_option linter.unusedVariables false
namespace Go.Proofs.YtkndjbmlkfpfoaaGreatDoor
open Go.RowKit Go.Lib Go.Maps

theorem builderAtF_kept {T e : TypeId} {B b : Nat} {p : Value} {bs : List Value} {W W' : World} (h : BuilderAtF T e B b p bs W) (hg : Below W.heap.size W W') : BuilderAtF T e B b p bs W' := by
  obtain ⟨hB, v, hb, hown, hne⟩ := h
  have keep : ∀ {k : Nat} {c : Array Value} {t : TypeId} {fz : Nat × Nat}, W.heap[k]? = some (.cells c t fz) → W'.heap[k]? = some (.cells c t fz) := by
    intro k c t fz hk
    have hlt : k < W.heap.size := (Array.getElem?_eq_some_iff.1 hk).1
    exact (hg.block k hlt).trans hk
  refine ⟨hB, v, keep hb, ⟨hown.1, ?_⟩, hne⟩
  rcases hown.2 with hn | ⟨g, cap, cur, fz, hv, hbg, hgg, rest⟩
  · exact .inl hn
  · exact .inr ⟨g, cap, cur, fz, hv, hbg, keep hgg, rest⟩
theorem isB_below {T e : TypeId} {B b : Nat} {bs : List Value} {W W' : World} (h : IsBuilderF T e B b bs W) (hg : Below W.heap.size W W') : IsBuilderF T e B b bs W' :=
  h.elim (fun x => .inl (builderAtF_kept x hg)) (fun x => .inr (builderAtF_kept x hg))

/-- a Builder, an iterator over a text, and a map beside them -/
def QSt (kt et : TypeId) (w wr : World) (s : ByteArray) (m r : Nat) (D : DataW Unit) (pos : Nat) (acc : List UInt8) : Prop :=
  IsBuilderF 86 5 w.heap.size w.heap.size (byteCells acc) wr ∧ wr.heap[r]? = some (.stringIter s pos) ∧ wr.ownsMap Tryz.prog kt (plainElem Tryz.prog et) m 5 D ∧ Below w.heap.size w wr ∧ w.heap.size < m ∧ w.heap.size < r ∧ m ≠ r ∧ w.heap.size ≤ wr.heap.size

theorem QSt.next {kt et : TypeId} {w wr : World} {s : ByteArray} {m r : Nat} {D : DataW Unit} {pos : Nat} {acc : List UInt8} (h : QSt kt et w wr s m r D pos acc) (p' : Nat) : QSt kt et w (wr.iterAt r s p') s m r D p' acc := by
  obtain ⟨h1, h2, ⟨es, clock, hb, rst⟩, h4, h5, h6, h7, h8⟩ := h
  exact ⟨h1.iterAt h2 p', iterAt_heap wr r s pos p' h2, ⟨es, clock, (iterAt_other wr r m s p' h7).trans hb, rst⟩, below_iterAt h4 (by omega) s p', h5, h6, h7, by rw [iterAt_size]; exact h8⟩
theorem QSt.below {kt et : TypeId} {w wr wr' : World} {s : ByteArray} {m r : Nat} {D : DataW Unit} {pos : Nat} {acc : List UInt8} (h : QSt kt et w wr s m r D pos acc) (hb : Below wr.heap.size wr wr') : QSt kt et w wr' s m r D pos acc := by
  obtain ⟨h1, h2, h3, h4, h5, h6, h7, h8⟩ := h
  exact ⟨isB_below h1 hb, (hb.block r (Array.getElem?_eq_some_iff.1 h2).1).trans h2, ownsMap_below h3 hb h3.lt, h4.trans (hb.mono h8), h5, h6, h7, Nat.le_trans h8 hb.size⟩
theorem QSt.wrote {kt et : TypeId} {w wr wr' : World} {s : ByteArray} {m r : Nat} {D : DataW Unit} {pos : Nat} {acc x : List UInt8} {p : Value} {cs : List Value} (h : QSt kt et w wr s m r D pos acc)
    (hw : BuilderAtF 86 5 w.heap.size w.heap.size (.pointer (some ⟨w.heap.size, 0, none⟩)) (byteCells acc ++ cs) wr') (hc : cs = byteCells x) (hB : Below w.heap.size wr wr') (hK : OthersKept 5 (some w.heap.size) wr wr') : QSt kt et w wr' s m r D pos (acc ++ x) := by
  obtain ⟨h1, h2, ⟨es, clock, hb, rst⟩, h4, h5, h6, h7, h8⟩ := h
  refine ⟨?_, hK.iter h2 (by omega), ⟨es, clock, hK m _ hb (fun e => by have := Option.some.inj e; omega) (fun _ _ e => by cases e), rst⟩, h4.trans hB, h5, h6, h7, Nat.le_trans h8 hB.size⟩
  rw [byteCells_append, ← hc]
  exact .inr hw
theorem QSt.isB {kt et : TypeId} {w wr : World} {s : ByteArray} {m r : Nat} {D : DataW Unit} {pos : Nat} {acc : List UInt8} (h : QSt kt et w wr s m r D pos acc) : IsBuilderF 86 5 w.heap.size w.heap.size (byteCells acc) wr := h.1

theorem lit_val {D : DataW Unit} {k : Lit} {z : DataW Unit} {q : IntKind} {c c' : Int} (h1 : D.atKey k z = .lit (.int q c)) (h2 : D.atKey k z = .lit (.int q c')) : c = c' := by
  have := h1.symm.trans h2
  cases this
  rfl

theorem ofNat_cell (n : Nat) (h : n < 256) : [Value.int .u8 (n : Int)] = byteCells [UInt8.ofNat n] := by
  have := u8n n h
  show [Value.int .u8 (n : Int)] = [Value.int .u8 ((UInt8.ofNat n).toNat : Int)]
  rw [this]
theorem strCells_ofL (l : List UInt8) : strCells (ofL l) = byteCells l := by unfold strCells; rw [ofL_list]; rfl
theorem encL_size (n : Int) : (encL n).length = (Utf8.encode n).size := by
  unfold encL
  generalize Utf8.encode n = b
  simp [bL]
theorem ltN_lt (r : Nat) : ltN r < 256 := by unfold ltN; (repeat' split) <;> omega
theorem fb_le (N : Nat) (h : N ≤ 1114111) : (fb N).length ≤ 6 := by
  by_cases h0 : N = 0
  · subst h0; decide
  · rw [fb_hx N N (Nat.le_refl _) h0]
    unfold hxL
    rw [hxF_map, List.length_map]
    exact dgF_len N N 6 (by omega)
theorem rn_le (s : ByteArray) (i : Nat) (h : i < s.size) : rn s i ≤ 1114111 := by have := rn_valid s i h; omega
theorem qP_len (s : ByteArray) (i : Nat) (h : i < s.size) : (qP s i).length ≤ 10 := by
  unfold qP
  (repeat' split)
  · simp
  · simp [bxL]
  · have := rn_le s i h
    have h2 := fb_le (rn s i) this
    by_cases h0 : rn s i = 0
    · rw [h0]; decide
    · rw [fb_hx _ _ (Nat.le_refl _) h0] at h2
      simp [uxL]; omega
  · have := encL_le4 ((rn s i : Nat) : Int); omega

set_option maxRecDepth 100000 in
set_option maxHeartbeats 4000000 in
theorem quote_in (s : ByteArray) (hs : s.size ≤ 1000000000) (w : World) (hT : Tab w) :
    Calls Tryz.prog 74 #[.string s] w fun e w' => e = .returned (.string (qT s)) ∧ Below w.heap.size w w' := by
  have hlet := fun W => hide (letters_in W)
  have hsm : s.size ≤ maxLen := by unfold maxLen; omega
  have e1 : ∀ o, (w.alloc o).heap.size = w.heap.size + 1 := fun o => by simp
  go_enter Tryz.func74, Tryz.ntmps74
  go_wp2_with (first | (go_at_call 94; refine (unhide (hlet _)).mono ?_; rintro e W1 ⟨rfl, ⟨D, hown, hkn⟩, hb1⟩; rw [e1] at hown hb1 ⊢) | fail)
  have e2 : (w.alloc (.cells #[.pointer none, .slice none 0 0] 86)).heap.size = w.heap.size + 1 := e1 _
  have hI1 := isB_below (IsBuilderF.of (fresh_isBuilder 86 5 w)) (by rw [e2]; exact hb1)
  have hBw1 : Below w.heap.size w W1 := ((Below.refl _ w).alloc (Nat.le_refl _) _).trans (hb1.mono (Nat.le_succ _))
  have hz1 : w.heap.size + 1 < W1.heap.size := hown.lt
  refine (writeByte_k w.heap.size w.heap.size [] 34 W1 hI1 (by simp) hBw1.size).mono ?_
  rintro e W2 ⟨rfl, hI2, hB2, hK2⟩
  have hz2 : w.heap.size + 1 < W2.heap.size := Nat.lt_of_lt_of_le hz1 hB2.size
  obtain ⟨es, clock, hbm, rst⟩ := hown
  have hm2 : W2.ownsMap Tryz.prog 21 (plainElem Tryz.prog 5) (w.heap.size + 1) 5 D := ⟨es, clock, hK2 _ _ hbm (fun e => by have := Option.some.inj e; omega) (fun _ _ e => by cases e), rst⟩
  have Q0 : QSt 21 5 w (W2.iter s 0) s (w.heap.size + 1) W2.heap.size D 0 [34] :=
    ⟨(show IsBuilderF 86 5 w.heap.size w.heap.size (byteCells [34]) W2 from .inr hI2).alloc _, World.iter_heap W2 s 0, hm2.alloc _, (hBw1.trans hB2).alloc (by omega) _, by omega, by omega, by omega, by show w.heap.size ≤ (W2.alloc _).heap.size; simp; omega⟩
  have HQ0 := hide Q0
  have Hkn := hide hkn
  clear hI1 hBw1 hz1 hI2 hB2 hK2 hbm rst hm2 Q0 hkn hb1 e1 e2 hlet
  obtain ⟨R, hR⟩ : ∃ R, W2.heap.size = R := ⟨_, rfl⟩
  go_wp2
  rw [hR] at HQ0
  go_loopw [] (fun wr => ∃ (pos : Nat) (l : List Nat), pos ≤ s.size ∧ Hid (allL s = l ++ frm s pos ∧ (qL s l).length ≤ 10 * pos ∧ wr.iterPos R = pos) ∧ Hid (QSt 21 5 w wr s (w.heap.size + 1) R D pos (34 :: qL s l))) (fun wr => s.size - wr.iterPos R)
  case atStart => exact ⟨0, [], Nat.zero_le _, hide ⟨by rw [allL_frm]; rfl, by simp [qL], by simp [World.iterPos, (unhide HQ0).2.1]⟩, HQ0⟩
  case round =>
    obtain ⟨pos, l, hpl, HL, HQ⟩ := hrel
    by_cases hp : pos < s.size
    · have hnx : ∀ ty, (Instr.next (.pointer (some ⟨R, 0, none⟩)) true ty).run Tryz.prog wr = .ok (.tuple #[.bool true, .int .i64 (pos : Int), .int .i32 (rn s pos : Nat)]) (wr.iterAt R s (pos + wd s pos)) := fun ty => run_next_any_at wr R s pos ty (unhide HQ).2.1 hp
      have HQ1 := hide ((unhide HQ).next (pos + wd s pos))
      obtain ⟨V0, hV0⟩ : ∃ V, wr.iterAt R s (pos + wd s pos) = V := ⟨_, rfl⟩
      rw [hV0] at hnx HQ1
      clear HQ hV0
      have hwf : (Lit.int .i32 ((rn s pos : Nat) : Int)).wf = true := WalkArith.wf_i32 (by have := rn_le s pos hp; omega)
      have LB := hide (show (34 :: qL s l).length + 100 ≤ 140737488355328 by have := (unhide HL).2.1; simp; omega)
      have HN := hide (show allL s = (l ++ [pos]) ++ frm s (pos + wd s pos) ∧ (qL s (l ++ [pos])).length ≤ 10 * (pos + wd s pos) by
        refine ⟨by rw [(unhide HL).1, frm_step s pos hp]; simp, ?_⟩
        have h1 := (unhide HL).2.1
        have h2 := qP_len s pos hp
        have h3 := wd_pos s pos hp
        rw [qL_snoc, List.length_append]; omega)
      have HT := hide (show Tab V0 from hT.below (unhide HQ1).2.2.2.1 hT.2)
      by_cases hl : ltN (rn s pos) ≠ 0
      · have hh : Maps.has D (.int .i32 ((rn s pos : Nat) : Int)) = true := by rw [(unhide Hkn (rn s pos)).1]; simpa using hl
        have HP := hide (show qP s pos = [92, UInt8.ofNat (ltN (rn s pos))] by unfold qP; rw [if_pos hl])
        have Hat := hide ((unhide Hkn (rn s pos)).2 hl)
        clear hl
        go_wp2_with (at_lookup; refine wpList_lookup_own_ok_int _ rfl _ _ 166 rfl 21 5 .u8 lawI32 Tryz.underlying166 Tryz.underlying5 (zeroU8 _) (w.heap.size + 1) 5 _ rfl (unhide HQ1).2.2.1 _ _ rfl (keyOf_int_mk Tryz.underlying21 hwf) ?_; intro c hat hwc; have HC := hide (lit_val hat (unhide Hat _)); clear hat hwc)
        refine (writeByte_k w.heap.size w.heap.size _ 92 V0 (unhide HQ1).isB (by have := unhide LB; simp only [byteCells_length, List.length_append, List.length_cons, List.length_nil, ofL_size] at this ⊢; omega) (unhide HQ1).2.2.2.2.2.2.2).mono ?_
        rintro e V1 ⟨rfl, hI, hB, hK⟩
        have HQ2 := hide ((unhide HQ1).wrote (p := .nilIface) hI (ofNat_cell 92 (by decide)) hB hK)
        clear hI hB hK HQ1
        go_wp2_with fail
        refine (writeByte_k w.heap.size w.heap.size _ c V1 (unhide HQ2).isB (by have := unhide LB; simp only [byteCells_length, List.length_append, List.length_cons, List.length_nil, ofL_size] at this ⊢; omega) (unhide HQ2).2.2.2.2.2.2.2).mono ?_
        rintro e V2 ⟨rfl, hI, hB, hK⟩
        have HQ3 := hide ((unhide HQ2).wrote (p := .nilIface) hI (by rw [unhide HC]; exact ofNat_cell _ (ltN_lt _)) hB hK)
        clear hI hB hK HQ2
        go_wp2
        go_roundw
        case rel => exact ⟨pos + wd s pos, l ++ [pos], (wd_le s pos hp).1, hide ⟨(unhide HN).1, (unhide HN).2, by simp [World.iterPos, (unhide HQ3).2.1]⟩, by rw [show 34 :: qL s (l ++ [pos]) = ((34 :: qL s l) ++ [UInt8.ofNat 92]) ++ [UInt8.ofNat (ltN (rn s pos))] by rw [qL_snoc, unhide HP]; simp]; exact HQ3⟩
        case measure => rw [(unhide HL).2.2]; simp only [World.iterPos, (unhide HQ3).2.1]; have := wd_pos s pos hp; omega
      · have hh : Maps.has D (.int .i32 ((rn s pos : Nat) : Int)) = false := by rw [(unhide Hkn (rn s pos)).1]; simpa using hl
        have hraw := fun W => hide (raw_in s pos W hsm hp)
        by_cases hr : rawB s pos = true
        · have HP := hide (show qP s pos = bxL (by_ s pos) by unfold qP; rw [if_neg hl, if_pos hr])
          have hgt := by_get s pos hp
          have hbe := hide (byteEscape_in (by_ s pos) (by_lt s pos) V0 (unhide HT))
          clear hl
          go_wp2_with (first | (at_lookup; refine wpList_lookup_own_ok_int _ rfl _ _ 166 rfl 21 5 .u8 lawI32 Tryz.underlying166 Tryz.underlying5 (zeroU8 _) (w.heap.size + 1) 5 _ rfl (unhide HQ1).2.2.1 _ _ rfl (keyOf_int_mk Tryz.underlying21 hwf) ?_; intro c hat hwc; clear hat hwc) | (go_at_call 82; refine (unhide (hraw _)).mono ?_; rintro e w' ⟨rfl, rfl⟩) | (go_at_call 95; refine (unhide hbe).mono ?_; rintro e V1 ⟨rfl, hB1⟩) | fail)
          have HQ2 := hide ((unhide HQ1).below hB1)
          clear HQ1 hB1 hraw
          refine (writeString_k w.heap.size w.heap.size _ (ofL (bxL (by_ s pos))) V1 (unhide HQ2).isB (by have := unhide LB; simp only [byteCells_length, List.length_append, List.length_cons, List.length_nil, ofL_size, bxL] at this ⊢; omega) (unhide HQ2).2.2.2.2.2.2.2).mono ?_
          rintro e V2 ⟨rfl, hI, hB, hK⟩
          have HQ3 := hide ((unhide HQ2).wrote (p := .nilIface) hI (strCells_ofL _) hB hK)
          clear hI hB hK HQ2
          go_wp2
          go_roundw
          case rel => exact ⟨pos + wd s pos, l ++ [pos], (wd_le s pos hp).1, hide ⟨(unhide HN).1, (unhide HN).2, by simp [World.iterPos, (unhide HQ3).2.1]⟩, by rw [show 34 :: qL s (l ++ [pos]) = (34 :: qL s l) ++ bxL (by_ s pos) by rw [qL_snoc, unhide HP]; simp]; exact HQ3⟩
          case measure => rw [(unhide HL).2.2]; simp only [World.iterPos, (unhide HQ3).2.1]; have := wd_pos s pos hp; omega
        · have hr' : rawB s pos = false := by simpa using hr
          have hhid := hide (hidden_in (rn s pos) (rn_le s pos hp) V0)
          by_cases hd : hidN (rn s pos) = true
          · have HP := hide (show qP s pos = uxL (rn s pos) by unfold qP; rw [if_neg hl, if_neg hr, if_pos hd])
            have hn0 : rn s pos ≠ 0 := by intro e; rw [e] at hd; exact absurd hd (by decide)
            have he : (⟨#[92, 117, 123]⟩ : ByteArray) ++ ofL (fb (rn s pos)) ++ ⟨#[125]⟩ = ofL (uxL (rn s pos)) := by
              rw [fb_hx _ _ (Nat.le_refl _) hn0]
              apply toList_inj
              simp [ofL, uxL]
            have HE := hide he
            have hw64 : wrap64 ((rn s pos : Nat) : Int) = ((rn s pos : Nat) : Int) := by have := rn_le s pos hp; unfold wrap64; omega
            have hz6 : (ofL (fb (rn s pos))).size ≤ 6 := by rw [ofL_size]; exact fb_le _ (rn_le s pos hp)
            have hf := fun W h => hide (format_in (rn s pos) (rn_le s pos hp) W h)
            have HLU := hide (show (uxL (rn s pos)).length ≤ 10 by have := qP_len s pos hp; rw [unhide HP] at this; exact this)
            clear hl hr he hn0
            go_wp2_with (first | (at_lookup; refine wpList_lookup_own_ok_int _ rfl _ _ 166 rfl 21 5 .u8 lawI32 Tryz.underlying166 Tryz.underlying5 (zeroU8 _) (w.heap.size + 1) 5 _ rfl (unhide HQ1).2.2.1 _ _ rfl (keyOf_int_mk Tryz.underlying21 hwf) ?_; intro c hat hwc; clear hat hwc) | (go_at_call 82; refine (unhide (hraw _)).mono ?_; rintro e w' ⟨rfl, rfl⟩) | (go_at_call 96; refine (unhide hhid).mono ?_; rintro e V1 ⟨rfl, hB1⟩) | fail)
            refine (unhide (hf V1 ((unhide HT).below hB1 (unhide HT).2))).mono ?_
            rintro e V2 ⟨rfl, hB2⟩
            go_wp2_with fail
            have HQ2 := hide (((unhide HQ1).below hB1).below hB2)
            clear HQ1 hB1 hB2 hraw
            rw [unhide HE]
            refine (writeString_k w.heap.size w.heap.size _ (ofL (uxL (rn s pos))) V2 (unhide HQ2).isB (by have := unhide LB; have := unhide HLU; simp only [byteCells_length, List.length_append, List.length_cons, List.length_nil, ofL_size] at *; omega) (unhide HQ2).2.2.2.2.2.2.2).mono ?_
            rintro e V3 ⟨rfl, hI, hB, hK⟩
            have HQ3 := hide ((unhide HQ2).wrote (p := .nilIface) hI (strCells_ofL _) hB hK)
            clear hI hB hK HQ2
            go_wp2
            go_roundw
            case rel => exact ⟨pos + wd s pos, l ++ [pos], (wd_le s pos hp).1, hide ⟨(unhide HN).1, (unhide HN).2, by simp [World.iterPos, (unhide HQ3).2.1]⟩, by rw [show 34 :: qL s (l ++ [pos]) = (34 :: qL s l) ++ uxL (rn s pos) by rw [qL_snoc, unhide HP]; simp]; exact HQ3⟩
            case measure => rw [(unhide HL).2.2]; simp only [World.iterPos, (unhide HQ3).2.1]; have := wd_pos s pos hp; omega
          · have HP := hide (show qP s pos = encL (rn s pos : Nat) by unfold qP; rw [if_neg hl, if_neg hr, if_neg hd])
            have hd' : hidN (rn s pos) = false := by simpa using hd
            have henc := fun W => hide (encode_any ((rn s pos : Nat) : Int) W)
            have HL4 := hide (show (Utf8.encode ((rn s pos : Nat) : Int)).size ≤ 4 by rw [← encL_size]; exact encL_le4 _)
            clear hl hr hd
            go_wp2_with (first | (at_lookup; refine wpList_lookup_own_ok_int _ rfl _ _ 166 rfl 21 5 .u8 lawI32 Tryz.underlying166 Tryz.underlying5 (zeroU8 _) (w.heap.size + 1) 5 _ rfl (unhide HQ1).2.2.1 _ _ rfl (keyOf_int_mk Tryz.underlying21 hwf) ?_; intro c hat hwc; clear hat hwc) | (go_at_call 82; refine (unhide (hraw _)).mono ?_; rintro e w' ⟨rfl, rfl⟩) | (go_at_call 96; refine (unhide hhid).mono ?_; rintro e V1 ⟨rfl, hB1⟩) | (go_at_call 98; refine (unhide (henc _)).mono ?_; rintro e w' ⟨rfl, rfl⟩) | fail)
            have HQ2 := hide ((unhide HQ1).below hB1)
            clear HQ1 hB1 hraw
            refine (writeString_k w.heap.size w.heap.size _ (Utf8.encode ((rn s pos : Nat) : Int)) V1 (unhide HQ2).isB (by have := unhide LB; have h4 := unhide HL4; simp only [byteCells_length, List.length_cons] at this ⊢; omega) (unhide HQ2).2.2.2.2.2.2.2).mono ?_
            rintro e V3 ⟨rfl, hI, hB, hK⟩
            have HQ3 := hide ((unhide HQ2).wrote (x := encL (rn s pos : Nat)) (p := .nilIface) hI rfl hB hK)
            clear hI hB hK HQ2
            go_wp2
            go_roundw
            case rel => exact ⟨pos + wd s pos, l ++ [pos], (wd_le s pos hp).1, hide ⟨(unhide HN).1, (unhide HN).2, by simp [World.iterPos, (unhide HQ3).2.1]⟩, by rw [show 34 :: qL s (l ++ [pos]) = (34 :: qL s l) ++ encL (rn s pos : Nat) by rw [qL_snoc, unhide HP]; simp]; exact HQ3⟩
            case measure => rw [(unhide HL).2.2]; simp only [World.iterPos, (unhide HQ3).2.1]; have := wd_pos s pos hp; omega
    · have hnx : ∀ ty, (Instr.next (.pointer (some ⟨R, 0, none⟩)) true ty).run Tryz.prog wr = .ok (.tuple #[.bool false]) wr := fun ty => run_next_end_at wr R s pos ty (unhide HQ).2.1 hp
      have LB := hide (show (34 :: qL s l).length + 100 ≤ 140737488355328 by have := (unhide HL).2.1; simp; omega)
      have HA := hide (show qT s = ⟨((34 :: qL s l) ++ [UInt8.ofNat 34]).toArray⟩ by
        have h1 := (unhide HL).1
        rw [frm_end s pos hp, List.append_nil] at h1
        unfold qT; rw [h1]; rfl)
      go_wp2_with fail
      refine (writeByte_k w.heap.size w.heap.size _ 34 wr (unhide HQ).isB (by have := unhide LB; simp only [byteCells_length, List.length_append, List.length_cons, List.length_nil, ofL_size] at this ⊢; omega) (unhide HQ).2.2.2.2.2.2.2).mono ?_
      rintro e V1 ⟨rfl, hI, hB, hK⟩
      have HQ2 := hide ((unhide HQ).wrote (p := .nilIface) hI (ofNat_cell 34 (by decide)) hB hK)
      clear hI hB hK HQ
      go_wp2_with fail
      refine (string_any_k w.heap.size w.heap.size _ V1 (unhide HQ2).isB (unhide HQ2).2.2.2.2.2.2.2).mono ?_
      rintro e V2 ⟨rfl, hB, hK⟩
      go_wp2
      go_ret
      exact ⟨by rw [unhide HA]; rfl, (unhide HQ2).2.2.2.1.trans hB⟩

end Go.Proofs.YtkndjbmlkfpfoaaGreatDoor

/-
  quote.hexadecimal, isRune, saidByte, saidRune: what digits say.
-/
set_option linter.unusedSimpArgs false
set_option linter.unusedVariables false
namespace Go.Proofs.YtkndjbmlkfpfoaaGreatDoor
open Go.RowKit Go.Lib

theorem rn_low (s : ByteArray) (k : Nat) (hk : k < s.size) (h : rn s k < 128) : by_ s k = rn s k ∧ wd s k = 1 ∧ okR s k = true := by
  cases ho : okR s k with
  | false => have := (ok_false_iff ho).1; omega
  | true =>
    rcases ok_cases s k hk ho with ⟨h1, hr, hw⟩ | ⟨hc, hn, hg, hr, hw⟩ | ⟨hc, hn, hg, hg2, hr, hw⟩ | ⟨hc, hn, hg, hg2, hg3, hr, hw⟩
    · exact ⟨hr.symm, hw, rfl⟩
    · exfalso
      have hb := hW2_range hc
      have hg' := g1_range (by omega) hg
      omega
    · exfalso
      have hb := hW3_range hc
      have hg' := g1_range (by omega) hg
      unfold g2 at hg2
      omega
    · exfalso
      have hb := hW4_range hc
      have hg' := g1_range (by omega) hg
      unfold g2 at hg2
      unfold g3 at hg3
      omega
theorem by_low (s : ByteArray) (k : Nat) (h : by_ s k < 128) : rn s k = by_ s k ∧ wd s k = 1 := ⟨rn_of (dec_one s k (by omega)), wd_of (dec_one s k (by omega))⟩
theorem dg_low {b : Nat} (h : dgV b < 16) : b < 128 := by unfold dgV at h; (repeat' split at h) <;> omega
theorem dg_rn (s : ByteArray) (k : Nat) (hk : k < s.size) : dgV (rn s k) < 16 ↔ dgV (by_ s k) < 16 := by
  constructor
  · intro h; rw [(rn_low s k hk (dg_low h)).1]; exact h
  · intro h; rw [(by_low s k (dg_low h)).1]; exact h

theorem hxR_step {s : ByteArray} {i f n k : Nat} (h : i + k < s.size) (hd : dgV (by_ s (i + k)) < 16) : hxR s i (f + 1) n k = hxR s i f (16 * n + dgV (by_ s (i + k))) (k + 1) := by
  rw [hxR, if_pos ⟨h, hd⟩]
theorem hxR_stop {s : ByteArray} {i f n k : Nat} (h : ¬ (i + k < s.size ∧ dgV (by_ s (i + k)) < 16)) : hxR s i f n k = (n, k) := by
  cases f with
  | zero => rfl
  | succ f => rw [hxR, if_neg h]

theorem shl_or (n d : Nat) (hn : n < 1048576) (hd : d < 16) : bits BinOp.or IntKind.i32 ((n : Int) * 16) (d : Int) = ((16 * n + d : Nat) : Int) := by
  have e : (n : Int) * 16 = ((n * 16 : Nat) : Int) := by omega
  have h2 : n * 16 ||| d = 16 * n + d := by
    have := Nat.two_pow_add_eq_or_of_lt (i := 4) (b := d) (by omega) n
    rw [show n * 16 = 2 ^ 4 * n by omega, ← this]
  show IntKind.i32.wrap ((BitVec.ofInt 32 ((n : Int) * 16) ||| BitVec.ofInt 32 (d : Int)).toNat : Int) = _
  rw [e, BitVec.toNat_or, ofInt_u32 (n * 16) (by omega), ofInt_u32 d (by omega), h2]
  simp [IntKind.wrap, IntKind.bits, IntKind.signed]
  omega

set_option maxRecDepth 100000 in
set_option maxHeartbeats 2000000 in
theorem hex_in (t : ByteArray) (ht : t.size ≤ 1000000000) (f : Nat) (hf : f ≤ 6) (w : World) :
    Calls Tryz.prog 137 #[.string t, .int .i64 (f : Int)] w fun e w' => e = .returned (.tuple #[.int .i32 ((hxR t 0 f 0 0).1 : Int), .int .i64 ((hxR t 0 f 0 0).2 : Int)]) ∧ Below w.heap.size w w' := by
  obtain ⟨A, hA⟩ : ∃ A, hxR t 0 f 0 0 = A := ⟨_, rfl⟩
  rw [hA]
  have HA := hide hA
  clear hA
  go_enter Tryz.func137, Tryz.ntmps137
  go_wp2
  go_loopw [6] (fun a wr => ∃ (n k : Nat), a = .int .i32 n ∧ k ≤ t.size ∧ k ≤ f ∧ n < 16 ^ k ∧ Hid (hxR t 0 (f - k) n k = A ∧ wr.heap[w.heap.size]? = some (.stringIter t k)) ∧ Below w.heap.size w wr) (fun _ wr => t.size - wr.iterPos w.heap.size)
  case atStart => exact ⟨0, 0, rfl, by omega, by omega, by simp, hide ⟨unhide HA, World.iter_heap w t 0⟩, (Below.refl _ w).alloc (Nat.le_refl _) _⟩
  case round =>
    obtain ⟨n, k, rfl, hk, hkf, hn, H, hB⟩ := hrel
    by_cases hp : k < t.size
    · have hnx : ∀ ty, (Instr.next (.pointer (some ⟨w.heap.size, 0, none⟩)) true ty).run Tryz.prog wr = .ok (.tuple #[.bool true, .int .i64 (k : Int), .int .i32 (rn t k : Nat)]) (wr.iterAt w.heap.size t (k + wd t k)) := fun ty => run_next_any_at wr w.heap.size t k ty (unhide H).2 hp
      have hdg := fun W => hide (digit_in (rn t k) (rn_le t k hp) W)
      have HB := hide (below_iterAt hB (Nat.le_refl _) t (k + wd t k))
      have Hit := hide (iterAt_heap wr w.heap.size t k (k + wd t k) (unhide H).2)
      have Hip := hide (show wr.iterPos w.heap.size = k by simp [World.iterPos, (unhide H).2])
      obtain ⟨V0, hV0⟩ : ∃ V, wr.iterAt w.heap.size t (k + wd t k) = V := ⟨_, rfl⟩
      rw [hV0] at hnx HB Hit
      clear hV0 hB
      by_cases hm : k = f
      · have i1 : ((k : Int) == (f : Int)) = true := by rw [beq_iff_eq]; omega
        have HE := hide (show A = (n, k) by rw [← (unhide H).1, hm, Nat.sub_self]; rfl)
        clear hm
        go_wp2_with (go_at_call 151; refine (unhide (hdg _)).mono ?_; rintro e w' ⟨rfl, rfl⟩)
        go_ret2
        rw [unhide HE]
        exact ⟨rfl, unhide HB⟩
      · have i1 : ((k : Int) == (f : Int)) = false := by rw [beq_eq_false_iff_ne]; omega
        by_cases hd : dgV (rn t k) < 16
        · have hdI : dgI (rn t k) = (dgV (rn t k) : Int) := by unfold dgI; rw [if_pos hd]
          have hlow := rn_low t k hp (dg_low hd)
          have i2 : ¬ (dgV (rn t k) : Int) < 0 := by omega
          have hn2 : n < 1048576 := by
            have : 16 ^ k ≤ 16 ^ 5 := Nat.pow_le_pow_right (by decide) (by omega)
            omega
          have hor := shl_or n (dgV (rn t k)) hn2 hd
          have hw32 : wrap32 ((n : Int) * 16) = (n : Int) * 16 := by unfold wrap32; omega
          go_wp2_with (go_at_call 151; refine (unhide (hdg _)).mono ?_; rintro e w' ⟨rfl, rfl⟩)
          go_roundw
          case rel =>
            refine ⟨16 * n + dgV (rn t k), k + 1, by push_cast; rfl, by omega, by omega, ?_, hide ⟨?_, ?_⟩, unhide HB⟩
            · rw [Nat.pow_succ]; omega
            · have h1 := (unhide H).1
              have hb := hlow.1
              obtain ⟨g, hg⟩ : ∃ g, f - k = g + 1 := ⟨f - k - 1, by omega⟩
              rw [hg, hxR_step (by omega) (by rw [Nat.zero_add, hb]; exact hd), Nat.zero_add, hb] at h1
              rw [show f - (k + 1) = g by omega]
              exact h1
            · have := unhide Hit
              rw [hlow.2.1] at this
              exact this
          case measure =>
            rw [unhide Hip]
            simp only [World.iterPos, unhide Hit]
            have := hlow.2.1
            omega
        · have hdI : dgI (rn t k) = -1 := by unfold dgI; rw [if_neg hd]
          have HE := hide (show A = (n, k) by rw [← (unhide H).1]; exact hxR_stop (by rw [Nat.zero_add, ← dg_rn t k hp]; exact fun h => hd h.2))
          clear hd
          go_wp2_with (go_at_call 151; refine (unhide (hdg _)).mono ?_; rintro e w' ⟨rfl, rfl⟩)
          go_ret2
          rw [unhide HE]
          exact ⟨rfl, unhide HB⟩
    · have hnx : ∀ ty, (Instr.next (.pointer (some ⟨w.heap.size, 0, none⟩)) true ty).run Tryz.prog wr = .ok (.tuple #[.bool false]) wr := fun ty => run_next_end_at wr w.heap.size t k ty (unhide H).2 hp
      have HE := hide (show A = (n, k) by rw [← (unhide H).1]; exact hxR_stop (by omega))
      have hkt : (k : Int) = (t.size : Int) := by omega
      go_wp2
      go_ret2
      rw [unhide HE]
      refine ⟨?_, hB⟩
      show Ending.returned (.tuple #[.int .i32 (n : Int), .int .i64 (t.size : Int)]) = Ending.returned (.tuple #[.int .i32 (n : Int), .int .i64 (k : Int)])
      rw [hkt]

theorem enc_back (n : Int) : ofL (encL n) = Utf8.encode n := by unfold encL; generalize Utf8.encode n = b; simp [bL, ofL]
theorem dec_back (n : Int) : Utf8.decode (Utf8.encode n) 0 = (fixN n, (encL n).length) := by
  have h := (dec_enc [] [] n).1
  rw [List.nil_append, List.append_nil, enc_back] at h
  exact h
theorem rn_back (n : Int) : rn (Utf8.encode n) 0 = fixN n := rn_of (dec_back n)
theorem size_back (n : Int) : 0 < (Utf8.encode n).size := by rw [← encL_size]; exact encL_pos _
theorem dR_back (n : Int) : dR (Utf8.encode n) 0 = ((fixN n : Nat) : Int) := by
  have h := dR_in (Utf8.encode n) 0 (size_back n)
  rw [rn_back] at h
  exact h
theorem fix_no (n : Int) (hv : Utf8.valid n = false) : ((fixN n : Nat) : Int) ≠ n := by
  intro e
  have := fixN_valid n
  have h3 : Utf8.valid n = true := (valid_iff n).2 (by omega)
  rw [h3] at hv
  cases hv
theorem isRune_enc (n : Nat) : (dR (Utf8.encode (n : Int)) 0 == (n : Int)) = Utf8.valid (n : Int) := by
  rw [dR_back]
  cases hv : Utf8.valid (n : Int) with
  | true =>
    have : fixN (n : Int) = n := by unfold fixN; rw [if_pos hv]; omega
    rw [this, beq_self_eq_true]
  | false => exact beq_eq_false_iff_ne.2 (fix_no _ hv)

set_option maxHeartbeats 800000 in
theorem isRune_in (n : Nat) (hn : n < 16777216) (w : World) :
    Calls Tryz.prog 138 #[.int .i32 (n : Int)] w fun e w' => e = .returned (.bool (Utf8.valid (n : Int))) ∧ w = w' := by
  have henc := fun W => hide (encode_any (n : Int) W)
  have hdec := fun W => hide (decode_any (Utf8.encode (n : Int)) 0 W (by have := encL_le4 (n : Int); rw [encL_size] at this; unfold maxLen; omega))
  have hv := hide (isRune_enc n)
  go_enter Tryz.func138, Tryz.ntmps138
  go_wp2_with (first | (go_at_call 98; refine (unhide (henc _)).mono ?_; rintro e w' ⟨rfl, rfl⟩) | (go_at_call 114; refine (unhide (hdec _)).mono ?_; rintro e w' ⟨rfl, rfl⟩))
  go_ret
  refine ⟨?_, rfl⟩
  rw [← unhide hv]
  generalize dR (Utf8.encode (n : Int)) 0 = x
  rfl

/-- a text behind so many bytes -/
def frS (s : ByteArray) (i : Nat) : ByteArray := s.extract i s.size
theorem frS_list (s : ByteArray) (i : Nat) : (frS s i).data.toList = s.data.toList.drop i := by
  unfold frS
  simp
  rw [List.take_of_length_le]
  simp
theorem ofL_drop (s : ByteArray) (i : Nat) : (⟨(s.data.toList.drop i).toArray⟩ : ByteArray) = frS s i := by
  apply toList_inj
  rw [frS_list]
theorem frS_size (s : ByteArray) (i : Nat) : (frS s i).size = s.size - i := by unfold frS; rw [ByteArray.size_extract]; omega
theorem frS_by (s : ByteArray) (i k : Nat) (h : i + k < s.size) : by_ (frS s i) k = by_ s (i + k) := by unfold frS; exact by_ext s i s.size k (Nat.le_refl _) h
theorem hxR_drop (s : ByteArray) (i : Nat) : ∀ (f j n k : Nat), hxR (frS s i) j f n k = hxR s (i + j) f n k
  | 0, j, n, k => rfl
  | f + 1, j, n, k => by
    unfold hxR
    by_cases h : i + j + k < s.size
    · rw [frS_size, frS_by s i (j + k) (by omega), show i + (j + k) = i + j + k by omega]
      by_cases hd : dgV (by_ s (i + j + k)) < 16
      · rw [if_pos ⟨by omega, hd⟩, if_pos ⟨h, hd⟩, hxR_drop s i f j _ _]
      · rw [if_neg (fun x => hd x.2), if_neg (fun x => hd x.2)]
    · rw [frS_size, if_neg (by omega), if_neg (by omega)]

theorem conv_one (b : UInt8) (w : World) : (convert 38 9 (.slice (some ⟨w.heap.size, 0, none⟩) 1 1)).run Tryz.prog (w.alloc (.cells #[.int .u8 (b.toNat : Int)] 5)) = .ok (.string (ofL [b])) (w.alloc (.cells #[.int .u8 (b.toNat : Int)] 5)) := by
  have := conv_bytes (w.alloc (.cells #[.int .u8 (b.toNat : Int)] 5)) ⟨w.heap.size, 0, none⟩ 1 1 [(b.toNat : Int)] rfl (fun j hj => by
    have : j = 0 := by simpa using hj
    subst this
    have hb : (w.alloc (.cells #[.int .u8 (b.toNat : Int)] 5)).heap[w.heap.size]? = some (.cells #[.int .u8 (b.toNat : Int)] 5) := by show (w.heap.push _)[w.heap.size]? = _; simp
    show World.cell? _ ⟨w.heap.size, 0, none⟩ = _
    unfold World.cell?
    simp only [hb]
    rfl)
  rw [this]
  simp

def resE (o : Option (List UInt8 × Nat)) : ByteArray × Nat := match o with | some (x, n) => (ofL x, n) | none => (ofL [], 0)
theorem hxR_val (s : ByteArray) (i : Nat) : ∀ (f n k : Nat), n < 16 ^ k → (hxR s i f n k).1 < 16 ^ (hxR s i f n k).2
  | 0, n, k, h => h
  | f + 1, n, k, h => by
    unfold hxR
    split
    · rename_i h2
      exact hxR_val s i f _ _ (by rw [Nat.pow_succ]; omega)
    · exact h

set_option maxRecDepth 100000 in
set_option maxHeartbeats 800000 in
theorem saidByte_in (t : ByteArray) (ht : t.size ≤ 1000000000) (w : World) :
    Calls Tryz.prog 119 #[.string t] w fun e w' => e = .returned (.tuple #[.string (resE (byteE t 0)).1, .int .i64 ((resE (byteE t 0)).2 : Int)]) ∧ Below w.heap.size w w' := by
  have hhx := fun W => hide (hex_in t ht 2 (by omega) W)
  have hb := hxR_snd t 0 2 0 0
  have hv := hxR_val t 0 2 0 0 (by simp)
  by_cases h2 : (hxR t 0 2 0 0).2 = 2
  · have HE := hide (show byteE t 0 = some ([UInt8.ofNat (hxR t 0 2 0 0).1], 4) by unfold byteE; rw [if_pos h2])
    rw [h2] at hv hhx
    generalize (hxR t 0 2 0 0).1 = n at hv hhx HE
    have hcv : ∀ W : World, (convert 38 9 (.slice (some ⟨W.heap.size, 0, none⟩) 1 1)).run Tryz.prog (W.alloc (.cells #[.int .u8 ((n : Int) % 256)] 5)) = .ok (.string (ofL [UInt8.ofNat n])) (W.alloc (.cells #[.int .u8 ((n : Int) % 256)] 5)) := fun W => by
      rw [show (n : Int) % 256 = ((UInt8.ofNat n).toNat : Int) by rw [u8n n (by omega)]; omega]
      exact conv_one _ W
    clear hb h2 hv
    rw [unhide HE]
    go_enter Tryz.func119, Tryz.ntmps119
    go_wp2_with (go_at_call 137; refine (unhide (hhx _)).mono ?_; rintro e w' ⟨rfl, hB⟩)
    go_ret2
    exact ⟨rfl, hB.alloc hB.size _⟩
  · have HE := hide (show byteE t 0 = none by unfold byteE; rw [if_neg h2])
    have i1 : ((hxR t 0 2 0 0).2 : Int) < 2 := by omega
    generalize (hxR t 0 2 0 0).1 = n at hv hhx
    generalize (hxR t 0 2 0 0).2 = k at i1 hv hhx
    clear hb h2 hv
    rw [unhide HE]
    go_enter Tryz.func119, Tryz.ntmps119
    go_wp2_with (go_at_call 137; refine (unhide (hhx _)).mono ?_; rintro e w' ⟨rfl, hB⟩)
    go_ret2
    exact ⟨rfl, hB⟩

end Go.Proofs.YtkndjbmlkfpfoaaGreatDoor
