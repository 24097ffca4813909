/-
  What quote.Quote answers: the text in quotes.
-/
import Derived.Test.YticjilkcobpcjaaDoorZFi
import Derived.Lib.OthersKept
set_option linter.unusedSimpArgs false
set_option linter.unusedVariables false
namespace Go.Proofs.YticjilkcobpcjaaDoor
open Go.RowKit Go.Lib Go.Maps

theorem builderAtF_kept {T e : TypeId} {B b : Nat} {p : Value} {bs : List Value} {W W' : World} (h : BuilderAtF T e B b p bs W) (hg : Below W.heap.size W W') : BuilderAtF T e B b p bs W' := by
  obtain ⟨hB, v, hb, hown, hne⟩ := h
  have keep : ∀ {k : Nat} {c : Array Value} {t : TypeId} {fz : Nat × Nat}, W.heap[k]? = some (.cells c t fz) → W'.heap[k]? = some (.cells c t fz) := by
    intro k c t fz hk
    have hlt : k < W.heap.size := (Array.getElem?_eq_some_iff.1 hk).1
    exact (hg.block k hlt).trans hk
  refine ⟨hB, v, keep hb, ⟨hown.1, ?_⟩, hne⟩
  rcases hown.2 with hn | ⟨g, cap, cur, fz, hv, hbg, hgg, rest⟩
  · exact .inl hn
  · exact .inr ⟨g, cap, cur, fz, hv, hbg, keep hgg, rest⟩
theorem isB_below {T e : TypeId} {B b : Nat} {bs : List Value} {W W' : World} (h : IsBuilderF T e B b bs W) (hg : Below W.heap.size W W') : IsBuilderF T e B b bs W' :=
  h.elim (fun x => .inl (builderAtF_kept x hg)) (fun x => .inr (builderAtF_kept x hg))

/-- a Builder, an iterator over a text, and a map beside them -/
def QSt (kt et : TypeId) (w wr : World) (s : ByteArray) (m r : Nat) (D : DataW Unit) (pos : Nat) (acc : List UInt8) : Prop :=
  IsBuilderF 62 5 w.heap.size w.heap.size (byteCells acc) wr ∧ wr.heap[r]? = some (.stringIter s pos) ∧ wr.ownsMap Tryd.prog kt (plainElem Tryd.prog et) m 5 D ∧ Below w.heap.size w wr ∧ w.heap.size < m ∧ w.heap.size < r ∧ m ≠ r ∧ w.heap.size ≤ wr.heap.size

theorem QSt.next {kt et : TypeId} {w wr : World} {s : ByteArray} {m r : Nat} {D : DataW Unit} {pos : Nat} {acc : List UInt8} (h : QSt kt et w wr s m r D pos acc) (p' : Nat) : QSt kt et w (wr.iterAt r s p') s m r D p' acc := by
  obtain ⟨h1, h2, ⟨es, clock, hb, rst⟩, h4, h5, h6, h7, h8⟩ := h
  exact ⟨h1.iterAt h2 p', iterAt_heap wr r s pos p' h2, ⟨es, clock, (iterAt_other wr r m s p' h7).trans hb, rst⟩, below_iterAt h4 (by omega) s p', h5, h6, h7, by rw [iterAt_size]; exact h8⟩
theorem QSt.below {kt et : TypeId} {w wr wr' : World} {s : ByteArray} {m r : Nat} {D : DataW Unit} {pos : Nat} {acc : List UInt8} (h : QSt kt et w wr s m r D pos acc) (hb : Below wr.heap.size wr wr') : QSt kt et w wr' s m r D pos acc := by
  obtain ⟨h1, h2, h3, h4, h5, h6, h7, h8⟩ := h
  exact ⟨isB_below h1 hb, (hb.block r (Array.getElem?_eq_some_iff.1 h2).1).trans h2, ownsMap_below h3 hb h3.lt, h4.trans (hb.mono h8), h5, h6, h7, Nat.le_trans h8 hb.size⟩
theorem QSt.wrote {kt et : TypeId} {w wr wr' : World} {s : ByteArray} {m r : Nat} {D : DataW Unit} {pos : Nat} {acc x : List UInt8} {p : Value} {cs : List Value} (h : QSt kt et w wr s m r D pos acc)
    (hw : BuilderAtF 62 5 w.heap.size w.heap.size (.pointer (some ⟨w.heap.size, 0, none⟩)) (byteCells acc ++ cs) wr') (hc : cs = byteCells x) (hB : Below w.heap.size wr wr') (hK : OthersKept 5 (some w.heap.size) wr wr') : QSt kt et w wr' s m r D pos (acc ++ x) := by
  obtain ⟨h1, h2, ⟨es, clock, hb, rst⟩, h4, h5, h6, h7, h8⟩ := h
  refine ⟨?_, hK.iter h2 (by omega), ⟨es, clock, hK m _ hb (fun e => by have := Option.some.inj e; omega) (fun _ _ e => by cases e), rst⟩, h4.trans hB, h5, h6, h7, Nat.le_trans h8 hB.size⟩
  rw [byteCells_append, ← hc]
  exact .inr hw
theorem QSt.isB {kt et : TypeId} {w wr : World} {s : ByteArray} {m r : Nat} {D : DataW Unit} {pos : Nat} {acc : List UInt8} (h : QSt kt et w wr s m r D pos acc) : IsBuilderF 62 5 w.heap.size w.heap.size (byteCells acc) wr := h.1

theorem lit_val {D : DataW Unit} {k : Lit} {z : DataW Unit} {q : IntKind} {c c' : Int} (h1 : D.atKey k z = .lit (.int q c)) (h2 : D.atKey k z = .lit (.int q c')) : c = c' := by
  have := h1.symm.trans h2
  cases this
  rfl

theorem ofNat_cell (n : Nat) (h : n < 256) : [Value.int .u8 (n : Int)] = byteCells [UInt8.ofNat n] := by
  have := u8n n h
  show [Value.int .u8 (n : Int)] = [Value.int .u8 ((UInt8.ofNat n).toNat : Int)]
  rw [this]
theorem strCells_ofL (l : List UInt8) : strCells (ofL l) = byteCells l := by unfold strCells; rw [ofL_list]; rfl
theorem encL_size (n : Int) : (encL n).length = (Utf8.encode n).size := by
  unfold encL
  generalize Utf8.encode n = b
  simp [bL]
theorem ltN_lt (r : Nat) : ltN r < 256 := by unfold ltN; (repeat' split) <;> omega
theorem fb_le (N : Nat) (h : N ≤ 1114111) : (fb N).length ≤ 6 := by
  by_cases h0 : N = 0
  · subst h0; decide
  · rw [fb_hx N N (Nat.le_refl _) h0]
    unfold hxL
    rw [hxF_map, List.length_map]
    exact dgF_len N N 6 (by omega)
theorem rn_le (s : ByteArray) (i : Nat) (h : i < s.size) : rn s i ≤ 1114111 := by have := rn_valid s i h; omega
theorem qP_len (s : ByteArray) (i : Nat) (h : i < s.size) : (qP s i).length ≤ 10 := by
  unfold qP
  (repeat' split)
  · simp
  · simp [bxL]
  · have := rn_le s i h
    have h2 := fb_le (rn s i) this
    by_cases h0 : rn s i = 0
    · rw [h0]; decide
    · rw [fb_hx _ _ (Nat.le_refl _) h0] at h2
      simp [uxL]; omega
  · have := encL_le4 ((rn s i : Nat) : Int); omega

set_option maxRecDepth 100000 in
set_option maxHeartbeats 4000000 in
theorem quote_in (s : ByteArray) (hs : s.size ≤ 1000000000) (w : World) (hT : Tab w) :
    Calls Tryd.prog 13 #[.string s] w fun e w' => e = .returned (.string (qT s)) ∧ Below w.heap.size w w' := by
  have hlet := fun W => hide (letters_in W)
  have hsm : s.size ≤ maxLen := by unfold maxLen; omega
  have e1 : ∀ o, (w.alloc o).heap.size = w.heap.size + 1 := fun o => by simp
  go_enter Tryd.func13, Tryd.ntmps13
  go_wp2_with (first | (go_at_call 30; refine (unhide (hlet _)).mono ?_; rintro e W1 ⟨rfl, ⟨D, hown, hkn⟩, hb1⟩; rw [e1] at hown hb1 ⊢) | fail)
  have e2 : (w.alloc (.cells #[.pointer none, .slice none 0 0] 62)).heap.size = w.heap.size + 1 := e1 _
  have hI1 := isB_below (IsBuilderF.of (fresh_isBuilder 62 5 w)) (by rw [e2]; exact hb1)
  have hBw1 : Below w.heap.size w W1 := ((Below.refl _ w).alloc (Nat.le_refl _) _).trans (hb1.mono (Nat.le_succ _))
  have hz1 : w.heap.size + 1 < W1.heap.size := hown.lt
  refine (writeByte_k w.heap.size w.heap.size [] 34 W1 hI1 (by simp) hBw1.size).mono ?_
  rintro e W2 ⟨rfl, hI2, hB2, hK2⟩
  have hz2 : w.heap.size + 1 < W2.heap.size := Nat.lt_of_lt_of_le hz1 hB2.size
  obtain ⟨es, clock, hbm, rst⟩ := hown
  have hm2 : W2.ownsMap Tryd.prog 21 (plainElem Tryd.prog 5) (w.heap.size + 1) 5 D := ⟨es, clock, hK2 _ _ hbm (fun e => by have := Option.some.inj e; omega) (fun _ _ e => by cases e), rst⟩
  have Q0 : QSt 21 5 w (W2.iter s 0) s (w.heap.size + 1) W2.heap.size D 0 [34] :=
    ⟨(show IsBuilderF 62 5 w.heap.size w.heap.size (byteCells [34]) W2 from .inr hI2).alloc _, World.iter_heap W2 s 0, hm2.alloc _, (hBw1.trans hB2).alloc (by omega) _, by omega, by omega, by omega, by show w.heap.size ≤ (W2.alloc _).heap.size; simp; omega⟩
  have HQ0 := hide Q0
  have Hkn := hide hkn
  clear hI1 hBw1 hz1 hI2 hB2 hK2 hbm rst hm2 Q0 hkn hb1 e1 e2 hlet
  obtain ⟨R, hR⟩ : ∃ R, W2.heap.size = R := ⟨_, rfl⟩
  go_wp2
  rw [hR] at HQ0
  go_loopw [] (fun wr => ∃ (pos : Nat) (l : List Nat), pos ≤ s.size ∧ Hid (allL s = l ++ frm s pos ∧ (qL s l).length ≤ 10 * pos ∧ wr.iterPos R = pos) ∧ Hid (QSt 21 5 w wr s (w.heap.size + 1) R D pos (34 :: qL s l))) (fun wr => s.size - wr.iterPos R)
  case atStart => exact ⟨0, [], Nat.zero_le _, hide ⟨by rw [allL_frm]; rfl, by simp [qL], by simp [World.iterPos, (unhide HQ0).2.1]⟩, HQ0⟩
  case round =>
    obtain ⟨pos, l, hpl, HL, HQ⟩ := hrel
    by_cases hp : pos < s.size
    · have hnx : ∀ ty, (Instr.next (.pointer (some ⟨R, 0, none⟩)) true ty).run Tryd.prog wr = .ok (.tuple #[.bool true, .int .i64 (pos : Int), .int .i32 (rn s pos : Nat)]) (wr.iterAt R s (pos + wd s pos)) := fun ty => run_next_any_at wr R s pos ty (unhide HQ).2.1 hp
      have HQ1 := hide ((unhide HQ).next (pos + wd s pos))
      obtain ⟨V0, hV0⟩ : ∃ V, wr.iterAt R s (pos + wd s pos) = V := ⟨_, rfl⟩
      rw [hV0] at hnx HQ1
      clear HQ hV0
      have hwf : (Lit.int .i32 ((rn s pos : Nat) : Int)).wf = true := WalkArith.wf_i32 (by have := rn_le s pos hp; omega)
      have LB := hide (show (34 :: qL s l).length + 100 ≤ 140737488355328 by have := (unhide HL).2.1; simp; omega)
      have HN := hide (show allL s = (l ++ [pos]) ++ frm s (pos + wd s pos) ∧ (qL s (l ++ [pos])).length ≤ 10 * (pos + wd s pos) by
        refine ⟨by rw [(unhide HL).1, frm_step s pos hp]; simp, ?_⟩
        have h1 := (unhide HL).2.1
        have h2 := qP_len s pos hp
        have h3 := wd_pos s pos hp
        rw [qL_snoc, List.length_append]; omega)
      have HT := hide (show Tab V0 from hT.below (unhide HQ1).2.2.2.1 hT.2)
      by_cases hl : ltN (rn s pos) ≠ 0
      · have hh : Maps.has D (.int .i32 ((rn s pos : Nat) : Int)) = true := by rw [(unhide Hkn (rn s pos)).1]; simpa using hl
        have HP := hide (show qP s pos = [92, UInt8.ofNat (ltN (rn s pos))] by unfold qP; rw [if_pos hl])
        have Hat := hide ((unhide Hkn (rn s pos)).2 hl)
        clear hl
        go_wp2_with (at_lookup; refine wpList_lookup_own_ok_int _ rfl _ _ 63 rfl 21 5 .u8 lawI32 Tryd.underlying63 Tryd.underlying5 (zeroU8 _) (w.heap.size + 1) 5 _ rfl (unhide HQ1).2.2.1 _ _ rfl (keyOf_int_mk Tryd.underlying21 hwf) ?_; intro c hat hwc; have HC := hide (lit_val hat (unhide Hat _)); clear hat hwc)
        refine (writeByte_k w.heap.size w.heap.size _ 92 V0 (unhide HQ1).isB (by have := unhide LB; simp only [byteCells_length, List.length_append, List.length_cons, List.length_nil, ofL_size] at this ⊢; omega) (unhide HQ1).2.2.2.2.2.2.2).mono ?_
        rintro e V1 ⟨rfl, hI, hB, hK⟩
        have HQ2 := hide ((unhide HQ1).wrote (p := .nilIface) hI (ofNat_cell 92 (by decide)) hB hK)
        clear hI hB hK HQ1
        go_wp2_with fail
        refine (writeByte_k w.heap.size w.heap.size _ c V1 (unhide HQ2).isB (by have := unhide LB; simp only [byteCells_length, List.length_append, List.length_cons, List.length_nil, ofL_size] at this ⊢; omega) (unhide HQ2).2.2.2.2.2.2.2).mono ?_
        rintro e V2 ⟨rfl, hI, hB, hK⟩
        have HQ3 := hide ((unhide HQ2).wrote (p := .nilIface) hI (by rw [unhide HC]; exact ofNat_cell _ (ltN_lt _)) hB hK)
        clear hI hB hK HQ2
        go_wp2
        go_roundw
        case rel => exact ⟨pos + wd s pos, l ++ [pos], (wd_le s pos hp).1, hide ⟨(unhide HN).1, (unhide HN).2, by simp [World.iterPos, (unhide HQ3).2.1]⟩, by rw [show 34 :: qL s (l ++ [pos]) = ((34 :: qL s l) ++ [UInt8.ofNat 92]) ++ [UInt8.ofNat (ltN (rn s pos))] by rw [qL_snoc, unhide HP]; simp]; exact HQ3⟩
        case measure => rw [(unhide HL).2.2]; simp only [World.iterPos, (unhide HQ3).2.1]; have := wd_pos s pos hp; omega
      · have hh : Maps.has D (.int .i32 ((rn s pos : Nat) : Int)) = false := by rw [(unhide Hkn (rn s pos)).1]; simpa using hl
        have hraw := fun W => hide (raw_in s pos W hsm hp)
        by_cases hr : rawB s pos = true
        · have HP := hide (show qP s pos = bxL (by_ s pos) by unfold qP; rw [if_neg hl, if_pos hr])
          have hgt := by_get s pos hp
          have hbe := hide (byteEscape_in (by_ s pos) (by_lt s pos) V0 (unhide HT))
          clear hl
          go_wp2_with (first | (at_lookup; refine wpList_lookup_own_ok_int _ rfl _ _ 63 rfl 21 5 .u8 lawI32 Tryd.underlying63 Tryd.underlying5 (zeroU8 _) (w.heap.size + 1) 5 _ rfl (unhide HQ1).2.2.1 _ _ rfl (keyOf_int_mk Tryd.underlying21 hwf) ?_; intro c hat hwc; clear hat hwc) | (go_at_call 32; refine (unhide (hraw _)).mono ?_; rintro e w' ⟨rfl, rfl⟩) | (go_at_call 34; refine (unhide hbe).mono ?_; rintro e V1 ⟨rfl, hB1⟩) | fail)
          have HQ2 := hide ((unhide HQ1).below hB1)
          clear HQ1 hB1 hraw
          refine (writeString_k w.heap.size w.heap.size _ (ofL (bxL (by_ s pos))) V1 (unhide HQ2).isB (by have := unhide LB; simp only [byteCells_length, List.length_append, List.length_cons, List.length_nil, ofL_size, bxL] at this ⊢; omega) (unhide HQ2).2.2.2.2.2.2.2).mono ?_
          rintro e V2 ⟨rfl, hI, hB, hK⟩
          have HQ3 := hide ((unhide HQ2).wrote (p := .nilIface) hI (strCells_ofL _) hB hK)
          clear hI hB hK HQ2
          go_wp2
          go_roundw
          case rel => exact ⟨pos + wd s pos, l ++ [pos], (wd_le s pos hp).1, hide ⟨(unhide HN).1, (unhide HN).2, by simp [World.iterPos, (unhide HQ3).2.1]⟩, by rw [show 34 :: qL s (l ++ [pos]) = (34 :: qL s l) ++ bxL (by_ s pos) by rw [qL_snoc, unhide HP]; simp]; exact HQ3⟩
          case measure => rw [(unhide HL).2.2]; simp only [World.iterPos, (unhide HQ3).2.1]; have := wd_pos s pos hp; omega
        · have hr' : rawB s pos = false := by simpa using hr
          have hhid := hide (hidden_in (rn s pos) (rn_le s pos hp) V0)
          by_cases hd : hidN (rn s pos) = true
          · have HP := hide (show qP s pos = uxL (rn s pos) by unfold qP; rw [if_neg hl, if_neg hr, if_pos hd])
            have hn0 : rn s pos ≠ 0 := by intro e; rw [e] at hd; exact absurd hd (by decide)
            have he : (⟨#[92, 117, 123]⟩ : ByteArray) ++ ofL (fb (rn s pos)) ++ ⟨#[125]⟩ = ofL (uxL (rn s pos)) := by
              rw [fb_hx _ _ (Nat.le_refl _) hn0]
              apply toList_inj
              simp [ofL, uxL]
            have HE := hide he
            have hw64 : wrap64 ((rn s pos : Nat) : Int) = ((rn s pos : Nat) : Int) := by have := rn_le s pos hp; unfold wrap64; omega
            have hz6 : (ofL (fb (rn s pos))).size ≤ 6 := by rw [ofL_size]; exact fb_le _ (rn_le s pos hp)
            have hf := fun W h => hide (format_in (rn s pos) (rn_le s pos hp) W h)
            have HLU := hide (show (uxL (rn s pos)).length ≤ 10 by have := qP_len s pos hp; rw [unhide HP] at this; exact this)
            clear hl hr he hn0
            go_wp2_with (first | (at_lookup; refine wpList_lookup_own_ok_int _ rfl _ _ 63 rfl 21 5 .u8 lawI32 Tryd.underlying63 Tryd.underlying5 (zeroU8 _) (w.heap.size + 1) 5 _ rfl (unhide HQ1).2.2.1 _ _ rfl (keyOf_int_mk Tryd.underlying21 hwf) ?_; intro c hat hwc; clear hat hwc) | (go_at_call 32; refine (unhide (hraw _)).mono ?_; rintro e w' ⟨rfl, rfl⟩) | (go_at_call 35; refine (unhide hhid).mono ?_; rintro e V1 ⟨rfl, hB1⟩) | fail)
            refine (unhide (hf V1 ((unhide HT).below hB1 (unhide HT).2))).mono ?_
            rintro e V2 ⟨rfl, hB2⟩
            go_wp2_with fail
            have HQ2 := hide (((unhide HQ1).below hB1).below hB2)
            clear HQ1 hB1 hB2 hraw
            rw [unhide HE]
            refine (writeString_k w.heap.size w.heap.size _ (ofL (uxL (rn s pos))) V2 (unhide HQ2).isB (by have := unhide LB; have := unhide HLU; simp only [byteCells_length, List.length_append, List.length_cons, List.length_nil, ofL_size] at *; omega) (unhide HQ2).2.2.2.2.2.2.2).mono ?_
            rintro e V3 ⟨rfl, hI, hB, hK⟩
            have HQ3 := hide ((unhide HQ2).wrote (p := .nilIface) hI (strCells_ofL _) hB hK)
            clear hI hB hK HQ2
            go_wp2
            go_roundw
            case rel => exact ⟨pos + wd s pos, l ++ [pos], (wd_le s pos hp).1, hide ⟨(unhide HN).1, (unhide HN).2, by simp [World.iterPos, (unhide HQ3).2.1]⟩, by rw [show 34 :: qL s (l ++ [pos]) = (34 :: qL s l) ++ uxL (rn s pos) by rw [qL_snoc, unhide HP]; simp]; exact HQ3⟩
            case measure => rw [(unhide HL).2.2]; simp only [World.iterPos, (unhide HQ3).2.1]; have := wd_pos s pos hp; omega
          · have HP := hide (show qP s pos = encL (rn s pos : Nat) by unfold qP; rw [if_neg hl, if_neg hr, if_neg hd])
            have hd' : hidN (rn s pos) = false := by simpa using hd
            have henc := fun W => hide (encode_any ((rn s pos : Nat) : Int) W)
            have HL4 := hide (show (Utf8.encode ((rn s pos : Nat) : Int)).size ≤ 4 by rw [← encL_size]; exact encL_le4 _)
            clear hl hr hd
            go_wp2_with (first | (at_lookup; refine wpList_lookup_own_ok_int _ rfl _ _ 63 rfl 21 5 .u8 lawI32 Tryd.underlying63 Tryd.underlying5 (zeroU8 _) (w.heap.size + 1) 5 _ rfl (unhide HQ1).2.2.1 _ _ rfl (keyOf_int_mk Tryd.underlying21 hwf) ?_; intro c hat hwc; clear hat hwc) | (go_at_call 32; refine (unhide (hraw _)).mono ?_; rintro e w' ⟨rfl, rfl⟩) | (go_at_call 35; refine (unhide hhid).mono ?_; rintro e V1 ⟨rfl, hB1⟩) | (go_at_call 37; refine (unhide (henc _)).mono ?_; rintro e w' ⟨rfl, rfl⟩) | fail)
            have HQ2 := hide ((unhide HQ1).below hB1)
            clear HQ1 hB1 hraw
            refine (writeString_k w.heap.size w.heap.size _ (Utf8.encode ((rn s pos : Nat) : Int)) V1 (unhide HQ2).isB (by have := unhide LB; have h4 := unhide HL4; simp only [byteCells_length, List.length_cons] at this ⊢; omega) (unhide HQ2).2.2.2.2.2.2.2).mono ?_
            rintro e V3 ⟨rfl, hI, hB, hK⟩
            have HQ3 := hide ((unhide HQ2).wrote (x := encL (rn s pos : Nat)) (p := .nilIface) hI rfl hB hK)
            clear hI hB hK HQ2
            go_wp2
            go_roundw
            case rel => exact ⟨pos + wd s pos, l ++ [pos], (wd_le s pos hp).1, hide ⟨(unhide HN).1, (unhide HN).2, by simp [World.iterPos, (unhide HQ3).2.1]⟩, by rw [show 34 :: qL s (l ++ [pos]) = (34 :: qL s l) ++ encL (rn s pos : Nat) by rw [qL_snoc, unhide HP]; simp]; exact HQ3⟩
            case measure => rw [(unhide HL).2.2]; simp only [World.iterPos, (unhide HQ3).2.1]; have := wd_pos s pos hp; omega
    · have hnx : ∀ ty, (Instr.next (.pointer (some ⟨R, 0, none⟩)) true ty).run Tryd.prog wr = .ok (.tuple #[.bool false]) wr := fun ty => run_next_end_at wr R s pos ty (unhide HQ).2.1 hp
      have LB := hide (show (34 :: qL s l).length + 100 ≤ 140737488355328 by have := (unhide HL).2.1; simp; omega)
      have HA := hide (show qT s = ⟨((34 :: qL s l) ++ [UInt8.ofNat 34]).toArray⟩ by
        have h1 := (unhide HL).1
        rw [frm_end s pos hp, List.append_nil] at h1
        unfold qT; rw [h1]; rfl)
      go_wp2_with fail
      refine (writeByte_k w.heap.size w.heap.size _ 34 wr (unhide HQ).isB (by have := unhide LB; simp only [byteCells_length, List.length_append, List.length_cons, List.length_nil, ofL_size] at this ⊢; omega) (unhide HQ).2.2.2.2.2.2.2).mono ?_
      rintro e V1 ⟨rfl, hI, hB, hK⟩
      have HQ2 := hide ((unhide HQ).wrote (p := .nilIface) hI (ofNat_cell 34 (by decide)) hB hK)
      clear hI hB hK HQ
      go_wp2_with fail
      refine (string_any_k w.heap.size w.heap.size _ V1 (unhide HQ2).isB (unhide HQ2).2.2.2.2.2.2.2).mono ?_
      rintro e V2 ⟨rfl, hB, hK⟩
      go_wp2
      go_ret
      exact ⟨by rw [unhide HA]; rfl, (unhide HQ2).2.2.2.1.trans hB⟩

end Go.Proofs.YticjilkcobpcjaaDoor
