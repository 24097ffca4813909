/-
  Plain facts: what is read of a text in quotes is the text.
-/
import Derived.Test.YticjilkcobpcjaaDoorZHx
set_option linter.unusedSimpArgs false
set_option linter.unusedVariables false
namespace Go.Proofs.YticjilkcobpcjaaDoor
open Go.Lib

theorem by_app (p q : List UInt8) (j : Nat) (x : UInt8) (h : q[j]? = some x) : by_ (ofL (p ++ q)) (p.length + j) = x.toNat := by
  have hj := (List.getElem?_eq_some_iff.1 h).1
  rw [by_at p q j hj]
  have := (List.getElem?_eq_some_iff.1 h).2
  rw [this]
theorem size_app (p q : List UInt8) : (ofL (p ++ q)).size = p.length + q.length := by rw [ofL_size, List.length_append]

theorem byteE_dig {s : ByteArray} {i a b : Nat} (h : i + 1 < s.size) (h1 : dgV (by_ s i) = a) (h2 : dgV (by_ s (i + 1)) = b) (ha : a < 16) (hb : b < 16) : byteE s i = some ([UInt8.ofNat (16 * a + b)], 4) := by
  have e : hxR s i 2 0 0 = (16 * a + b, 2) := by
    rw [hxR_step (by omega) (by rw [Nat.add_zero, h1]; exact ha), Nat.add_zero, h1, hxR_step (by omega) (by rw [h2]; exact hb), h2]
    simp [hxR]
  unfold byteE; rw [e]; rfl

theorem low_sub {s : ByteArray} {i : Nat} (hi : i < s.size) (hw : wd s i = 1) : subL s i (wd s i) = [UInt8.ofNat (by_ s i)] := by
  rw [hw, subL_1 s i (by omega), by_ofNat]

theorem rd_lt {s : ByteArray} {i : Nat} (hi : i < s.size) (h : ltN (rn s i) ≠ 0) (p rest acc : List UInt8) :
    rdA (ofL (p ++ (qP s i ++ rest))) p.length acc = rdA (ofL (p ++ (qP s i ++ rest))) (p.length + (qP s i).length) (acc ++ subL s i (wd s i)) := by
  have hq : qP s i = [92, UInt8.ofNat (ltN (rn s i))] := by unfold qP; rw [if_pos h]
  have hlow := rn_low s i hi (by unfold ltN at h; (repeat' split at h) <;> omega)
  rw [hq, low_sub hi hlow.2.1]
  have hc := ltN_lt (rn s i)
  have b0 := by_app p ([92, UInt8.ofNat (ltN (rn s i))] ++ rest) 0 92 rfl
  have b1 := by_app p ([92, UInt8.ofNat (ltN (rn s i))] ++ rest) 1 _ rfl
  rw [Nat.add_zero] at b0
  rw [u8n _ hc] at b1
  have hsz := size_app p ([92, UInt8.ofNat (ltN (rn s i))] ++ rest)
  simp only [List.length_append, List.length_cons, List.length_nil] at hsz
  have he : escE (ofL (p ++ ([92, UInt8.ofNat (ltN (rn s i))] ++ rest))) p.length = some ([UInt8.ofNat (by_ s i)], 2) := by
    rw [hlow.1]
    unfold escE
    rw [if_pos (by omega), b1]
    have hr : rn s i = 34 ∨ rn s i = 92 ∨ rn s i = 10 ∨ rn s i = 13 ∨ rn s i = 9 := by unfold ltN at h; (repeat' split at h) <;> omega
    rcases hr with e | e | e | e | e <;> rw [e] <;> rfl
  rw [rdA_some (by omega) b0 he]
  rfl

theorem rd_raw {s : ByteArray} {i : Nat} (hi : i < s.size) (h : ltN (rn s i) = 0) (hr : rawB s i = true) (p rest acc : List UInt8) :
    rdA (ofL (p ++ (qP s i ++ rest))) p.length acc = rdA (ofL (p ++ (qP s i ++ rest))) (p.length + (qP s i).length) (acc ++ subL s i (wd s i)) := by
  have hq : qP s i = bxL (by_ s i) := by unfold qP; rw [if_neg (by rw [h]; decide), if_pos hr]
  have hw : wd s i = 1 := by
    unfold rawB at hr
    simp only [Bool.or_eq_true, decide_eq_true_eq, Bool.not_eq_true'] at hr
    rcases hr with (h1 | h1) | h1
    · exact (rn_low s i hi (by omega)).2.1
    · exact (rn_low s i hi (by omega)).2.1
    · exact (ok_false_iff h1).2
  rw [hq, low_sub hi hw]
  have hb := by_lt s i
  have b0 := by_app p (bxL (by_ s i) ++ rest) 0 92 rfl
  have b1 := by_app p (bxL (by_ s i) ++ rest) 1 120 rfl
  have b2 := by_app p (bxL (by_ s i) ++ rest) 2 (hxD (by_ s i / 16)) rfl
  have b3 := by_app p (bxL (by_ s i) ++ rest) 3 (hxD (by_ s i % 16)) rfl
  rw [Nat.add_zero] at b0
  have hsz := size_app p (bxL (by_ s i) ++ rest)
  simp only [List.length_append, bxL, List.length_cons, List.length_nil] at hsz
  have he : escE (ofL (p ++ (bxL (by_ s i) ++ rest))) p.length = some ([UInt8.ofNat (by_ s i)], 4) := by
    unfold escE
    rw [if_pos (by show p.length + 1 < (ofL (p ++ (bxL (by_ s i) ++ rest))).size; unfold bxL; omega), b1]
    have := byteE_dig (s := ofL (p ++ (bxL (by_ s i) ++ rest))) (i := p.length + 2) (a := by_ s i / 16) (b := by_ s i % 16) (by show p.length + 2 + 1 < (ofL (p ++ (bxL (by_ s i) ++ rest))).size; unfold bxL; omega) (by rw [b2]; exact dgV_hxD _ (by omega)) (by rw [show p.length + 2 + 1 = p.length + 3 from rfl, b3]; exact dgV_hxD _ (by omega)) (by omega) (by omega)
    rw [show 16 * (by_ s i / 16) + by_ s i % 16 = by_ s i by omega] at this
    exact this
  rw [rdA_some (by show p.length < (ofL (p ++ (bxL (by_ s i) ++ rest))).size; unfold bxL; omega) b0 he]
  rfl

theorem rd_hid {s : ByteArray} {i : Nat} (hi : i < s.size) (h : ltN (rn s i) = 0) (hr : rawB s i = false) (hh : hidN (rn s i) = true) (p rest acc : List UInt8) :
    rdA (ofL (p ++ (qP s i ++ rest))) p.length acc = rdA (ofL (p ++ (qP s i ++ rest))) (p.length + (qP s i).length) (acc ++ subL s i (wd s i)) := by
  have hq : qP s i = uxL (rn s i) := by unfold qP; rw [if_neg (by rw [h]; decide), if_neg (by rw [hr]; decide), if_pos hh]
  have hok : okR s i = true := by unfold rawB at hr; simp at hr; exact hr.2
  rw [hq, ← enc_ok s i hi hok]
  have hle := rn_le s i hi
  have hv := rn_valid s i hi
  have h128 : 128 ≤ rn s i := by unfold hidN at hh; simp at hh; omega
  generalize rn s i = r at *
  obtain ⟨d, l, hdl, hd0⟩ := dgF_head r r (by omega) (Nat.le_refl _)
  have hlt := dgF_lt r r
  have hlen := dgF_len r r 6 (by omega)
  have hval := dgF_val r r (Nat.le_refl _)
  have hmap : hxL r = (dgF r r).map hxD := hxF_map r r
  have hu : uxL r ++ rest = [92, 117, 123] ++ ((dgF r r).map hxD ++ (125 :: rest)) := by unfold uxL; rw [hmap]; simp
  have hul : (uxL r).length = 4 + (dgF r r).length := by unfold uxL; rw [hmap]; simp; omega
  rw [hu, hul]
  have hR := hxR_laid (p ++ [92, 117, 123]) (125 :: rest) (dgF r r) [] 6 0 hlt hlen (.inr ⟨125, rest, .inl ⟨rfl, by decide⟩⟩)
  rw [hval] at hR
  simp only [List.nil_append, List.length_nil, Nat.zero_add, List.length_append, List.length_cons] at hR
  have eT : p ++ [92, 117, 123] ++ ((dgF r r).map hxD ++ 125 :: rest) = p ++ ([92, 117, 123] ++ ((dgF r r).map hxD ++ 125 :: rest)) := by simp
  rw [eT] at hR
  obtain ⟨t, ht⟩ : ∃ t, p ++ ([92, 117, 123] ++ ((dgF r r).map hxD ++ 125 :: rest)) = t := ⟨_, rfl⟩
  have hsz : (ofL t).size = p.length + 4 + (dgF r r).length + rest.length := by rw [← ht, ofL_size]; simp; omega
  have b0 : by_ (ofL t) p.length = 92 := by rw [← ht]; exact by_app p _ 0 92 rfl
  have b1 : by_ (ofL t) (p.length + 1) = 117 := by rw [← ht]; exact by_app p _ 1 117 rfl
  have b2 : by_ (ofL t) (p.length + 2) = 123 := by rw [← ht]; exact by_app p _ 2 123 rfl
  have b3 : by_ (ofL t) (p.length + 3) = (hxD d).toNat := by rw [← ht]; exact by_app p _ 3 _ (by rw [hdl]; rfl)
  have be : by_ (ofL t) (p.length + 3 + (dgF r r).length) = 125 := by
    rw [← ht, Nat.add_assoc]
    exact by_app p _ (3 + (dgF r r).length) 125 (by
      rw [List.getElem?_append_right (by simp)]
      simp only [List.length_cons, List.length_nil]
      rw [List.getElem?_append_right (by simp)]
      simp)
  rw [ht] at hR ⊢
  have hd16 : d < 16 := hlt d (by rw [hdl]; exact List.mem_cons_self ..)
  have hnz : (hxD d).toNat ≠ 48 := by rw [hxD_nat d hd16]; split <;> omega
  have hE : runeE (ofL t) (p.length + 3) = some (encL (r : Int), (dgF r r).length + 4) := by
    unfold runeE
    simp only
    rw [hR]
    simp only
    have hk0 : (dgF r r).length ≠ 0 := by rw [hdl]; simp
    rw [if_neg (by rw [b3]; omega), if_pos ⟨by omega, be, val_ok r hv⟩]
  have he : escE (ofL t) p.length = some (encL (r : Int), (dgF r r).length + 4) := by
    unfold escE
    rw [if_pos (by omega), b1]
    simp only [show ¬ (117 : Nat) = 34 by omega, show ¬ (117 : Nat) = 92 by omega, show ¬ (117 : Nat) = 110 by omega, show ¬ (117 : Nat) = 114 by omega, show ¬ (117 : Nat) = 116 by omega, show ¬ (117 : Nat) = 120 by omega, if_false]
    rw [if_pos ⟨trivial, by omega, b2⟩]
    exact hE
  rw [rdA_some (by omega) b0 he, show (dgF r r).length + 4 = 4 + (dgF r r).length by omega]

theorem rd_self {s : ByteArray} {i : Nat} (hi : i < s.size) (h : ltN (rn s i) = 0) (hr : rawB s i = false) (hh : hidN (rn s i) = false) (p rest acc : List UInt8) :
    rdA (ofL (p ++ (qP s i ++ rest))) p.length acc = rdA (ofL (p ++ (qP s i ++ rest))) (p.length + (qP s i).length) (acc ++ subL s i (wd s i)) := by
  have hq : qP s i = encL (rn s i : Nat) := by unfold qP; rw [if_neg (by rw [h]; decide), if_neg (by rw [hr]; decide), if_neg (by rw [hh]; decide)]
  unfold rawB at hr
  simp at hr
  rw [hq, ← enc_ok s i hi hr.2]
  have hv := rn_valid s i hi
  obtain ⟨hd, ho⟩ := dec_enc p rest ((rn s i : Nat) : Int)
  rw [fixN_nat _ hv] at hd
  have h34 : rn s i ≠ 34 := by intro e; rw [e] at h; exact absurd h (by decide)
  have h92 : rn s i ≠ 92 := by intro e; rw [e] at h; exact absurd h (by decide)
  generalize rn s i = r at *
  obtain ⟨t, ht⟩ : ∃ t, p ++ (encL (r : Int) ++ rest) = t := ⟨_, rfl⟩
  have hpos := encL_pos (r : Int)
  have hsz : p.length < (ofL t).size := by rw [← ht, ofL_size]; simp; omega
  rw [ht] at hd ho ⊢
  have hrn : rn (ofL t) p.length = r := rn_of hd
  have hwd : wd (ofL t) p.length = (encL (r : Int)).length := wd_of hd
  have n34 : by_ (ofL t) p.length ≠ 34 := fun e => h34 (by rw [← hrn, (by_low (ofL t) p.length (by omega)).1, e])
  have n92 : by_ (ofL t) p.length ≠ 92 := fun e => h92 (by rw [← hrn, (by_low (ofL t) p.length (by omega)).1, e])
  have hraw : rawB (ofL t) p.length = false := by unfold rawB; rw [hrn, ho, decide_eq_false (by omega), decide_eq_false (by omega)]; rfl
  rw [rdA_rune hsz n34 n92 hraw, hrn, hwd]

/-- WHAT IS READ OF A PIECE IN QUOTES IS THE PIECE. -/
theorem rd_piece {s : ByteArray} {i : Nat} (hi : i < s.size) (p rest acc : List UInt8) :
    rdA (ofL (p ++ (qP s i ++ rest))) p.length acc = rdA (ofL (p ++ (qP s i ++ rest))) (p.length + (qP s i).length) (acc ++ subL s i (wd s i)) := by
  by_cases h : ltN (rn s i) = 0
  · cases hr : rawB s i with
    | true => exact rd_raw hi h hr p rest acc
    | false =>
      cases hh : hidN (rn s i) with
      | true => exact rd_hid hi h hr hh p rest acc
      | false => exact rd_self hi h hr hh p rest acc
  · exact rd_lt hi h p rest acc

theorem rd_from (s : ByteArray) : ∀ (n i : Nat) (p acc : List UInt8), s.size - i ≤ n → i ≤ s.size → rdA (ofL (p ++ (qL s (frm s i) ++ [34]))) p.length acc = (acc ++ s.data.toList.drop i, p.length + (qL s (frm s i)).length + 1, true)
  | 0, i, p, acc, h, hi => by
    have he : ¬ i < s.size := by omega
    have hl : s.data.toList.length = s.size := by simp
    rw [frm_end s i he, List.drop_eq_nil_of_le (by omega)]
    simp only [qL, List.flatMap_nil, List.nil_append, List.append_nil, List.length_nil, Nat.add_zero]
    exact rdA_quote (by rw [ofL_size]; simp) (by_app p [34] 0 34 rfl)
  | n + 1, i, p, acc, h, hi => by
    by_cases hlt : i < s.size
    · have hw := wd_pos s i hlt
      have hw2 := wd_le s i hlt
      rw [frm_step s i hlt, show qL s (i :: frm s (i + wd s i)) = qP s i ++ qL s (frm s (i + wd s i)) from rfl, List.append_assoc, rd_piece hlt]
      have ih := rd_from s n (i + wd s i) (p ++ qP s i) (acc ++ subL s i (wd s i)) (by omega) hw2.1
      rw [List.append_assoc, List.length_append] at ih
      rw [ih]
      have e : subL s i (wd s i) ++ s.data.toList.drop (i + wd s i) = s.data.toList.drop i := by
        rw [subL, ← List.drop_drop, List.take_append_drop]
      rw [List.append_assoc, e]
      simp; omega
    · have hl : s.data.toList.length = s.size := by simp
      rw [frm_end s i hlt, List.drop_eq_nil_of_le (by omega)]
      simp only [qL, List.flatMap_nil, List.nil_append, List.append_nil, List.length_nil, Nat.add_zero]
      exact rdA_quote (by rw [ofL_size]; simp) (by_app p [34] 0 34 rfl)

/-- THERE AND BACK. -/
theorem rd_quoted (s : ByteArray) : rdE (qT s) 1 = (s.data.toList, (qT s).size, true) := by
  have := rd_from s s.size 0 [34] [] (by omega) (by omega)
  rw [← allL_frm] at this
  rw [rdA_zero]
  have e : qT s = ofL ([34] ++ (qL s (allL s) ++ [34])) := rfl
  rw [← e] at this
  rw [show ([34] : List UInt8).length = 1 from rfl] at this
  rw [this]
  have hz : (qT s).size = 1 + (qL s (allL s)).length + 1 := by rw [e, ofL_size]; simp; omega
  rw [hz]
  simp
theorem qT_size (s : ByteArray) : (qT s).size = (qL s (allL s)).length + 2 := by unfold qT; rw [ofL_size]; simp
theorem qT_head (s : ByteArray) : by_ (qT s) 0 = 34 := by
  have := by_app [] (34 :: (qL s (allL s) ++ [34])) 0 34 rfl
  simpa [qT] using this
theorem uq_quoted (s : ByteArray) : uqOk (qT s) = true ∧ uqT (qT s) = s ∧ uqN (qT s) = 0 ∧ uqE (qT s) = 0 := by
  have h1 : uqOk (qT s) = true := by
    unfold uqOk
    rw [rd_quoted, decide_eq_true (by rw [qT_size]; omega), decide_eq_true (qT_head s)]
    simp
  refine ⟨h1, ?_, by unfold uqN; rw [h1]; rfl, by unfold uqE; rw [h1]; rfl⟩
  unfold uqT
  rw [h1, rd_quoted]
  exact ofL_of s
theorem qT_inj {s t : ByteArray} (h : qT s = qT t) : s = t := by rw [← (uq_quoted s).2.1, h, (uq_quoted t).2.1]

end Go.Proofs.YticjilkcobpcjaaDoor
