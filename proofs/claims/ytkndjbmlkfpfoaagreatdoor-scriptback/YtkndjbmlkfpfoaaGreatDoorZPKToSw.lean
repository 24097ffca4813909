/-
  Plain facts: what is read of a text in quotes is the text.
-/
import Derived.Test.YtkndjbmlkfpfoaaGreatDoorZHx
import Derived.Test.YtkndjbmlkfpfoaaGreatDoorZSp
import Derived.Test.YtkndjbmlkfpfoaaGreatDoorZNu

set_option linter.unusedSimpArgs false
set_option linter.unusedVariables false
namespace Go.Proofs.YtkndjbmlkfpfoaaGreatDoor
open Go.Lib

theorem by_app (p q : List UInt8) (j : Nat) (x : UInt8) (h : q[j]? = some x) : by_ (ofL (p ++ q)) (p.length + j) = x.toNat := by
  have hj := (List.getElem?_eq_some_iff.1 h).1
  rw [by_at p q j hj]
  have := (List.getElem?_eq_some_iff.1 h).2
  rw [this]
theorem size_app (p q : List UInt8) : (ofL (p ++ q)).size = p.length + q.length := by rw [ofL_size, List.length_append]

theorem byteE_dig {s : ByteArray} {i a b : Nat} (h : i + 1 < s.size) (h1 : dgV (by_ s i) = a) (h2 : dgV (by_ s (i + 1)) = b) (ha : a < 16) (hb : b < 16) : byteE s i = some ([UInt8.ofNat (16 * a + b)], 4) := by
  have e : hxR s i 2 0 0 = (16 * a + b, 2) := by
    rw [hxR_step (by omega) (by rw [Nat.add_zero, h1]; exact ha), Nat.add_zero, h1, hxR_step (by omega) (by rw [h2]; exact hb), h2]
    simp [hxR]
  unfold byteE; rw [e]; rfl

theorem low_sub {s : ByteArray} {i : Nat} (hi : i < s.size) (hw : wd s i = 1) : subL s i (wd s i) = [UInt8.ofNat (by_ s i)] := by
  rw [hw, subL_1 s i (by omega), by_ofNat]

theorem rd_lt {s : ByteArray} {i : Nat} (hi : i < s.size) (h : ltN (rn s i) ≠ 0) (p rest acc : List UInt8) :
    rdA (ofL (p ++ (qP s i ++ rest))) p.length acc = rdA (ofL (p ++ (qP s i ++ rest))) (p.length + (qP s i).length) (acc ++ subL s i (wd s i)) := by
  have hq : qP s i = [92, UInt8.ofNat (ltN (rn s i))] := by unfold qP; rw [if_pos h]
  have hlow := rn_low s i hi (by unfold ltN at h; (repeat' split at h) <;> omega)
  rw [hq, low_sub hi hlow.2.1]
  have hc := ltN_lt (rn s i)
  have b0 := by_app p ([92, UInt8.ofNat (ltN (rn s i))] ++ rest) 0 92 rfl
  have b1 := by_app p ([92, UInt8.ofNat (ltN (rn s i))] ++ rest) 1 _ rfl
  rw [Nat.add_zero] at b0
  rw [u8n _ hc] at b1
  have hsz := size_app p ([92, UInt8.ofNat (ltN (rn s i))] ++ rest)
  simp only [List.length_append, List.length_cons, List.length_nil] at hsz
  have he : escE (ofL (p ++ ([92, UInt8.ofNat (ltN (rn s i))] ++ rest))) p.length = some ([UInt8.ofNat (by_ s i)], 2) := by
    rw [hlow.1]
    unfold escE
    rw [if_pos (by omega), b1]
    have hr : rn s i = 34 ∨ rn s i = 92 ∨ rn s i = 10 ∨ rn s i = 13 ∨ rn s i = 9 := by unfold ltN at h; (repeat' split at h) <;> omega
    rcases hr with e | e | e | e | e <;> rw [e] <;> rfl
  rw [rdA_some (by omega) b0 he]
  rfl

theorem rd_raw {s : ByteArray} {i : Nat} (hi : i < s.size) (h : ltN (rn s i) = 0) (hr : rawB s i = true) (p rest acc : List UInt8) :
    rdA (ofL (p ++ (qP s i ++ rest))) p.length acc = rdA (ofL (p ++ (qP s i ++ rest))) (p.length + (qP s i).length) (acc ++ subL s i (wd s i)) := by
  have hq : qP s i = bxL (by_ s i) := by unfold qP; rw [if_neg (by rw [h]; decide), if_pos hr]
  have hw : wd s i = 1 := by
    unfold rawB at hr
    simp only [Bool.or_eq_true, decide_eq_true_eq, Bool.not_eq_true'] at hr
    rcases hr with (h1 | h1) | h1
    · exact (rn_low s i hi (by omega)).2.1
    · exact (rn_low s i hi (by omega)).2.1
    · exact (ok_false_iff h1).2
  rw [hq, low_sub hi hw]
  have hb := by_lt s i
  have b0 := by_app p (bxL (by_ s i) ++ rest) 0 92 rfl
  have b1 := by_app p (bxL (by_ s i) ++ rest) 1 120 rfl
  have b2 := by_app p (bxL (by_ s i) ++ rest) 2 (hxD (by_ s i / 16)) rfl
  have b3 := by_app p (bxL (by_ s i) ++ rest) 3 (hxD (by_ s i % 16)) rfl
  rw [Nat.add_zero] at b0
  have hsz := size_app p (bxL (by_ s i) ++ rest)
  simp only [List.length_append, bxL, List.length_cons, List.length_nil] at hsz
  have he : escE (ofL (p ++ (bxL (by_ s i) ++ rest))) p.length = some ([UInt8.ofNat (by_ s i)], 4) := by
    unfold escE
    rw [if_pos (by show p.length + 1 < (ofL (p ++ (bxL (by_ s i) ++ rest))).size; unfold bxL; omega), b1]
    have := byteE_dig (s := ofL (p ++ (bxL (by_ s i) ++ rest))) (i := p.length + 2) (a := by_ s i / 16) (b := by_ s i % 16) (by show p.length + 2 + 1 < (ofL (p ++ (bxL (by_ s i) ++ rest))).size; unfold bxL; omega) (by rw [b2]; exact dgV_hxD _ (by omega)) (by rw [show p.length + 2 + 1 = p.length + 3 from rfl, b3]; exact dgV_hxD _ (by omega)) (by omega) (by omega)
    rw [show 16 * (by_ s i / 16) + by_ s i % 16 = by_ s i by omega] at this
    exact this
  rw [rdA_some (by show p.length < (ofL (p ++ (bxL (by_ s i) ++ rest))).size; unfold bxL; omega) b0 he]
  rfl

theorem rd_hid {s : ByteArray} {i : Nat} (hi : i < s.size) (h : ltN (rn s i) = 0) (hr : rawB s i = false) (hh : hidN (rn s i) = true) (p rest acc : List UInt8) :
    rdA (ofL (p ++ (qP s i ++ rest))) p.length acc = rdA (ofL (p ++ (qP s i ++ rest))) (p.length + (qP s i).length) (acc ++ subL s i (wd s i)) := by
  have hq : qP s i = uxL (rn s i) := by unfold qP; rw [if_neg (by rw [h]; decide), if_neg (by rw [hr]; decide), if_pos hh]
  have hok : okR s i = true := by unfold rawB at hr; simp at hr; exact hr.2
  rw [hq, ← enc_ok s i hi hok]
  have hle := rn_le s i hi
  have hv := rn_valid s i hi
  have h128 : 128 ≤ rn s i := by unfold hidN at hh; simp at hh; omega
  generalize rn s i = r at *
  obtain ⟨d, l, hdl, hd0⟩ := dgF_head r r (by omega) (Nat.le_refl _)
  have hlt := dgF_lt r r
  have hlen := dgF_len r r 6 (by omega)
  have hval := dgF_val r r (Nat.le_refl _)
  have hmap : hxL r = (dgF r r).map hxD := hxF_map r r
  have hu : uxL r ++ rest = [92, 117, 123] ++ ((dgF r r).map hxD ++ (125 :: rest)) := by unfold uxL; rw [hmap]; simp
  have hul : (uxL r).length = 4 + (dgF r r).length := by unfold uxL; rw [hmap]; simp; omega
  rw [hu, hul]
  have hR := hxR_laid (p ++ [92, 117, 123]) (125 :: rest) (dgF r r) [] 6 0 hlt hlen (.inr ⟨125, rest, .inl ⟨rfl, by decide⟩⟩)
  rw [hval] at hR
  simp only [List.nil_append, List.length_nil, Nat.zero_add, List.length_append, List.length_cons] at hR
  have eT : p ++ [92, 117, 123] ++ ((dgF r r).map hxD ++ 125 :: rest) = p ++ ([92, 117, 123] ++ ((dgF r r).map hxD ++ 125 :: rest)) := by simp
  rw [eT] at hR
  obtain ⟨t, ht⟩ : ∃ t, p ++ ([92, 117, 123] ++ ((dgF r r).map hxD ++ 125 :: rest)) = t := ⟨_, rfl⟩
  have hsz : (ofL t).size = p.length + 4 + (dgF r r).length + rest.length := by rw [← ht, ofL_size]; simp; omega
  have b0 : by_ (ofL t) p.length = 92 := by rw [← ht]; exact by_app p _ 0 92 rfl
  have b1 : by_ (ofL t) (p.length + 1) = 117 := by rw [← ht]; exact by_app p _ 1 117 rfl
  have b2 : by_ (ofL t) (p.length + 2) = 123 := by rw [← ht]; exact by_app p _ 2 123 rfl
  have b3 : by_ (ofL t) (p.length + 3) = (hxD d).toNat := by rw [← ht]; exact by_app p _ 3 _ (by rw [hdl]; rfl)
  have be : by_ (ofL t) (p.length + 3 + (dgF r r).length) = 125 := by
    rw [← ht, Nat.add_assoc]
    exact by_app p _ (3 + (dgF r r).length) 125 (by
      rw [List.getElem?_append_right (by simp)]
      simp only [List.length_cons, List.length_nil]
      rw [List.getElem?_append_right (by simp)]
      simp)
  rw [ht] at hR ⊢
  have hd16 : d < 16 := hlt d (by rw [hdl]; exact List.mem_cons_self ..)
  have hnz : (hxD d).toNat ≠ 48 := by rw [hxD_nat d hd16]; split <;> omega
  have hE : runeE (ofL t) (p.length + 3) = some (encL (r : Int), (dgF r r).length + 4) := by
    unfold runeE
    simp only
    rw [hR]
    simp only
    have hk0 : (dgF r r).length ≠ 0 := by rw [hdl]; simp
    rw [if_neg (by rw [b3]; omega), if_pos ⟨by omega, be, val_ok r hv⟩]
  have he : escE (ofL t) p.length = some (encL (r : Int), (dgF r r).length + 4) := by
    unfold escE
    rw [if_pos (by omega), b1]
    simp only [show ¬ (117 : Nat) = 34 by omega, show ¬ (117 : Nat) = 92 by omega, show ¬ (117 : Nat) = 110 by omega, show ¬ (117 : Nat) = 114 by omega, show ¬ (117 : Nat) = 116 by omega, show ¬ (117 : Nat) = 120 by omega, if_false]
    rw [if_pos ⟨trivial, by omega, b2⟩]
    exact hE
  rw [rdA_some (by omega) b0 he, show (dgF r r).length + 4 = 4 + (dgF r r).length by omega]

theorem rd_self {s : ByteArray} {i : Nat} (hi : i < s.size) (h : ltN (rn s i) = 0) (hr : rawB s i = false) (hh : hidN (rn s i) = false) (p rest acc : List UInt8) :
    rdA (ofL (p ++ (qP s i ++ rest))) p.length acc = rdA (ofL (p ++ (qP s i ++ rest))) (p.length + (qP s i).length) (acc ++ subL s i (wd s i)) := by
  have hq : qP s i = encL (rn s i : Nat) := by unfold qP; rw [if_neg (by rw [h]; decide), if_neg (by rw [hr]; decide), if_neg (by rw [hh]; decide)]
  unfold rawB at hr
  simp at hr
  rw [hq, ← enc_ok s i hi hr.2]
  have hv := rn_valid s i hi
  obtain ⟨hd, ho⟩ := dec_enc p rest ((rn s i : Nat) : Int)
  rw [fixN_nat _ hv] at hd
  have h34 : rn s i ≠ 34 := by intro e; rw [e] at h; exact absurd h (by decide)
  have h92 : rn s i ≠ 92 := by intro e; rw [e] at h; exact absurd h (by decide)
  generalize rn s i = r at *
  obtain ⟨t, ht⟩ : ∃ t, p ++ (encL (r : Int) ++ rest) = t := ⟨_, rfl⟩
  have hpos := encL_pos (r : Int)
  have hsz : p.length < (ofL t).size := by rw [← ht, ofL_size]; simp; omega
  rw [ht] at hd ho ⊢
  have hrn : rn (ofL t) p.length = r := rn_of hd
  have hwd : wd (ofL t) p.length = (encL (r : Int)).length := wd_of hd
  have n34 : by_ (ofL t) p.length ≠ 34 := fun e => h34 (by rw [← hrn, (by_low (ofL t) p.length (by omega)).1, e])
  have n92 : by_ (ofL t) p.length ≠ 92 := fun e => h92 (by rw [← hrn, (by_low (ofL t) p.length (by omega)).1, e])
  have hraw : rawB (ofL t) p.length = false := by unfold rawB; rw [hrn, ho, decide_eq_false (by omega), decide_eq_false (by omega)]; rfl
  rw [rdA_rune hsz n34 n92 hraw, hrn, hwd]

/-- WHAT IS READ OF A PIECE IN QUOTES IS THE PIECE. -/
theorem rd_piece {s : ByteArray} {i : Nat} (hi : i < s.size) (p rest acc : List UInt8) :
    rdA (ofL (p ++ (qP s i ++ rest))) p.length acc = rdA (ofL (p ++ (qP s i ++ rest))) (p.length + (qP s i).length) (acc ++ subL s i (wd s i)) := by
  by_cases h : ltN (rn s i) = 0
  · cases hr : rawB s i with
    | true => exact rd_raw hi h hr p rest acc
    | false =>
      cases hh : hidN (rn s i) with
      | true => exact rd_hid hi h hr hh p rest acc
      | false => exact rd_self hi h hr hh p rest acc
  · exact rd_lt hi h p rest acc

theorem rd_from (s : ByteArray) : ∀ (n i : Nat) (p acc : List UInt8), s.size - i ≤ n → i ≤ s.size → rdA (ofL (p ++ (qL s (frm s i) ++ [34]))) p.length acc = (acc ++ s.data.toList.drop i, p.length + (qL s (frm s i)).length + 1, true)
  | 0, i, p, acc, h, hi => by
    have he : ¬ i < s.size := by omega
    have hl : s.data.toList.length = s.size := by simp
    rw [frm_end s i he, List.drop_eq_nil_of_le (by omega)]
    simp only [qL, List.flatMap_nil, List.nil_append, List.append_nil, List.length_nil, Nat.add_zero]
    exact rdA_quote (by rw [ofL_size]; simp) (by_app p [34] 0 34 rfl)
  | n + 1, i, p, acc, h, hi => by
    by_cases hlt : i < s.size
    · have hw := wd_pos s i hlt
      have hw2 := wd_le s i hlt
      rw [frm_step s i hlt, show qL s (i :: frm s (i + wd s i)) = qP s i ++ qL s (frm s (i + wd s i)) from rfl, List.append_assoc, rd_piece hlt]
      have ih := rd_from s n (i + wd s i) (p ++ qP s i) (acc ++ subL s i (wd s i)) (by omega) hw2.1
      rw [List.append_assoc, List.length_append] at ih
      rw [ih]
      have e : subL s i (wd s i) ++ s.data.toList.drop (i + wd s i) = s.data.toList.drop i := by
        rw [subL, ← List.drop_drop, List.take_append_drop]
      rw [List.append_assoc, e]
      simp; omega
    · have hl : s.data.toList.length = s.size := by simp
      rw [frm_end s i hlt, List.drop_eq_nil_of_le (by omega)]
      simp only [qL, List.flatMap_nil, List.nil_append, List.append_nil, List.length_nil, Nat.add_zero]
      exact rdA_quote (by rw [ofL_size]; simp) (by_app p [34] 0 34 rfl)

end Go.Proofs.YtkndjbmlkfpfoaaGreatDoor

/-
  Plain facts: a text in quotes is good, of one line, and no beginning of it is one.
-/
set_option linter.unusedSimpArgs false
set_option linter.unusedVariables false
namespace Go.Proofs.YtkndjbmlkfpfoaaGreatDoor
open Go.Lib

def startsL : Nat → List Int → List Nat
  | _, [] => []
  | i, n :: ns => i :: startsL (i + (encL n).length) ns

theorem posL_laid : ∀ (ns : List Int) (p : List UInt8) (f : Nat), (ns.flatMap encL).length ≤ f →
    posL (ofL (p ++ ns.flatMap encL)) f p.length = startsL p.length ns
  | [], p, f, _ => by rw [posL_end _ _ _ (by rw [ofL_size]; simp)]; rfl
  | n :: ns, p, f, hf => by
    have hp := encL_pos n
    rw [List.flatMap_cons] at hf ⊢
    rw [List.length_append] at hf
    obtain ⟨g, rfl⟩ : ∃ g, f = g + 1 := ⟨f - 1, by omega⟩
    have hd := (dec_enc p (ns.flatMap encL) n).1
    rw [posL_step _ _ _ (by rw [ofL_size]; simp; omega), wd_of hd]
    have ih := posL_laid ns (p ++ encL n) g (by omega)
    rw [List.append_assoc, List.length_append] at ih
    rw [ih]; rfl

theorem rn_laid : ∀ (ns : List Int) (p : List UInt8), (startsL p.length ns).map (fun i => (rn (ofL (p ++ ns.flatMap encL)) i : Int)) = ns.map (fun n => (fixN n : Int)) ∧ ∀ i ∈ startsL p.length ns, okR (ofL (p ++ ns.flatMap encL)) i = true
  | [], p => by simp [startsL]
  | n :: ns, p => by
    have hd := dec_enc p (ns.flatMap encL) n
    have ih := rn_laid ns (p ++ encL n)
    rw [List.append_assoc, List.length_append] at ih
    rw [List.flatMap_cons]
    constructor
    · rw [show startsL p.length (n :: ns) = p.length :: startsL (p.length + (encL n).length) ns from rfl, List.map_cons, List.map_cons, ih.1, rn_of hd.1]
    · intro i hi
      rcases List.mem_cons.1 hi with rfl | hi
      · exact hd.2
      · exact ih.2 i hi


/-- a text that is runes encoded -/
def Gd (l : List UInt8) : Prop := ∃ ns : List Int, l = ns.flatMap encL
theorem Gd.nil : Gd [] := ⟨[], rfl⟩
theorem Gd.app {a b : List UInt8} (h : Gd a) (k : Gd b) : Gd (a ++ b) := by
  obtain ⟨ns, rfl⟩ := h
  obtain ⟨ms, rfl⟩ := k
  exact ⟨ns ++ ms, by simp⟩
theorem Gd.low (x : UInt8) (h : x.toNat < 128) : Gd [x] := ⟨[(x.toNat : Int)], by simp [enc1 x.toNat h]⟩
theorem Gd.lows : ∀ (l : List UInt8), (∀ x ∈ l, x.toNat < 128) → Gd l
  | [], _ => Gd.nil
  | x :: l, h => Gd.app (a := [x]) (Gd.low x (h x (List.mem_cons_self ..))) (Gd.lows l (fun y hy => h y (List.mem_cons_of_mem _ hy)))
theorem Gd.enc (n : Int) : Gd (encL n) := ⟨[n], by simp⟩
theorem ok_all (ns : List Int) : ∀ i ∈ allL (ofL (ns.flatMap encL)), okR (ofL (ns.flatMap encL)) i = true := by
  have h1 := posL_laid ns [] (ofL (ns.flatMap encL)).size (by rw [ofL_size]; exact Nat.le_refl _)
  have h2 := (rn_laid ns []).2
  simp only [List.nil_append, List.length_nil] at h1 h2
  intro i hi
  unfold allL at hi
  rw [h1] at hi
  exact h2 i hi
/-- a beginning of a text -/
theorem pre_by (q : ByteArray) (n j : Nat) (h : j < n) (hn : n ≤ q.size) : by_ (q.extract 0 n) j = by_ q j := by
  have := by_ext q 0 n j hn (by omega)
  rwa [Nat.zero_add] at this
theorem hxR_pre (q : ByteArray) (n i : Nat) (hn : n ≤ q.size) : ∀ (f m k : Nat), (i + (hxR (q.extract 0 n) i f m k).2 < n ∨ (hxR (q.extract 0 n) i f m k).2 = k + f) → hxR q i f m k = hxR (q.extract 0 n) i f m k
  | 0, m, k, _ => rfl
  | f + 1, m, k, h => by
    have hz : (q.extract 0 n).size = n := by rw [size_ext q 0 n hn]; omega
    by_cases hc : i + k < n ∧ dgV (by_ (q.extract 0 n) (i + k)) < 16
    · have e : hxR (q.extract 0 n) i (f + 1) m k = hxR (q.extract 0 n) i f (16 * m + dgV (by_ (q.extract 0 n) (i + k))) (k + 1) := hxR_step (by rw [hz]; exact hc.1) hc.2
      rw [e] at h ⊢
      have hb := pre_by q n (i + k) hc.1 hn
      rw [hxR_step (by omega) (by rw [← hb]; exact hc.2), ← hb]
      exact hxR_pre q n i hn f _ _ (by omega)
    · have e : hxR (q.extract 0 n) i (f + 1) m k = (m, k) := hxR_stop (by rw [hz]; exact hc)
      rw [e] at h ⊢
      simp only at h
      have hlt : i + k < n := by omega
      exact hxR_stop (fun x => hc ⟨hlt, by rw [pre_by q n (i + k) hlt hn]; exact x.2⟩)
theorem escE_pre {q : ByteArray} {n i : Nat} (hn : n ≤ q.size) {x : List UInt8} {k : Nat} (h : escE (q.extract 0 n) i = some (x, k)) : escE q i = some (x, k) := by
  have hz : (q.extract 0 n).size = n := by rw [size_ext q 0 n hn]; omega
  have hk := escE_n h
  rw [hz] at hk
  unfold escE at h ⊢
  rw [hz] at h
  have h1 : i + 1 < n := by omega
  rw [if_pos h1] at h
  rw [if_pos (by omega)]
  rw [pre_by q n (i + 1) h1 hn] at h
  by_cases c1 : by_ q (i + 1) = 34
  · rw [if_pos c1] at h ⊢; exact h
  rw [if_neg c1] at h ⊢
  by_cases c2 : by_ q (i + 1) = 92
  · rw [if_pos c2] at h ⊢; exact h
  rw [if_neg c2] at h ⊢
  by_cases c3 : by_ q (i + 1) = 110
  · rw [if_pos c3] at h ⊢; exact h
  rw [if_neg c3] at h ⊢
  by_cases c4 : by_ q (i + 1) = 114
  · rw [if_pos c4] at h ⊢; exact h
  rw [if_neg c4] at h ⊢
  by_cases c5 : by_ q (i + 1) = 116
  · rw [if_pos c5] at h ⊢; exact h
  rw [if_neg c5] at h ⊢
  by_cases c6 : by_ q (i + 1) = 120
  · rw [if_pos c6] at h ⊢
    unfold byteE at h ⊢
    by_cases c7 : (hxR (q.extract 0 n) (i + 2) 2 0 0).2 = 2
    · rw [hxR_pre q n (i + 2) hn 2 0 0 (.inr (by omega))]; exact h
    · rw [if_neg c7] at h; cases h
  rw [if_neg c6] at h ⊢
  by_cases c7 : by_ q (i + 1) = 117 ∧ i + 2 < n ∧ by_ (q.extract 0 n) (i + 2) = 123
  · rw [if_pos c7] at h
    have hb2 := pre_by q n (i + 2) c7.2.1 hn
    rw [if_pos ⟨c7.1, by omega, by rw [← hb2]; exact c7.2.2⟩]
    unfold runeE at h ⊢
    simp only [hz] at h ⊢
    by_cases c8 : (hxR (q.extract 0 n) (i + 3) 6 0 0).2 = 0 ∨ (1 < (hxR (q.extract 0 n) (i + 3) 6 0 0).2 ∧ by_ (q.extract 0 n) (i + 3) = 48)
    · rw [if_pos c8] at h; cases h
    · rw [if_neg c8] at h
      by_cases c9 : i + 3 + (hxR (q.extract 0 n) (i + 3) 6 0 0).2 < n ∧ by_ (q.extract 0 n) (i + 3 + (hxR (q.extract 0 n) (i + 3) 6 0 0).2) = 125 ∧ Utf8.valid ((hxR (q.extract 0 n) (i + 3) 6 0 0).1 : Int) = true
      · rw [if_pos c9] at h
        have e := hxR_pre q n (i + 3) hn 6 0 0 (.inl c9.1)
        rw [e]
        have hb3 := pre_by q n (i + 3) (by omega) hn
        have hbk := pre_by q n (i + 3 + (hxR (q.extract 0 n) (i + 3) 6 0 0).2) c9.1 hn
        rw [if_neg (by rw [← hb3]; exact c8), if_pos ⟨by omega, by rw [← hbk]; exact c9.2.1, c9.2.2⟩]
        exact h
      · rw [if_neg c9] at h; cases h
  · rw [if_neg c7] at h; cases h
theorem rdA_pre {q : ByteArray} {n : Nat} (hn : n ≤ q.size) (f : Nat) : ∀ (i : Nat) (acc x : List UInt8) (e : Nat), n - i ≤ f → rdA (q.extract 0 n) i acc = (x, e, true) → rdA q i acc = (x, e, true) := by
  have hz : (q.extract 0 n).size = n := by rw [size_ext q 0 n hn]; omega
  induction f with
  | zero =>
    intro i acc x e h hr
    rw [rdA_end (by rw [hz]; omega)] at hr
    cases hr
  | succ f IH =>
    intro i acc x e h hr
    by_cases hi : i < n
    · have hi' : i < (q.extract 0 n).size := by rw [hz]; exact hi
      have hb := pre_by q n i hi hn
      by_cases c34 : by_ q i = 34
      · rw [rdA_quote hi' (by rw [hb]; exact c34)] at hr
        rw [rdA_quote (by omega) c34]; exact hr
      · by_cases c92 : by_ q i = 92
        · cases he : escE (q.extract 0 n) i with
          | none => rw [rdA_none hi' (by rw [hb]; exact c92) he] at hr; cases hr
          | some v =>
            obtain ⟨y, k⟩ := v
            have hk := escE_n he
            rw [rdA_some hi' (by rw [hb]; exact c92) he] at hr
            rw [rdA_some (by omega) c92 (escE_pre hn he)]
            exact IH _ _ _ _ (by omega) hr
        · cases hrw : rawB (q.extract 0 n) i with
          | true => rw [rdA_raw hi' (by rw [hb]; exact c34) (by rw [hb]; exact c92) hrw] at hr; cases hr
          | false =>
            have ho : okR (q.extract 0 n) i = true := by unfold rawB at hrw; simp at hrw; exact hrw.2
            have hd := dec_up q 0 n i hn (by omega) ho
            rw [Nat.zero_add] at hd
            have hrn : rn (q.extract 0 n) i = rn q i := by unfold rn; rw [hd]
            have hwd : wd (q.extract 0 n) i = wd q i := by unfold wd; rw [hd]
            have hok : okR (q.extract 0 n) i = okR q i := by unfold okR; rw [hrn, hwd]
            have hraw2 : rawB q i = false := by unfold rawB at hrw ⊢; rw [← hrn, ← hok]; exact hrw
            have hw := wd_pos (q.extract 0 n) i hi'
            rw [rdA_rune hi' (by rw [hb]; exact c34) (by rw [hb]; exact c92) hrw, hrn, hwd] at hr
            rw [rdA_rune (by omega) c34 c92 hraw2]
            exact IH _ _ _ _ (by omega) hr
    · rw [rdA_end (by rw [hz]; exact hi)] at hr
      cases hr
end Go.Proofs.YtkndjbmlkfpfoaaGreatDoor

/-
  A text that is laid of words, and what the scanner hands on of it. Pure.
-/
set_option linter.unusedSimpArgs false
set_option linter.unusedVariables false
namespace Go.Proofs.YtkndjbmlkfpfoaaGreatDoor
open Go.RowKit Go.Lib

theorem by_hd (p : List UInt8) (b : UInt8) (r : List UInt8) : by_ (ofL (p ++ b :: r)) p.length = b.toNat := by
  have := by_at p (b :: r) 0 (by simp)
  simpa using this
theorem lt_hd (p : List UInt8) (b : UInt8) (r : List UInt8) : p.length < (ofL (p ++ b :: r)).size := by
  rw [size_app]; simp
theorem mv1 (p : List UInt8) (b : UInt8) (r : List UInt8) : p ++ b :: r = (p ++ [b]) ++ r := by simp
theorem by_hd2 (p : List UInt8) (b c : UInt8) (r : List UInt8) : by_ (ofL (p ++ b :: c :: r)) (p.length + 1) = c.toNat := by
  have := by_at p (b :: c :: r) 1 (by simp)
  simpa using this
/-- a blank -/
theorem sc_bl {p r : List UInt8} {b : UInt8} {line : Nat} {m : Bool} (h : isBl b.toNat = true) : scA (ofL (p ++ b :: r)) p.length line m = scA (ofL ((p ++ [b]) ++ r)) (p ++ [b]).length line m := by
  have hl : isLn b.toNat = false := by
    unfold isBl at h
    unfold isLn
    simp only [Bool.or_eq_true, beq_iff_eq] at h
    rcases h with h | h <;> rw [h] <;> rfl
  rw [scA_blank (lt_hd p b r) (by rw [by_hd]; exact hl) (by rw [by_hd]; exact h), mv1, List.length_append]
  rfl
theorem sc_bls : ∀ (g p r : List UInt8) (line : Nat) (m : Bool), (∀ b ∈ g, isBl b.toNat = true) → scA (ofL (p ++ (g ++ r))) p.length line m = scA (ofL ((p ++ g) ++ r)) (p ++ g).length line m
  | [], p, r, line, m, _ => by simp
  | b :: g, p, r, line, m, h => by
    rw [List.cons_append, sc_bl (h b (by simp)), sc_bls g (p ++ [b]) r line m (fun x hx => h x (by simp [hx]))]
    simp
/-- a line's end of one byte -/
theorem sc_ln {p r : List UInt8} {b : UInt8} {line : Nat} {m : Bool} (h : isLn b.toNat = true) (hr : b.toNat = 13 → r.head? ≠ some 10) :
    scA (ofL (p ++ b :: r)) p.length line m = (if m then [endI p.length line] else []) ++ scA (ofL ((p ++ [b]) ++ r)) (p ++ [b]).length (line + 1) false := by
  have hb : bhL (ofL (p ++ b :: r)) p.length = p.length + 1 := by
    unfold bhL
    rw [if_neg]
    rintro ⟨h1, h2, h3⟩
    rw [by_hd] at h1
    cases r with
    | nil => rw [size_app] at h2; simp at h2
    | cons c r =>
      rw [by_hd2] at h3
      refine hr h1 ?_
      rw [List.head?_cons, UInt8.toNat_inj.1 (show c.toNat = (10 : UInt8).toNat from h3)]
  rw [scA_line (lt_hd p b r) (by rw [by_hd]; exact h), hb, mv1, List.length_append]
  rfl
/-- of two -/
theorem sc_crlf {p r : List UInt8} {line : Nat} {m : Bool} :
    scA (ofL (p ++ 13 :: 10 :: r)) p.length line m = (if m then [endI p.length line] else []) ++ scA (ofL ((p ++ [13, 10]) ++ r)) (p ++ [13, 10]).length (line + 1) false := by
  have hb : bhL (ofL (p ++ 13 :: 10 :: r)) p.length = p.length + 2 := by
    unfold bhL
    rw [if_pos ⟨by rw [by_hd]; rfl, by rw [size_app]; simp, by rw [by_hd2]; rfl⟩]
  rw [scA_line (lt_hd p 13 (10 :: r)) (by rw [by_hd]; rfl), hb, show p ++ 13 :: 10 :: r = (p ++ [13, 10]) ++ r by simp, List.length_append]
  rfl
/-- a remark -/
theorem rm_go : ∀ (t p r : List UInt8), (∀ b ∈ t, isLn b.toNat = false) → (∀ b, r.head? = some b → isLn b.toNat = true) → rmE (ofL (p ++ (t ++ r))) p.length = (p ++ t).length
  | [], p, r, _, hr => by
    rw [List.nil_append, List.append_nil]
    refine rmE_stop _ _ (fun hlt => ?_)
    cases r with
    | nil => rw [size_app] at hlt; simp at hlt
    | cons c r => rw [by_hd]; exact hr c rfl
  | b :: t, p, r, h, hr => by
    rw [List.cons_append, rmE_go _ _ (lt_hd p b (t ++ r)) (by rw [by_hd]; exact h b (by simp))]
    have := rm_go t (p ++ [b]) r (fun x hx => h x (by simp [hx])) hr
    rw [mv1]
    rw [List.length_append] at this
    rw [show p.length + 1 = p.length + [b].length from rfl, this]
    simp
theorem sc_rm {p t r : List UInt8} {line : Nat} {m : Bool} (h : ∀ b ∈ t, isLn b.toNat = false) (hr : ∀ b, r.head? = some b → isLn b.toNat = true) :
    scA (ofL (p ++ (35 :: (t ++ r)))) p.length line m = scA (ofL ((p ++ (35 :: t)) ++ r)) (p ++ (35 :: t)).length line m := by
  rw [scA_remark (lt_hd p 35 (t ++ r)) (by rw [by_hd]; rfl) (by rw [by_hd]; rfl) (by rw [by_hd]; rfl)]
  have := rm_go (35 :: t) p r (fun b hb => by rcases List.mem_cons.1 hb with e | e; · rw [e]; rfl
                                              · exact h b e) hr
  rw [List.cons_append] at this
  rw [this]
  simp
/-- how a line ends -/
def endT : Nat → List UInt8
  | 0 => [10]
  | 1 => [13, 10]
  | 2 => [13]
  | 3 => [32, 35, 32, 97, 32, 34, 255, 10]
  | 4 => [35, 10]
  | 5 => [10, 32, 10]
  | _ => [9, 13, 13, 10]
def endN : Nat → Nat
  | 0 => 1
  | 1 => 1
  | 2 => 1
  | 3 => 1
  | 4 => 1
  | 5 => 2
  | _ => 2
def endC : Nat → Nat
  | 3 => 7
  | 4 => 1
  | 6 => 1
  | _ => 0
theorem sc_end {p r : List UInt8} {line k : Nat} (hk : k < 7) (hr : r.head? ≠ some 10) :
    scA (ofL (p ++ (endT k ++ r))) p.length line true = endI (p.length + endC k) line :: scA (ofL ((p ++ endT k) ++ r)) (p ++ endT k).length (line + endN k) false := by
  match k, hk with
  | 0, _ =>
    show scA (ofL (p ++ 10 :: r)) p.length line true = _
    rw [sc_ln rfl (fun q => absurd q (by decide))]
    rfl
  | 1, _ =>
    show scA (ofL (p ++ 13 :: 10 :: r)) p.length line true = _
    rw [sc_crlf]
    rfl
  | 2, _ =>
    show scA (ofL (p ++ 13 :: r)) p.length line true = _
    rw [sc_ln rfl (fun _ => hr)]
    rfl
  | 3, _ =>
    show scA (ofL (p ++ 32 :: 35 :: ([32, 97, 32, 34, 255] ++ 10 :: r))) p.length line true = _
    rw [sc_bl rfl, sc_rm (t := [32, 97, 32, 34, 255]) (by decide) (fun b hb => by rw [List.head?_cons, Option.some.injEq] at hb; rw [← hb]; rfl), sc_ln rfl (fun q => absurd q (by decide))]
    simp [endT, endC, endN]
  | 4, _ =>
    show scA (ofL (p ++ 35 :: ([] ++ 10 :: r))) p.length line true = _
    rw [sc_rm (t := []) (by decide) (fun b hb => by rw [List.head?_cons, Option.some.injEq] at hb; rw [← hb]; rfl), sc_ln rfl (fun q => absurd q (by decide))]
    simp [endT, endC, endN]
  | 5, _ =>
    show scA (ofL (p ++ 10 :: 32 :: 10 :: r)) p.length line true = _
    rw [sc_ln rfl (fun q => absurd q (by decide)), sc_bl rfl, sc_ln rfl (fun q => absurd q (by decide))]
    simp [endT, endC, endN]
  | 6, _ =>
    show scA (ofL (p ++ 9 :: 13 :: 13 :: 10 :: r)) p.length line true = _
    rw [sc_bl rfl, sc_ln rfl (fun _ => by simp), sc_crlf]
    simp [endT, endC, endN]
/-- ends a word: nothing, or a blank, a remark, a line's end -/
def Stops (r : List UInt8) : Prop := ∀ b, r.head? = some b → isWe b.toNat = true
theorem endT_stops (k : Nat) (hk : k < 7) (r : List UInt8) : Stops (endT k ++ r) := by
  intro b hb
  match k, hk with
  | 0, _ => cases hb; rfl
  | 1, _ => cases hb; rfl
  | 2, _ => cases hb; rfl
  | 3, _ => cases hb; rfl
  | 4, _ => cases hb; rfl
  | 5, _ => cases hb; rfl
  | 6, _ => cases hb; rfl

/-- bytes of a word that is not quoted -/
def Bare (t : List UInt8) : Prop := (∀ b ∈ t, 33 ≤ b.toNat ∧ b.toNat ≠ 127 ∧ b.toNat ≠ 34 ∧ b.toNat ≠ 35) ∧ ∀ i ∈ allL (ofL t), okR (ofL t) i = true
theorem rn_high {s : ByteArray} {k : Nat} (hk : k < s.size) (ho : okR s k = true) (h : ¬ by_ s k ≤ 127) : 128 ≤ rn s k := by
  have e := enc_ok s k hk ho
  by_cases hr : rn s k < 128
  · rw [enc1 _ hr] at e
    have hw := wd_pos s k hk
    have hw2 := wd_le s k hk
    have hd : subL s k (wd s k) = s.get! k :: (s.data.toList.drop (k + 1)).take (wd s k - 1) := by
      unfold subL
      rw [drop_step s k hk, show wd s k = (wd s k - 1) + 1 by omega, List.take_succ_cons]
      rfl
    rw [hd] at e
    have e1 := (List.cons.inj e).1
    have : by_ s k = rn s k := by
      unfold by_
      rw [← e1, u8n _ (by omega)]
    omega
  · omega
theorem bw_go (p t r : List UInt8) (h : Bare t) (hr : Stops r) : ∀ (f j : Nat), t.length - j ≤ f → j ≤ t.length → (∀ i ∈ frm (ofL t) j, okR (ofL t) i = true) → bwA (ofL (p ++ (t ++ r))) (p.length + j) = (p.length + t.length, 0)
  | f, j, hf, hj, hok => by
    by_cases c : j < t.length
    · have hjs : j < (ofL t).size := by rw [ofL_size]; exact c
      have hok0 := hok j (by rw [frm_step _ _ hjs]; simp)
      have hw := wd_pos _ _ hjs
      have hw2 := wd_le _ _ hjs
      rw [ofL_size] at hw2
      have hbq : ∀ q, q < wd (ofL t) j → by_ (ofL (p ++ (t ++ r))) (p.length + j + q) = by_ (ofL t) (j + q) := fun q hq => by
        rw [Nat.add_assoc, by_at p (t ++ r) (j + q) (by simp; omega), by_list t (j + q) (by omega), List.getElem_append_left (by omega)]
      have hd := dec_move (s := ofL t) (t := ofL (p ++ (t ++ r))) (i := p.length + j) (j := j) hjs hok0 (by rw [size_app]; simp; omega) hbq
      have hb0 := hbq 0 (by omega)
      rw [Nat.add_zero, Nat.add_zero] at hb0
      have hbt : by_ (ofL t) j = (t[j]).toNat := by_list t j c
      have hm := h.1 (t[j]) (List.getElem_mem _)
      rw [← hbt] at hm
      have hne : isWe (by_ (ofL t) j) = false := by
        unfold isWe isBl isLn
        simp only [Bool.or_eq_false_iff, beq_eq_false_iff_ne, ne_eq]
        omega
      have hrn : rn (ofL t) j ≠ 34 ∧ 32 ≤ rn (ofL t) j ∧ rn (ofL t) j ≠ 127 := by
        by_cases q : by_ (ofL t) j ≤ 127
        · rw [rn_of (dec_one _ _ q)]
          omega
        · have := rn_high hjs hok0 q
          omega
      rw [bwA_step _ _ (by rw [size_app]; simp; omega), hb0, if_neg (by rw [hne]; simp), if_neg (by rw [rn_same hd]; exact hrn.1), if_neg, wd_same hd]
      · match f, hf with
        | 0, hf => omega
        | f + 1, hf =>
          rw [Nat.add_assoc]
          exact bw_go p t r h hr f (j + wd (ofL t) j) (by omega) (by omega) (fun i hi => hok i (by rw [frm_step _ _ hjs]; exact List.mem_cons_of_mem _ hi))
      · unfold rawB
        rw [rn_same hd, ok_same hd, hok0, decide_eq_false (by omega), decide_eq_false hrn.2.2]
        simp
    · have e : j = t.length := by omega
      subst e
      cases r with
      | nil =>
        rw [bwA_end _ _ (by rw [size_app]; simp), size_app]
        simp
      | cons b r =>
        have hb : by_ (ofL (p ++ (t ++ b :: r))) (p.length + t.length) = b.toNat := by
          rw [← List.append_assoc, ← List.length_append, by_hd]
        rw [bwA_step _ _ (by rw [size_app]; simp), hb, if_pos (hr b rfl)]
theorem ext_mid (p t r : List UInt8) : (ofL (p ++ (t ++ r))).extract p.length (p.length + t.length) = ofL t := by
  apply ByteArray.ext
  apply Array.toList_inj.1
  rw [ByteArray.data_extract, Array.toList_extract]
  simp [ofL, List.extract]
/-- a bare word, plain -/
theorem wd_plain (p t r : List UInt8) (h : Bare t) (h0 : t ≠ []) (hr : Stops r) (hg : bgN (ofL t) = false) : wdAt (ofL (p ++ (t ++ r))) p.length = ⟨1, ofL t, 0, p.length, p.length + t.length, 0⟩ := by
  obtain ⟨b, t', e⟩ : ∃ b t', t = b :: t' := by
    cases t with
    | nil => exact absurd rfl h0
    | cons b t' => exact ⟨b, t', rfl⟩
  have hb : by_ (ofL (p ++ (t ++ r))) p.length = b.toNat := by rw [e, List.cons_append, by_hd]
  have hm := h.1 b (by rw [e]; simp)
  have hw := bw_go p t r h hr t.length 0 (by omega) (by omega) h.2
  rw [Nat.add_zero] at hw
  unfold wdAt
  rw [if_neg (by rw [hb]; exact hm.2.2.1)]
  unfold bwW
  rw [hw, if_neg (by simp)]
  simp only
  rw [ext_mid, if_pos hg]
/-- a number -/
theorem wd_num (p t r : List UInt8) (h : Bare t) (h0 : t ≠ []) (hr : Stops r) (hg : bgN (ofL t) = true) {v : Int} (hv : decN (ofL t) = some v) : wdAt (ofL (p ++ (t ++ r))) p.length = ⟨3, ⟨#[]⟩, v, p.length, p.length + t.length, 0⟩ := by
  obtain ⟨b, t', e⟩ : ∃ b t', t = b :: t' := by
    cases t with
    | nil => exact absurd rfl h0
    | cons b t' => exact ⟨b, t', rfl⟩
  have hb : by_ (ofL (p ++ (t ++ r))) p.length = b.toNat := by rw [e, List.cons_append, by_hd]
  have hm := h.1 b (by rw [e]; simp)
  have hw := bw_go p t r h hr t.length 0 (by omega) (by omega) h.2
  rw [Nat.add_zero] at hw
  unfold wdAt
  rw [if_neg (by rw [hb]; exact hm.2.2.1)]
  unfold bwW
  rw [hw, if_neg (by simp)]
  simp only
  rw [ext_mid, if_neg (by rw [hg]; simp), hv]
/-- a quoted word -/
theorem wd_quoted (p r : List UInt8) (x : ByteArray) (hr : Stops r) : wdAt (ofL (p ++ ((qT x).data.toList ++ r))) p.length = ⟨2, x, 0, p.length, p.length + (qT x).data.toList.length, 0⟩ := by
  have hq : (qT x).data.toList = 34 :: (qL x (allL x) ++ [34]) := by unfold qT; rw [ofL_list]
  have hf := rd_from x x.size 0 (p ++ [34]) [] (by omega) (by omega)
  rw [← allL_frm] at hf
  rw [hq]
  have hlen : (34 :: (qL x (allL x) ++ [34])).length = (qL x (allL x)).length + 2 := by simp
  have hz : (ofL (p ++ (34 :: (qL x (allL x) ++ [34]) ++ r))).size = p.length + ((qL x (allL x)).length + 2) + r.length := by rw [size_app, List.length_append, hlen]; omega
  have hx : (ofL (p ++ (34 :: (qL x (allL x) ++ [34]) ++ r))).extract 0 (p.length + ((qL x (allL x)).length + 2)) = ofL ((p ++ [34]) ++ (qL x (allL x) ++ [34])) := by
    have := ext_mid [] (p ++ (34 :: (qL x (allL x) ++ [34]))) r
    rw [List.nil_append, List.append_assoc, List.length_nil, Nat.zero_add, List.length_append, hlen] at this
    rw [this]
    simp
  rw [← hx] at hf
  have hg := rdA_pre (by rw [hz]; omega) _ _ _ _ _ (Nat.le_refl _) hf
  rw [← rdA_zero] at hg
  have hpl : (p ++ [34]).length = p.length + 1 := by simp
  rw [hpl] at hg
  unfold wdAt
  rw [if_pos (by rw [List.cons_append, by_hd]; rfl)]
  unfold qdW
  rw [hg]
  simp only [List.nil_append, List.drop_zero, ofL_of]
  have hn : p.length + 1 + (qL x (allL x)).length + 1 = p.length + (34 :: (qL x (allL x) ++ [34])).length := by rw [hlen]; omega
  rw [hn, if_pos]
  refine ⟨trivial, fun hlt => ?_⟩
  cases r with
  | nil => rw [size_app] at hlt; simp at hlt
  | cons b r =>
    rw [← List.append_assoc, ← List.length_append, by_hd]
    exact hr b rfl

/-- ascii bytes are runes -/
theorem ok_low (t : List UInt8) (h : ∀ b ∈ t, b.toNat < 128) : ∀ i ∈ allL (ofL t), okR (ofL t) i = true := by
  obtain ⟨ns, e⟩ := Gd.lows t h
  rw [e]
  exact ok_all ns
/-- digits, and a dash ahead of them -/
theorem itoa_bytes (v : Int) : ∀ b ∈ itoa v, b.toNat = 45 ∨ isDg b := by
  intro b hb
  unfold itoa at hb
  split at hb
  · rcases List.mem_cons.1 hb with e | e
    · rw [e]; exact .inl rfl
    · exact .inr (dd_all _ b e)
  · exact .inr (dd_all _ b hb)
theorem itoa_bare (v : Int) : Bare (itoa v) := by
  refine ⟨fun b hb => ?_, ok_low _ (fun b hb => ?_)⟩
  · rcases itoa_bytes v b hb with e | e
    · omega
    · have := e.1; have := e.2; omega
  · rcases itoa_bytes v b hb with e | e
    · omega
    · have := e.1; have := e.2; omega
theorem itoa_ne (v : Int) : itoa v ≠ [] := by
  unfold itoa
  split
  · simp
  · exact dd_ne _
theorem itoa_bg (v : Int) : bgN (ofL (itoa v)) = true := by
  unfold bgN itoa
  split
  · obtain ⟨c, r, e⟩ : ∃ c r, decDigits v.natAbs = c :: r := by
      cases hd : decDigits v.natAbs with
      | nil => exact absurd hd (dd_ne _)
      | cons c r => exact ⟨c, r, rfl⟩
    have hc := dd_all v.natAbs c (by rw [e]; simp)
    rw [e]
    have h0 : by_ (ofL (45 :: c :: r)) 0 = 45 := by_hd [] 45 (c :: r)
    have h1 : by_ (ofL (45 :: c :: r)) 1 = c.toNat := by_hd2 [] 45 c r
    have hd : dgA (ofL (45 :: c :: r)) = 1 := by
      unfold dgA
      rw [if_pos ⟨by rw [ofL_size]; simp, h0⟩]
    rw [hd, h1]
    exact decide_eq_true ⟨by rw [ofL_size]; simp, hc.1, hc.2⟩
  · obtain ⟨c, r, e⟩ : ∃ c r, decDigits v.toNat = c :: r := by
      cases hd : decDigits v.toNat with
      | nil => exact absurd hd (dd_ne _)
      | cons c r => exact ⟨c, r, rfl⟩
    have hc := dd_all v.toNat c (by rw [e]; simp)
    rw [e]
    have h0 : by_ (ofL (c :: r)) 0 = c.toNat := by_hd [] c r
    have hd : dgA (ofL (c :: r)) = 0 := by
      unfold dgA
      rw [if_neg (by rintro ⟨_, q⟩; rw [h0] at q; have := hc.1; omega)]
    rw [hd, h0]
    exact decide_eq_true ⟨by rw [ofL_size]; simp, hc.1, hc.2⟩

/-- a word to lay: a plain one, a quoted one, a number -/
def Lw1 : Type := Sum (List UInt8) (Sum ByteArray Int)
def Lw1.plain (t : List UInt8) : Lw1 := Sum.inl t
def Lw1.quoted (x : ByteArray) : Lw1 := Sum.inr (Sum.inl x)
def Lw1.num (v : Int) : Lw1 := Sum.inr (Sum.inr v)
theorem Lw1.ways (x : Lw1) : (∃ t, x = .plain t) ∨ (∃ y, x = .quoted y) ∨ ∃ v, x = .num v := by
  rcases x with t | y | v
  · exact .inl ⟨t, rfl⟩
  · exact .inr (.inl ⟨y, rfl⟩)
  · exact .inr (.inr ⟨v, rfl⟩)
def Lw1.txt (x : Lw1) : List UInt8 := match (show Sum (List UInt8) (Sum ByteArray Int) from x) with
  | Sum.inl t => t
  | Sum.inr (Sum.inl x) => (qT x).data.toList
  | Sum.inr (Sum.inr v) => itoa v
def Lw1.wd (x : Lw1) (a : Nat) : Wd := match (show Sum (List UInt8) (Sum ByteArray Int) from x) with
  | Sum.inl t => ⟨1, ofL t, 0, a, a + t.length, 0⟩
  | Sum.inr (Sum.inl x) => ⟨2, x, 0, a, a + (qT x).data.toList.length, 0⟩
  | Sum.inr (Sum.inr v) => ⟨3, ⟨#[]⟩, v, a, a + (itoa v).length, 0⟩
def Lw1.ok (x : Lw1) : Prop := match (show Sum (List UInt8) (Sum ByteArray Int) from x) with
  | Sum.inl t => Bare t ∧ t ≠ [] ∧ bgN (ofL t) = false
  | Sum.inr (Sum.inl x) => True
  | Sum.inr (Sum.inr v) => -9223372036854775808 ≤ v ∧ v ≤ 9223372036854775807
theorem Lw1.nx (x : Lw1) (a : Nat) : (x.wd a).nx = a + x.txt.length := by rcases x.ways with ⟨t, rfl⟩ | ⟨y, rfl⟩ | ⟨v, rfl⟩ <;> rfl
theorem Lw1.e0 (x : Lw1) (a : Nat) : (x.wd a).e = 0 := by rcases x.ways with ⟨t, rfl⟩ | ⟨y, rfl⟩ | ⟨v, rfl⟩ <;> rfl
theorem Lw1.a0 (x : Lw1) (a : Nat) : (x.wd a).a = a := by rcases x.ways with ⟨t, rfl⟩ | ⟨y, rfl⟩ | ⟨v, rfl⟩ <;> rfl
theorem Lw1.at_ (x : Lw1) (p r : List UInt8) (h : x.ok) (hr : Stops r) : wdAt (ofL (p ++ (x.txt ++ r))) p.length = x.wd p.length := by
  rcases x.ways with ⟨t, rfl⟩ | ⟨x, rfl⟩ | ⟨v, rfl⟩
  · exact wd_plain p t r h.1 h.2.1 hr h.2.2
  · exact wd_quoted p r x hr
  · exact wd_num p (itoa v) r (itoa_bare v) (itoa_ne v) hr (itoa_bg v) (decN_itoa h.1 h.2 (ofL_list _))
/-- its first byte ends no word -/
theorem Lw1.head (x : Lw1) (h : x.ok) : ∃ b t, x.txt = b :: t ∧ isWe b.toNat = false := by
  have key : ∀ t : List UInt8, Bare t → t ≠ [] → ∃ b t', t = b :: t' ∧ isWe b.toNat = false := fun t hb hn => by
    cases t with
    | nil => exact absurd rfl hn
    | cons b t' =>
      have := hb.1 b (by simp)
      refine ⟨b, t', rfl, ?_⟩
      unfold isWe isBl isLn
      simp only [Bool.or_eq_false_iff, beq_eq_false_iff_ne, ne_eq]
      omega
  rcases x.ways with ⟨t, rfl⟩ | ⟨x, rfl⟩ | ⟨v, rfl⟩
  · exact key t h.1 h.2.1
  · refine ⟨34, qL x (allL x) ++ [34], ?_, rfl⟩
    show (qT x).data.toList = _
    unfold qT
    rw [ofL_list]
  · exact key _ (itoa_bare v) (itoa_ne v)
theorem sc_word (x : Lw1) (p r : List UInt8) (h : x.ok) (hr : Stops r) (line : Nat) (m : Bool) :
    scA (ofL (p ++ (x.txt ++ r))) p.length line m = ⟨x.wd p.length, line⟩ :: scA (ofL ((p ++ x.txt) ++ r)) (p ++ x.txt).length line true := by
  obtain ⟨b, t, e, hb⟩ := x.head h
  have hby : by_ (ofL (p ++ (x.txt ++ r))) p.length = b.toNat := by rw [e, List.cons_append, by_hd]
  have hlt : p.length < (ofL (p ++ (x.txt ++ r))).size := by rw [e, List.cons_append]; exact lt_hd _ _ _
  unfold isWe at hb
  simp only [Bool.or_eq_false_iff, beq_eq_false_iff_ne, ne_eq] at hb
  rw [scA_word hlt (by rw [hby]; exact hb.2) (by rw [hby]; exact hb.1.1) (by rw [hby]; exact hb.1.2), x.at_ p r h hr, if_pos (x.e0 _), x.nx, List.append_assoc, List.length_append]

/-- an item: what stands ahead, the word, how its line ends -/
structure Ii where
  g : List UInt8
  x : Lw1
  en : Option Nat
def Ii.ok (y : Ii) (m : Bool) : Prop := (∀ b ∈ y.g, isBl b.toNat = true) ∧ (m = true → y.g ≠ []) ∧ y.x.ok ∧ ∀ k, y.en = some k → k < 7
def Ii.et (y : Ii) : List UInt8 := match y.en with | none => [] | some k => endT k
def Ii.txt (y : Ii) : List UInt8 := y.g ++ (y.x.txt ++ y.et)
def Ii.on (y : Ii) : Bool := y.en.isNone
def Ii.ln (y : Ii) (line : Nat) : Nat := match y.en with | none => line | some k => line + endN k
/-- the words of an item that stands at a byte -/
def Ii.its (y : Ii) (a line : Nat) : List It :=
  ⟨y.x.wd (a + y.g.length), line⟩ :: match y.en with
    | none => []
    | some k => [endI (a + y.g.length + y.x.txt.length + endC k) line]
def layT (l : List Ii) : List UInt8 := l.flatMap Ii.txt
def okIs : Bool → List Ii → Prop
  | _, [] => True
  | m, y :: l => y.ok m ∧ okIs y.on l
def layW : Nat → Nat → Bool → List Ii → List It
  | a, line, m, [] => if m then [endI a line] else []
  | a, line, m, y :: l => y.its a line ++ layW (a + y.txt.length) (y.ln line) y.on l
theorem lay_head {m : Bool} {l : List Ii} (h : okIs m l) (b : UInt8) (hb : (layT l).head? = some b) : b.toNat ≠ 10 ∧ (m = true → isWe b.toNat = true) := by
  cases l with
  | nil => simp [layT] at hb
  | cons y l =>
    obtain ⟨⟨h1, h2, h3, h4⟩, h5⟩ := h
    obtain ⟨c, t, e, hc⟩ := y.x.head h3
    have e2 : layT (y :: l) = y.g ++ (y.x.txt ++ (y.et ++ layT l)) := by simp [layT, Ii.txt]
    rw [e2, e] at hb
    cases hg : y.g with
    | nil =>
      rw [hg] at hb
      cases hb
      refine ⟨fun q => ?_, fun q => absurd hg (h2 q)⟩
      rw [q] at hc
      simp [isWe, isLn] at hc
    | cons d g =>
      rw [hg] at hb
      cases hb
      have hd := h1 b (by rw [hg]; simp)
      refine ⟨fun q => ?_, fun _ => by unfold isWe; rw [hd]; simp⟩
      rw [q] at hd
      simp [isBl] at hd
/-- LAID AND SCANNED. -/
theorem sc_lay : ∀ (l : List Ii) (p : List UInt8) (line : Nat) (m : Bool), okIs m l → scA (ofL (p ++ layT l)) p.length line m = layW p.length line m l
  | [], p, line, m, _ => by
    rw [scA_end (by rw [size_app]; simp [layT])]
    rfl
  | y :: l, p, line, m, h => by
    have hh := h
    obtain ⟨⟨h1, h2, h3, h4⟩, h5⟩ := h
    have e2 : layT (y :: l) = y.g ++ (y.x.txt ++ (y.et ++ layT l)) := by simp [layT, Ii.txt]
    have ih := sc_lay l (p ++ y.txt) (y.ln line) y.on h5
    have hst : Stops (y.et ++ layT l) := by
      intro b hb
      cases he : y.en with
      | none =>
        have e3 : y.et = [] := by unfold Ii.et; rw [he]
        rw [e3, List.nil_append] at hb
        exact (lay_head h5 b hb).2 (by unfold Ii.on; rw [he]; rfl)
      | some k =>
        have e3 : y.et = endT k := by unfold Ii.et; rw [he]
        rw [e3] at hb
        exact endT_stops k (h4 k he) _ b hb
    rw [e2, sc_bls y.g p _ line m h1, sc_word y.x (p ++ y.g) _ h3 hst]
    show _ = y.its p.length line ++ layW (p.length + y.txt.length) (y.ln line) y.on l
    rw [← List.length_append, ← ih]
    cases he : y.en with
    | none =>
      have e3 : y.et = [] := by unfold Ii.et; rw [he]
      have e4 : y.ln line = line := by unfold Ii.ln; rw [he]
      have e5 : y.on = true := by unfold Ii.on; rw [he]; rfl
      have e6 : p ++ y.txt = (p ++ y.g) ++ y.x.txt := by unfold Ii.txt; rw [e3]; simp
      unfold Ii.its
      rw [he, e3, e4, e5, e6, show (p ++ y.g).length = p.length + y.g.length from List.length_append]
      rfl
    | some k =>
      have e3 : y.et = endT k := by unfold Ii.et; rw [he]
      have e4 : y.ln line = line + endN k := by unfold Ii.ln; rw [he]
      have e5 : y.on = false := by unfold Ii.on; rw [he]; rfl
      have e6 : p ++ y.txt = ((p ++ y.g) ++ y.x.txt) ++ endT k := by unfold Ii.txt; rw [e3]; simp
      unfold Ii.its
      rw [he, e3, sc_end (h4 k he) (fun q => (lay_head h5 10 q).1 rfl), e4, e5, e6, show ((p ++ y.g) ++ y.x.txt).length = (p ++ y.g).length + y.x.txt.length from List.length_append, show (p ++ y.g).length = p.length + y.g.length from List.length_append]
      rfl
theorem scL_lay (l : List Ii) (h : okIs false l) : scL (ofL (layT l)) = layW 0 1 false l := sc_lay l [] 1 false h

end Go.Proofs.YtkndjbmlkfpfoaaGreatDoor
