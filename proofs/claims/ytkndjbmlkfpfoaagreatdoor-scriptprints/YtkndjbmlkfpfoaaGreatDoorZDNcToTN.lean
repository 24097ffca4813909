/-
  The document's line of a step.
-/
import Derived.Test.YtkndjbmlkfpfoaaGreatDoorZDNaToRf
import Derived.Test.YtkndjbmlkfpfoaaGreatDoorZRQ
import Derived.Test.YtkndjbmlkfpfoaaGreatDoorZTJToTM
import Derived.Deep.RegionHeld3
import Derived.Deep.RegionLaw

set_option linter.unusedSimpArgs false
set_option linter.unusedVariables false
namespace Go.Proofs.YtkndjbmlkfpfoaaGreatDoor
open Go.RowKit Go.Lib

/-- a letter's words -/
def ltw (s : Sp) (c : UInt8) : List (List UInt8) := if c = 115 then [itoa s.site] else if c = 112 then [itoa s.peer] else if c = 97 then [itoa s.at_] else if c = 110 then [itoa s.n] else if c = 116 then [(qT s.text).data.toList] else [(qT (ofL s.data)).data.toList]
def dlW (s : Sp) : List (List UInt8) := if s.kind = 6 then s.draws.map itoa else (shT s.kind).flatMap (ltw s)
/-- a step's line, without its end -/
def dlT (s : Sp) : List UInt8 := nmT s.kind ++ blT (dlW s)
theorem dlT_is {s : Sp} (h : isK s) : dlT s ++ [10] = stT s := by
  obtain ⟨h1, h2⟩ := h
  have : s.kind = 1 ∨ s.kind = 2 ∨ s.kind = 3 ∨ s.kind = 4 ∨ s.kind = 5 ∨ s.kind = 6 ∨ s.kind = 7 ∨ s.kind = 8 ∨ s.kind = 9 ∨ s.kind = 10 ∨ s.kind = 11 ∨ s.kind = 12 ∨ s.kind = 13 ∨ s.kind = 14 := by omega
  unfold dlT stT dlW stW kx lnT nmT shT
  rcases this with h | h | h | h | h | h | h | h | h | h | h | h | h | h <;> rw [h] <;> simp [tnm, tsh, tfl, fw, ltw, blT]
theorem dlT_no {s : Sp} (h : ¬ isK s) : dlT s = [] := by
  have h1 : nmT s.kind = [] := (nmT_ne _).2 h
  have h2 : shT s.kind = [] := by unfold shT; exact if_neg h
  have h3 : s.kind ≠ 6 := fun e => h ⟨by omega, by omega⟩
  unfold dlT dlW
  rw [h1, h2, if_neg h3]
  rfl
theorem tsh_let : ∀ r ∈ tsh, (∀ c ∈ r, c = 115 ∨ c = 112 ∨ c = 97 ∨ c = 110 ∨ c = 116 ∨ c = 100) ∧ r.length ≤ 3 := by decide
theorem shT_mem (k : Int) : shT k = [] ∨ shT k ∈ tsh := by
  unfold shT
  split
  · right
    have h : (k - 1).toNat < tsh.length := by show _ < 14; omega
    rw [List.getD_eq_getElem?_getD, List.getElem?_eq_getElem h]
    exact List.getElem_mem h
  · exact .inl rfl
theorem shT_let (k : Int) : ∀ c ∈ shT k, c = 115 ∨ c = 112 ∨ c = 97 ∨ c = 110 ∨ c = 116 ∨ c = 100 := by
  intro c hc
  rcases shT_mem k with h | h
  · rw [h] at hc; simp at hc
  · exact (tsh_let _ h).1 c hc
theorem shT_len (k : Int) : (shT k).length ≤ 3 := by
  rcases shT_mem k with h | h
  · rw [h]; simp
  · exact (tsh_let _ h).2

theorem ofL_at (l : List UInt8) (i : Nat) (c : UInt8) (h : l[i]? = some c) (hi : i < (ofL l).size) : (ofL l)[i]'hi = c := by
  have h2 : i < l.length := by rw [ofL_size] at hi; exact hi
  rw [List.getElem?_eq_getElem h2] at h
  simp at h
  rw [← h]
  rfl
theorem rnm_one (W : World) (x : Int) : RNm (W.alloc (.cells #[.int .i64 x] 3)) (.slice (some ⟨W.heap.size, 0, none⟩) 1 1) [x] := by
  refine .inr ⟨W.heap.size, 0, 1, rfl, by simp, by simp, fun j y hy => ?_⟩
  have hj : j = 0 := by
    have := (List.getElem?_eq_some_iff.1 hy).1
    simp [flat, enN] at this
    omega
  subst hj
  simp [flat, enN] at hy
  subst hy
  exact (Bq.new W 3 #[.int .i64 x]).cell 0 _ rfl

set_option maxRecDepth 100000 in
set_option maxHeartbeats 8000000 in
theorem refLine_in (W : World) (s : Sp) (dv bv : Value) (hd : RNm W dv s.draws) (hb : RBy W bv s.data) (hw : SpW s) (hs : (dlT s).length ≤ 1000000000) :
    Calls Tryz.prog 33 #[.agg (spC s dv bv)] W fun e W' => e = .returned (.string (ofL (dlT s))) ∧ Below W.heap.size W W' := by
  obtain ⟨da, dc, rfl⟩ := RC.form hd
  obtain ⟨ba, bc, rfl⟩ := RC.form hb
  obtain ⟨X, hX⟩ : ∃ X, W.alloc (.cells (spC s (.slice da s.draws.length dc) (.slice ba s.data.length bc)) 40) = X := ⟨_, rfl⟩
  have hb1 : Below W.heap.size W X := by rw [← hX]; exact ballc (Below.refl _ _) _
  have hst : StB X W.heap.size s (.slice da s.draws.length dc) (.slice ba s.data.length bc) := ⟨by rw [← hX]; exact Bq.new _ _ _, RC.below hd hb1, RC.below hb hb1⟩
  have HB := hide hb1
  have HST := hide hst
  have HW := hide hw
  have hnm := hide (name_in s.kind X)
  have c0 := hst.box.cell 0 _ rfl
  unfold spC at hX ⊢
  have HX := hide hX
  clear hd hb hw hb1 hst hX
  go_enter Tryz.func33, Tryz.ntmps33
  go_wp2_with fail
  rw [unhide HX]
  refine (unhide hnm).mono ?_
  rintro e W1 ⟨rfl, hb1⟩
  have HB1 := hide (bnext (unhide HB) hb1)
  have HST1 := hide ((unhide HST).below hb1)
  clear hb1 hnm HX c0
  have q0 : W1.cell? ⟨W.heap.size, 0, none⟩ = some (.int .i64 s.kind) := (unhide HST1).box.cell 0 _ rfl
  have q7 : W1.cell? ⟨W.heap.size, 7, none⟩ = some (.slice da s.draws.length dc) := (unhide HST1).box.cell 7 _ rfl
  by_cases h6 : s.kind = 6
  · have h6' : (s.kind == 6) = true := by rw [beq_iff_eq]; exact h6
    have hsd := hide (said_in (unhide HST1).dr (unhide HW).dnum (unhide HW).draws)
    have hT : ofL (nmT s.kind) ++ ofL (blT (s.draws.map itoa)) = ofL (dlT s) := by
      rw [app_ofL]
      unfold dlT dlW
      rw [if_pos h6]
    have z1 : (ofL (nmT s.kind)).size + (ofL (blT (s.draws.map itoa))).size ≤ 1000000000 := by
      rw [← ByteArray.size_append, hT, ofL_size]
      exact hs
    have z2 : (ofL (nmT s.kind)).size ≤ 1000000000 := by omega
    have z3 : (ofL (blT (s.draws.map itoa))).size ≤ 1000000000 := by omega
    generalize s.draws.length = nd at *
    obtain ⟨A, hA⟩ : ∃ A, ofL (nmT s.kind) = A := ⟨_, rfl⟩
    obtain ⟨B, hB⟩ : ∃ B, ofL (blT (s.draws.map itoa)) = B := ⟨_, rfl⟩
    obtain ⟨C, hC⟩ : ∃ C, ofL (dlT s) = C := ⟨_, rfl⟩
    rw [hA, hB] at z1
    rw [hA] at z2 ⊢
    rw [hB] at z3 hsd
    rw [hA, hB, hC] at hT
    have HC := hide hC
    clear hA hB hC
    go_wp2_with fail
    refine (unhide hsd).mono ?_
    rintro e W2 ⟨rfl, hb2⟩
    have HB2 := hide (bnext (unhide HB1) hb2)
    clear hb2 hsd
    go_wp2
    go_ret
    exact ⟨by rw [unhide HC]; rfl, unhide HB2⟩
  · have h6' : (s.kind == 6) = false := by rw [beq_eq_false_iff_ne]; exact h6
    have hsh := hide (shape_in s.kind W1)
    have hlen := shT_len s.kind
    have hlet := shT_let s.kind
    obtain ⟨sh, hsh0⟩ : ∃ sh, shT s.kind = sh := ⟨_, rfl⟩
    have hT : nmT s.kind ++ blT (sh.flatMap (ltw s)) = dlT s := by
      unfold dlT dlW
      rw [if_neg h6, hsh0]
    rw [hsh0] at hsh hlen hlet
    have HLet := hide hlet
    have HT := hide hT
    have HS := hide hs
    obtain ⟨n, hn⟩ : ∃ n, sh.length = n := ⟨_, rfl⟩
    have hsz : (ofL sh).size = n := by rw [ofL_size]; exact hn
    have Hn := hide hn
    rw [hn] at hlen
    obtain ⟨NM, hNM⟩ : ∃ NM, nmT s.kind = NM := ⟨_, rfl⟩
    rw [hNM] at HT ⊢
    clear hsh0 hT hlet hs hn hNM
    go_wp2_with fail
    refine (unhide hsh).mono ?_
    rintro e W2 ⟨rfl, rfl⟩
    clear hsh
    go_wp2
    go_loopw [3, 5] (fun ov iv wr => ∃ i : Nat, i ≤ n ∧ ov = .string (ofL (NM ++ blT ((sh.take i).flatMap (ltw s)))) ∧ iv = .int .i64 (i : Nat) ∧ Hid (Below W2.heap.size W2 wr)) (fun _ iv _ => n - (RowKit.intOf iv).toNat)
    case atStart => exact ⟨0, Nat.zero_le _, by simp [blT], rfl, hide (Below.refl _ _)⟩
    case round =>
      obtain ⟨i, hi, rfl, rfl, HI⟩ := hrel
      by_cases hlt : i < n
      · have hlt' : (i : Int) < (n : Int) := by omega
        obtain ⟨c, hc⟩ : ∃ c, sh[i]? = some c := ⟨_, List.getElem?_eq_getElem (by rw [unhide Hn]; exact hlt)⟩
        have hci : (ofL sh)[i]'(by rw [hsz]; exact hlt) = c := ofL_at sh i c hc _
        have hst2 := (unhide HST1).below (unhide HI)
        have hcl := unhide HLet c (List.mem_of_getElem? hc)
        have hstep : (sh.take (i + 1)).flatMap (ltw s) = (sh.take i).flatMap (ltw s) ++ ltw s c := by rw [List.take_add_one, hc]; simp
        have hAP : ofL (NM ++ blT ((sh.take i).flatMap (ltw s))) ++ ofL (blT (ltw s c)) = ofL (NM ++ blT ((sh.take (i + 1)).flatMap (ltw s))) := by
          rw [app_ofL, hstep, blT_app, List.append_assoc]
        have zAP : (ofL (NM ++ blT ((sh.take i).flatMap (ltw s)))).size + (ofL (blT (ltw s c))).size ≤ 1000000000 := by
          rw [← ByteArray.size_append, hAP, ofL_size]
          refine Nat.le_trans ?_ (unhide HS)
          rw [← unhide HT, List.length_append, List.length_append]
          have h1 : sh.flatMap (ltw s) = (sh.take (i + 1)).flatMap (ltw s) ++ (sh.drop (i + 1)).flatMap (ltw s) := by rw [← List.flatMap_append, List.take_append_drop]
          rw [h1, blT_app, List.length_append]
          omega
        obtain ⟨A, hA⟩ : ∃ A, ofL (NM ++ blT ((sh.take i).flatMap (ltw s))) = A := ⟨_, rfl⟩
        obtain ⟨Bn, hBn⟩ : ∃ Bn, ofL (NM ++ blT ((sh.take (i + 1)).flatMap (ltw s))) = Bn := ⟨_, rfl⟩
        rw [hA] at hAP zAP ⊢
        rw [hBn] at hAP
        have HBn := hide hBn
        clear hc hstep hA hBn
        rcases hcl with rfl | rfl | rfl | rfl | rfl | rfl
        · have a1 : wr.cell? ⟨W.heap.size, 1, none⟩ = some (.int .i64 s.site) := hst2.box.cell 1 _ rfl
          have hsd := hide (said_in (rnm_one wr s.site) (fun x hx => by simp at hx; subst hx; exact (unhide HW).site) (by simp))
          have hP : blT ([s.site].map itoa) = blT (ltw s 115) := rfl
          rw [hP] at hsd
          obtain ⟨P, hP9⟩ : ∃ P, ofL (blT (ltw s 115)) = P := ⟨_, rfl⟩
          rw [hP9] at hsd hAP zAP
          clear hst2 hP hP9
          go_wp2_with fail
          refine (unhide hsd).mono ?_
          rintro e W3 ⟨rfl, hb3⟩
          have HB3 := hide (bnext (ballc (unhide HI) _) hb3)
          clear hb3 hsd
          go_wp2
          go_roundw
          case rel => exact ⟨i + 1, by omega, by rw [unhide HBn], by go_num, HB3⟩
          case measure => show n - ((i : Int) + 1).toNat < n - ((i : Nat) : Int).toNat; omega
        · have a1 : wr.cell? ⟨W.heap.size, 2, none⟩ = some (.int .i64 s.peer) := hst2.box.cell 2 _ rfl
          have hsd := hide (said_in (rnm_one wr s.peer) (fun x hx => by simp at hx; subst hx; exact (unhide HW).peer) (by simp))
          have hP : blT ([s.peer].map itoa) = blT (ltw s 112) := rfl
          rw [hP] at hsd
          obtain ⟨P, hP9⟩ : ∃ P, ofL (blT (ltw s 112)) = P := ⟨_, rfl⟩
          rw [hP9] at hsd hAP zAP
          clear hst2 hP hP9
          go_wp2_with fail
          refine (unhide hsd).mono ?_
          rintro e W3 ⟨rfl, hb3⟩
          have HB3 := hide (bnext (ballc (unhide HI) _) hb3)
          clear hb3 hsd
          go_wp2
          go_roundw
          case rel => exact ⟨i + 1, by omega, by rw [unhide HBn], by go_num, HB3⟩
          case measure => show n - ((i : Int) + 1).toNat < n - ((i : Nat) : Int).toNat; omega
        · have a1 : wr.cell? ⟨W.heap.size, 4, none⟩ = some (.int .i64 s.at_) := hst2.box.cell 4 _ rfl
          have hsd := hide (said_in (rnm_one wr s.at_) (fun x hx => by simp at hx; subst hx; exact (unhide HW).at_) (by simp))
          have hP : blT ([s.at_].map itoa) = blT (ltw s 97) := rfl
          rw [hP] at hsd
          obtain ⟨P, hP9⟩ : ∃ P, ofL (blT (ltw s 97)) = P := ⟨_, rfl⟩
          rw [hP9] at hsd hAP zAP
          clear hst2 hP hP9
          go_wp2_with fail
          refine (unhide hsd).mono ?_
          rintro e W3 ⟨rfl, hb3⟩
          have HB3 := hide (bnext (ballc (unhide HI) _) hb3)
          clear hb3 hsd
          go_wp2
          go_roundw
          case rel => exact ⟨i + 1, by omega, by rw [unhide HBn], by go_num, HB3⟩
          case measure => show n - ((i : Int) + 1).toNat < n - ((i : Nat) : Int).toNat; omega
        · have a1 : wr.cell? ⟨W.heap.size, 5, none⟩ = some (.int .i64 s.n) := hst2.box.cell 5 _ rfl
          have hsd := hide (said_in (rnm_one wr s.n) (fun x hx => by simp at hx; subst hx; exact (unhide HW).n) (by simp))
          have hP : blT ([s.n].map itoa) = blT (ltw s 110) := rfl
          rw [hP] at hsd
          obtain ⟨P, hP9⟩ : ∃ P, ofL (blT (ltw s 110)) = P := ⟨_, rfl⟩
          rw [hP9] at hsd hAP zAP
          clear hst2 hP hP9
          go_wp2_with fail
          refine (unhide hsd).mono ?_
          rintro e W3 ⟨rfl, hb3⟩
          have HB3 := hide (bnext (ballc (unhide HI) _) hb3)
          clear hb3 hsd
          go_wp2
          go_roundw
          case rel => exact ⟨i + 1, by omega, by rw [unhide HBn], by go_num, HB3⟩
          case measure => show n - ((i : Int) + 1).toNat < n - ((i : Nat) : Int).toNat; omega
        · have a1 : wr.cell? ⟨W.heap.size, 6, none⟩ = some (.string s.text) := hst2.box.cell 6 _ rfl
          have hq := hide (refQuote_in s.text (by have := (unhide HW).text; omega) wr)
          have hP : (⟨#[32]⟩ : ByteArray) ++ qT s.text = ofL (blT (ltw s 116)) := by
            rw [show (⟨#[32]⟩ : ByteArray) = ofL [32] from rfl, ← ofL_of (qT s.text), app_ofL]
            simp [ltw, blT, ofL_list]
          obtain ⟨Q, hQ⟩ : ∃ Q, qT s.text = Q := ⟨_, rfl⟩
          rw [hQ] at hq hP
          rw [← hP] at hAP zAP
          rw [← ByteArray.append_assoc] at hAP
          rw [ByteArray.size_append, show (⟨#[32]⟩ : ByteArray).size = 1 from rfl] at zAP
          have z4 : (A ++ (⟨#[32]⟩ : ByteArray)).size ≤ A.size + 1 := by rw [ByteArray.size_append]; exact Nat.le_refl _
          have z5 : A.size + 1 ≤ 2000000000 := by omega
          clear hst2 hP hQ
          go_wp2_with fail
          refine (unhide hq).mono ?_
          rintro e W3 ⟨rfl, hb3⟩
          have HB3 := hide (bnext (unhide HI) hb3)
          clear hb3 hq
          go_wp2
          go_roundw
          case rel => exact ⟨i + 1, by omega, by rw [unhide HBn], by go_num, HB3⟩
          case measure => show n - ((i : Int) + 1).toNat < n - ((i : Nat) : Int).toNat; omega
        · have a1 : wr.cell? ⟨W.heap.size, 8, none⟩ = some (.slice ba s.data.length bc) := hst2.box.cell 8 _ rfl
          have hcv := conv_rc hst2.by_
          have hq := hide (refQuote_in (ofL s.data) (by rw [ofL_size]; have := (unhide HW).data; omega) wr)
          have hP : (⟨#[32]⟩ : ByteArray) ++ qT (ofL s.data) = ofL (blT (ltw s 100)) := by
            rw [show (⟨#[32]⟩ : ByteArray) = ofL [32] from rfl, ← ofL_of (qT (ofL s.data)), app_ofL]
            simp [ltw, blT, ofL_list]
          obtain ⟨Q, hQ⟩ : ∃ Q, qT (ofL s.data) = Q := ⟨_, rfl⟩
          rw [hQ] at hq hP
          rw [← hP] at hAP zAP
          rw [← ByteArray.append_assoc] at hAP
          rw [ByteArray.size_append, show (⟨#[32]⟩ : ByteArray).size = 1 from rfl] at zAP
          have z4 : (A ++ (⟨#[32]⟩ : ByteArray)).size ≤ A.size + 1 := by rw [ByteArray.size_append]; exact Nat.le_refl _
          have z5 : A.size + 1 ≤ 2000000000 := by omega
          clear hst2 hP hQ
          go_wp2_with fail
          refine (unhide hq).mono ?_
          rintro e W3 ⟨rfl, hb3⟩
          have HB3 := hide (bnext (unhide HI) hb3)
          clear hb3 hq
          go_wp2
          go_roundw
          case rel => exact ⟨i + 1, by omega, by rw [unhide HBn], by go_num, HB3⟩
          case measure => show n - ((i : Int) + 1).toNat < n - ((i : Nat) : Int).toNat; omega
      · have hlt' : ¬ (i : Int) < (n : Int) := by omega
        rw [List.take_of_length_le (by rw [unhide Hn]; omega), unhide HT]
        have HBE := hide (bnext (unhide HB1) (unhide HI))
        go_wp2
        go_ret
        exact ⟨rfl, unhide HBE⟩

end Go.Proofs.YtkndjbmlkfpfoaaGreatDoor

/-
  The law's own: what is the same, what is too much.
-/
set_option linter.unusedSimpArgs false
set_option linter.unusedVariables false
namespace Go.Proofs.YtkndjbmlkfpfoaaGreatDoor
open Go.RowKit Go.Lib

set_option maxRecDepth 100000 in
set_option maxHeartbeats 2000000 in
theorem ints_in (u v : Value) (l m : List Int) (w : World) (hu : RNm w u l) (hv : RNm w v m) (hl : l.length ≤ 1000000) (hm : m.length ≤ 1000000) : Calls Tryz.prog 22 #[u, v] w fun e W => e = .returned (.bool (decide (l = m))) ∧ Below w.heap.size w W := by
  obtain ⟨a, c, rfl⟩ := RC.form hu
  obtain ⟨a', c', rfl⟩ := RC.form hv
  by_cases hne : l.length = m.length
  · obtain ⟨D, hD⟩ : ∃ D, decide (l = m) = D := ⟨_, rfl⟩
    rw [hD]
    replace hD := hide hD
    obtain ⟨n, hn⟩ : ∃ n, l.length = n := ⟨_, rfl⟩
    have hn' : m.length = n := by omega
    have HL := hide hn
    have HM := hide hn'
    have HU := hide hu
    have HV := hide hv
    rw [hn, hn']
    rw [hn] at hl
    clear hn hn' hne hm hu hv
    go_enter Tryz.func22, Tryz.ntmps22
    go_wp2
    go_loopw [5] (fun iv wr => ∃ i : Nat, i ≤ n ∧ iv = .int .i64 (i : Nat) ∧ Hid (l.take i = m.take i ∧ Below w.heap.size w wr)) (fun iv _ => n - (RowKit.intOf iv).toNat)
    case atStart => exact ⟨0, Nat.zero_le _, rfl, hide ⟨by simp, Below.refl _ _⟩⟩
    case round =>
      obtain ⟨i, hi, rfl, HI⟩ := hrel
      obtain ⟨htk, hb⟩ := unhide HI
      by_cases hlt : i < n
      · have hlt' : (i : Int) < (n : Int) := by omega
        have hi1 : i < l.length := by rw [unhide HL]; exact hlt
        have hi2 : i < m.length := by rw [unhide HM]; exact hlt
        have ru := RC.below (unhide HU) hb
        have rv := RC.below (unhide HV) hb
        rw [show (Value.slice a l.length c) = .slice a n c by rw [unhide HL]] at ru
        rw [show (Value.slice a' m.length c') = .slice a' n c' by rw [unhide HM]] at rv
        obtain ⟨b1, o1, rfl, _, k1⟩ := RNm.at ru (List.getElem?_eq_getElem hi1)
        obtain ⟨b2, o2, rfl, _, k2⟩ := RNm.at rv (List.getElem?_eq_getElem hi2)
        by_cases he : l[i] = m[i]
        · have hnq : (l[i] != m[i]) = false := by simpa using he
          have htk' : l.take (i + 1) = m.take (i + 1) := by
            rw [List.take_add_one, List.take_add_one, htk, List.getElem?_eq_getElem hi1, List.getElem?_eq_getElem hi2, he]
          have Htk' := hide htk'
          clear he htk' htk hb ru rv
          generalize l[i] = e at *
          generalize m[i] = e' at *
          go_wp2
          go_quiet (fail)
          go_wp2
          go_roundw
          case rel => exact ⟨i + 1, by omega, by go_num, hide ⟨unhide Htk', bdrew (unhide HI).2 _⟩⟩
          case measure => show n - ((i : Int) + 1).toNat < n - ((i : Nat) : Int).toNat; omega
        · have hnq : (l[i] != m[i]) = true := by simpa using he
          have Hfin := hide (show D = false by
            rw [← unhide hD, decide_eq_false_iff_not]
            intro e
            subst e
            exact he rfl)
          clear he htk hb ru rv
          generalize l[i] = e at *
          generalize m[i] = e' at *
          go_wp2
          go_quiet (fail)
          go_wp2
          go_ret
          exact ⟨by rw [unhide Hfin]; rfl, bdrew (unhide HI).2 _⟩
      · have Hfin := hide (show D = true by
          rw [List.take_of_length_le (by rw [unhide HL]; omega), List.take_of_length_le (by rw [unhide HM]; omega)] at htk
          rw [← unhide hD]
          exact decide_eq_true htk)
        have i1 : ¬ (i : Int) < (n : Int) := by omega
        clear htk hb
        go_wp2
        go_ret
        exact ⟨by rw [unhide Hfin]; rfl, (unhide HI).2⟩
  · have hd : decide (l = m) = false := by rw [decide_eq_false_iff_not]; intro e; exact hne (by rw [e])
    rw [hd]
    have hne' : ((l.length : Int) != (m.length : Int)) = true := by simp; omega
    clear hd hu hv hne
    generalize l.length = L at *
    generalize m.length = M at *
    go_enter Tryz.func22, Tryz.ntmps22
    go_wp2
    go_ret
    exact ⟨rfl, Below.refl _ _⟩


set_option maxRecDepth 100000 in
set_option maxHeartbeats 4000000 in
theorem one_in (s : Sp) (dv bv du bu : Value) (W : World) (hd : RNm W dv s.draws) (hb : RBy W bv s.data) (hd' : RNm W du s.draws) (hb' : RBy W bu s.data) (hl : s.draws.length ≤ 1000000) :
    Calls Tryz.prog 28 #[.agg (spC s dv bv), .agg (spC s du bu)] W fun e W' => e = .returned (.bool true) ∧ Below W.heap.size W W' := by
  obtain ⟨da, dc, rfl⟩ := RC.form hd
  obtain ⟨ba, bc, rfl⟩ := RC.form hb
  obtain ⟨ea, ec, rfl⟩ := RC.form hd'
  obtain ⟨fa, fc, rfl⟩ := RC.form hb'
  obtain ⟨X, hX⟩ : ∃ X, W.alloc (.cells (spC s (.slice da s.draws.length dc) (.slice ba s.data.length bc)) 40) = X := ⟨_, rfl⟩
  have hb1 : Below W.heap.size W X := by rw [← hX]; exact ballc (Below.refl _ _) _
  have hst : StB X W.heap.size s (.slice da s.draws.length dc) (.slice ba s.data.length bc) := ⟨by rw [← hX]; exact Bq.new _ _ _, RC.below hd hb1, RC.below hb hb1⟩
  have hsz : X.heap.size = W.heap.size + 1 := by rw [← hX]; simp
  obtain ⟨Y, hY⟩ : ∃ Y, X.alloc (.cells (spC s (.slice ea s.draws.length ec) (.slice fa s.data.length fc)) 40) = Y := ⟨_, rfl⟩
  have hb2 : Below W.heap.size W Y := by rw [← hY]; exact ballc hb1 _
  have hb3 : Below X.heap.size X Y := by rw [← hY]; exact ballc (Below.refl _ _) _
  have hsu : StB Y (W.heap.size + 1) s (.slice ea s.draws.length ec) (.slice fa s.data.length fc) := ⟨by rw [← hsz, ← hY]; exact Bq.new _ _ _, RC.below hd' hb2, RC.below hb' hb2⟩
  have hst2 := hst.below hb3
  have hi := hide (ints_in _ _ s.draws s.draws Y hst2.dr hsu.dr hl hl)
  have g1 := conv_rc hst2.by_
  have g2 := conv_rc hsu.by_
  obtain ⟨n1, hn1⟩ : ∃ n, s.draws.length = n := ⟨_, rfl⟩
  obtain ⟨n2, hn2⟩ : ∃ n, s.data.length = n := ⟨_, rfl⟩
  obtain ⟨DT, hDT⟩ : ∃ n, ofL s.data = n := ⟨_, rfl⟩
  have hbx := hst2.box
  have hby := hsu.box
  rw [decide_eq_true rfl] at hi
  rw [hn1] at hl hi
  rw [hDT] at g1 g2
  rw [hn1, hn2] at hbx hby hX hY ⊢
  rw [hn2] at g1 g2
  have c0 := hbx.cell 0 (.int .i64 s.kind) rfl
  have c1 := hbx.cell 1 (.int .i64 s.site) rfl
  have c2 := hbx.cell 2 (.int .i64 s.peer) rfl
  have c3 := hbx.cell 3 (.int .i64 s.unit) rfl
  have c4 := hbx.cell 4 (.int .i64 s.at_) rfl
  have c5 := hbx.cell 5 (.int .i64 s.n) rfl
  have c6 := hbx.cell 6 (.string s.text) rfl
  have c7 := hbx.cell 7 (.slice da n1 dc) rfl
  have c8 := hbx.cell 8 (.slice ba n2 bc) rfl
  have d0 := hby.cell 0 (.int .i64 s.kind) rfl
  have d1 := hby.cell 1 (.int .i64 s.site) rfl
  have d2 := hby.cell 2 (.int .i64 s.peer) rfl
  have d3 := hby.cell 3 (.int .i64 s.unit) rfl
  have d4 := hby.cell 4 (.int .i64 s.at_) rfl
  have d5 := hby.cell 5 (.int .i64 s.n) rfl
  have d6 := hby.cell 6 (.string s.text) rfl
  have d7 := hby.cell 7 (.slice ea n1 ec) rfl
  have d8 := hby.cell 8 (.slice fa n2 fc) rfl
  have HX := hide hX
  have HY := hide hY
  have HB := hide hb2
  have e0 : (s.kind == s.kind) = true := by simp
  have e1 : (s.site == s.site) = true := by simp
  have e2 : (s.peer == s.peer) = true := by simp
  have e3 : (s.unit == s.unit) = true := by simp
  have e4 : (s.at_ == s.at_) = true := by simp
  have e5 : (s.n == s.n) = true := by simp
  clear hX hY hb1 hb2 hb3 hst hsu hst2 hsz hbx hby hd hb hd' hb' hn1 hn2 hDT
  unfold spC at HX HY ⊢
  go_enter Tryz.func28, Tryz.ntmps28
  go_upto_region 1 with fail
  rw [unhide HX, unhide HY]
  go_wp2_with fail
  refine (unhide hi).mono ?_
  rintro e W3 ⟨rfl, hb3⟩
  have HB3 := hide (bnext (unhide HB) hb3)
  clear hb3 hi
  go_wp2
  go_ret
  exact ⟨rfl, unhide HB3⟩

end Go.Proofs.YtkndjbmlkfpfoaaGreatDoor

/-
  The law's same, of what is the same.
-/
set_option linter.unusedSimpArgs false
set_option linter.unusedVariables false
namespace Go.Proofs.YtkndjbmlkfpfoaaGreatDoor
open Go.RowKit Go.Lib

set_option maxRecDepth 100000 in
set_option maxHeartbeats 8000000 in
theorem same_in {w : World} (v u : Value) (l m : List (Sp × Value × Value)) (hr : RStp w v l) (hr' : RStp w u m) (he : l.map Prod.fst = m.map Prod.fst) (hn : l.length ≤ 1000000) (hd : ∀ x ∈ l, x.1.draws.length ≤ 1000000) :
    Calls Tryz.prog 12 #[v, u] w fun e W => e = .returned (.bool true) ∧ Below w.heap.size w W := by
  have hlm : m.length = l.length := by have := congrArg List.length he; simpa using this.symm
  obtain ⟨a, c, rfl⟩ := RC.form hr.row
  obtain ⟨a', c', rfl⟩ := RC.form hr'.row
  have HR := hide hr
  have HR' := hide hr'
  have HE := hide he
  have HD := hide hd
  obtain ⟨L, hL⟩ : ∃ L, l.length = L := ⟨_, rfl⟩
  rw [hlm] at HR' ⊢
  rw [hL] at hn HR HR' hlm ⊢
  have HL := hide hL
  have HM := hide hlm
  clear hr hr' hL he hd hlm
  go_enter Tryz.func12, Tryz.ntmps12
  go_wp2
  go_loopw [5] (fun iv wr => ∃ i : Nat, iv = .int .i64 (i : Nat) ∧ i ≤ L ∧ Hid (Below w.heap.size w wr)) (fun iv _ => L - (RowKit.intOf iv).toNat)
  case atStart => exact ⟨0, rfl, by omega, hide (Below.refl _ _)⟩
  case round =>
    obtain ⟨i, rfl, hi, HB⟩ := hrel
    by_cases hlt : i < L
    · have hlt' : (i : Int) < (L : Int) := by omega
      obtain ⟨⟨s, dv, bv⟩, hx⟩ : ∃ o, l[i]? = some o := ⟨_, List.getElem?_eq_getElem (by rw [unhide HL]; exact hlt)⟩
      obtain ⟨⟨s', du, bu⟩, hy⟩ : ∃ o, m[i]? = some o := ⟨_, List.getElem?_eq_getElem (by rw [unhide HM]; exact hlt)⟩
      obtain rfl : s = s' := by
        have h1 := congrArg (fun k => k[i]?) (unhide HE)
        simp only [List.getElem?_map, hx, hy, Option.map_some, Option.some.injEq] at h1
        exact h1
      have r1 := (unhide HR).below (unhide HB)
      have r2 := (unhide HR').below (unhide HB)
      obtain ⟨b0, off, rfl, hb0, hc⟩ := r1.at hx
      obtain ⟨b1, off', rfl, hb1, hc'⟩ := r2.at hy
      have rd := r1.dr _ (List.mem_of_getElem? hx)
      have rb := r1.by_ _ (List.mem_of_getElem? hx)
      have rd' := r2.dr _ (List.mem_of_getElem? hy)
      have rb' := r2.by_ _ (List.mem_of_getElem? hy)
      have hdl := unhide HD _ (List.mem_of_getElem? hx)
      simp only at rd rb rd' rb' hdl
      obtain ⟨da, dc, rfl⟩ := RC.form rd
      obtain ⟨ba, bc, rfl⟩ := RC.form rb
      obtain ⟨ea, ec, rfl⟩ := RC.form rd'
      obtain ⟨fa, fc, rfl⟩ := RC.form rb'
      have HS := hide (fun (W : World) (hb : Hid (Below wr.heap.size wr W)) => one_in s _ _ _ _ W (RC.below rd (unhide hb)) (RC.below rb (unhide hb)) (RC.below rd' (unhide hb)) (RC.below rb' (unhide hb)) hdl)
      unfold spC at HS
      obtain ⟨n1, hn1⟩ : ∃ n, s.draws.length = n := ⟨_, rfl⟩
      obtain ⟨n2, hn2⟩ : ∃ n, s.data.length = n := ⟨_, rfl⟩
      rw [hn1, hn2] at HS hc hc'
      have p0 := hc 0 _ rfl
      have p1 := hc 1 _ rfl
      have p2 := hc 2 _ rfl
      have p3 := hc 3 _ rfl
      have p4 := hc 4 _ rfl
      have p5 := hc 5 _ rfl
      have p6 := hc 6 _ rfl
      have p7 := hc 7 _ rfl
      have p8 := hc 8 _ rfl
      have q0 := hc' 0 _ rfl
      have q1 := hc' 1 _ rfl
      have q2 := hc' 2 _ rfl
      have q3 := hc' 3 _ rfl
      have q4 := hc' 4 _ rfl
      have q5 := hc' 5 _ rfl
      have q6 := hc' 6 _ rfl
      have q7 := hc' 7 _ rfl
      have q8 := hc' 8 _ rfl
      simp only [Nat.add_zero] at p0 p1 p2 p3 p4 p5 p6 p7 p8 q0 q1 q2 q3 q4 q5 q6 q7 q8
      clear hc hc' rd rb rd' rb' hx hy r1 r2 hn1 hn2
      go_wp2_with fail
      go_region_held3 (fun w' => w'.cell? ⟨b0, off + i * 9, none⟩ = some (.int .i64 s.kind) ∧ w'.cell? ⟨b0, off + i * 9 + 1, none⟩ = some (.int .i64 s.site) ∧ w'.cell? ⟨b0, off + i * 9 + 2, none⟩ = some (.int .i64 s.peer) ∧ w'.cell? ⟨b0, off + i * 9 + 3, none⟩ = some (.int .i64 s.unit) ∧ w'.cell? ⟨b0, off + i * 9 + 4, none⟩ = some (.int .i64 s.at_) ∧ w'.cell? ⟨b0, off + i * 9 + 5, none⟩ = some (.int .i64 s.n) ∧ w'.cell? ⟨b0, off + i * 9 + 6, none⟩ = some (.string s.text) ∧ w'.cell? ⟨b0, off + i * 9 + 7, none⟩ = some (.slice da n1 dc) ∧ w'.cell? ⟨b0, off + i * 9 + 8, none⟩ = some (.slice ba n2 bc) ∧ w'.cell? ⟨b1, off' + i * 9, none⟩ = some (.int .i64 s.kind) ∧ w'.cell? ⟨b1, off' + i * 9 + 1, none⟩ = some (.int .i64 s.site) ∧ w'.cell? ⟨b1, off' + i * 9 + 2, none⟩ = some (.int .i64 s.peer) ∧ w'.cell? ⟨b1, off' + i * 9 + 3, none⟩ = some (.int .i64 s.unit) ∧ w'.cell? ⟨b1, off' + i * 9 + 4, none⟩ = some (.int .i64 s.at_) ∧ w'.cell? ⟨b1, off' + i * 9 + 5, none⟩ = some (.int .i64 s.n) ∧ w'.cell? ⟨b1, off' + i * 9 + 6, none⟩ = some (.string s.text) ∧ w'.cell? ⟨b1, off' + i * 9 + 7, none⟩ = some (.slice ea n1 ec) ∧ w'.cell? ⟨b1, off' + i * 9 + 8, none⟩ = some (.slice fa n2 fc) ∧ Hid (Below wr.heap.size wr w'))
        (first
          | (exact ⟨p0, p1, p2, p3, p4, p5, p6, p7, p8, q0, q1, q2, q3, q4, q5, q6, q7, q8, hide (Below.refl _ _).drew⟩)
          | (go_split_ands
             exact ⟨cell_below (by assumption) hb, cell_below (by assumption) hb, cell_below (by assumption) hb, cell_below (by assumption) hb, cell_below (by assumption) hb, cell_below (by assumption) hb, cell_below (by assumption) hb, cell_below (by assumption) hb, cell_below (by assumption) hb, cell_below (by assumption) hb, cell_below (by assumption) hb, cell_below (by assumption) hb, cell_below (by assumption) hb, cell_below (by assumption) hb, cell_below (by assumption) hb, cell_below (by assumption) hb, cell_below (by assumption) hb, cell_below (by assumption) hb, hide (bnext (unhide (by assumption)) hb)⟩)
          | go_keep)
        (first
          | (go_split_ands; go_at_call 28; refine (unhide HS _ (by assumption)).mono ?_; rintro e w' ⟨rfl, hb⟩))
      go_split_ands
      have HB2 := hide (bnext (unhide HB) (unhide (by assumption : Hid (Below wr.heap.size wr _))))
      go_wp2
      go_roundw
      case measure => simp [RowKit.intOf]; omega
      case rel => exact ⟨i + 1, by go_num, by omega, HB2⟩
    · have hlt' : ¬ (i : Int) < (L : Int) := by omega
      go_wp2
      go_ret
      exact ⟨rfl, unhide HB⟩

end Go.Proofs.YtkndjbmlkfpfoaaGreatDoor

/-
  The law's much.
-/
set_option linter.unusedSimpArgs false
set_option linter.unusedVariables false
namespace Go.Proofs.YtkndjbmlkfpfoaaGreatDoor
open Go.RowKit Go.Lib

/-- the bytes of a script's texts and data -/
def smL (l : List (Sp × Value × Value)) : Nat := (l.map fun x => x.1.text.size + x.1.data.length).sum
theorem smL_take {l : List (Sp × Value × Value)} {j : Nat} {e : Sp × Value × Value} (h : l[j]? = some e) : smL (l.take (j + 1)) = smL (l.take j) + (e.1.text.size + e.1.data.length) := by
  unfold smL
  rw [List.take_add_one, h]
  simp
/-- what a script is that is not too much -/
structure LitS (l : List (Sp × Value × Value)) : Prop where
  len : l.length ≤ 200
  dr : ∀ x ∈ l, x.1.draws.length ≤ 400
  sm : smL l ≤ 30000
/-- the reach of one machine -/
def RchS (l : List (Sp × Value × Value)) : Prop := ∀ x ∈ l, x.1.text.size ≤ 140737488355328 ∧ x.1.data.length ≤ 140737488355328 ∧ x.1.draws.length ≤ 140737488355328

set_option maxRecDepth 100000 in
set_option maxHeartbeats 8000000 in
theorem much_in {w : World} (v : Value) (l : List (Sp × Value × Value)) (hr : RStp w v l) (hn : l.length ≤ 9223372036854775807) (hR : RchS l) :
    Calls Tryz.prog 13 #[v] w fun e W => (e = .returned (.bool true) ∨ (e = .returned (.bool false) ∧ LitS l)) ∧ Below w.heap.size w W := by
  obtain ⟨a, c, rfl⟩ := RC.form hr.row
  have HR := hide hr
  have HC := hide hR
  obtain ⟨L, hL⟩ : ∃ L, l.length = L := ⟨_, rfl⟩
  rw [hL] at hn HR ⊢
  have HL := hide hL
  clear hr hL hR
  by_cases h200 : 200 < L
  · have h200' : (200 : Int) < (L : Int) := by omega
    go_enter Tryz.func13, Tryz.ntmps13
    go_wp2
    go_ret
    exact ⟨.inl rfl, Below.refl _ _⟩
  have h200' : ¬ (200 : Int) < (L : Int) := by omega
  go_enter Tryz.func13, Tryz.ntmps13
  go_wp2
  go_loopw [3, 4] (fun nv iv wr => ∃ i k : Nat, nv = .int .i64 (k : Nat) ∧ iv = .int .i64 (i : Nat) ∧ i ≤ L ∧ k ≤ 30000 ∧ Hid (k = smL (l.take i) ∧ (∀ x ∈ l.take i, x.1.draws.length ≤ 400) ∧ Below w.heap.size w wr)) (fun _ iv _ => L - (RowKit.intOf iv).toNat)
  case atStart => exact ⟨0, 0, rfl, rfl, by omega, by omega, hide ⟨by simp [smL], fun x hx => by simp at hx, Below.refl _ _⟩⟩
  case round =>
    obtain ⟨i, k, rfl, rfl, hi, hk, HB⟩ := hrel
    by_cases hlt : i < L
    · have hlt' : (i : Int) < (L : Int) := by omega
      obtain ⟨⟨s, dv, bv⟩, hx⟩ : ∃ o, l[i]? = some o := ⟨_, List.getElem?_eq_getElem (by rw [unhide HL]; exact hlt)⟩
      have r1 := (unhide HR).below (unhide HB).2.2
      obtain ⟨b0, off, rfl, hb0, hc⟩ := r1.at hx
      have rd := r1.dr _ (List.mem_of_getElem? hx)
      have rb := r1.by_ _ (List.mem_of_getElem? hx)
      obtain ⟨z1, z2, z3⟩ := unhide HC _ (List.mem_of_getElem? hx)
      simp only at rd rb z1 z2 z3
      obtain ⟨da, dc, rfl⟩ := RC.form rd
      obtain ⟨ba, bc, rfl⟩ := RC.form rb
      have htk := smL_take hx
      have hdt : ∀ n, s.draws.length ≤ n → n ≤ 400 → ∀ x ∈ l.take (i + 1), x.1.draws.length ≤ 400 := by
        intro n h1 h2 x hm
        rw [List.take_add_one, hx] at hm
        rcases List.mem_append.1 hm with h | h
        · exact (unhide HB).2.1 x h
        · simp at h; subst h; exact Nat.le_trans h1 h2
      simp only at htk
      obtain ⟨n1, hn1⟩ : ∃ n, s.draws.length = n := ⟨_, rfl⟩
      obtain ⟨n2, hn2⟩ : ∃ n, s.data.length = n := ⟨_, rfl⟩
      obtain ⟨tx, htx⟩ : ∃ n, s.text = n := ⟨_, rfl⟩
      obtain ⟨tn, htn⟩ : ∃ n, tx.size = n := ⟨_, rfl⟩
      have p6 := hc 6 (.string s.text) rfl
      have p7 := hc 7 _ rfl
      have p8 := hc 8 _ rfl
      simp only at p7 p8
      rw [hn1] at z3 p7 hdt
      rw [hn2] at z2 p8 htk
      rw [htx] at p6 htk z1
      rw [htn] at z1 htk
      rw [← (unhide HB).1] at htk
      have HTK := hide htk
      have HDT := hide hdt
      clear hc rd rb hx r1 hn1 hn2 htx htk hdt
      go_wp2
      go_quiet (fail)
      have BY := hide (bdrew (unhide HB).2.2 nq)
      by_cases h4 : 400 < n1
      · have h4' : (400 : Int) < (n1 : Int) := by omega
        go_wp2
        go_ret
        exact ⟨.inl rfl, unhide BY⟩
      · have h4' : ¬ (400 : Int) < (n1 : Int) := by omega
        by_cases h3 : 30000 < k + tn + n2
        · have h3' : (30000 : Int) < (k : Int) + (tn : Int) + (n2 : Int) := by omega
          go_wp2
          go_ret
          exact ⟨.inl rfl, unhide BY⟩
        · have h3' : ¬ (30000 : Int) < (k : Int) + (tn : Int) + (n2 : Int) := by omega
          have HN := hide (show k + tn + n2 = smL (l.take (i + 1)) ∧ (∀ x ∈ l.take (i + 1), x.1.draws.length ≤ 400) ∧ Below w.heap.size w (wr.drewN nq) from ⟨by rw [unhide HTK]; omega, unhide HDT _ (Nat.le_refl _) (by omega), unhide BY⟩)
          go_wp2
          go_roundw
          case measure => simp [RowKit.intOf]; omega
          case rel => exact ⟨i + 1, k + tn + n2, by simp, by go_num, by omega, by omega, HN⟩
    · have hlt' : ¬ (i : Int) < (L : Int) := by omega
      have HF := hide (show LitS l from ⟨by rw [unhide HL]; omega, by
        have := (unhide HB).2.1
        rw [List.take_of_length_le (by rw [unhide HL]; omega)] at this
        exact this, by
        have := (unhide HB).1
        rw [List.take_of_length_le (by rw [unhide HL]; omega)] at this
        omega⟩)
      go_wp2
      go_ret
      exact ⟨.inr ⟨rfl, unhide HF⟩, (unhide HB).2.2⟩

end Go.Proofs.YtkndjbmlkfpfoaaGreatDoor

/-
  What script.takeAll does: numbers behind a step's Draws.
-/
set_option linter.unusedSimpArgs false
set_option linter.unusedVariables false
namespace Go.Proofs.YtkndjbmlkfpfoaaGreatDoor
open Go.RowKit Go.Lib

def RW (W : World) (v : Value) (l : List It) : Prop := RC W v l.length (flat encW l)
theorem RW.at {W : World} {a : Option Addr} {n c : Nat} {l : List It} (h : RW W (.slice a n c) l) {i : Nat} {x : It} (hi : l[i]? = some x) :
    ∃ b off, a = some ⟨b, off, none⟩ ∧ b < W.heap.size ∧ W.cell? ⟨b, off + i * 5, none⟩ = some (.int .i64 (x.w.k : Int)) ∧ W.cell? ⟨b, off + i * 5 + 1, none⟩ = some (.string x.w.t) ∧ W.cell? ⟨b, off + i * 5 + 2, none⟩ = some (.int .i64 x.w.n) ∧ W.cell? ⟨b, off + i * 5 + 3, none⟩ = some (.int .i64 (x.w.a : Int)) ∧ W.cell? ⟨b, off + i * 5 + 4, none⟩ = some (.int .i64 (x.ln : Int)) := by
  rcases h with ⟨h0, _⟩ | ⟨b, off, cap, e2, hn, hlt, hc⟩
  · have := (List.getElem?_eq_some_iff.1 hi).1; omega
  · simp at e2
    have hq := fun q u (hu : (encW x)[q]? = some u) (hq : q < 5) => hc (i * 5 + q) u ((flat_get encW_len l i q x hi hq).trans hu)
    refine ⟨b, off, e2.1, hlt, ?_, ?_, ?_, ?_, ?_⟩
    · exact hq 0 _ rfl (by omega)
    · rw [Nat.add_assoc]; exact hq 1 _ rfl (by omega)
    · rw [Nat.add_assoc]; exact hq 2 _ rfl (by omega)
    · rw [Nat.add_assoc]; exact hq 3 _ rfl (by omega)
    · rw [Nat.add_assoc]; exact hq 4 _ rfl (by omega)

/-- bytes of one's own; the place behind its array may be marked -/
def OwB (W : World) (N : Nat) (v : Value) (l : List UInt8) : Prop :=
  (v = .slice none 0 0 ∧ l = []) ∨ ∃ g cap cur fz, v = .slice (some ⟨g, 0, none⟩) l.length cap ∧ N ≤ g ∧ W.heap[g]? = some (Obj.cells cur 5 fz) ∧ (fz = (0, 0) ∨ fz = (cur.size, cur.size + 1)) ∧ l.length ≤ cap ∧ cap ≤ maxLen ∧ cur.size = cap ∧ cur.toList.take l.length = Lib.byteCells l
theorem ownsF_ty {W : World} {N b : Nat} {v : Value} {l : List UInt8} {t : TypeId} {vs : Array Value} (h : OwB W N v l) (hb : Bq W b t vs) (ht : t ≠ 5) : v.ownBlock ≠ some b := by
  rcases h with ⟨rfl, _⟩ | ⟨g, cap, cur, fz, rfl, _, hg, _⟩
  · intro e; cases e
  · intro e
    cases e
    unfold Bq at hb
    rw [hg] at hb
    cases hb
    exact ht rfl
theorem ownsF_kp {M : Nat → Prop} {W W' : World} {N : Nat} {v : Value} {l : List UInt8} (h : OwB W N v l) (kp : Kp M W W') (hn : ∀ i, v.ownBlock = some i → ¬ M i) : OwB W' N v l := by
  rcases h with h | ⟨g, cap, cur, fz, rfl, hbg, hg, hr⟩
  · exact .inl h
  · exact .inr ⟨g, cap, cur, fz, rfl, hbg, (kp.block g (Array.getElem?_eq_some_iff.1 hg).1 (hn g rfl)).trans hg, hr⟩
theorem OwB.row {W : World} {N : Nat} {v : Value} {l : List UInt8} (h : OwB W N v l) : RBy W v l := by
  rcases h with ⟨rfl, rfl⟩ | ⟨g, cap, cur, fz, rfl, hbg, hg, hf, h1, h2, h3, h4⟩
  · exact .inl ⟨rfl, _, _, rfl⟩
  · refine .inr ⟨g, 0, cap, rfl, h1, (Array.getElem?_eq_some_iff.1 hg).1, fun j x hx => ?_⟩
    rw [Nat.zero_add]
    simp only [World.cell?, hg]
    have hj := (List.getElem?_eq_some_iff.1 hx).1
    rw [bytC_len] at hj
    rw [← h4, List.getElem?_take_of_lt hj] at hx
    simpa using hx
/-- a step of one's own: its box, its rows from N on -/
structure StO (N : Nat) (W : World) (b : Nat) (s : Sp) (dv bv : Value) : Prop where
  bx : Bq W b 40 (spC s dv bv)
  dr : W.ownsRow N 3 1 dv s.draws.length (flat enN s.draws)
  by_ : OwB W N bv s.data
theorem owns_ty {W : World} {N E k n b : Nat} {v : Value} {C : List Value} {t : TypeId} {vs : Array Value} (h : W.ownsRow N E k v n C) (hb : Bq W b t vs) (ht : t ≠ E) : v.ownBlock ≠ some b := by
  obtain ⟨_, (⟨rfl, _⟩ | ⟨g, cap, cur, rfl, _, hg, _⟩)⟩ := h
  · intro e; cases e
  · intro e
    cases e
    unfold Bq at hb
    rw [hg] at hb
    cases hb
    exact ht rfl
theorem StO.kp {M : Nat → Prop} {N : Nat} {W W' : World} {b : Nat} {s : Sp} {dv bv : Value} (h : StO N W b s dv bv) (k : Kp M W W') (h1 : ¬ M b) (h2 : ∀ i, dv.ownBlock = some i → ¬ M i) (h3 : ∀ i, bv.ownBlock = some i → ¬ M i) : StO N W' b s dv bv :=
  ⟨h.bx.kp k h1, owns_kp h.dr k h2, ownsF_kp h.by_ k h3⟩
theorem StO.below {N : Nat} {W W' : World} {b : Nat} {s : Sp} {dv bv : Value} (h : StO N W b s dv bv) (hb : Below W.heap.size W W') : StO N W' b s dv bv :=
  h.kp (M := fun _ => False) (Kp.of_below hb) id (fun _ _ => id) (fun _ _ => id)
theorem infoI : (Tryz.prog.info? 3).map (fun i => (i.zero, i.size, i.bytes)) = some (some (.int .i64 0), 1, 8) := by kernel_rfl
theorem append_num (w : World) (ty : TypeId) (N : Nat) (v : Value) (l : List Int) (x : Int) (nb : Nat) (h : w.ownsRow N 3 1 v l.length (flat enN l)) (hbx : Bq w nb 3 #[.int .i64 x]) (hN : N ≤ w.heap.size) (hl : l.length ≤ 100000000) :
    ∃ v' w', (Builtin.append_ #[37, 37] ty #[v, .slice (some ⟨nb, 0, none⟩) 1 1]).run Tryz.prog w = .ok v' w' ∧ w'.ownsRow N 3 1 v' (l ++ [x]).length (flat enN (l ++ [x])) ∧ w.grownBy w' v.ownBlock ∧ (v'.ownBlock = v.ownBlock ∨ v'.ownBlock = some w.heap.size) := by
  obtain ⟨i0, hi, hz0, hz1, hz2⟩ := info_parts5 infoI
  obtain ⟨v', w', h1, h2, h3, h4, h5⟩ := run_append_own_at (P := Tryz.prog) w N 37 ty 3 i0 _ 1 8 Tryz.underlying37 hi hz0 hz1 hz2 rfl (by decide) v l.length _ h ⟨nb, 0, none⟩ 1 1 (enN x) rfl (fun j u hu => by
    rw [Addr.add_lit, Nat.zero_add]
    exact hbx.cell j u (by rw [← hu]; simp [enN])) (fun u hu => by simp [enN] at hu; subst hu; rfl) (by unfold maxLen; omega) (by omega) (by first | omega | (simp; omega))
  refine ⟨v', w', h1, ?_, h3, h5⟩
  rw [flat_append, List.length_append]
  simpa [flat] using h2
def allN (l : List It) : Bool := l.all fun x => decide (x.w.k = 3)
end Go.Proofs.YtkndjbmlkfpfoaaGreatDoor
