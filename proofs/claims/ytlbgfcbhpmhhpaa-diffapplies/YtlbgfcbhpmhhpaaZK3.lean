/-
  The document's own Apply.
-/
import Derived.Test.YtlbgfcbhpmhhpaaZK2
set_option linter.unusedSimpArgs false
set_option linter.unusedVariables false
namespace Go.Proofs.Ytlbgfcbhpmhhpaa
open Go.RowKit Go.Lib

theorem refGoodK (s : ByteArray) (hs : s.size ≤ 1000000000) (w : World) :
    Calls Try.prog 28 #[.string s] w fun e W => e = .returned (.bool (goodB s)) ∧ Below w.heap.size w W := by
  unfold goodB
  have h := fun W => hide (refBadAt_in s hs W)
  generalize firstBad s (allL s) = F at *
  go_enter Try.func28, Try.ntmps28
  go_wp2_with fail
  refine (unhide (h _)).mono ?_
  rintro e W ⟨rfl, hB⟩
  go_wp2
  go_ret
  exact ⟨rfl, hB⟩

theorem enc_len (O : List Int) : O.length ≤ (O.flatMap encL).length := by
  induction O with
  | nil => simp
  | cons n ns ih =>
    have := encL_pos n
    rw [List.flatMap_cons, List.length_append, List.length_cons]
    omega

/-- the loop's state -/
structure Ra (W1 wr : World) (s : ByteArray) (l : List Ed) (i : Nat) (ax : Option Addr) (n cx : Nat) (X : List Int) (ov gv : Value) (O : List Int) (G : List ByteArray) : Prop where
  bel : Below W1.heap.size W1 wr
  rs : RS W1 (.slice ax n cx) X
  hn : X.length = n
  hc : n ≤ cx
  hn8 : n ≤ 8000
  out : wr.ownsRow W1.heap.size 21 1 ov O.length (O.map (Value.int .i32))
  gone : wr.ownsRow W1.heap.size 9 1 gv G.length (G.map Value.string)
  hG : G.length = i
  e1 : chkL (n : Nat) (l.drop i) = chk s l
  e2 : O.flatMap encL ++ apW (runesBytes X) (l.drop i) = apW s l
  e3 : G ++ (ivL (runesBytes X) (l.drop i)).map (fun e => e.2.2) = (ivL s l).map (fun e => e.2.2)

set_option maxRecDepth 100000 in
set_option maxHeartbeats 8000000 in
theorem refApply_in (s : ByteArray) (l : List Ed) (v : Value) (w : World) (h : RE w v l) (hs : s.size ≤ 8000) (hl : l.length ≤ 300) (hok : ∀ e ∈ l, EdOk e) (hsz : szL l ≤ 8000) :
    Calls Try.prog 15 #[.string s, v] w fun e W => ∃ gv, e = .returned (.tuple #[.string (if chk s l = 0 then ofL (apW s l) else ⟨#[]⟩), gv, .int .i64 (chk s l)]) ∧ ST W gv (if chk s l = 0 then (ivL s l).map (fun e => e.2.2) else []) ∧ Below w.heap.size w W := by
  obtain ⟨i0, hinf, hz0, hz1, hz2⟩ := info_parts infoStrK
  obtain ⟨R, hR⟩ : ∃ R, (if chk s l = 0 then ofL (apW s l) else ⟨#[]⟩) = R := ⟨_, rfl⟩
  obtain ⟨GG, hGG⟩ : ∃ GG, (if chk s l = 0 then (ivL s l).map (fun e => e.2.2) else []) = GG := ⟨_, rfl⟩
  obtain ⟨E, hEE⟩ : ∃ E, chk s l = E := ⟨_, rfl⟩
  rw [hR, hGG, hEE]
  have Hout := hide (show ∀ c, chk s l = c → c ≠ 0 → R = ⟨#[]⟩ ∧ E = c ∧ GG = [] from fun c h1 h2 => by
    rw [if_neg (by rw [h1]; exact h2)] at hR hGG
    exact ⟨hR.symm, by rw [← hEE, h1], hGG.symm⟩)
  have Hgood := hide (show chk s l = 0 → R = ofL (apW s l) ∧ E = 0 ∧ GG = (ivL s l).map (fun e => e.2.2) from fun h1 => by
    rw [if_pos h1] at hR hGG
    exact ⟨hR.symm, by rw [← hEE, h1], hGG.symm⟩)
  clear hR hGG hEE
  have hb1 := fun W => hide (refGoodK s (by omega) W)
  have hr1 := fun W => hide (refRunes_in s (by omega) W)
  have hl1 := allL_length s
  have hm1 := runeL_length s
  have hal := apW_len l s
  obtain ⟨a, cap, rfl⟩ := h.form
  have Hre := hide h
  have Hok := hide hok
  obtain ⟨L, hL⟩ : ∃ L, l.length = L := ⟨_, rfl⟩
  rw [hL] at hl Hre ⊢
  have HL := hide hL
  clear h hok hL
  cases hg : goodB s with
  | false =>
    have hE : chk s l = 2 := by unfold chk; rw [hg, if_pos rfl]
    rw [hg] at hb1
    have HE := hide hE
    clear hE hg hr1
    go_enter Try.func15, Try.ntmps15
    go_wp2_with fail
    refine (unhide (hb1 _)).mono ?_
    rintro e W1 ⟨rfl, hB1⟩
    go_wp2
    go_ret3
    obtain ⟨r1, r2, r3⟩ := unhide Hout _ (unhide HE) (by decide); exact ⟨_, by rw [r1, r2]; rfl, by rw [r3]; exact .inl ⟨rfl, _, _, rfl⟩, hB1⟩
  | true =>
    have hE0 : chk s l = chkL ((allL s).length : Nat) l := by unfold chk; rw [hg, if_neg (by decide)]
    have hsr := good_runes hg
    rw [hg] at hb1
    rw [hm1] at hr1
    obtain ⟨X0, hX0⟩ : ∃ X0, runeL s = X0 := ⟨_, rfl⟩
    rw [hX0] at hr1 hm1 hsr
    generalize (allL s).length = N at *
    have HE0 := hide hE0
    have Hsr := hide hsr
    have Hm1 := hide hm1
    clear hE0 hsr hm1 hX0 hg
    go_enter Try.func15, Try.ntmps15
    go_wp2_with fail
    refine (unhide (hb1 _)).mono ?_
    rintro e W0 ⟨rfl, hB0⟩
    go_wp2_with fail
    refine (unhide (hr1 _)).mono ?_
    rintro e W1 ⟨v1, rfl, ho1, hB1⟩
    have hB01 := bnext hB0 hB1
    have hax : ∃ ax cx, v1 = .slice ax N cx ∧ N ≤ cx := by
      rcases ho1.2 with ⟨rfl, e0⟩ | ⟨g, c, cur, rfl, _, _, h3, _⟩
      · exact ⟨none, 0, by rw [e0], by omega⟩
      · exact ⟨_, c, rfl, h3⟩
    obtain ⟨ax, cx, rfl, hcx⟩ := hax
    have hra0 : Ra W1 W1 s l 0 ax N cx X0 (.slice none 0 0) (.slice none 0 0) [] [] :=
      ⟨Below.refl _ _, RS.of_owns (by rw [unhide Hm1]; exact ho1), unhide Hm1, hcx, by omega, World.ownsRow_nil _ _ _ _, World.ownsRow_nil _ _ _ _, rfl, by rw [List.drop_zero]; exact (unhide HE0).symm, by rw [unhide Hsr]; rfl, by rw [unhide Hsr]; rfl⟩
    have Hra0 := hide hra0
    clear hra0 ho1 hb1 hr1 hB0 hB1 hcx
    go_wp2_with fail
    go_loopw [7, 8, 9, 10] (fun xv ov gv iv wr => ∃ (i n cx : Nat) (ax : Option Addr) (X O : List Int) (G : List ByteArray), i ≤ L ∧ iv = .int .i64 (i : Nat) ∧ xv = .slice ax n cx ∧ Ra W1 wr s l i ax n cx X ov gv O G) (fun _ _ _ iv _ => L - (RowKit.intOf iv).toNat)
    case atStart => exact ⟨0, N, cx, ax, X0, [], [], by omega, rfl, rfl, unhide Hra0⟩
    case round =>
      obtain ⟨i, n, cx, ax, X, O, G, hi, rfl, rfl, hra⟩ := hrel
      have hB := hra.bel
      have hsz' := hB.size
      have hbw : Below w.heap.size w wr := bnext hB01 hB
      have hOl : O.length ≤ 16000 := by
        have h1 := enc_len O
        have h2 := congrArg List.length hra.e2
        rw [List.length_append] at h2
        omega
      have hGl : G.length ≤ 300 := by rw [hra.hG]; omega
      have hn8 := hra.hn8
      have Hra := hide hra
      clear hra
      by_cases hlt : i < L
      · have hlt' : i < l.length := by rw [unhide HL]; exact hlt
        rcases unhide Hre with ⟨e0, _⟩ | ⟨b, off, cap', e0, hc⟩
        · rw [e0] at hlt'; simp at hlt'
        simp only [Value.slice.injEq] at e0
        obtain ⟨rfl, hLL, rfl⟩ := e0
        clear hLL
        obtain ⟨c0, c1, c2⟩ := hc i _ (List.getElem?_eq_getElem hlt')
        have hstep : chkL (n : Nat) (l.drop i) = (if l[i].1 < 0 ∨ l[i].2.1 < 0 then 1 else if goodB l[i].2.2 = false then 2 else if ((n : Nat) : Int) - l[i].1 < l[i].2.1 then 3 else chkL (((n : Nat) : Int) - (l[i].1 + l[i].2.1)) (l.drop (i + 1))) := by rw [List.drop_eq_getElem_cons hlt']; rfl
        have hst2 : ∀ z : ByteArray, apW z (l.drop i) = bL (cutL z l[i].1) ++ bL l[i].2.2 ++ apW (cutR (cutR z l[i].1) l[i].2.1) (l.drop (i + 1)) := fun z => by rw [List.drop_eq_getElem_cons hlt']; rfl
        have hst3 : ∀ z : ByteArray, ivL z (l.drop i) = (l[i].1, (((allL l[i].2.2).length : Nat) : Int), cutL (cutR z l[i].1) l[i].2.1) :: ivL (cutR (cutR z l[i].1) l[i].2.1) (l.drop (i + 1)) := fun z => by rw [List.drop_eq_getElem_cons hlt']; rfl
        have hek := unhide Hok _ (List.getElem_mem hlt')
        have hts := szL_mem l _ (List.getElem_mem hlt')
        obtain ⟨⟨k, d, t⟩, he⟩ : ∃ e, l[i] = e := ⟨_, rfl⟩
        rw [he] at c0 c1 c2 hstep hek hts
        simp only [he] at hst2 hst3
        simp only at c0 c1 c2 hstep hts
        obtain ⟨hk1, hk2, hk3, hk4, hk5⟩ := hek
        simp only at hk1 hk2 hk3 hk4 hk5
        rw [(unhide Hra).e1] at hstep
        have c0' := cell_below c0 hbw
        have c1' := cell_below c1 hbw
        have c2' := cell_below c2 hbw
        have b0' := World.block_lt_of_cell? _ _ c0'
        simp only at b0'
        have i1 : (i : Int) < (L : Int) := by omega
        have hgt := fun W => hide (refGoodK t (by omega) W)
        have Hst2 := hide hst2
        have Hst3 := hide hst3
        clear c0 c1 c2 he hst2 hst3 hc
        by_cases hk : k < 0
        · rw [if_pos (.inl hk)] at hstep
          have HE := hide hstep
          clear hstep
          have hkd : decide (k < 0) = true := decide_eq_true hk
          go_wp2
          go_ret3
          obtain ⟨r1, r2, r3⟩ := unhide Hout _ (unhide HE) (by decide); exact ⟨_, by rw [r1, r2]; rfl, by rw [r3]; exact .inl ⟨rfl, _, _, rfl⟩, hbw.alloc hbw.size _⟩
        · have hkd : decide (k < 0) = false := decide_eq_false hk
          by_cases hd : d < 0
          · rw [if_pos (.inr hd)] at hstep
            have HE := hide hstep
            clear hstep
            have hdd : decide (d < 0) = true := decide_eq_true hd
            go_wp2
            go_ret3
            obtain ⟨r1, r2, r3⟩ := unhide Hout _ (unhide HE) (by decide); exact ⟨_, by rw [r1, r2]; rfl, by rw [r3]; exact .inl ⟨rfl, _, _, rfl⟩, hbw.alloc hbw.size _⟩
          · have hdd : decide (d < 0) = false := decide_eq_false hd
            rw [if_neg (by omega)] at hstep
            cases hgT : goodB t with
            | false =>
              rw [hgT, if_pos rfl] at hstep
              rw [hgT] at hgt
              have HE := hide hstep
              clear hstep hgT
              go_wp2_with fail
              refine (unhide (hgt _)).mono ?_
              rintro e W3 ⟨rfl, hB3⟩
              go_wp2
              go_ret3
              obtain ⟨r1, r2, r3⟩ := unhide Hout _ (unhide HE) (by decide); exact ⟨_, by rw [r1, r2]; rfl, by rw [r3]; exact .inl ⟨rfl, _, _, rfl⟩, bnext (hbw.alloc hbw.size _) hB3⟩
            | true =>
              rw [hgT, if_neg (by decide)] at hstep
              rw [hgT] at hgt
              have hts2 := good_runes hgT
              have Hts2 := hide hts2
              clear hgT hts2
              obtain ⟨K, rfl⟩ := Int.eq_ofNat_of_zero_le (show 0 ≤ k by omega)
              obtain ⟨D, rfl⟩ := Int.eq_ofNat_of_zero_le (show 0 ≤ d by omega)
              have Hstp := hide hstep
              clear hstep
              go_wp2_with fail
              refine (unhide (hgt _)).mono ?_
              rintro e W3 ⟨rfl, hB3⟩
              have hbx := ((Box3.new wr (.int .i64 (K : Nat)) (.int .i64 (D : Nat)) (.string t)).below hB3)
              obtain ⟨x0, x1, x2⟩ := hbx.facts
              have hxl := hbx.lt
              have hBn : Below w.heap.size w W3 := bnext (hbw.alloc hbw.size _) hB3
              have hwr3 : Below wr.heap.size wr W3 := bnext ((Below.refl _ wr).alloc (Nat.le_refl _) _) hB3
              have Hbx := hide hbx
              by_cases hx : ((n : Nat) : Int) - (K : Int) < (D : Int)
              · have hst := unhide Hstp
                rw [if_pos hx] at hst
                have HE := hide hst
                clear hst Hstp hB3 hbx
                by_cases hx1 : (n : Int) < (K : Int)
                · have hxd : decide ((n : Int) < (K : Int)) = true := decide_eq_true hx1
                  go_wp2
                  go_ret3
                  obtain ⟨r1, r2, r3⟩ := unhide Hout _ (unhide HE) (by decide); exact ⟨_, by rw [r1, r2]; rfl, by rw [r3]; exact .inl ⟨rfl, _, _, rfl⟩, hBn⟩
                · have hxd : decide ((n : Int) < (K : Int)) = false := decide_eq_false hx1
                  have hxd2 : decide ((n : Int) - (K : Int) < (D : Int)) = true := decide_eq_true hx
                  have hxd' : decide (n < K) = false := by rw [decide_eq_false_iff_not]; omega
                  go_wp2
                  go_ret3
                  obtain ⟨r1, r2, r3⟩ := unhide Hout _ (unhide HE) (by decide); exact ⟨_, by rw [r1, r2]; rfl, by rw [r3]; exact .inl ⟨rfl, _, _, rfl⟩, hBn⟩
              · have hst := unhide Hstp
                rw [if_neg hx] at hst
                have hKD : K + D ≤ n := by omega
                have hxd : decide ((n : Int) < (K : Int)) = false := by rw [decide_eq_false_iff_not]; omega
                have hxd' : decide (n < K) = false := by rw [decide_eq_false_iff_not]; omega
                have hxd2 : decide ((n : Int) - (K : Int) < (D : Int)) = false := decide_eq_false hx
                have HE := hide hst
                clear hst Hstp hB3 hbx hx
                have hB13 : Below W1.heap.size W1 W3 := bnext hB hwr3
                have Ro3 := hide (owns_below (unhide Hra).out hwr3)
                have Rg3 := hide (owns_below (unhide Hra).gone hwr3)
                have rs1 := (unhide Hra).rs
                have hXn := (unhide Hra).hn
                have hcx := (unhide Hra).hc
                have f1 := fun w => sl_to w ax n cx K (by omega)
                have r1 := hide (rs1.take hXn (show K ≤ n by omega))
                obtain ⟨uM, f2, rM⟩ : ∃ uM, (∀ w : World, (Instr.sliceAt 44 (.slice ax n cx) (some (.int .i64 (K : Nat))) (some (.int .i64 ((K : Int) + (D : Int)))) none).run Try.prog w = .ok uM w) ∧ RS W1 uM ((X.drop K).take D) := by
                  have h1 := rs1.drop hXn (show K ≤ n by omega) hcx
                  have h2 := h1.take (k := D) (by rw [List.length_drop, hXn]) (by omega)
                  refine ⟨_, fun w => ?_, h2⟩
                  have h3 := sl_mid w ax n cx K (K + D) (by omega) (by omega)
                  rw [show K + D - K = D by omega] at h3
                  rw [show ((K : Int) + (D : Int)) = ((K + D : Nat) : Int) by omega]
                  exact h3
                obtain ⟨ax', f3, rR⟩ : ∃ ax', (∀ w : World, (Instr.sliceAt 44 (.slice ax n cx) (some (.int .i64 ((K : Int) + (D : Int)))) none none).run Try.prog w = .ok (.slice ax' (n - (K + D)) (cx - (K + D))) w) ∧ RS W1 (.slice ax' (n - (K + D)) (cx - (K + D))) (X.drop (K + D)) := by
                  refine ⟨_, fun w => ?_, rs1.drop hXn (show K + D ≤ n by omega) hcx⟩
                  rw [show ((K : Int) + (D : Int)) = ((K + D : Nat) : Int) by omega]
                  exact sl_from w ax n cx (K + D) (by omega) hcx
                have RM := hide rM
                have RR := hide rR
                have hrt := fun W => hide (refRunes_in t (by omega) W)
                have htl := runeL_length t
                have htl2 := allL_length t
                have hXl : (X.take K).length ≤ 8000 := by rw [List.length_take]; omega
                have hXm : ((X.drop K).take D).length ≤ 8000 := by rw [List.length_take]; omega
                have hX1 := hide hXn
                have hc1 := hide hcx
                clear rM rR rs1 hXn hcx
                go_wp2_with (at_builtin; refine wpList_append_R rfl _ _ rfl W1.heap.size u8 O rfl (unhide Ro3) (.slice ax K cx) (X.take K) rfl (RS.below hB13 (unhide r1)) hB13.size (by omega) ?_; intro v4 W4 ho4 hg4; have hB4 : Below W1.heap.size W1 W4 := hB13.grown hg4 hB13.size (fun q e => ((unhide Ro3).lt q e).1); have hb4 := hide (box_grown (unhide Hbx) (unhide Ro3) (by decide) hg4); obtain ⟨y0, y1, y2⟩ := Box3.facts (unhide hb4); have yz := Box3.lt (unhide hb4); have Rg4 := hide ((unhide Rg3).kept hg4 (rows_apart (unhide Rg3) (unhide Ro3) (by decide))); have Ro4 := hide ho4; clear ho4)
                refine (unhide (hrt _)).mono ?_
                rintro e W5 ⟨v5, rfl, ho5, hB5⟩
                have rs5 := hide (RS.of_owns ho5)
                have hB15 := bnext hB4 hB5
                have hb5 := hide ((unhide hb4).below hB5)
                obtain ⟨z0, z1, z2⟩ := Box3.facts (unhide hb5)
                have zz := Box3.lt (unhide hb5)
                have Ro5 := hide (owns_below (unhide Ro4) hB5)
                have Rg5 := hide (owns_below (unhide Rg4) hB5)
                clear ho5 hB5 y0 y1 y2 yz hb4 Ro4 Rg4 hg4
                go_wp2_with (at_builtin; refine wpList_append_R rfl _ _ rfl W1.heap.size v4 (O ++ X.take K) rfl (unhide Ro5) v5 (runeL t) rfl (unhide rs5) hB15.size (by rw [List.length_append]; omega) ?_; intro v6 W6 ho6 hg6; have hB6 : Below W1.heap.size W1 W6 := hB15.grown hg6 hB15.size (fun q e => ((unhide Ro5).lt q e).1); have hb6 := hide (box_grown (unhide hb5) (unhide Ro5) (by decide) hg6); obtain ⟨y0, y1, y2⟩ := Box3.facts (unhide hb6); have yz := Box3.lt (unhide hb6); have Rg6 := hide ((unhide Rg5).kept hg6 (rows_apart (unhide Rg5) (unhide Ro5) (by decide))); have Ro6 := hide ho6; clear ho6)
                refine (refText_in uM _ _ (RS.below hB6 (unhide RM)) (by omega)).mono ?_
                rintro e W7 ⟨rfl, hB7⟩
                have hB17 := bnext hB6 hB7
                have hb7 := hide ((unhide hb6).below hB7)
                obtain ⟨q0, q1, q2⟩ := Box3.facts (unhide hb7)
                have qz := Box3.lt (unhide hb7)
                have Ro7 := hide (owns_below (unhide Ro6) hB7)
                have Rg7 := hide (owns_below (unhide Rg6) hB7)
                clear hB7 y0 y1 y2 yz hb6 Ro6 Rg6 hg6 z0 z1 z2 zz hb5 Ro5 Rg5
                obtain ⟨TT, hTT⟩ : ∃ TT, runesBytes ((X.drop K).take D) = TT := ⟨_, rfl⟩
                rw [hTT]
                have HTT := hide hTT
                clear hTT
                have hBal : Below W7.heap.size W7 (W7.alloc (.cells #[.string TT] 9)) := (Below.refl _ _).alloc (Nat.le_refl _) _
                go_wp2_with (at_builtin; refine wpList_append_own _ rfl _ _ 37 rfl W1.heap.size 9 i0 _ 1 16 Try.underlying37 hinf hz0 hz1 hz2 rfl (by decide) u9 G.length (G.map Value.string) rfl (World.ownsRow.alloc (unhide Rg7) _) ⟨W7.heap.size, 0, none⟩ 1 1 [.string TT] rfl rfl (new_oneK _ _ _) (by simp [Value.oneCell']) (by unfold maxLen; omega) (by omega) (Nat.le_trans hB17.size hBal.size) ?_; intro v8 W8 ho8 hg8 _; have hB8 : Below W1.heap.size W1 W8 := (bnext hB17 hBal).grown hg8 (Nat.le_trans hB17.size hBal.size) (fun q e => ((unhide Rg7).lt q e).1); have hb8 := hide (box_grown ((unhide hb7).below hBal) (World.ownsRow.alloc (unhide Rg7) _) (by decide) hg8); obtain ⟨y0, y1, y2⟩ := Box3.facts (unhide hb8); have yz := Box3.lt (unhide hb8); have Ro8 := hide ((World.ownsRow.alloc (unhide Ro7) _).kept hg8 (rows_apart (World.ownsRow.alloc (unhide Ro7) (.cells #[.string TT] 9)) (World.ownsRow.alloc (unhide Rg7) _) (by decide))); have Rg8 := hide ho8; clear ho8)
                have hcut1 := (cut_laid X (K : Int)).1
                have hcut2 := (cut_laid X (K : Int)).2
                have hcut3 := (cut_laid (X.drop K) (D : Int)).1
                have hcut4 := (cut_laid (X.drop K) (D : Int)).2
                rw [Int.toNat_natCast] at hcut1 hcut2 hcut3 hcut4
                have hdd2 : (X.drop K).drop D = X.drop (K + D) := by rw [List.drop_drop]
                have hra' : Ra W1 W8 s l (i + 1) ax' (n - (K + D)) (cx - (K + D)) (X.drop (K + D)) v6 v8 ((O ++ X.take K) ++ runeL t) (G ++ [TT]) := by
                  refine ⟨hB8, unhide RR, by rw [List.length_drop, unhide hX1], by have := unhide hc1; omega, by omega, unhide Ro8, ?_, ?_, ?_, ?_, ?_⟩
                  · have := unhide Rg8
                    rw [List.length_append, List.map_append]
                    exact this
                  · rw [List.length_append, (unhide Hra).hG]; rfl
                  · rw [unhide HE]
                    congr 1
                    omega
                  · have h1 := (unhide Hra).e2
                    rw [unhide Hst2, hcut1, hcut2, hcut4, hdd2, bL_runes] at h1
                    rw [← h1]
                    have h2 : bL t = (runeL t).flatMap encL := by rw [← bL_runes, unhide Hts2]
                    rw [h2]
                    simp
                  · have h1 := (unhide Hra).e3
                    rw [unhide Hst3, hcut2, hcut3, hcut4, hdd2, unhide HTT] at h1
                    rw [← h1]
                    simp
                exact ⟨⟨i + 1, _, _, ax', _, _, _, by omega, by go_num, rfl, hra'⟩, by simp [RowKit.intOf]; omega⟩
      · have hd : l.drop i = [] := List.drop_eq_nil_of_le (by rw [unhide HL]; omega)
        have h1 := (unhide Hra).e1
        have h2 := (unhide Hra).e2
        have h3 := (unhide Hra).e3
        rw [hd] at h1 h2 h3
        have hz : chk s l = 0 := h1.symm
        obtain ⟨r1, r2, r3⟩ := unhide Hgood hz
        have hRR : R = runesBytes (O ++ X) := by
          rw [r1, ← h2, show apW (runesBytes X) [] = bL (runesBytes X) from rfl, bL_runes, runesBytes_eq, List.flatMap_append]
          rfl
        have hGG : GG = G := by
          rw [r3, ← h3, show ivL (runesBytes X) [] = [] from rfl]
          simp
        have HRR := hide hRR
        have HGG := hide hGG
        have HE2 := hide r2
        have Ro := hide (unhide Hra).out
        have Rg := hide (unhide Hra).gone
        have rx := hide (RS.below hB (unhide Hra).rs)
        have hXn := (unhide Hra).hn
        have hXl : X.length ≤ 8000 := by omega
        clear hd h1 h2 h3 hz r1 r2 r3 hRR hGG hXn
        go_wp2_with (at_builtin; refine wpList_append_R rfl _ _ rfl W1.heap.size u8 O rfl (unhide Ro) (.slice ax n cx) X rfl (unhide rx) hB.size (by omega) ?_; intro v4 W4 ho4 hg4; have hB4 : Below W1.heap.size W1 W4 := hB.grown hg4 hB.size (fun q e => ((unhide Ro).lt q e).1); have Rg4 := hide ((unhide Rg).kept hg4 (rows_apart (unhide Rg) (unhide Ro) (by decide))); have Ro4 := hide ho4; clear ho4)
        refine (refText_in v4 (O ++ X) _ (RS.of_owns (unhide Ro4)) (by rw [List.length_append]; omega)).mono ?_
        rintro e W5 ⟨rfl, hB5⟩
        have Rg5 := hide (owns_below (unhide Rg4) hB5)
        go_wp2
        go_ret3
        refine ⟨u9, by rw [unhide HRR, unhide HE2]; rfl, ?_, bnext hB01 (bnext hB4 hB5)⟩
        rw [unhide HGG]
        exact ST.of_owns (unhide Rg5)

end Go.Proofs.Ytlbgfcbhpmhhpaa
