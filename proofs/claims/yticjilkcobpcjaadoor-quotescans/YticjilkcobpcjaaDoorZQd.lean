/-
  What the document's own Quoted and Unquote answer.
-/
import Derived.Test.YticjilkcobpcjaaDoorZRe3
import Derived.Test.YticjilkcobpcjaaDoorZRQ
set_option linter.unusedSimpArgs false
set_option linter.unusedVariables false
namespace Go.Proofs.YticjilkcobpcjaaDoor
open Go.RowKit Go.Lib

theorem conv_nil (w : World) : (convert 60 9 (.slice none 0 0)).run Tryd.prog w = .ok (.string (ofL [])) w := by kernel_rfl
theorem conv_any {W : World} {B n : Nat} {v : Value} {l : List UInt8} (h : W.ownsRow B 5 1 v n (byteCells l)) (hn : n = l.length) :
    (convert 60 9 v).run Tryd.prog W = .ok (.string (ofL l)) W := by
  by_cases hne : l = []
  · subst hne
    have h0 := h
    rcases h.2 with ⟨rfl, e⟩ | ⟨g, cap, cur, rfl, _⟩
    · exact conv_nil W
    · have hc := conv_bytes W ⟨g, 0, none⟩ n cap [] (by rw [hn]; rfl) (fun j hj => by cases hj)
      exact hc
  · exact conv_own h hn hne

/-- three cells that may be written -/
def Box3 (W : World) (b : Nat) : Prop := ∃ c0 c1 c2, W.heap[b]? = some (.cells #[c0, c1, c2] 52 (0, 0))
theorem Box3.facts {W : World} {b : Nat} (h : Box3 W b) : (∃ v, W.cell? ⟨b, 0, none⟩ = some v) ∧ (∃ v, W.cell? ⟨b, 1, none⟩ = some v) ∧ (∃ v, W.cell? ⟨b, 2, none⟩ = some v) ∧ W.frozen? ⟨b, 0, none⟩ = false ∧ W.frozen? ⟨b, 1, none⟩ = false ∧ W.frozen? ⟨b, 2, none⟩ = false := by
  obtain ⟨c0, c1, c2, h⟩ := h
  exact ⟨⟨c0, by simp [World.cell?, h]⟩, ⟨c1, by simp [World.cell?, h]⟩, ⟨c2, by simp [World.cell?, h]⟩, by simp [World.frozen?, h], by simp [World.frozen?, h], by simp [World.frozen?, h]⟩
theorem Box3.below {W W' : World} {b B : Nat} (h : Box3 W b) (hb : Below B W W') (hB : b < B) : Box3 W' b := by
  obtain ⟨c0, c1, c2, h⟩ := h
  exact ⟨c0, c1, c2, (hb.block b hB).trans h⟩
theorem Box3.new (W : World) (c0 c1 c2 : Value) : Box3 (W.alloc (.cells #[c0, c1, c2] 52)) W.heap.size := ⟨c0, c1, c2, by show (W.heap.push _)[W.heap.size]? = _; simp⟩

def paV (A : List UInt8 × Nat × Bool) : Value := .agg #[.string (ofL A.1), .int .i64 (if A.2.2 then (A.2.1 : Int) else -1), .int .i64 (if A.2.2 then 0 else (A.2.1 : Int))]

set_option maxRecDepth 100000 in
set_option maxHeartbeats 8000000 in
theorem quoted_in (s : ByteArray) (hs : s.size ≤ 1000000000) (b : Nat) (hb : b < s.size) (h34 : by_ s b = 34) (w : World) :
    Calls Tryd.prog 22 #[.string s, .int .i64 (b : Int)] w fun e w' => e = .returned (paV (rdE s (b + 1))) ∧ Below w.heap.size w w' := by
  obtain ⟨i0, hi, hz0, hz1, hz2⟩ := info_parts infoByte
  obtain ⟨A, hA⟩ : ∃ A, rdE s (b + 1) = A := ⟨_, rfl⟩
  rw [hA]
  have HA := hide (show rdA s (b + 1) [] = A from hA)
  have hget := by_get s b hb
  rw [h34] at hget
  have i1 : ¬ (s.size : Int) ≤ (b : Int) := by omega
  have i2 : (b : Int) < (s.size : Int) := by omega
  have i3 : (0 : Int) ≤ (b : Int) := by omega
  have hsm : s.size ≤ 140737488355328 := by omega
  have e1 : (w.alloc (.cells #[.string ⟨#[]⟩, .int .i64 0, .int .i64 0] 52)).heap.size = w.heap.size + 1 := by simp
  have X0 := hide (Box3.new w (.string ⟨#[]⟩) (.int .i64 0) (.int .i64 0))
  have B0 := hide ((Below.refl w.heap.size w).alloc (Nat.le_refl _) (.cells #[.string ⟨#[]⟩, .int .i64 0, .int .i64 0] 52))
  clear hA h34
  go_enter Tryd.func22, Tryd.ntmps22
  go_wp2
  obtain ⟨W0, hW0⟩ : ∃ W0, w.alloc (.cells #[.string ⟨#[]⟩, .int .i64 0, .int .i64 0] 52) = W0 := ⟨_, rfl⟩
  rw [hW0] at e1 X0 B0 ⊢
  clear hW0
  go_loopw [5, 6] (fun bv iv wr => ∃ (i : Nat) (acc : List UInt8), iv = .int .i64 (i : Int) ∧ i ≤ s.size ∧ acc.length ≤ 4 * i ∧ Hid (rdA s i acc = A ∧ wr.ownsRow (w.heap.size + 1) 5 1 bv acc.length (byteCells acc) ∧ Below (w.heap.size + 1) W0 wr)) (fun _ iv _ => s.size - (RowKit.intOf iv).toNat)
  case atStart => exact ⟨b + 1, [], by go_num, by omega, by simp, hide ⟨unhide HA, World.ownsRow_nil _ _ _ _, Below.refl _ _⟩⟩
  case round =>
    obtain ⟨i, acc, rfl, his, hal, H⟩ := hrel
    obtain ⟨hrd, hrow, hBr⟩ := unhide H
    have hsz : w.heap.size + 1 ≤ wr.heap.size := by have := hBr.size; omega
    have Bw := hide ((unhide B0).trans (hBr.mono (Nat.le_succ _)))
    have X1 := hide ((unhide X0).below hBr (Nat.lt_succ_self _))
    have Hrd := hide hrd
    clear H hrd
    by_cases hp : i < s.size
    · have k1 : (i : Int) < (s.size : Int) := by omega
      have k2 : (0 : Int) ≤ (i : Int) := by omega
      have gi := by_get s i hp
      by_cases c34 : by_ s i = 34
      · have HE := hide (show A = (acc, i + 1, true) by rw [← unhide Hrd]; exact rdA_quote hp c34)
        rw [c34] at gi
        have hcv := conv_any hrow rfl
        obtain ⟨⟨v0, q0⟩, ⟨v1, q1⟩, ⟨v2, q2⟩, f0, f1, f2⟩ := (unhide X1).facts
        clear c34 hrow hBr Hrd
        go_wp2
        refine bodyPost_ret (v := .agg #[.string (ofL acc), .int .i64 ((i : Int) + 1), .int .i64 0]) ?_ rfl ⟨by rw [unhide HE]; simp [paV], ?_⟩
        · simp [results, Tryd.f22, go_sem, *]
        · exact (((unhide Bw).setCell (Nat.le_refl _) _).setCell (Nat.le_refl _) _).setCell (Nat.le_refl _) _
      · have n34 : (((by_ s i : Nat) : Int) == 34) = false := by rw [beq_eq_false_iff_ne]; omega
        by_cases c92 : by_ s i = 92
        · have hesc := hide (refEsc_in s hs i hp wr)
          rw [c92] at gi
          clear n34
          cases he : escE s i with
          | none =>
            rw [he, res_none] at hesc
            have HE := hide (show A = ([], i, false) by rw [← unhide Hrd]; exact rdA_none hp c92 he)
            clear he c34 hrow
            go_wp2_with fail
            refine (unhide hesc).mono ?_
            rintro e V1 ⟨rfl, hV1⟩
            have X2 := (unhide X1).below hV1 (by omega)
            have Bw2 := (unhide Bw).trans (hV1.mono (by omega))
            obtain ⟨⟨v0, q0⟩, ⟨v1, q1⟩, ⟨v2, q2⟩, f0, f1, f2⟩ := X2.facts
            have HBw2 := hide Bw2
            clear hV1 X2 Bw2 hBr
            go_wp2
            refine bodyPost_ret (v := .agg #[.string ⟨#[]⟩, .int .i64 (-1), .int .i64 (i : Int)]) ?_ rfl ⟨by rw [unhide HE]; simp [paV, ofL], ?_⟩
            · simp [results, Tryd.f22, go_sem, *]
            · exact (((unhide HBw2).setCell (Nat.le_refl _) _).setCell (Nat.le_refl _) _).setCell (Nat.le_refl _) _
          | some v =>
            obtain ⟨x, n⟩ := v
            have hn := escE_n he
            rw [he, res_some] at hesc
            have i0n : ((n : Int) == 0) = false := by rw [beq_eq_false_iff_ne]; omega
            have HS := hide (show rdA s (i + n) (acc ++ x) = A by rw [← rdA_some hp c92 he]; exact unhide Hrd)
            have hx4 : (ofL x).size ≤ 4 := by rw [ofL_size]; exact hn.2.2
            clear he c34
            go_wp2_with fail
            refine (unhide hesc).mono ?_
            rintro e V1 ⟨rfl, hV1⟩
            have hrow2 := owns1_below hrow hV1
            have hBr2 := hBr.trans (hV1.mono hsz)
            have hsz2 : w.heap.size + 1 ≤ V1.heap.size := Nat.le_trans hsz hV1.size
            go_wp2_with (at_builtin; refine wpList_append_own_string _ rfl _ _ 60 9 rfl (w.heap.size + 1) 5 i0 Tryd.underlying60 Tryd.underlying9 hi hz0 hz1 hz2 _ acc.length (byteCells acc) rfl hrow2 (ofL x) rfl (by unfold maxLen; skip; omega) (by skip; omega) hsz2 ?_; intro v4 W4 ho4 hg4 _)
            go_roundw
            case rel =>
              rw [strCells_ofL, ← byteCells_append, ofL_size, ← List.length_append] at ho4
              exact ⟨i + n, acc ++ x, by go_num, hn.2.1, by rw [List.length_append]; omega, hide ⟨unhide HS, ho4, hBr2.grown hg4 (by omega) (fun j e => (hrow2.lt j e).1)⟩⟩
            case measure => simp [RowKit.intOf]; omega
        · have n92 : (((by_ s i : Nat) : Int) == 92) = false := by rw [beq_eq_false_iff_ne]; omega
          have hdec := hide (refDecode_any s (i : Int) wr hsm)
          rw [dR_in s i hp, dN_in s i hp, dK_in s i hp] at hdec
          have hw := wd_le s i hp
          have hw1 := wd_pos s i hp
          cases hr : rawB s i with
          | true =>
            have HE := hide (show A = ([], i, false) by rw [← unhide Hrd]; exact rdA_raw hp c34 c92 hr)
            have hcase : Hid (okR s i = false ∨ (okR s i = true ∧ rn s i < 32) ∨ (okR s i = true ∧ rn s i = 127)) := hide (by
              unfold rawB at hr
              simp only [Bool.or_eq_true, decide_eq_true_eq, Bool.not_eq_true'] at hr
              cases ho : okR s i with
              | false => exact .inl rfl
              | true => rw [ho] at hr; rcases hr with (h | h) | h <;> simp_all)
            clear c34 c92 hr hrow
            go_wp2_with fail
            refine (unhide hdec).mono ?_
            rintro e V1 ⟨rfl, nd, rfl⟩
            have X2 : Box3 (wr.drewN nd) w.heap.size := unhide X1
            have HBw2 := hide (show Below w.heap.size w (wr.drewN nd) from ⟨(unhide Bw).os, (unhide Bw).tape, (unhide Bw).output, (unhide Bw).size, (unhide Bw).block⟩)
            obtain ⟨⟨v0, q0⟩, ⟨v1, q1⟩, ⟨v2, q2⟩, f0, f1, f2⟩ := X2.facts
            clear X2 hBr hw hw1
            rcases unhide hcase with ho | ⟨ho, hc⟩ | ⟨ho, hc⟩
            · rw [ho]
              go_wp2
              refine bodyPost_ret (v := .agg #[.string ⟨#[]⟩, .int .i64 (-1), .int .i64 (i : Int)]) ?_ rfl ⟨by rw [unhide HE]; simp [paV, ofL], ?_⟩
              · simp [results, Tryd.f22, go_sem, *]
              · exact (((unhide HBw2).setCell (Nat.le_refl _) _).setCell (Nat.le_refl _) _).setCell (Nat.le_refl _) _
            · have e32 : ((rn s i : Nat) : Int) < 32 := by omega
              rw [ho]
              go_wp2
              refine bodyPost_ret (v := .agg #[.string ⟨#[]⟩, .int .i64 (-1), .int .i64 (i : Int)]) ?_ rfl ⟨by rw [unhide HE]; simp [paV, ofL], ?_⟩
              · simp [results, Tryd.f22, go_sem, *]
              · exact (((unhide HBw2).setCell (Nat.le_refl _) _).setCell (Nat.le_refl _) _).setCell (Nat.le_refl _) _
            · rw [ho, hc]
              go_wp2
              refine bodyPost_ret (v := .agg #[.string ⟨#[]⟩, .int .i64 (-1), .int .i64 (i : Int)]) ?_ rfl ⟨by rw [unhide HE]; simp [paV, ofL], ?_⟩
              · simp [results, Tryd.f22, go_sem, *]
              · exact (((unhide HBw2).setCell (Nat.le_refl _) _).setCell (Nat.le_refl _) _).setCell (Nat.le_refl _) _
          | false =>
            have HS := hide (show rdA s (i + wd s i) (acc ++ encL (rn s i : Nat)) = A by rw [← rdA_rune hp c34 c92 hr]; exact unhide Hrd)
            have ho : okR s i = true := by unfold rawB at hr; simp at hr; exact hr.2
            have Ho := hide ho
            have e32 : ¬ ((rn s i : Nat) : Int) < 32 := by unfold rawB at hr; simp at hr; omega
            have e127 : (((rn s i : Nat) : Int) == 127) = false := by rw [beq_eq_false_iff_ne]; unfold rawB at hr; simp at hr; omega
            have hex : (s.extract i (i + wd s i)).size = wd s i := by rw [ByteArray.size_extract]; omega
            have j1 : (i : Int) + ((wd s i : Nat) : Int) ≤ (s.size : Int) := by omega
            have j2 : (i : Int) ≤ (i : Int) + ((wd s i : Nat) : Int) := by omega
            have j3 : ((i : Int) + ((wd s i : Nat) : Int)).toNat = i + wd s i := by omega
            rw [ho] at hdec
            have HBr := hide hBr
            have Hrow := hide hrow
            clear c34 c92 hr ho hBr hrow
            have Hw := hide hw
            obtain ⟨k, hk⟩ : ∃ k, wd s i = k := ⟨_, rfl⟩
            obtain ⟨r, hrr⟩ : ∃ r, rn s i = r := ⟨_, rfl⟩
            have Hk := hide hk
            have Hr := hide hrr
            rw [hk] at hdec hex j1 j2 j3
            rw [hrr] at hdec e32 e127
            have Hx1 := hide hex
            have hk4 : k ≤ 4 := by omega
            have hik : i + k ≤ s.size := by omega
            clear hk hrr hw hw1 hex
            go_wp2_with fail
            refine (unhide hdec).mono ?_
            rintro e V1 ⟨rfl, nd, rfl⟩
            go_wp2_with (at_builtin; refine wpList_append_own_string _ rfl _ _ 60 9 rfl (w.heap.size + 1) 5 i0 Tryd.underlying60 Tryd.underlying9 hi hz0 hz1 hz2 _ acc.length (byteCells acc) rfl (show (wr.drewN nd).ownsRow (w.heap.size + 1) 5 1 u5 acc.length (byteCells acc) from unhide Hrow) (s.extract i (i + k)) rfl (by unfold maxLen; rw [unhide Hx1]; omega) (by rw [unhide Hx1]; omega) hsz ?_; intro v4 W4 ho4 hg4 _)
            go_roundw
            case rel =>
              have hk := unhide Hk
              have hw1 := wd_pos s i hp
              subst hk
              have hw := unhide Hw
              have hen := enc_ok s i hp (unhide Ho)
              have hcs : strCells (s.extract i (i + wd s i)) = byteCells (encL (rn s i : Nat)) := by rw [hen]; exact strCells_sub s i _ hw.1
              have h4 := encL_le4 ((rn s i : Nat) : Int)
              rw [hcs, ← byteCells_append, unhide Hx1, show wd s i = (encL (rn s i : Nat)).length by rw [hen, subL_len s i _ hw.1], ← List.length_append] at ho4
              exact ⟨i + wd s i, acc ++ encL (rn s i : Nat), by go_num, hw.1, by rw [List.length_append]; omega, hide ⟨unhide HS, ho4, (show Below (w.heap.size + 1) W0 (wr.drewN nd) from ⟨(unhide HBr).os, (unhide HBr).tape, (unhide HBr).output, (unhide HBr).size, (unhide HBr).block⟩).grown hg4 hsz (fun j e => ((unhide Hrow).lt j e).1)⟩⟩
            case measure => have hk := unhide Hk; have hw1 := wd_pos s i hp; simp [RowKit.intOf]; omega
    · have k1 : ¬ (i : Int) < (s.size : Int) := by omega
      have HE := hide (show A = ([], s.size, false) by rw [← unhide Hrd]; exact rdA_end hp)
      obtain ⟨⟨v0, q0⟩, ⟨v1, q1⟩, ⟨v2, q2⟩, f0, f1, f2⟩ := (unhide X1).facts
      clear hrow hBr Hrd
      go_wp2
      refine bodyPost_ret (v := .agg #[.string ⟨#[]⟩, .int .i64 (-1), .int .i64 (s.size : Int)]) ?_ rfl ⟨by rw [unhide HE]; simp [paV, ofL], ?_⟩
      · simp [results, Tryd.f22, go_sem, *]
      · exact (((unhide Bw).setCell (Nat.le_refl _) _).setCell (Nat.le_refl _) _).setCell (Nat.le_refl _) _

end Go.Proofs.YticjilkcobpcjaaDoor
