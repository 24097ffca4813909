/-
  Check.
-/
import Derived.Test.YtfkdpkckbmbmdaaGreatZKR0
set_option linter.unusedSimpArgs false
set_option linter.unusedVariables false
namespace Go.Proofs.YtfkdpkckbmbmdaaGreat
open Go.RowKit Go.Lib

def folA (done : List ((Int × Int) × Int)) : Array Value := ((List.range 17).map fun s : Nat => Value.int .i64 (fol done (s : Int))).toArray
theorem folA_nil : folA [] = #[.int .i64 0, .int .i64 0, .int .i64 0, .int .i64 0, .int .i64 0, .int .i64 0, .int .i64 0, .int .i64 0, .int .i64 0, .int .i64 0, .int .i64 0, .int .i64 0, .int .i64 0, .int .i64 0, .int .i64 0, .int .i64 0, .int .i64 0] := rfl
theorem folA_get (done : List ((Int × Int) × Int)) (s : Nat) (h : s < 17) : (folA done)[s]? = some (.int .i64 (fol done (s : Int))) := by
  unfold folA
  rw [List.getElem?_toArray, List.getElem?_map, List.getElem?_range h]
  rfl
theorem folA_set (done : List ((Int × Int) × Int)) (t c : Int) (s : Nat) (h : s < 17) : (folA done).setIfInBounds s (.int .i64 (t + c)) = folA (done ++ [((t, (s : Int)), c)]) := by
  have hsz : ∀ d, (folA d).size = 17 := fun d => by simp [folA]
  refine Array.ext (by rw [Array.size_setIfInBounds, hsz, hsz]) fun j h1 h2 => ?_
  have hj : j < 17 := by rw [hsz] at h2; exact h2
  have g := folA_get (done ++ [((t, (s : Int)), c)]) j hj
  rw [Array.getElem?_eq_getElem h2] at g
  have g0 := folA_get done j hj
  rw [Array.getElem?_eq_getElem (by rw [hsz]; exact hj)] at g0
  simp only [Option.some.injEq] at g g0
  rw [g, Array.getElem_setIfInBounds (by rw [hsz]; exact hj), fol_snoc]
  by_cases e : s = j
  · subst e
    simp
  · rw [if_neg e, if_neg (by simp; omega), g0]

set_option maxRecDepth 100000 in
set_option maxHeartbeats 4000000 in
theorem RCheck_in (v : Value) (l : List ((Int × Int) × Int)) (w : World) (h : RR w v l) (hin : ∀ r ∈ l, runIn r) (hl : l.length ≤ 1000000000) :
    Calls Tryz.prog 111 #[v] w fun e W => e = .returned (.int .i64 (chkR l)) ∧ Below w.heap.size w W := by
  obtain ⟨a, cap, rfl⟩ := RC.form h
  have H := hide h
  have Hin := hide hin
  obtain ⟨n, hn⟩ : ∃ n, l.length = n := ⟨_, rfl⟩
  rw [hn] at H hl ⊢
  have Hn := hide hn
  obtain ⟨R, hR⟩ : ∃ R, chkR l = R := ⟨_, rfl⟩
  rw [hR]
  have HR := hide hR
  clear h hin hn hR
  go_enter Tryz.func111, Tryz.ntmps111
  go_wp2
  go_loopw [9] (fun iv wr => ∃ i : Nat, iv = .int .i64 (i : Nat) ∧ i ≤ n ∧ Hid (chkA (l.take i) (l.drop i) = R ∧ DoneOk (l.take i) ∧ Bx wr w.heap.size 121 (folA (l.take i)) ∧ Bx wr (w.heap.size + 1) 27 #[.int .i64 (lastI (l.take i)).1, .int .i64 (lastI (l.take i)).2] ∧ Below w.heap.size w wr)) (fun iv _ => n - (Lib.intOf iv).toNat)
  case atStart =>
    refine ⟨0, rfl, by omega, hide ⟨by rw [← unhide HR]; rfl, DoneOk.nil, ?_, ?_, ballc (ballc (Below.refl _ _) _) _⟩⟩
    · rw [List.take_zero, folA_nil]
      exact (Bx.new w _ _).below (ballc (Below.refl _ _) _)
    · have := Bx.new (w.alloc (.cells (folA []) 121)) 27 #[.int .i64 0, .int .i64 0]
      rw [show (w.alloc (.cells (folA []) 121)).heap.size = w.heap.size + 1 by simp] at this
      exact this
  case round =>
    obtain ⟨i, rfl, hin2, HH⟩ := hrel
    obtain ⟨hchk, hdone, hbf, hbl, hB⟩ := unhide HH
    by_cases hlt : i < n
    · have hlt' : (i : Int) < (n : Int) := by omega
      obtain ⟨r, hr⟩ : ∃ r, l[i]? = some r := ⟨_, List.getElem?_eq_getElem (by have := unhide Hn; omega)⟩
      have hrin := unhide Hin r (List.mem_of_getElem? hr)
      obtain ⟨b0, off, rfl, hb0, c0, c1, c2⟩ := RR.at ((unhide H).below hB) hr
      have hdr : l.drop i = r :: l.drop (i + 1) := by
        have hil := (List.getElem?_eq_some_iff.1 hr).1
        rw [List.drop_eq_getElem_cons hil]
        rw [List.getElem?_eq_getElem hil] at hr
        simp at hr
        rw [hr]
      have htk : l.take (i + 1) = l.take i ++ [r] := by rw [List.take_add_one, hr]; rfl
      obtain ⟨⟨t, s⟩, c⟩ := r
      simp only at c0 c1 c2
      rw [hdr] at hchk
      have HC := hide (fun W => isRun_in t s c W hrin.2.2)
      have Htk := hide htk
      have Hchk := hide hchk
      have Hdone := hide hdone
      have Hbf := hide hbf
      have Hbl := hide hbl
      have HB := hide hB
      have Hr := hide hrin
      have hltB : w.heap.size + 1 < wr.heap.size := hbl.lt
      clear HH hr hrin hdr htk hchk hdone hbf hbl hB H
      go_wp2_with fail
      refine (unhide HC _).mono ?_
      rintro e W1 ⟨rfl, hb1⟩
      have hb1' := bnext (ballc (Below.refl _ wr) _) hb1
      have bx := (Bx.new wr 32 #[.int .i64 t, .int .i64 s, .int .i64 c]).below hb1
      have HB1 := hide (bnext (unhide HB) hb1')
      have Hbf1 := hide ((unhide Hbf).below hb1')
      have Hbl1 := hide ((unhide Hbl).below hb1')
      have x0 := bx.cell 0 _ rfl
      have x1 := bx.cell 1 _ rfl
      have x2 := bx.cell 2 _ rfl
      have Hbx := hide bx
      clear hb1 hb1' HC Hbf Hbl HB bx
      cases hR : isR ((t, s), c) with
      | false =>
        have HRe := hide (show R = 1 by have h := unhide Hchk; rw [chkA, if_pos hR] at h; exact h.symm)
        clear hR
        go_wp2
        go_ret
        rw [unhide HRe]
        exact ⟨rfl, unhide HB1⟩
      | true =>
        have HRt := hide hR
        have hrg := isR_range hR
        simp only at hrg
        obtain ⟨g1, g2, g3, g4, g5, g6⟩ := hrg
        obtain ⟨sn, rfl⟩ : ∃ sn : Nat, s = (sn : Int) := ⟨s.toNat, by omega⟩
        obtain ⟨la, lb, hla⟩ : ∃ la lb, lastI (l.take i) = (la, lb) := ⟨_, _, rfl⟩
        have hO := badO_eq (l.take i) _ hR
        rw [hla] at hO
        simp only at hO
        have hF := badF_eq (unhide Hdone) _ hR
        simp only at hF
        rw [hla] at Hbl1
        have l0 := (unhide Hbl1).cell 0 _ rfl
        have l1 := (unhide Hbl1).cell 1 _ rfl
        simp only at l0 l1
        have HCm := hide (fun W => Compare_in t sn la lb W)
        generalize cmpI (t, (sn : Int)) (la, lb) = cm at hO HCm
        have Hfz := hide (show folA (l.take i) = folA (l.take i) from rfl)
        obtain ⟨fo, hfo⟩ : ∃ fo, fol (l.take i) (sn : Int) = fo := ⟨_, rfl⟩
        rw [hfo] at hF
        have Hfo := hide hfo
        clear hR hla hfo
        go_wp2_with fail
        refine (unhide HCm _).mono ?_
        rintro e W2 ⟨rfl, hb2⟩
        have hb2' := GrW.below hb2
        have HB2 := hide (bnext (unhide HB1) hb2')
        have Hbf2 := hide ((unhide Hbf1).below hb2')
        have Hbl2 := hide ((unhide Hbl1).below hb2')
        have bx := (unhide Hbx).below hb2'
        have y0 := bx.cell 0 _ rfl
        have y1 := bx.cell 1 _ rfl
        have y2 := bx.cell 2 _ rfl
        have fc := (unhide Hbf2).cell sn _ (folA_get (l.take i) sn (by omega))
        rw [unhide Hfo] at fc
        have ff := (unhide Hbf2).frozen sn
        have lf0 := (unhide Hbl2).frozen 0
        have lf1 := (unhide Hbl2).frozen 1
        have l0 := (unhide Hbl2).cell 0 _ rfl
        have l1 := (unhide Hbl2).cell 1 _ rfl
        have Hbx2 := hide bx
        clear hb2 hb2' HCm Hbf1 Hbl1 HB1 bx x0 x1 x2 Hbx
        by_cases hcm : cm ≤ 0
        · have HRe := hide (show R = 9 by have h := unhide Hchk; rw [chkA, if_neg (by rw [unhide HRt]; simp), if_pos (by rw [hO]; simpa using hcm)] at h; exact h.symm)
          clear hO hF
          go_wp2
          go_ret
          rw [unhide HRe]
          exact ⟨rfl, unhide HB2⟩
        · have HO2 := hide (show badO (l.take i) ((t, (sn : Int)), c) = false by rw [hO]; simpa using hcm)
          clear hO
          have hsn : (sn : Int) < 17 := by omega
          by_cases hfo : t ≤ fo
          · have HRe := hide (show R = 6 by have h := unhide Hchk; rw [chkA, if_neg (by rw [unhide HRt]; simp), if_neg (by rw [unhide HO2]; simp), if_pos (by rw [hF]; simpa using hfo)] at h; exact h.symm)
            clear hF
            go_wp2
            go_quiet (fail)
            go_wp2
            go_ret
            rw [unhide HRe]
            exact ⟨rfl, bdrew (unhide HB2) _⟩
          · have HF2 := hide (show badF (l.take i) ((t, (sn : Int)), c) = false by rw [hF]; simpa using hfo)
            clear hF
            go_wp2
            go_quiet (fail)
            have bx0 : Bx (W2.drewN nq) wr.heap.size 32 #[.int .i64 t, .int .i64 (sn : Nat), .int .i64 c] := unhide Hbx2
            have bf0 : Bx (W2.drewN nq) w.heap.size 121 (folA (l.take i)) := unhide Hbf2
            have bl0 : Bx (W2.drewN nq) (w.heap.size + 1) 27 #[.int .i64 la, .int .i64 lb] := unhide Hbl2
            have B0 := bdrew (unhide HB2) nq
            clear y0 y1 y2 fc ff lf0 lf1 l0 l1
            generalize W2.drewN nq = W3 at *
            have q0 := bx0.cell 0 _ rfl
            have q1 := bx0.cell 1 _ rfl
            have p0 := bl0.cell 0 _ rfl
            have p1 := bl0.cell 1 _ rfl
            have pf0 := bl0.frozen 0
            have pf1 := bl0.frozen 1
            obtain ⟨X, hX⟩ : ∃ X, (W3.setCell ⟨w.heap.size + 1, 0, none⟩ (.int .i64 t)).setCell ⟨w.heap.size + 1, 1, none⟩ (.int .i64 (sn : Nat)) = X := ⟨_, rfl⟩
            have bx1 : Bx X wr.heap.size 32 #[.int .i64 t, .int .i64 (sn : Nat), .int .i64 c] := by rw [← hX]; exact (bx0.setO _ (by show wr.heap.size ≠ w.heap.size + 1; omega) _).setO _ (by show wr.heap.size ≠ w.heap.size + 1; omega) _
            have bf1 : Bx X w.heap.size 121 (folA (l.take i)) := by rw [← hX]; exact (bf0.setO _ (by show w.heap.size ≠ w.heap.size + 1; omega) _).setO _ (by show w.heap.size ≠ w.heap.size + 1; omega) _
            have bl1 : Bx X (w.heap.size + 1) 27 #[.int .i64 t, .int .i64 (sn : Nat)] := by rw [← hX]; simpa using (bl0.set 0 (.int .i64 t)).set 1 (.int .i64 (sn : Nat))
            have B1 : Below w.heap.size w X := by rw [← hX]; exact bset (bset B0 ⟨w.heap.size + 1, 0, none⟩ (by show w.heap.size ≤ w.heap.size + 1; omega) _) ⟨w.heap.size + 1, 1, none⟩ (by show w.heap.size ≤ w.heap.size + 1; omega) _
            have z0 := bx1.cell 0 _ rfl
            have z1 := bx1.cell 1 _ rfl
            have z2 := bx1.cell 2 _ rfl
            have fc := bf1.cell sn _ (folA_get (l.take i) sn (by omega))
            have ff := bf1.frozen sn
            replace bx0 := hide bx0
            replace bf0 := hide bf0
            replace bl0 := hide bl0
            replace bx1 := hide bx1
            replace bf1 := hide bf1
            replace bl1 := hide bl1
            replace B1 := hide B1
            go_wp2
            go_roundw
            case measure => show n - ((i : Int) + 1).toNat < n - ((i : Nat) : Int).toNat; omega
            case rel =>
              refine ⟨i + 1, by go_num, by omega, hide ⟨?_, ?_, ?_, ?_, ?_⟩⟩
              · have h := unhide Hchk
                rw [chkA, if_neg (by rw [unhide HRt]; simp), if_neg (by rw [unhide HO2]; simp), if_neg (by rw [unhide HF2]; simp)] at h
                rw [unhide Htk]
                exact h
              · rw [unhide Htk]
                exact (unhide Hdone).snoc (unhide HRt) (unhide HF2)
              · rw [unhide Htk, ← folA_set _ _ _ _ (by omega)]
                exact (unhide bf1).set sn _
              · rw [unhide Htk, lastI_snoc]
                exact (unhide bl1).setO _ (by show w.heap.size + 1 ≠ w.heap.size; omega) _
              · exact bset (unhide B1) _ (Nat.le_refl _) _
    · have hlt' : ¬ (i : Int) < (n : Int) := by omega
      have HRe := hide (show R = 0 by rw [List.drop_eq_nil_of_le (by have := unhide Hn; omega), chkA] at hchk; exact hchk.symm)
      have HB := hide hB
      clear HH hchk hdone hbf hbl hB
      go_wp2
      go_ret
      rw [unhide HRe]
      exact ⟨rfl, unhide HB⟩

end Go.Proofs.YtfkdpkckbmbmdaaGreat
