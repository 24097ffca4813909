/-
  Operations: what a taker takes, or gives up with.
-/
import Derived.Test.YtbnhfbdfjnigoaaGreatZXO6
import Derived.Recover

set_option linter.unusedSimpArgs false
set_option linter.unusedVariables false
namespace Go.Proofs.YtbnhfbdfjnigoaaGreat
open Go.RowKit Go.Lib

/-- a value, or a panic with the error -/
def up (err : Int) (v : Value) : Ending := if err = 0 then .returned v else .panicked [{ v := .iface 65 (.int .i64 err), recovered := false }]
theorem up_ok (v : Value) : up 0 v = .returned v := rfl
theorem up_no {e : Int} (h : e ≠ 0) (v : Value) : up e v = .panicked [{ v := .iface 65 (.int .i64 e), recovered := false }] := if_neg h

set_option maxRecDepth 100000 in
theorem must_in (e : Int) (w : World) : Calls Tryz.prog 39 #[.int .i64 e] w fun r W => r = up e (.tuple #[]) ∧ w = W := by
  by_cases h : e = 0
  · subst h
    go_enter Tryz.func39, Tryz.ntmps39
    go_wp2
    go_end0
    exact ⟨rfl, rfl⟩
  · have hb : (e == 0) = false := by simpa using h
    rw [up_no h]
    go_enter Tryz.func39, Tryz.ntmps39
    go_wp2
    exact ⟨rfl, rfl, rfl⟩

set_option maxRecDepth 100000 in
theorem tNumber_in {w : World} {p : Nat} {v : Value} {st : List Nat × Int} (h : Rd w p v st.1 st.2) :
    Calls Tryz.prog 37 #[.agg #[.pointer (some ⟨p, 0, none⟩)]] w fun r W => r = up (rNum st.1 st.2).2.2 (.int .i64 ((rNum st.1 st.2).1 : Nat)) ∧ ∃ v', Rd W p v' (rNum st.1 st.2).2.1 (rNum st.1 st.2).2.2 ∧ Kp (fun i => i = p) w W ∧ v'.ownBlock = v.ownBlock := by
  obtain ⟨X, hX⟩ : ∃ X, w.alloc (.cells #[.pointer (some ⟨p, 0, none⟩)] 68) = X := ⟨_, rfl⟩
  have HX : Bx X w.heap.size 68 #[.pointer (some ⟨p, 0, none⟩)] := by rw [← hX]; exact Bx.new w _ _
  have bX : Below w.heap.size w X := by rw [← hX]; exact ballc (Below.refl _ _) _
  have hp := h.box.lt
  have HN := hide (rNumber_in (h.below bX))
  have x0 := HX.cell 0 _ rfl
  have xl := HX.lt
  replace HX := hide HX
  have K0 := hide (Kp.of_below (N := fun i => i = p) bX)
  clear h bX
  generalize rNum st.1 st.2 = q at *
  obtain ⟨n, l, e⟩ := q
  simp only at HN ⊢
  go_enter Tryz.func37, Tryz.ntmps37
  go_wp2_with fail
  refine (unhide HN).mono ?_
  rintro r W1 ⟨rfl, v1, hr, hk, hv⟩
  have HE := hide (rErr_in hr)
  replace HX := hide ((unhide HX).kp hk (by omega))
  replace K0 := hide ((unhide K0).trans hk (fun i h => .inl h))
  have HR := hide hr
  clear hr hk HN hX x0 xl
  have x0 := (unhide HX).cell 0 _ rfl
  go_wp2_with fail
  refine (unhide HE).mono ?_
  rintro r W2 ⟨rfl, rfl⟩
  have HM := hide (must_in e W1)
  go_wp2_with fail
  refine (unhide HM).mono ?_
  rintro r W3 ⟨rfl, rfl⟩
  by_cases he : e = 0
  · subst he
    rw [up_ok]
    go_wp2
    go_ret
    exact ⟨rfl, v1, unhide HR, unhide K0, hv⟩
  · rw [up_no he]
    exact ⟨rfl, (up_no he _).symm, v1, unhide HR, unhide K0, hv⟩

set_option maxRecDepth 100000 in
theorem tText_in {w : World} {p : Nat} {v : Value} {st : List Nat × Int} (h : Rd w p v st.1 st.2) :
    Calls Tryz.prog 97 #[.agg #[.pointer (some ⟨p, 0, none⟩)]] w fun r W => r = up (rTxt st.1 st.2).2.2 (.string (rTxt st.1 st.2).1) ∧ ∃ v', Rd W p v' (rTxt st.1 st.2).2.1 (rTxt st.1 st.2).2.2 ∧ Kp (fun i => i = p) w W ∧ v'.ownBlock = v.ownBlock := by
  obtain ⟨X, hX⟩ : ∃ X, w.alloc (.cells #[.pointer (some ⟨p, 0, none⟩)] 68) = X := ⟨_, rfl⟩
  have HX : Bx X w.heap.size 68 #[.pointer (some ⟨p, 0, none⟩)] := by rw [← hX]; exact Bx.new w _ _
  have bX : Below w.heap.size w X := by rw [← hX]; exact ballc (Below.refl _ _) _
  have hp := h.box.lt
  have HN := hide (rText_in (h.below bX))
  have x0 := HX.cell 0 _ rfl
  have xl := HX.lt
  replace HX := hide HX
  have K0 := hide (Kp.of_below (N := fun i => i = p) bX)
  clear h bX
  generalize rTxt st.1 st.2 = q at *
  obtain ⟨n, l, e⟩ := q
  simp only at HN ⊢
  go_enter Tryz.func97, Tryz.ntmps97
  go_wp2_with fail
  refine (unhide HN).mono ?_
  rintro r W1 ⟨rfl, v1, hr, hk, hv⟩
  have HE := hide (rErr_in hr)
  replace HX := hide ((unhide HX).kp hk (by omega))
  replace K0 := hide ((unhide K0).trans hk (fun i h => .inl h))
  have HR := hide hr
  clear hr hk HN hX x0 xl
  have x0 := (unhide HX).cell 0 _ rfl
  go_wp2_with fail
  refine (unhide HE).mono ?_
  rintro r W2 ⟨rfl, rfl⟩
  have HM := hide (must_in e W1)
  go_wp2_with fail
  refine (unhide HM).mono ?_
  rintro r W3 ⟨rfl, rfl⟩
  by_cases he : e = 0
  · subst he
    rw [up_ok]
    go_wp2
    go_ret
    exact ⟨rfl, v1, unhide HR, unhide K0, hv⟩
  · rw [up_no he]
    exact ⟨rfl, (up_no he _).symm, v1, unhide HR, unhide K0, hv⟩

set_option maxRecDepth 100000 in
theorem tNumber_nil (w : World) :
    Calls Tryz.prog 37 #[.agg #[.pointer none]] w fun r W => r = up 1 (.int .i64 0) ∧ Below w.heap.size w W := by
  have HN := hide (fun W => rNumber_nil W)
  have HE := hide (fun W => rErr_nil W)
  have HM := hide (fun W => must_in 1 W)
  have B0 := hide (ballc (Below.refl w.heap.size w) (.cells #[.pointer none] 68))
  go_enter Tryz.func37, Tryz.ntmps37
  go_wp2_with fail
  refine (unhide HN _).mono ?_
  rintro r W1 ⟨rfl, rfl⟩
  go_wp2_with fail
  refine (unhide HE _).mono ?_
  rintro r W1 ⟨rfl, rfl⟩
  go_wp2_with fail
  refine (unhide HM _).mono ?_
  rintro r W1 ⟨rfl, rfl⟩
  rw [up_no (by decide)]
  exact ⟨rfl, (up_no (by decide) _).symm, unhide B0⟩

set_option maxRecDepth 100000 in
theorem tVector_in {w : World} {p : Nat} {v : Value} {st : List Nat × Int} (h : Rd w p v st.1 st.2) :
    Calls Tryz.prog 38 #[.agg #[.pointer (some ⟨p, 0, none⟩)]] w fun r W => ∃ u, r = up (takeV st).1.2 u ∧ OwD W w.heap.size u (takeV st).1.1 ∧ ∃ v', Rd W p v' (takeV st).2.1 (takeV st).2.2 ∧ Kp (fun i => i = p) w W ∧ v'.ownBlock = v.ownBlock := by
  obtain ⟨X, hX⟩ : ∃ X, w.alloc (.cells #[.pointer (some ⟨p, 0, none⟩)] 68) = X := ⟨_, rfl⟩
  have HX : Bx X w.heap.size 68 #[.pointer (some ⟨p, 0, none⟩)] := by rw [← hX]; exact Bx.new w _ _
  have bX : Below w.heap.size w X := by rw [← hX]; exact ballc (Below.refl _ _) _
  have hs := bX.size
  have HN := hide (Take_in (h.below bX))
  have x0 := HX.cell 0 _ rfl
  have xl := HX.lt
  have K0 := hide (Kp.of_below (N := fun i => i = p) bX)
  clear h bX HX
  generalize takeV st = q at *
  obtain ⟨⟨d, e⟩, l, e2⟩ := q
  simp only at HN ⊢
  go_enter Tryz.func38, Tryz.ntmps38
  go_wp2_with fail
  refine (unhide HN).mono ?_
  rintro r W1 ⟨u, rfl, ho, v1, hr, hk, hv⟩
  obtain ⟨a, c, rfl⟩ := ho.form
  replace K0 := hide ((unhide K0).trans hk (fun i h => .inl h))
  have HR := hide hr
  have HO := hide (ho.base hs)
  have HM := hide (must_in e W1)
  clear hr hk HN hX x0 xl ho hs
  go_wp2_with fail
  refine (unhide HM).mono ?_
  rintro r W3 ⟨rfl, rfl⟩
  by_cases he : e = 0
  · subst he
    rw [up_ok]
    go_wp2
    go_ret
    exact ⟨_, rfl, unhide HO, v1, unhide HR, unhide K0, hv⟩
  · rw [up_no he]
    exact ⟨rfl, .slice a d.length c, (up_no he _).symm, unhide HO, v1, unhide HR, unhide K0, hv⟩

/-- three numbers: a run -/
def tk3 (st : List Nat × Int) : (((Int × Int) × Int) × Int) × (List Nat × Int) :=
  if (rNum st.1 st.2).2.2 ≠ 0 then ((((0, 0), 0), (rNum st.1 st.2).2.2), (rNum st.1 st.2).2) else
  if (rNum (rNum st.1 st.2).2.1 (rNum st.1 st.2).2.2).2.2 ≠ 0 then ((((0, 0), 0), (rNum (rNum st.1 st.2).2.1 (rNum st.1 st.2).2.2).2.2), (rNum (rNum st.1 st.2).2.1 (rNum st.1 st.2).2.2).2) else
  (((((rNum st.1 st.2).1, (rNum (rNum st.1 st.2).2.1 (rNum st.1 st.2).2.2).1), (rNum (rNum (rNum st.1 st.2).2.1 (rNum st.1 st.2).2.2).2.1 (rNum (rNum st.1 st.2).2.1 (rNum st.1 st.2).2.2).2.2).1), (rNum (rNum (rNum st.1 st.2).2.1 (rNum st.1 st.2).2.2).2.1 (rNum (rNum st.1 st.2).2.1 (rNum st.1 st.2).2.2).2.2).2.2), (rNum (rNum (rNum st.1 st.2).2.1 (rNum st.1 st.2).2.2).2.1 (rNum (rNum st.1 st.2).2.1 (rNum st.1 st.2).2.2).2.2).2)
theorem tk3_ways {st s1 s2 s3 : List Nat × Int} {a b c : Nat} (h1 : rNum st.1 st.2 = (a, s1)) (h2 : rNum s1.1 s1.2 = (b, s2)) (h3 : rNum s2.1 s2.2 = (c, s3)) :
    (s1.2 ≠ 0 ∧ tk3 st = ((((0, 0), 0), s1.2), s1)) ∨ (s1.2 = 0 ∧ s2.2 ≠ 0 ∧ tk3 st = ((((0, 0), 0), s2.2), s2)) ∨ (s1.2 = 0 ∧ s2.2 = 0 ∧ tk3 st = (((((a : Int), (b : Int)), (c : Int)), s3.2), s3)) := by
  unfold tk3
  rw [h1]
  simp only
  rw [h2]
  simp only
  rw [h3]
  by_cases k1 : s1.2 = 0
  · by_cases k2 : s2.2 = 0
    · exact .inr (.inr ⟨k1, k2, by rw [if_neg (by simpa using k1), if_neg (by simpa using k2)]⟩)
    · exact .inr (.inl ⟨k1, k2, by rw [if_neg (by simpa using k1), if_pos k2]⟩)
  · exact .inl ⟨k1, by rw [if_pos k1]⟩

end Go.Proofs.YtbnhfbdfjnigoaaGreat

/-
  Operations: a run, and each kind, taken.
-/
set_option linter.unusedSimpArgs false
set_option linter.unusedVariables false
namespace Go.Proofs.YtbnhfbdfjnigoaaGreat
open Go.RowKit Go.Lib

theorem sizeR : (Tryz.prog.info? 58).map (·.size) = some 3 := by kernel_rfl

/-- a Reader that has gone on -/
structure RdK (w W : World) (p : Nat) (v v1 : Value) (st : List Nat × Int) : Prop where
  rd : Rd W p v1 st.1 st.2
  kp : Kp (fun i => i = p) w W
  own : v1.ownBlock = v.ownBlock
theorem RdK.next {w W W' : World} {p : Nat} {v v1 v2 : Value} {st st' : List Nat × Int} (h : RdK w W p v v1 st) (hr : Rd W' p v2 st'.1 st'.2) (hk : Kp (fun i => i = p) W W') (hv : v2.ownBlock = v1.ownBlock) : RdK w W' p v v2 st' :=
  ⟨hr, h.kp.trans hk (fun i h => .inl h), hv.trans h.own⟩
theorem RdK.below {w W W' : World} {p : Nat} {v v1 : Value} {st : List Nat × Int} (h : RdK w W p v v1 st) (hb : Below W.heap.size W W') : RdK w W' p v v1 st := h.next (h.rd.below hb) (Kp.of_below hb) rfl
theorem RdK.set {w W : World} {p : Nat} {v v1 : Value} {st : List Nat × Int} (h : RdK w W p v v1 st) (a : Addr) (u : Value) (h1 : w.heap.size ≤ a.block) (h2 : a.block ≠ p) (h3 : v1.ownBlock ≠ some a.block) : RdK w (W.setCell a u) p v v1 st :=
  ⟨h.rd.kp (Kp.set (N := fun i => i = a.block) W a u rfl) (fun e => h2 e.symm) (fun i hi e => h3 (by rw [hi, e])), h.kp.trans (Kp.set (N := fun i => i = a.block) W a u rfl) (fun i hi => .inr (by omega)), h.own⟩

set_option maxRecDepth 100000 in
set_option maxHeartbeats 1000000 in
theorem tRun_in {w : World} {p : Nat} {v : Value} {st : List Nat × Int} (h : Rd w p v st.1 st.2) (hvo : ∀ k, v.ownBlock = some k → k < w.heap.size) :
    Calls Tryz.prog 117 #[.agg #[.pointer (some ⟨p, 0, none⟩)]] w fun r W => r = up (tk3 st).1.2 (.agg #[.int .i64 (tk3 st).1.1.1.1, .int .i64 (tk3 st).1.1.1.2, .int .i64 (tk3 st).1.1.2]) ∧ ∃ v', Rd W p v' (tk3 st).2.1 (tk3 st).2.2 ∧ Kp (fun i => i = p) w W ∧ v'.ownBlock = v.ownBlock := by
  obtain ⟨X, hX⟩ : ∃ X, ((w.alloc (.cells #[.pointer (some ⟨p, 0, none⟩)] 68)).alloc (.cells #[.int .i64 0, .int .i64 0, .int .i64 0] 58)).alloc (.cells #[.int .i64 0, .int .i64 0, .int .i64 0] 58) = X := ⟨_, rfl⟩
  have HX : Bx X w.heap.size 68 #[.pointer (some ⟨p, 0, none⟩)] := by rw [← hX]; exact (Bx.new w _ _).below (ballc (ballc (Below.refl _ _) _) _)
  have HA : Bx X (w.heap.size + 1) 58 #[.int .i64 0, .int .i64 0, .int .i64 0] := by
    rw [← hX]
    have := (Bx.new (w.alloc (.cells #[.pointer (some ⟨p, 0, none⟩)] 68)) 58 #[.int .i64 0, .int .i64 0, .int .i64 0]).below (ballc (Below.refl _ _) (.cells #[.int .i64 0, .int .i64 0, .int .i64 0] 58))
    rw [World.size_alloc] at this
    exact this
  have HB : Bx X (w.heap.size + 2) 58 #[.int .i64 0, .int .i64 0, .int .i64 0] := by
    rw [← hX]
    have := Bx.new ((w.alloc (.cells #[.pointer (some ⟨p, 0, none⟩)] 68)).alloc (.cells #[.int .i64 0, .int .i64 0, .int .i64 0] 58)) 58 #[.int .i64 0, .int .i64 0, .int .i64 0]
    rw [World.size_alloc, World.size_alloc] at this
    exact this
  have bX : Below w.heap.size w X := by rw [← hX]; exact ballc (ballc (ballc (Below.refl _ _) _) _) _
  have hp := h.box.lt
  have PA : RdK w X p v v st := RdK.below ⟨h, Kp.refl _ _, rfl⟩ bX
  obtain ⟨a, s1, e1⟩ : ∃ a s1, rNum st.1 st.2 = (a, s1) := ⟨_, _, rfl⟩
  obtain ⟨b, s2, e2⟩ : ∃ b s2, rNum s1.1 s1.2 = (b, s2) := ⟨_, _, rfl⟩
  obtain ⟨c, s3, e3⟩ : ∃ c s3, rNum s2.1 s2.2 = (c, s3) := ⟨_, _, rfl⟩
  have HW := hide (tk3_ways e1 e2 e3)
  have HN := hide (tNumber_in PA.rd)
  rw [e1] at HN
  simp only at HN
  replace e2 := hide e2
  replace e3 := hide e3
  have x0 := HX.cell 0 _ rfl
  have xl := HX.lt
  replace HX := hide HX
  replace HA := hide HA
  replace HB := hide HB
  replace PA := hide PA
  have Hv := hide hvo
  clear h bX e1 hvo
  obtain ⟨T, hT⟩ : ∃ T, tk3 st = T := ⟨_, rfl⟩
  rw [hT] at HW ⊢
  clear hT
  go_enter Tryz.func117, Tryz.ntmps117
  go_wp2_with fail
  refine (unhide HN).mono ?_
  rintro r W1 ⟨rfl, v1, hr, hk, hv⟩
  replace HX := hide ((unhide HX).kp hk (by omega))
  replace HA := hide ((unhide HA).kp hk (by omega))
  replace HB := hide ((unhide HB).kp hk (by omega))
  replace PA := hide ((unhide PA).next hr hk hv)
  clear hr hk hv HN x0 xl hX
  by_cases k1 : s1.2 ≠ 0
  · have hh : Hid (T = ((((0, 0), 0), s1.2), s1)) := by
      rcases unhide HW with ⟨_, e⟩ | ⟨e, _⟩ | ⟨e, _⟩
      · exact e
      · exact absurd e k1
      · exact absurd e k1
    rw [up_no k1]
    exact ⟨rfl, by rw [unhide hh]; exact (up_no k1 _).symm, v1, by rw [unhide hh]; exact (unhide PA).rd, (unhide PA).kp, (unhide PA).own⟩
  replace k1 : s1.2 = 0 := by simpa using k1
  rw [k1, up_ok]
  have b0 := (unhide HB).cell 0 _ rfl
  have bf := (unhide HB).frozen 0
  obtain ⟨Y1, hY1⟩ : ∃ Y, W1.setCell ⟨w.heap.size + 2, 0, none⟩ (.int .i64 (a : Nat)) = Y := ⟨_, rfl⟩
  replace HX : Hid (Bx Y1 w.heap.size 68 #[.pointer (some ⟨p, 0, none⟩)]) := by rw [← hY1]; exact (unhide HX).setO _ (by show w.heap.size ≠ w.heap.size + 2; omega) _
  replace HA : Hid (Bx Y1 (w.heap.size + 1) 58 #[.int .i64 0, .int .i64 0, .int .i64 0]) := by rw [← hY1]; exact (unhide HA).setO _ (by show w.heap.size + 1 ≠ w.heap.size + 2; omega) _
  replace HB : Hid (Bx Y1 (w.heap.size + 2) 58 #[.int .i64 (a : Nat), .int .i64 0, .int .i64 0]) := by rw [← hY1]; exact hide (by simpa using (unhide HB).set 0 (.int .i64 (a : Nat)))
  replace PA : Hid (RdK w Y1 p v v1 s1) := by rw [← hY1]; exact (unhide PA).set _ _ (by show w.heap.size ≤ w.heap.size + 2; omega) (by show w.heap.size + 2 ≠ p; omega) (fun e => by have := unhide Hv (w.heap.size + 2) (by rw [← (unhide PA).own]; exact e); omega)
  have x0 := (unhide HX).cell 0 _ rfl
  have xl := (unhide HX).lt
  have HN := hide (tNumber_in (unhide PA).rd)
  rw [unhide e2] at HN
  simp only at HN
  go_wp2_with fail
  refine (unhide HN).mono ?_
  rintro r W2 ⟨rfl, v2, hr, hk, hv⟩
  replace HX := hide ((unhide HX).kp hk (by omega))
  replace HA := hide ((unhide HA).kp hk (by omega))
  replace HB := hide ((unhide HB).kp hk (by omega))
  replace PA := hide ((unhide PA).next hr hk hv)
  clear hr hk hv HN x0 xl hY1 b0 bf
  by_cases k2 : s2.2 ≠ 0
  · have hh : Hid (T = ((((0, 0), 0), s2.2), s2)) := by
      rcases unhide HW with ⟨e, _⟩ | ⟨_, _, e⟩ | ⟨_, e, _⟩
      · exact absurd k1 e
      · exact e
      · exact absurd e k2
    rw [up_no k2]
    exact ⟨rfl, by rw [unhide hh]; exact (up_no k2 _).symm, v2, by rw [unhide hh]; exact (unhide PA).rd, (unhide PA).kp, (unhide PA).own⟩
  replace k2 : s2.2 = 0 := by simpa using k2
  rw [k2, up_ok]
  have b0 := (unhide HB).cell 1 _ rfl
  have bf := (unhide HB).frozen 1
  obtain ⟨Y2, hY2⟩ : ∃ Y, W2.setCell ⟨w.heap.size + 2, 1, none⟩ (.int .i64 (b : Nat)) = Y := ⟨_, rfl⟩
  replace HX : Hid (Bx Y2 w.heap.size 68 #[.pointer (some ⟨p, 0, none⟩)]) := by rw [← hY2]; exact (unhide HX).setO _ (by show w.heap.size ≠ w.heap.size + 2; omega) _
  replace HA : Hid (Bx Y2 (w.heap.size + 1) 58 #[.int .i64 0, .int .i64 0, .int .i64 0]) := by rw [← hY2]; exact (unhide HA).setO _ (by show w.heap.size + 1 ≠ w.heap.size + 2; omega) _
  replace HB : Hid (Bx Y2 (w.heap.size + 2) 58 #[.int .i64 (a : Nat), .int .i64 (b : Nat), .int .i64 0]) := by rw [← hY2]; exact hide (by simpa using (unhide HB).set 1 (.int .i64 (b : Nat)))
  replace PA : Hid (RdK w Y2 p v v2 s2) := by rw [← hY2]; exact (unhide PA).set _ _ (by show w.heap.size ≤ w.heap.size + 2; omega) (by show w.heap.size + 2 ≠ p; omega) (fun e => by have := unhide Hv (w.heap.size + 2) (by rw [← (unhide PA).own]; exact e); omega)
  have x0 := (unhide HX).cell 0 _ rfl
  have xl := (unhide HX).lt
  have HN := hide (tNumber_in (unhide PA).rd)
  rw [unhide e3] at HN
  simp only at HN
  go_wp2_with fail
  refine (unhide HN).mono ?_
  rintro r W3 ⟨rfl, v3, hr, hk, hv⟩
  replace HX := hide ((unhide HX).kp hk (by omega))
  replace HA := hide ((unhide HA).kp hk (by omega))
  replace HB := hide ((unhide HB).kp hk (by omega))
  replace PA := hide ((unhide PA).next hr hk hv)
  clear hr hk hv HN x0 xl hY2 b0 bf
  have hh : Hid (T = (((((a : Int), (b : Int)), (c : Int)), s3.2), s3)) := by
    rcases unhide HW with ⟨e, _⟩ | ⟨_, e, _⟩ | ⟨_, _, e⟩
    · exact absurd k1 e
    · exact absurd k2 e
    · exact e
  by_cases k3 : s3.2 ≠ 0
  · rw [up_no k3]
    exact ⟨rfl, by rw [unhide hh]; exact (up_no k3 _).symm, v3, by rw [unhide hh]; exact (unhide PA).rd, (unhide PA).kp, (unhide PA).own⟩
  replace k3 : s3.2 = 0 := by simpa using k3
  rw [k3, up_ok]
  have b0 := (unhide HB).cell 2 _ rfl
  have bf := (unhide HB).frozen 2
  obtain ⟨Y3, hY3⟩ : ∃ Y, W3.setCell ⟨w.heap.size + 2, 2, none⟩ (.int .i64 (c : Nat)) = Y := ⟨_, rfl⟩
  replace HX : Hid (Bx Y3 w.heap.size 68 #[.pointer (some ⟨p, 0, none⟩)]) := by rw [← hY3]; exact (unhide HX).setO _ (by show w.heap.size ≠ w.heap.size + 2; omega) _
  replace HA : Hid (Bx Y3 (w.heap.size + 1) 58 #[.int .i64 0, .int .i64 0, .int .i64 0]) := by rw [← hY3]; exact (unhide HA).setO _ (by show w.heap.size + 1 ≠ w.heap.size + 2; omega) _
  replace HB : Hid (Bx Y3 (w.heap.size + 2) 58 #[.int .i64 (a : Nat), .int .i64 (b : Nat), .int .i64 (c : Nat)]) := by rw [← hY3]; exact hide (by simpa using (unhide HB).set 2 (.int .i64 (c : Nat)))
  replace PA : Hid (RdK w Y3 p v v3 s3) := by rw [← hY3]; exact (unhide PA).set _ _ (by show w.heap.size ≤ w.heap.size + 2; omega) (by show w.heap.size + 2 ≠ p; omega) (fun e => by have := unhide Hv (w.heap.size + 2) (by rw [← (unhide PA).own]; exact e); omega)
  have x0 := (unhide HX).cell 0 _ rfl
  have xl := (unhide HX).lt
  have z0 := (unhide HB).cell 0 _ rfl
  have z1 := (unhide HB).cell 1 _ rfl
  have z2 := (unhide HB).cell 2 _ rfl
  have y0 := (unhide HA).cell 0 _ rfl
  have y1 := (unhide HA).cell 1 _ rfl
  have y2 := (unhide HA).cell 2 _ rfl
  have t0 := (unhide HA).frozen 0
  have t1 := (unhide HA).frozen 1
  have t2 := (unhide HA).frozen 2
  have HA2 := ((((unhide HA).set 0 (.int .i64 (a : Nat))).set 1 (.int .i64 (b : Nat))).set 2 (.int .i64 (c : Nat)))
  simp at HA2
  replace HA2 := hide HA2
  have PB : Hid (RdK w (((Y3.setCell ⟨w.heap.size + 1, 0, none⟩ (.int .i64 (a : Nat))).setCell ⟨w.heap.size + 1, 1, none⟩ (.int .i64 (b : Nat))).setCell ⟨w.heap.size + 1, 2, none⟩ (.int .i64 (c : Nat))) p v v3 s3) :=
    (((unhide PA).set _ _ (by show w.heap.size ≤ w.heap.size + 1; omega) (by show w.heap.size + 1 ≠ p; omega) (fun e => by have := unhide Hv (w.heap.size + 1) (by rw [← (unhide PA).own]; exact e); omega)).set _ _ (by show w.heap.size ≤ w.heap.size + 1; omega) (by show w.heap.size + 1 ≠ p; omega) (fun e => by have := unhide Hv (w.heap.size + 1) (by rw [← (unhide PA).own]; exact e); omega)).set _ _ (by show w.heap.size ≤ w.heap.size + 1; omega) (by show w.heap.size + 1 ≠ p; omega) (fun e => by have := unhide Hv (w.heap.size + 1) (by rw [← (unhide PA).own]; exact e); omega)
  go_wp2
  refine bodyPost_ret (results_cell_row rfl _ _ (w.heap.size + 1) _ _ _ _ rfl (unhide HA2) Tryz.underlying58 rfl sizeR) rfl ?_
  exact ⟨by rw [unhide hh, k3]; rfl, v3, by rw [unhide hh]; exact (unhide PB).rd, (unhide PB).kp, (unhide PB).own⟩

end Go.Proofs.YtbnhfbdfjnigoaaGreat
