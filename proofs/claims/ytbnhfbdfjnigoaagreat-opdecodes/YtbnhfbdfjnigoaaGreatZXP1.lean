/-
  Operations: an insertion, a joining, a leaving, taken.
-/
import Derived.Test.YtbnhfbdfjnigoaaGreatZXO8
import Derived.Test.YtbnhfbdfjnigoaaGreatZXReg

set_option linter.unusedSimpArgs false
set_option linter.unusedVariables false
namespace Go.Proofs.YtbnhfbdfjnigoaaGreat
open Go.RowKit Go.Lib

/-- three numbers and a text -/
def tkI (st : List Nat × Int) : ((((Int × Int) × Int) × ByteArray) × Int) × (List Nat × Int) :=
  if (tk3 st).1.2 ≠ 0 then (((((0, 0), 0), ⟨#[]⟩), (tk3 st).1.2), (tk3 st).2) else ((((tk3 st).1.1, (rTxt (tk3 st).2.1 (tk3 st).2.2).1), (rTxt (tk3 st).2.1 (tk3 st).2.2).2.2), (rTxt (tk3 st).2.1 (tk3 st).2.2).2)

theorem tkI_ways {st s1 s2 s3 s4 : List Nat × Int} {a b c : Nat} {t : ByteArray} (h1 : rNum st.1 st.2 = (a, s1)) (h2 : rNum s1.1 s1.2 = (b, s2)) (h3 : rNum s2.1 s2.2 = (c, s3)) (h4 : rTxt s3.1 s3.2 = (t, s4)) :
    (s1.2 ≠ 0 ∧ (tkI st).1.2 = s1.2 ∧ (tkI st).2 = s1) ∨ (s1.2 = 0 ∧ s2.2 ≠ 0 ∧ (tkI st).1.2 = s2.2 ∧ (tkI st).2 = s2) ∨ (s1.2 = 0 ∧ s2.2 = 0 ∧ s3.2 ≠ 0 ∧ (tkI st).1.2 = s3.2 ∧ (tkI st).2 = s3) ∨ (s1.2 = 0 ∧ s2.2 = 0 ∧ s3.2 = 0 ∧ tkI st = ((((((a : Int), (b : Int)), (c : Int)), t), s4.2), s4)) := by
  unfold tkI
  rcases tk3_ways h1 h2 h3 with ⟨k, e⟩ | ⟨k, k2, e⟩ | ⟨k, k2, e⟩
  · rw [e, if_pos k]; exact .inl ⟨k, rfl, rfl⟩
  · rw [e, if_pos k2]; exact .inr (.inl ⟨k, k2, rfl, rfl⟩)
  · rw [e]
    by_cases k3 : s3.2 = 0
    · rw [if_neg (by simpa using k3)]
      simp only
      rw [h4]
      exact .inr (.inr (.inr ⟨k, k2, k3, rfl⟩))
    · rw [if_pos k3]; exact .inr (.inr (.inl ⟨k, k2, k3, rfl, rfl⟩))

set_option maxRecDepth 100000 in
set_option maxHeartbeats 1000000 in
theorem insTake_in {w : World} {p : Nat} {v : Value} {st : List Nat × Int} (site : Int) (h : Rd w p v st.1 st.2) (hvo : ∀ k, v.ownBlock = some k → k < w.heap.size) :
    Calls Tryz.prog 90 #[.agg #[.int .i64 0, .int .i64 0, .int .i64 0, .int .i64 0, .string ⟨#[]⟩], .agg #[.pointer (some ⟨p, 0, none⟩)], .int .i64 site] w fun r W => r = up (tkI st).1.2 (.iface 99 (.agg #[.int .i64 (tkI st).1.1.1.1.1, .int .i64 site, .int .i64 (tkI st).1.1.1.1.2, .int .i64 (tkI st).1.1.1.2, .string (tkI st).1.1.2])) ∧ ∃ v', Rd W p v' (tkI st).2.1 (tkI st).2.2 ∧ Kp (fun i => i = p) w W ∧ v'.ownBlock = v.ownBlock := by
  obtain ⟨X, hX⟩ : ∃ X, ((w.alloc (.cells #[.int .i64 0, .int .i64 0, .int .i64 0, .int .i64 0, .string ⟨#[]⟩] 99)).alloc (.cells #[.pointer (some ⟨p, 0, none⟩)] 68)).alloc (.cells #[.int .i64 0, .int .i64 site, .int .i64 0, .int .i64 0, .string ⟨#[]⟩] 99) = X := ⟨_, rfl⟩
  have HX : Bx X (w.heap.size + 1) 68 #[.pointer (some ⟨p, 0, none⟩)] := by
    rw [← hX]
    have := (Bx.new (w.alloc (.cells #[.int .i64 0, .int .i64 0, .int .i64 0, .int .i64 0, .string ⟨#[]⟩] 99)) 68 #[.pointer (some ⟨p, 0, none⟩)]).below (ballc (Below.refl _ _) (.cells #[.int .i64 0, .int .i64 site, .int .i64 0, .int .i64 0, .string ⟨#[]⟩] 99))
    rw [World.size_alloc] at this
    exact this
  have HB : Bx X (w.heap.size + 2) 99 #[.int .i64 0, .int .i64 site, .int .i64 0, .int .i64 0, .string ⟨#[]⟩] := by
    rw [← hX]
    have := Bx.new ((w.alloc (.cells #[.int .i64 0, .int .i64 0, .int .i64 0, .int .i64 0, .string ⟨#[]⟩] 99)).alloc (.cells #[.pointer (some ⟨p, 0, none⟩)] 68)) 99 #[.int .i64 0, .int .i64 site, .int .i64 0, .int .i64 0, .string ⟨#[]⟩]
    rw [World.size_alloc, World.size_alloc] at this
    exact this
  have bX : Below w.heap.size w X := by rw [← hX]; exact ballc (ballc (ballc (Below.refl _ _) _) _) _
  have hp := h.box.lt
  have PA : RdK w X p v v st := RdK.below ⟨h, Kp.refl _ _, rfl⟩ bX
  obtain ⟨a, s1, e1⟩ : ∃ a s1, rNum st.1 st.2 = (a, s1) := ⟨_, _, rfl⟩
  obtain ⟨b, s2, e2⟩ : ∃ b s2, rNum s1.1 s1.2 = (b, s2) := ⟨_, _, rfl⟩
  obtain ⟨c, s3, e3⟩ : ∃ c s3, rNum s2.1 s2.2 = (c, s3) := ⟨_, _, rfl⟩
  obtain ⟨t, s4, e4⟩ : ∃ t s4, rTxt s3.1 s3.2 = (t, s4) := ⟨_, _, rfl⟩
  have HW := hide (tkI_ways e1 e2 e3 e4)
  have HN := hide (tNumber_in PA.rd)
  rw [e1] at HN
  simp only at HN
  replace e2 := hide e2
  replace e3 := hide e3
  replace e4 := hide e4
  have x0 := HX.cell 0 _ rfl
  have xl := HX.lt
  have f2 := HB.frozen 2
  have f3 := HB.frozen 3
  have f4 := HB.frozen 4
  have g2 : X.setCell ⟨w.heap.size + 1 + 1, 2, none⟩ (.int .i64 0) = X := HB.same 2 _ rfl
  have g3 : X.setCell ⟨w.heap.size + 1 + 1, 3, none⟩ (.int .i64 0) = X := HB.same 3 _ rfl
  have g4 : X.setCell ⟨w.heap.size + 1 + 1, 4, none⟩ (.string ⟨#[]⟩) = X := HB.same 4 _ rfl
  have c2 := HB.cell 2 _ rfl
  have c3 := HB.cell 3 _ rfl
  have c4 := HB.cell 4 _ rfl
  replace HX := hide HX
  replace HB := hide HB
  replace PA := hide PA
  have Hv := hide hvo
  clear h bX e1 hvo
  obtain ⟨T, hT⟩ : ∃ T, tkI st = T := ⟨_, rfl⟩
  rw [hT] at HW ⊢
  clear hT
  go_enter Tryz.func90, Tryz.ntmps90
  go_wp2_with fail
  refine (unhide HN).mono ?_
  rintro r W1 ⟨rfl, v1, hr, hk, hv⟩
  replace HX := hide ((unhide HX).kp hk (by omega))
  replace HB := hide ((unhide HB).kp hk (by omega))
  replace PA := hide ((unhide PA).next hr hk hv)
  clear hr hk hv HN x0 xl hX f2 f3 f4 g2 g3 g4 c2 c3 c4
  by_cases k1 : s1.2 ≠ 0
  · have hh : Hid (T.1.2 = s1.2 ∧ T.2 = s1) := by
      rcases unhide HW with ⟨_, e⟩ | ⟨e, _⟩ | ⟨e, _⟩ | ⟨e, _⟩
      · exact e
      · exact absurd e k1
      · exact absurd e k1
      · exact absurd e k1
    rw [up_no k1]
    exact ⟨rfl, by rw [(unhide hh).1]; exact (up_no k1 _).symm, v1, by rw [(unhide hh).2]; exact (unhide PA).rd, (unhide PA).kp, (unhide PA).own⟩
  replace k1 : s1.2 = 0 := by simpa using k1
  rw [k1, up_ok]
  have b0 := (unhide HB).cell 0 _ rfl
  have bf := (unhide HB).frozen 0
  obtain ⟨Y1, hY1⟩ : ∃ Y, W1.setCell ⟨w.heap.size + 2, 0, none⟩ (.int .i64 (a : Nat)) = Y := ⟨_, rfl⟩
  replace HX : Hid (Bx Y1 (w.heap.size + 1) 68 #[.pointer (some ⟨p, 0, none⟩)]) := by rw [← hY1]; exact (unhide HX).setO _ (by show w.heap.size + 1 ≠ w.heap.size + 2; omega) _
  replace HB : Hid (Bx Y1 (w.heap.size + 2) 99 #[.int .i64 (a : Nat), .int .i64 site, .int .i64 0, .int .i64 0, .string ⟨#[]⟩]) := by rw [← hY1]; exact hide (by simpa using (unhide HB).set 0 (.int .i64 (a : Nat)))
  replace PA : Hid (RdK w Y1 p v v1 s1) := by rw [← hY1]; exact (unhide PA).set _ _ (by show w.heap.size ≤ w.heap.size + 2; omega) (by show w.heap.size + 2 ≠ p; omega) (fun e => by have := unhide Hv (w.heap.size + 2) (by rw [← (unhide PA).own]; exact e); omega)
  have x0 := (unhide HX).cell 0 _ rfl
  have xl := (unhide HX).lt
  have HN := hide (tNumber_in (unhide PA).rd)
  rw [unhide e2] at HN
  simp only at HN
  go_wp2_with fail
  refine (unhide HN).mono ?_
  rintro r W2 ⟨rfl, v2, hr, hk, hv⟩
  replace HX := hide ((unhide HX).kp hk (by omega))
  replace HB := hide ((unhide HB).kp hk (by omega))
  replace PA := hide ((unhide PA).next hr hk hv)
  clear hr hk hv HN x0 xl hY1 b0 bf
  by_cases k2 : s2.2 ≠ 0
  · have hh : Hid (T.1.2 = s2.2 ∧ T.2 = s2) := by
      rcases unhide HW with ⟨e, _⟩ | ⟨_, _, e⟩ | ⟨_, e, _⟩ | ⟨_, e, _⟩
      · exact absurd k1 e
      · exact e
      · exact absurd e k2
      · exact absurd e k2
    rw [up_no k2]
    exact ⟨rfl, by rw [(unhide hh).1]; exact (up_no k2 _).symm, v2, by rw [(unhide hh).2]; exact (unhide PA).rd, (unhide PA).kp, (unhide PA).own⟩
  replace k2 : s2.2 = 0 := by simpa using k2
  rw [k2, up_ok]
  have b0 := (unhide HB).cell 2 _ rfl
  have bf := (unhide HB).frozen 2
  obtain ⟨Y2, hY2⟩ : ∃ Y, W2.setCell ⟨w.heap.size + 2, 2, none⟩ (.int .i64 (b : Nat)) = Y := ⟨_, rfl⟩
  replace HX : Hid (Bx Y2 (w.heap.size + 1) 68 #[.pointer (some ⟨p, 0, none⟩)]) := by rw [← hY2]; exact (unhide HX).setO _ (by show w.heap.size + 1 ≠ w.heap.size + 2; omega) _
  replace HB : Hid (Bx Y2 (w.heap.size + 2) 99 #[.int .i64 (a : Nat), .int .i64 site, .int .i64 (b : Nat), .int .i64 0, .string ⟨#[]⟩]) := by rw [← hY2]; exact hide (by simpa using (unhide HB).set 2 (.int .i64 (b : Nat)))
  replace PA : Hid (RdK w Y2 p v v2 s2) := by rw [← hY2]; exact (unhide PA).set _ _ (by show w.heap.size ≤ w.heap.size + 2; omega) (by show w.heap.size + 2 ≠ p; omega) (fun e => by have := unhide Hv (w.heap.size + 2) (by rw [← (unhide PA).own]; exact e); omega)
  have x0 := (unhide HX).cell 0 _ rfl
  have xl := (unhide HX).lt
  have HN := hide (tNumber_in (unhide PA).rd)
  rw [unhide e3] at HN
  simp only at HN
  go_wp2_with fail
  refine (unhide HN).mono ?_
  rintro r W3 ⟨rfl, v3, hr, hk, hv⟩
  replace HX := hide ((unhide HX).kp hk (by omega))
  replace HB := hide ((unhide HB).kp hk (by omega))
  replace PA := hide ((unhide PA).next hr hk hv)
  clear hr hk hv HN x0 xl hY2 b0 bf
  by_cases k3 : s3.2 ≠ 0
  · have hh : Hid (T.1.2 = s3.2 ∧ T.2 = s3) := by
      rcases unhide HW with ⟨e, _⟩ | ⟨_, e, _⟩ | ⟨_, _, _, e⟩ | ⟨_, _, e, _⟩
      · exact absurd k1 e
      · exact absurd k2 e
      · exact e
      · exact absurd e k3
    rw [up_no k3]
    exact ⟨rfl, by rw [(unhide hh).1]; exact (up_no k3 _).symm, v3, by rw [(unhide hh).2]; exact (unhide PA).rd, (unhide PA).kp, (unhide PA).own⟩
  replace k3 : s3.2 = 0 := by simpa using k3
  rw [k3, up_ok]
  have b0 := (unhide HB).cell 3 _ rfl
  have bf := (unhide HB).frozen 3
  obtain ⟨Y3, hY3⟩ : ∃ Y, W3.setCell ⟨w.heap.size + 2, 3, none⟩ (.int .i64 (c : Nat)) = Y := ⟨_, rfl⟩
  replace HX : Hid (Bx Y3 (w.heap.size + 1) 68 #[.pointer (some ⟨p, 0, none⟩)]) := by rw [← hY3]; exact (unhide HX).setO _ (by show w.heap.size + 1 ≠ w.heap.size + 2; omega) _
  replace HB : Hid (Bx Y3 (w.heap.size + 2) 99 #[.int .i64 (a : Nat), .int .i64 site, .int .i64 (b : Nat), .int .i64 (c : Nat), .string ⟨#[]⟩]) := by rw [← hY3]; exact hide (by simpa using (unhide HB).set 3 (.int .i64 (c : Nat)))
  replace PA : Hid (RdK w Y3 p v v3 s3) := by rw [← hY3]; exact (unhide PA).set _ _ (by show w.heap.size ≤ w.heap.size + 2; omega) (by show w.heap.size + 2 ≠ p; omega) (fun e => by have := unhide Hv (w.heap.size + 2) (by rw [← (unhide PA).own]; exact e); omega)
  have x0 := (unhide HX).cell 0 _ rfl
  have xl := (unhide HX).lt
  have HN := hide (tText_in (unhide PA).rd)
  rw [unhide e4] at HN
  simp only at HN
  go_wp2_with fail
  refine (unhide HN).mono ?_
  rintro r W4 ⟨rfl, v4, hr, hk, hv⟩
  replace HX := hide ((unhide HX).kp hk (by omega))
  replace HB := hide ((unhide HB).kp hk (by omega))
  replace PA := hide ((unhide PA).next hr hk hv)
  clear hr hk hv HN x0 xl hY3 b0 bf
  have hh : Hid (T = ((((((a : Int), (b : Int)), (c : Int)), t), s4.2), s4)) := by
    rcases unhide HW with ⟨e, _⟩ | ⟨_, e, _⟩ | ⟨_, _, e, _⟩ | ⟨_, _, _, e⟩
    · exact absurd k1 e
    · exact absurd k2 e
    · exact absurd k3 e
    · exact e
  by_cases k4 : s4.2 ≠ 0
  · rw [up_no k4]
    exact ⟨rfl, by rw [unhide hh]; exact (up_no k4 _).symm, v4, by rw [unhide hh]; exact (unhide PA).rd, (unhide PA).kp, (unhide PA).own⟩
  replace k4 : s4.2 = 0 := by simpa using k4
  rw [k4, up_ok]
  have b0 := (unhide HB).cell 4 _ rfl
  have bf := (unhide HB).frozen 4
  obtain ⟨Y4, hY4⟩ : ∃ Y, W4.setCell ⟨w.heap.size + 2, 4, none⟩ (.string t) = Y := ⟨_, rfl⟩
  replace HX : Hid (Bx Y4 (w.heap.size + 1) 68 #[.pointer (some ⟨p, 0, none⟩)]) := by rw [← hY4]; exact (unhide HX).setO _ (by show w.heap.size + 1 ≠ w.heap.size + 2; omega) _
  replace HB : Hid (Bx Y4 (w.heap.size + 2) 99 #[.int .i64 (a : Nat), .int .i64 site, .int .i64 (b : Nat), .int .i64 (c : Nat), .string t]) := by rw [← hY4]; exact hide (by simpa using (unhide HB).set 4 (.string t))
  replace PA : Hid (RdK w Y4 p v v4 s4) := by rw [← hY4]; exact (unhide PA).set _ _ (by show w.heap.size ≤ w.heap.size + 2; omega) (by show w.heap.size + 2 ≠ p; omega) (fun e => by have := unhide Hv (w.heap.size + 2) (by rw [← (unhide PA).own]; exact e); omega)
  have x0 := (unhide HX).cell 0 _ rfl
  have xl := (unhide HX).lt
  have z0 := (unhide HB).cell 0 _ rfl
  have z1 := (unhide HB).cell 1 _ rfl
  have z2 := (unhide HB).cell 2 _ rfl
  have z3 := (unhide HB).cell 3 _ rfl
  have z4 := (unhide HB).cell 4 _ rfl
  go_wp2
  go_ret
  exact ⟨by rw [unhide hh, k4]; rfl, v4, by rw [unhide hh]; exact (unhide PA).rd, (unhide PA).kp, (unhide PA).own⟩

set_option maxRecDepth 100000 in
theorem joinTake_in {w : World} {p : Nat} {v : Value} {st : List Nat × Int} (site : Int) (h : Rd w p v st.1 st.2) :
    Calls Tryz.prog 122 #[.agg #[.int .i64 0], .agg #[.pointer (some ⟨p, 0, none⟩)], .int .i64 site] w fun r W => r = up (rNum st.1 st.2).2.2 (.iface 103 (.agg #[.int .i64 ((rNum st.1 st.2).1 : Nat)])) ∧ ∃ v', Rd W p v' (rNum st.1 st.2).2.1 (rNum st.1 st.2).2.2 ∧ Kp (fun i => i = p) w W ∧ v'.ownBlock = v.ownBlock := by
  obtain ⟨X, hX⟩ : ∃ X, (w.alloc (.cells #[.int .i64 0] 103)).alloc (.cells #[.pointer (some ⟨p, 0, none⟩)] 68) = X := ⟨_, rfl⟩
  have HX : Bx X (w.heap.size + 1) 68 #[.pointer (some ⟨p, 0, none⟩)] := by
    rw [← hX]
    have := Bx.new (w.alloc (.cells #[.int .i64 0] 103)) 68 #[.pointer (some ⟨p, 0, none⟩)]
    rw [World.size_alloc] at this
    exact this
  have bX : Below w.heap.size w X := by rw [← hX]; exact ballc (ballc (Below.refl _ _) _) _
  have PA : RdK w X p v v st := RdK.below ⟨h, Kp.refl _ _, rfl⟩ bX
  have HN := hide (tNumber_in PA.rd)
  have x0 := HX.cell 0 _ rfl
  have xl := HX.lt
  replace PA := hide PA
  clear h bX HX
  obtain ⟨q, hq⟩ : ∃ q, rNum st.1 st.2 = q := ⟨_, rfl⟩
  rw [hq] at HN ⊢
  clear hq
  go_enter Tryz.func122, Tryz.ntmps122
  go_wp2_with fail
  refine (unhide HN).mono ?_
  rintro r W1 ⟨rfl, v1, hr, hk, hv⟩
  replace PA := hide ((unhide PA).next hr hk hv)
  clear hr hk hv HN x0 xl hX
  by_cases k1 : q.2.2 ≠ 0
  · rw [up_no k1]
    exact ⟨rfl, (up_no k1 _).symm, v1, (unhide PA).rd, (unhide PA).kp, (unhide PA).own⟩
  replace k1 : q.2.2 = 0 := by simpa using k1
  rw [k1, up_ok]
  go_wp2
  go_ret
  exact ⟨by rw [k1]; rfl, v1, (unhide PA).rd, (unhide PA).kp, (unhide PA).own⟩

set_option maxRecDepth 100000 in
theorem leaveTake_in (site : Int) (p : Nat) (w : World) :
    Calls Tryz.prog 127 #[.agg #[], .agg #[.pointer (some ⟨p, 0, none⟩)], .int .i64 site] w fun r W => r = .returned (.iface 105 (.agg #[])) ∧ Below w.heap.size w W := by
  go_enter Tryz.func127, Tryz.ntmps127
  go_wp2
  go_ret
  exact ⟨rfl, ballc (ballc (Below.refl _ _) _) _⟩

end Go.Proofs.YtbnhfbdfjnigoaaGreat

/-
  Operations: a deletion, taken.
-/
set_option linter.unusedSimpArgs false
set_option linter.unusedVariables false
namespace Go.Proofs.YtbnhfbdfjnigoaaGreat
open Go.RowKit Go.Lib

/-- so many runs -/
def tkG : Nat → List ((Int × Int) × Int) → List Nat × Int → (List ((Int × Int) × Int) × Int) × (List Nat × Int)
  | 0, acc, st => ((acc, 0), st)
  | n + 1, acc, st => if (tk3 st).1.2 ≠ 0 then (([], (tk3 st).1.2), (tk3 st).2) else tkG n (acc ++ [(tk3 st).1.1]) (tk3 st).2
theorem tkG_bad {n : Nat} {acc : List ((Int × Int) × Int)} {st : List Nat × Int} (h : (tk3 st).1.2 ≠ 0) : tkG (n + 1) acc st = (([], (tk3 st).1.2), (tk3 st).2) := by rw [tkG, if_pos h]
theorem tkG_good {n : Nat} {acc : List ((Int × Int) × Int)} {st : List Nat × Int} (h : (tk3 st).1.2 = 0) : tkG (n + 1) acc st = tkG n (acc ++ [(tk3 st).1.1]) (tk3 st).2 := by rw [tkG, if_neg (by simpa using h)]
/-- a number of runs, and these -/
def tkD (st : List Nat × Int) : (List ((Int × Int) × Int) × Int) × (List Nat × Int) :=
  if (rNum st.1 st.2).2.2 ≠ 0 then (([], (rNum st.1 st.2).2.2), (rNum st.1 st.2).2) else if 1024 < (rNum st.1 st.2).1 then (([], 10), (rNum st.1 st.2).2) else tkG (rNum st.1 st.2).1 [] (rNum st.1 st.2).2

/-- a row of runs of one's own -/
def OwR (W : World) (B : Nat) (v : Value) (l : List ((Int × Int) × Int)) : Prop := W.ownsRow B 58 3 v l.length (flat encR l)
theorem OwR.row {W : World} {B : Nat} {v : Value} {l : List ((Int × Int) × Int)} (h : OwR W B v l) : RR W v l := RC.of_owns h
theorem OwR.base {W : World} {B B' : Nat} {v : Value} {l : List ((Int × Int) × Int)} (h : OwR W B v l) (hb : B' ≤ B) : OwR W B' v l := by
  obtain ⟨h1, h2⟩ := h
  refine ⟨h1, ?_⟩
  rcases h2 with h2 | ⟨g, cap, cur, h3, h4, h5⟩
  · exact .inl h2
  · exact .inr ⟨g, cap, cur, h3, by omega, h5⟩
theorem OwR.form {W : World} {B : Nat} {v : Value} {l : List ((Int × Int) × Int)} (h : OwR W B v l) : ∃ a c, v = .slice a l.length c := owns_form h

theorem infoRu : (Tryz.prog.info? 58).map (fun i => (i.zero, i.size, i.bytes)) = some (some (.agg #[.int .i64 0, .int .i64 0, .int .i64 0]), 3, 24) := by kernel_rfl
/-- append(l, r) of a run -/
theorem append_run (w : World) (ty : TypeId) (N : Nat) (v : Value) (l : List ((Int × Int) × Int)) (x y z : Int) (nb : Nat) (h : OwR w N v l) (hbx : Bx w nb 58 #[.int .i64 x, .int .i64 y, .int .i64 z]) (hN : N ≤ w.heap.size) (hl : l.length ≤ 1000000) :
    ∃ v' w', (Builtin.append_ #[30, 30] ty #[v, .slice (some ⟨nb, 0, none⟩) 1 1]).run Tryz.prog w = .ok v' w' ∧ OwR w' N v' (l ++ [((x, y), z)]) ∧ w.grownBy w' v.ownBlock := by
  obtain ⟨i0, hi, hz0, hz1, hz2⟩ := info_parts infoRu
  obtain ⟨v', w', h1, h2, h3, h4, h5⟩ := run_append_own_at (P := Tryz.prog) w N 30 ty 58 i0 _ 3 24 Tryz.underlying30 hi hz0 hz1 hz2 rfl (by decide) v l.length _ h ⟨nb, 0, none⟩ 1 1 [.int .i64 x, .int .i64 y, .int .i64 z] rfl (fun j u hu => by
    rw [Addr.add_lit, Nat.zero_add]
    exact hbx.cell j u (by rw [← hu]; simp)) (fun u hu => by simp at hu; rcases hu with rfl | rfl | rfl <;> rfl) (by unfold maxLen; omega) (by omega) (by first | omega | (simp; omega))
  refine ⟨v', w', h1, ?_, h3⟩
  unfold OwR
  rw [flat_append]
  simpa [show flat encR [((x, y), z)] = [.int .i64 x, .int .i64 y, .int .i64 z] from rfl] using h2

/-- what stands while runs are taken -/
structure TkS (w W : World) (p B : Nat) (v v2 u : Value) (acc : List ((Int × Int) × Int)) (st : List Nat × Int) : Prop where
  rd : RdK w W p v v2 st
  tk : Bx W (w.heap.size + 1) 68 #[.pointer (some ⟨p, 0, none⟩)]
  bx : Bx W B 101 #[u]
  ow : OwR W (B + 1) u acc

set_option maxRecDepth 100000 in
set_option maxHeartbeats 1000000 in
theorem delTake_in {w : World} {p : Nat} {v : Value} {st : List Nat × Int} (site : Int) (h : Rd w p v st.1 st.2) (hvo : ∀ k, v.ownBlock = some k → k < w.heap.size) :
    Calls Tryz.prog 116 #[.agg #[.slice none 0 0], .agg #[.pointer (some ⟨p, 0, none⟩)], .int .i64 site] w fun r W => ∃ u, r = up (tkD st).1.2 (.iface 101 (.agg #[u])) ∧ OwR W w.heap.size u (tkD st).1.1 ∧ ∃ v', Rd W p v' (tkD st).2.1 (tkD st).2.2 ∧ Kp (fun i => i = p) w W ∧ v'.ownBlock = v.ownBlock := by
  obtain ⟨X, hX⟩ : ∃ X, (w.alloc (.cells #[.slice none 0 0] 101)).alloc (.cells #[.pointer (some ⟨p, 0, none⟩)] 68) = X := ⟨_, rfl⟩
  have HX : Bx X (w.heap.size + 1) 68 #[.pointer (some ⟨p, 0, none⟩)] := by
    rw [← hX]
    have := Bx.new (w.alloc (.cells #[.slice none 0 0] 101)) 68 #[.pointer (some ⟨p, 0, none⟩)]
    rw [World.size_alloc] at this
    exact this
  have bX : Below w.heap.size w X := by rw [← hX]; exact ballc (ballc (Below.refl _ _) _) _
  have hp := h.box.lt
  have PA : RdK w X p v v st := RdK.below ⟨h, Kp.refl _ _, rfl⟩ bX
  have HN := hide (tNumber_in PA.rd)
  have x0 := HX.cell 0 _ rfl
  have xl := HX.lt
  replace HX := hide HX
  replace PA := hide PA
  have Hv := hide hvo
  clear h bX hvo
  unfold tkD
  obtain ⟨n, s1, e1⟩ : ∃ a s1, rNum st.1 st.2 = (a, s1) := ⟨_, _, rfl⟩
  rw [e1] at HN ⊢
  clear e1
  simp only at HN ⊢
  obtain ⟨T, hT⟩ : ∃ T, (if s1.2 ≠ 0 then (([], s1.2), s1) else if 1024 < n then (([], 10), s1) else tkG n [] s1) = T := ⟨_, rfl⟩
  rw [hT]
  replace hT := hide hT
  go_enter Tryz.func116, Tryz.ntmps116
  go_wp2_with fail
  refine (unhide HN).mono ?_
  rintro r W1 ⟨rfl, v1, hr, hk, hv⟩
  replace HX := hide ((unhide HX).kp hk (by omega))
  replace PA := hide ((unhide PA).next hr hk hv)
  clear hr hk hv HN x0 xl hX
  by_cases k1 : s1.2 ≠ 0
  · have hh : Hid (T = (([], s1.2), s1)) := by rw [← unhide hT, if_pos k1]; rfl
    rw [up_no k1]
    exact ⟨rfl, .slice none 0 0, by rw [unhide hh]; exact (up_no k1 _).symm, by rw [unhide hh]; exact World.ownsRow_nil _ _ _ _, v1, by rw [unhide hh]; exact (unhide PA).rd, (unhide PA).kp, (unhide PA).own⟩
  replace k1 : s1.2 = 0 := by simpa using k1
  rw [k1, up_ok]
  by_cases kn : 1024 < n
  · have kn' : (1024 : Int) < (n : Int) := by omega
    have hh : Hid (T = (([], 10), s1)) := by rw [← unhide hT, if_neg (by simpa using k1), if_pos kn]; rfl
    go_wp2
    exact ⟨rfl, .slice none 0 0, by rw [unhide hh]; exact (up_no (by decide) _).symm, by rw [unhide hh]; exact World.ownsRow_nil _ _ _ _, v1, by rw [unhide hh]; exact (unhide PA).rd, (unhide PA).kp, (unhide PA).own⟩
  have kn' : ¬ (1024 : Int) < (n : Int) := by omega
  have hh : Hid (tkG n [] s1 = T) := by rw [← unhide hT, if_neg (by simpa using k1), if_neg kn]; rfl
  obtain ⟨B, hB⟩ : ∃ B, W1.heap.size = B := ⟨_, rfl⟩
  have hBw : w.heap.size + 2 ≤ B := by have := (unhide HX).lt; omega
  have TS : Hid (TkS w (W1.alloc (.cells #[.slice none 0 0] 101)) p B v v1 (.slice none 0 0) [] s1) :=
    ⟨(unhide PA).below (ballc (Below.refl _ _) _), (unhide HX).below (ballc (Below.refl _ _) _), by rw [← hB]; exact Bx.new _ _ _, World.ownsRow_nil _ _ _ _⟩
  replace hB := hide hB
  clear hT PA HX
  go_wp2
  rw [unhide hB]
  go_loopw [15] (fun iv wr => ∃ (i : Nat) (v2 u : Value) (acc : List ((Int × Int) × Int)) (sx : List Nat × Int), iv = .int .i64 (i : Nat) ∧ i ≤ n ∧ acc.length = i ∧ Hid (tkG (n - i) acc sx = T) ∧ Hid (TkS w wr p B v v2 u acc sx)) (fun iv _ => n - (Lib.intOf iv).toNat)
  case atStart => exact ⟨0, v1, .slice none 0 0, [], s1, rfl, by omega, rfl, hide (unhide hh), TS⟩
  case round =>
    clear TS hh
    obtain ⟨i, v2, u, acc, sx, rfl, hin, hai, hh, TS⟩ := hrel
    have Hai := hide hai
    clear hai
    by_cases hlt : i < n
    · have hlt' : (i : Int) < (n : Int) := by omega
      obtain ⟨j, hj⟩ : ∃ j, n - i = j + 1 := ⟨n - i - 1, by omega⟩
      rw [hj] at hh
      have hu : ∃ au cu, u = .slice au i cu := by
        obtain ⟨au, cu, e⟩ := (unhide TS).ow.form
        rw [unhide Hai] at e
        exact ⟨au, cu, e⟩
      obtain ⟨au, cu, rfl⟩ := hu
      go_wp2
      obtain ⟨⟨⟨rr, er⟩, s2⟩, h3⟩ : ∃ T3, tk3 sx = T3 := ⟨_, rfl⟩
      have Hp := hide hp
      have HB := hide hBw
      refine wp_region_any (by kernel_rfl) ?_
      change wpAny _ _ _ _ _ _ _ (World.drew _)
      refine region_sx 27 (fun j => 17 + j) ((0, (Value.agg #[Value.slice none 0 0])) :: (1, (Value.agg #[Value.pointer (some { block := p, off := 0 })])) :: (2, (Value.int IntKind.i64 site)) :: (3, (Value.pointer (some { block := w.heap.size, off := 0 }))) :: (4, (Value.pointer (some { block := w.heap.size + 1, off := 0 }))) :: (5, undef) :: (6, Value.nilIface) :: (7, (Value.int IntKind.i64 (n : Int))) :: (8, (Value.pointer (some { block := B, off := 0 }))) :: (9, (Value.agg #[Value.pointer (some { block := p, off := 0 })])) :: (10, (Value.int IntKind.i64 (n : Int))) :: (11, (Value.int IntKind.i64 (n : Int))) :: (12, (Value.bool (decide (1024 < (n : Int))))) :: (13, undef) :: (14, (Value.int IntKind.i64 (n : Int))) :: (15, (Value.int IntKind.i64 (i : Int))) :: (16, (Value.bool true)) :: (24, u24) :: (25, undef) :: (26, undef) :: [])
        (fun f W => Bx W (w.heap.size + 1) 68 #[.pointer (some ⟨p, 0, none⟩)] ∧ Bx W B 101 #[(.slice au i cu)] ∧ (f 3 = false → RdK w W p v v2 sx) ∧ (f 3 = true → ∃ v3, RdK w W p v v3 s2 ∧ er = 0) ∧ (f 5 = false → OwR W (B + 1) (.slice au i cu) acc) ∧ B + 1 ≤ W.heap.size)
        (fun j W x => match j with
          | 0 => x = (.pointer (some ⟨B, 0, none⟩)) | 1 => x = (.slice au i cu) | 2 => x = .agg #[.pointer (some ⟨p, 0, none⟩)] | 3 => x = (.agg #[.int .i64 rr.1.1, .int .i64 rr.1.2, .int .i64 rr.2])
          | 4 => ∃ nb, x = .slice (some ⟨nb, 0, none⟩) 1 1 ∧ Bx W nb 58 #[.int .i64 rr.1.1, .int .i64 rr.1.2, .int .i64 rr.2] ∧ (Value.slice au i cu).ownBlock ≠ some nb
          | 5 => OwR W (B + 1) x (acc ++ [rr]) | 6 => x = (.pointer (some ⟨B, 0, none⟩)) | _ => True)
        (fun k W W' => match k with | 3 => Kp (fun i => i = p) W W' | 4 => Below W.heap.size W W' | 5 => W.grownBy W' (Value.slice au i cu).ownBlock | _ => W = W')
        (fun ch W => er ≠ 0 ∧ ch = [{ v := .iface 65 (.int .i64 er), recovered := false }] ∧ ∃ v3, RdK w W p v v3 s2) [] ?pos ?fit ?last ?stable ?pan ?steps 30 (.tmp 23) (.tmp 22) rfl ?fin _ _ ?sz rfl ?base ?start
      case pos => decide
      case fit => kernel_rfl
      case last => kernel_rfl
      case sz => rfl
      case base => intro p hp; repeat (first | (rcases List.mem_cons.1 hp with rfl | hp; · rfl) | cases hp)
      case stable =>
        intro j k f W W' x hfj hfk hdn hJ hv hG
        match j with
        | 0 | 1 | 2 | 3 | 6 => exact hv
        | 4 =>
          obtain ⟨nb, e, hx, hn⟩ := hv
          refine ⟨nb, e, ?_, hn⟩
          match k with
          | 3 => exact absurd (hdn 4 3 hfj (by kernel_rfl)) (by rw [hfk]; decide)
          | 4 => exact absurd hfj (by rw [hfk]; decide)
          | 5 => exact hx.kp (Kp.of_grown (N := fun k => (Value.slice au i cu).ownBlock = some k) hG (fun k hk => hk)) hn
          | 0 | 1 | 2 | 6 => have e2 : W = W' := hG; rw [← e2]; exact hx
          | (q + 7) => have e2 : W = W' := hG; rw [← e2]; exact hx
        | 5 =>
          have d4 := hdn 5 4 hfj (by kernel_rfl)
          have d3 := hdn 4 3 d4 (by kernel_rfl)
          match k with
          | 3 => exact absurd d3 (by rw [hfk]; decide)
          | 4 => exact absurd d4 (by rw [hfk]; decide)
          | 5 => exact absurd hfj (by rw [hfk]; decide)
          | 0 | 1 | 2 | 6 => have e2 : W = W' := hG; rw [← e2]; exact hv
          | (q + 7) => have e2 : W = W' := hG; rw [← e2]; exact hv
        | (q + 7) => trivial
      case pan =>
        rintro aQ WQ ch hsz2 hds ⟨ke, rfl, v3, q⟩
        have hz : Hid (T = (([], er), s2)) := by
          rw [← unhide hh, tkG_bad (by rw [h3]; exact ke), h3]; rfl
        exact ⟨hds, .slice none 0 0, by rw [unhide hz]; exact (up_no ke _).symm, by rw [unhide hz]; exact World.ownsRow_nil _ _ _ _, v3, by rw [unhide hz]; exact q.rd, q.kp, q.own⟩
      case start => exact ⟨(unhide TS).tk.below (Below.refl _ _).drew, (unhide TS).bx.below (Below.refl _ _).drew, fun _ => (unhide TS).rd.below (Below.refl _ _).drew, fun h => absurd h Bool.false_ne_true, fun _ => owns_kp (N := fun _ => False) (unhide TS).ow (Kp.of_below (Below.refl _ _).drew) (fun _ _ e => e), (unhide TS).bx.lt⟩
      case steps =>
        refine .cons (fun hlt f ρ wz hno hyes hρ hJ hb hd => by
          obtain ⟨j1, j2, j3, j4, j5, j6⟩ := hJ
          have a0 : ρ (.tmp 8) = (.pointer (some ⟨B, 0, none⟩)) := hb (8, _) (List.mem_of_getElem? (i := 8) rfl)
          exact (step_val (v := (.pointer (some ⟨B, 0, none⟩))) (w' := wz) (by simp [go_sem, execOp, a0, hρ.const]) ⟨rfl, ⟨j1, j2, fun h => j3 (by simpa using h), fun h => j4 (by simpa using h), fun h => j5 (by simpa using h), j6⟩, rfl⟩).up) ?_
        refine .cons (fun hlt f ρ wz hno hyes hρ hJ hb hd => by
          obtain ⟨j1, j2, j3, j4, j5, j6⟩ := hJ
          have a0 : ρ (.tmp 17) = (.pointer (some ⟨B, 0, none⟩)) := hd 0 _ rfl rfl
          have x0 := j2.cell 0 _ rfl
          exact (step_val (v := (.slice au i cu)) (w' := wz) (by simp [go_sem, execOp, a0, x0, hρ.const]) ⟨rfl, ⟨j1, j2, fun h => j3 (by simpa using h), fun h => j4 (by simpa using h), fun h => j5 (by simpa using h), j6⟩, rfl⟩).up) ?_
        refine .cons (fun hlt f ρ wz hno hyes hρ hJ hb hd => by
          obtain ⟨j1, j2, j3, j4, j5, j6⟩ := hJ
          have a0 : ρ (.tmp 4) = .pointer (some ⟨w.heap.size + 1, 0, none⟩) := hb (4, _) (List.mem_of_getElem? (i := 4) rfl)
          have x0 := j1.cell 0 _ rfl
          exact (step_val (v := (.agg #[.pointer (some ⟨p, 0, none⟩)])) (w' := wz) (by simp [go_sem, execOp, a0, x0, hρ.const]) ⟨rfl, ⟨j1, j2, fun h => j3 (by simpa using h), fun h => j4 (by simpa using h), fun h => j5 (by simpa using h), j6⟩, rfl⟩).up) ?_
        refine .cons (fun hlt f ρ wz hno hyes hρ hJ hb hd => by
          obtain ⟨j1, j2, j3, j4, j5, j6⟩ := hJ
          have a0 : ρ (.tmp 19) = .agg #[.pointer (some ⟨p, 0, none⟩)] := hd 0 _ rfl rfl
          have f3 : f 3 = false := hno 3 (.inl rfl)
          have q := j3 f3
          refine step_func_up 117 _ _ #[.agg #[.pointer (some ⟨p, 0, none⟩)]] hρ rfl (enters_of Tryz.func117 (by kernel_rfl) rfl) (by simp [a0]) ?_
          refine (tRun_in q.rd (fun k hk => Nat.lt_of_lt_of_le (unhide Hv k (by rw [← q.own]; exact hk)) q.kp.size)).mono ?_
          rw [h3]
          rintro r W' ⟨rfl, v3, hr, hk, hv⟩
          have q2 := q.next hr hk hv
          by_cases ke : er = 0
          · refine .inl ⟨_, by rw [ke]; rfl, hk, ?_, rfl⟩
            exact ⟨j1.kp hk (by omega), j2.kp hk (by omega), fun h => by simp at h, fun _ => ⟨v3, q2, ke⟩, fun h => owns_kp (j5 (by simpa using h)) hk (fun i hi e => by have := ((j5 (by simpa using h)).lt i hi).1; omega), Nat.le_trans j6 hk.size⟩
          · exact .inr ⟨_, up_no ke _, ke, rfl, v3, q2⟩) ?_
        refine .cons (fun hlt f ρ wz hno hyes hρ hJ hb hd => by
          obtain ⟨j1, j2, j3, j4, j5, j6⟩ := hJ
          have a0 : ρ (.tmp 20) = (.agg #[.int .i64 rr.1.1, .int .i64 rr.1.2, .int .i64 rr.2]) := hd 0 _ rfl rfl
          have bn := ballc (Below.refl wz.heap.size wz) (.cells #[.int .i64 rr.1.1, .int .i64 rr.1.2, .int .i64 rr.2] 58)
          refine (step_val (v := .slice (some ⟨wz.heap.size, 0, none⟩) 1 1) (w' := wz.alloc (.cells #[.int .i64 rr.1.1, .int .i64 rr.1.2, .int .i64 rr.2] 58)) (by simp [go_sem, execOp, a0, hρ.const]) ⟨bn, ?_, ?_⟩).up
          · exact ⟨j1.below bn, j2.below bn, fun h => (j3 (by simpa using h)).below bn, fun h => by obtain ⟨v3, q, e⟩ := j4 (by simpa using h); exact ⟨v3, q.below bn, e⟩, fun h => owns_kp (N := fun _ => False) (j5 (by simpa using h)) (Kp.of_below bn) (fun _ _ e => e), by simp; omega⟩
          · have f5 : f 5 = false := by
              cases hf : f 5 with
              | false => rfl
              | true => exact absurd (hno 5 (.inr (by kernel_rfl))) (by rw [hf]; decide)
            exact ⟨_, rfl, Bx.new _ _ _, fun e => by have := ((j5 f5).lt _ e).2; omega⟩) ?_
        refine .cons (fun hlt f ρ wz hno hyes hρ hJ hb hd => by
          obtain ⟨j1, j2, j3, j4, j5, j6⟩ := hJ
          have a0 : ρ (.tmp 18) = (.slice au i cu) := hd 0 _ rfl rfl
          obtain ⟨nb, a1, hbx, hnb⟩ : ∃ nb, ρ (.tmp 21) = .slice (some ⟨nb, 0, none⟩) 1 1 ∧ Bx wz nb 58 #[.int .i64 rr.1.1, .int .i64 rr.1.2, .int .i64 rr.2] ∧ (Value.slice au i cu).ownBlock ≠ some nb := hd 1 _ rfl rfl
          have f5 : f 5 = false := hno 5 (.inl rfl)
          obtain ⟨v', w', hrun, hown, hgr⟩ := append_run wz 30 (B + 1) (.slice au i cu) acc rr.1.1 rr.1.2 rr.2 nb (j5 f5) hbx j6 (by have := unhide Hai; omega)
          refine (step_val (v := v') (w' := w') (by unfold execOp; simp only [resolve, invoke, builtin, Sem.run_bind, Sem.run_pure, Result.andThen_ok, List.map_toArray, List.map_cons, List.map_nil, a0, a1, hrun]) ⟨hgr, ?_, hown⟩).up
          have hk := Kp.of_grown (N := fun k => (Value.slice au i cu).ownBlock = some k) hgr (fun k hk => hk)
          have hx : ∀ k, (Value.slice au i cu).ownBlock = some k → B + 1 ≤ k := fun k hk => ((j5 f5).lt k hk).1
          exact ⟨j1.kp hk (fun e => by have := hx _ e; omega), j2.kp hk (fun e => by have := hx _ e; omega), fun h => (by
              have q := j3 (by simpa using h)
              exact ⟨q.rd.kp hk (fun e => by have := hx _ e; omega) (fun k hk' e => by have := hx _ e; have := unhide Hv k (by rw [← q.own]; exact hk'); omega), q.kp.trans hk (fun k e => .inr (by have := hx _ e; omega)), q.own⟩), fun h => (by
              obtain ⟨v3, q, e3⟩ := j4 (by simpa using h)
              exact ⟨v3, ⟨q.rd.kp hk (fun e => by have := hx _ e; omega) (fun k hk' e => by have := hx _ e; have := unhide Hv k (by rw [← q.own]; exact hk'); omega), q.kp.trans hk (fun k e => .inr (by have := hx _ e; omega)), q.own⟩, e3⟩), fun h => by simp at h, Nat.le_trans j6 hk.size⟩) ?_
        refine .cons (fun hlt f ρ wz hno hyes hρ hJ hb hd => by
          obtain ⟨j1, j2, j3, j4, j5, j6⟩ := hJ
          have a0 : ρ (.tmp 8) = (.pointer (some ⟨B, 0, none⟩)) := hb (8, _) (List.mem_of_getElem? (i := 8) rfl)
          exact (step_val (v := (.pointer (some ⟨B, 0, none⟩))) (w' := wz) (by simp [go_sem, execOp, a0, hρ.const]) ⟨rfl, ⟨j1, j2, fun h => j3 (by simpa using h), fun h => j4 (by simpa using h), fun h => j5 (by simpa using h), j6⟩, rfl⟩).up) ?_
        refine .cons (fun h => absurd h (by decide)) (.nil _)
      case fin =>
        intro aQ WQ hsz2 hds hb hJ hv
        obtain ⟨fQ, hall, _, j1, j2, _, j4, _, j6⟩ := hJ
        obtain ⟨v3, q, ke⟩ := j4 (hall 3 (by decide))
        obtain ⟨y4, hy4⟩ : ∃ x, aQ.eval (.tmp 21) = x := ⟨_, rfl⟩
        obtain ⟨y5, hy5⟩ : ∃ x, aQ.eval (.tmp 22) = x := ⟨_, rfl⟩
        have h5 : OwR WQ (B + 1) (aQ.eval (.tmp 22)) (acc ++ [rr]) := hv 5 (by decide)
        rw [hy5] at h5
        obtain rfl := frame_of (((0, (Value.agg #[Value.slice none 0 0])) :: (1, (Value.agg #[Value.pointer (some { block := p, off := 0 })])) :: (2, (Value.int IntKind.i64 site)) :: (3, (Value.pointer (some { block := w.heap.size, off := 0 }))) :: (4, (Value.pointer (some { block := w.heap.size + 1, off := 0 }))) :: (5, undef) :: (6, Value.nilIface) :: (7, (Value.int IntKind.i64 (n : Int))) :: (8, (Value.pointer (some { block := B, off := 0 }))) :: (9, (Value.agg #[Value.pointer (some { block := p, off := 0 })])) :: (10, (Value.int IntKind.i64 (n : Int))) :: (11, (Value.int IntKind.i64 (n : Int))) :: (12, (Value.bool (decide (1024 < (n : Int))))) :: (13, undef) :: (14, (Value.int IntKind.i64 (n : Int))) :: (15, (Value.int IntKind.i64 (i : Int))) :: (16, (Value.bool true)) :: (24, u24) :: (25, undef) :: (26, undef) :: []) ++ ((17, (.pointer (some ⟨B, 0, none⟩))) :: (18, (.slice au i cu)) :: (19, (.agg #[.pointer (some ⟨p, 0, none⟩)])) :: (20, (.agg #[.int .i64 rr.1.1, .int .i64 rr.1.2, .int .i64 rr.2])) :: (21, y4) :: (22, y5) :: (23, (.pointer (some ⟨B, 0, none⟩))) :: [])) ((Value.agg #[Value.slice none 0 0]) :: (Value.agg #[Value.pointer (some { block := p, off := 0 })]) :: (Value.int IntKind.i64 site) :: (Value.pointer (some { block := w.heap.size, off := 0 })) :: (Value.pointer (some { block := w.heap.size + 1, off := 0 })) :: undef :: Value.nilIface :: (Value.int IntKind.i64 (n : Int)) :: (Value.pointer (some { block := B, off := 0 })) :: (Value.agg #[Value.pointer (some { block := p, off := 0 })]) :: (Value.int IntKind.i64 (n : Int)) :: (Value.int IntKind.i64 (n : Int)) :: (Value.bool (decide (1024 < (n : Int)))) :: undef :: (Value.int IntKind.i64 (n : Int)) :: (Value.int IntKind.i64 (i : Int)) :: (Value.bool true) :: (.pointer (some ⟨B, 0, none⟩)) :: (.slice au i cu) :: (.agg #[.pointer (some ⟨p, 0, none⟩)]) :: (.agg #[.int .i64 rr.1.1, .int .i64 rr.1.2, .int .i64 rr.2]) :: y4 :: y5 :: (.pointer (some ⟨B, 0, none⟩)) :: u24 :: undef :: undef :: []) hsz2 hds (fun p hp => by
          rcases List.mem_append.1 hp with h | h
          · exact hb p h
          · simp only [List.mem_cons, List.not_mem_nil, or_false] at h
            rcases h with rfl | rfl | rfl | rfl | rfl | rfl | rfl
            · exact hv 0 (by decide)
            · exact hv 1 (by decide)
            · exact hv 2 (by decide)
            · exact hv 3 (by decide)
            · exact hy4
            · exact hy5
            · exact hv 6 (by decide)) rfl
        clear hb hds hsz2 hv hy4 hy5 hall
        obtain ⟨a5, c5, hy5⟩ := h5.form
        have hl5 : (acc ++ [rr]).length = i + 1 := by rw [List.length_append, unhide Hai]; rfl
        rw [hl5] at hy5
        subst hy5
        have b0 := j2.cell 0 _ rfl
        have bf := j2.frozen 0
        have hown : ∀ k, (Value.slice a5 (i + 1) c5).ownBlock = some k → B + 1 ≤ k := fun k hk => (h5.lt k hk).1
        have TS2 : Hid (TkS w (WQ.setCell ⟨B, 0, none⟩ (.slice a5 (i + 1) c5)) p B v v3 (.slice a5 (i + 1) c5) (acc ++ [rr]) s2) :=
          ⟨q.set _ _ (by show w.heap.size ≤ B; omega) (by show B ≠ p; omega) (fun e => by have := unhide Hv B (by rw [← q.own]; exact e); omega), j1.setO _ (by show w.heap.size + 1 ≠ B; omega) _, by simpa using j2.set 0 (.slice a5 (i + 1) c5), owns_kp (N := fun k => k = B) h5 (Kp.set _ _ _ rfl) (fun k hk e => by have := hown k hk; omega)⟩
        refine ⟨WQ.setCell ⟨B, 0, none⟩ (.slice a5 (i + 1) c5), by simp [go_sem, Act.eval, b0, bf], ?_⟩
        clear j1 j2 j4 j6 q h5 TS b0 bf hown
        go_wp2
        go_roundw
        case measure => show n - ((i : Int) + 1).toNat < n - ((i : Nat) : Int).toNat; omega
        case rel => exact ⟨i + 1, v3, _, acc ++ [rr], s2, by go_num, by omega, hl5, hide (by rw [← unhide hh, tkG_good (by rw [h3]; exact ke), h3, show n - (i + 1) = j by omega]), TS2⟩
    · have hlt' : ¬ (i : Int) < (n : Int) := by omega
      have hz : Hid (T = ((acc, 0), sx)) := by rw [← unhide hh, show n - i = 0 by omega]; rfl
      obtain ⟨au, cu, hu⟩ := (unhide TS).ow.form
      rw [unhide Hai] at hu
      subst hu
      have x0 := (unhide TS).bx.cell 0 _ rfl
      go_wp2
      go_ret
      exact ⟨_, by rw [unhide hz]; rfl, by rw [unhide hz]; exact (unhide TS).ow.base (by omega), v2, by rw [unhide hz]; exact (unhide TS).rd.rd, (unhide TS).rd.kp, (unhide TS).rd.own⟩

end Go.Proofs.YtbnhfbdfjnigoaaGreat

/-
  Operations: what is taken (pure).
-/
set_option linter.unusedSimpArgs false
set_option linter.unusedVariables false
namespace Go.Proofs.YtbnhfbdfjnigoaaGreat
open Go.RowKit Go.Lib

def zO : Opn := ⟨0, 0, [], 0, 0, 0, 0, 0, ⟨#[]⟩, [], 0⟩
/-- at the end it must be one -/
def finO (o : Opn) (st : List Nat × Int) : (Opn × Int) × (List Nat × Int) := if okO o = true then ((o, 0), st) else ((zO, 10), st)
/-- what a kind has, taken -/
def takeK (n : Nat) (ds dq : Nat) (deps : List (Int × Int)) (st : List Nat × Int) : (Opn × Int) × (List Nat × Int) :=
  if n = 1 then (if (tkI st).1.2 ≠ 0 then ((zO, (tkI st).1.2), (tkI st).2) else finO ⟨ds, dq, deps, 1, (tkI st).1.1.1.1.1, ds, (tkI st).1.1.1.1.2, (tkI st).1.1.1.2, (tkI st).1.1.2, [], 0⟩ (tkI st).2)
  else if n = 2 then (if (tkD st).1.2 ≠ 0 then ((zO, (tkD st).1.2), (tkD st).2) else finO ⟨ds, dq, deps, 2, 0, 0, 0, 0, ⟨#[]⟩, (tkD st).1.1, 0⟩ (tkD st).2)
  else if n = 3 then (if (rNum st.1 st.2).2.2 ≠ 0 then ((zO, (rNum st.1 st.2).2.2), (rNum st.1 st.2).2) else finO ⟨ds, dq, deps, 3, 0, 0, 0, 0, ⟨#[]⟩, [], (rNum st.1 st.2).1⟩ (rNum st.1 st.2).2)
  else finO ⟨ds, dq, deps, 4, 0, 0, 0, 0, ⟨#[]⟩, [], 0⟩ st
/-- two numbers -/
def tk2 (st : List Nat × Int) : ((Nat × Nat) × Int) × (List Nat × Int) :=
  if (rNum st.1 st.2).2.2 ≠ 0 then (((0, 0), (rNum st.1 st.2).2.2), (rNum st.1 st.2).2) else
  ((((rNum st.1 st.2).1, (rNum (rNum st.1 st.2).2.1 (rNum st.1 st.2).2.2).1), (rNum (rNum st.1 st.2).2.1 (rNum st.1 st.2).2.2).2.2), (rNum (rNum st.1 st.2).2.1 (rNum st.1 st.2).2.2).2)
theorem tk2_ways {st s1 s2 : List Nat × Int} {a b : Nat} (h1 : rNum st.1 st.2 = (a, s1)) (h2 : rNum s1.1 s1.2 = (b, s2)) :
    (s1.2 ≠ 0 ∧ tk2 st = (((0, 0), s1.2), s1)) ∨ (s1.2 = 0 ∧ tk2 st = (((a, b), s2.2), s2)) := by
  unfold tk2
  rw [h1]
  simp only
  rw [h2]
  by_cases k1 : s1.2 = 0
  · exact .inr ⟨k1, by rw [if_neg (by simpa using k1)]⟩
  · exact .inl ⟨k1, by rw [if_pos k1]⟩
/-- an operation, taken: it or the error, and what is left -/
def takeO (st : List Nat × Int) : (Opn × Int) × (List Nat × Int) :=
  if (rNum st.1 st.2).2.2 ≠ 0 then ((zO, (rNum st.1 st.2).2.2), (rNum st.1 st.2).2) else
  if (rNum st.1 st.2).1 < 1 ∨ 4 < (rNum st.1 st.2).1 then ((zO, 10), (rNum st.1 st.2).2) else
  if (tk2 (rNum st.1 st.2).2).1.2 ≠ 0 then ((zO, (tk2 (rNum st.1 st.2).2).1.2), (tk2 (rNum st.1 st.2).2).2) else
  if (takeV (tk2 (rNum st.1 st.2).2).2).1.2 ≠ 0 then ((zO, (takeV (tk2 (rNum st.1 st.2).2).2).1.2), (takeV (tk2 (rNum st.1 st.2).2).2).2) else
  takeK (rNum st.1 st.2).1 (tk2 (rNum st.1 st.2).2).1.1.1 (tk2 (rNum st.1 st.2).2).1.1.2 (takeV (tk2 (rNum st.1 st.2).2).2).1.1 (takeV (tk2 (rNum st.1 st.2).2).2).2

/-- the ways of its head -/
theorem takeO_ways {st s1 s2 s3 s4 : List Nat × Int} {n a b : Nat} {d : List (Int × Int)} {e : Int} (h1 : rNum st.1 st.2 = (n, s1)) (h2 : rNum s1.1 s1.2 = (a, s2)) (h3 : rNum s2.1 s2.2 = (b, s3)) (h4 : takeV s3 = ((d, e), s4)) :
    (s1.2 ≠ 0 ∧ takeO st = ((zO, s1.2), s1)) ∨ (s1.2 = 0 ∧ (n < 1 ∨ 4 < n) ∧ takeO st = ((zO, 10), s1)) ∨ (s1.2 = 0 ∧ ¬ (n < 1 ∨ 4 < n) ∧ s2.2 ≠ 0 ∧ takeO st = ((zO, s2.2), s2)) ∨
    (s1.2 = 0 ∧ ¬ (n < 1 ∨ 4 < n) ∧ s2.2 = 0 ∧ s3.2 ≠ 0 ∧ takeO st = ((zO, s3.2), s3)) ∨ (s1.2 = 0 ∧ ¬ (n < 1 ∨ 4 < n) ∧ s2.2 = 0 ∧ s3.2 = 0 ∧ e ≠ 0 ∧ takeO st = ((zO, e), s4)) ∨
    (s1.2 = 0 ∧ ¬ (n < 1 ∨ 4 < n) ∧ s2.2 = 0 ∧ s3.2 = 0 ∧ e = 0 ∧ takeO st = takeK n a b d s4) := by
  unfold takeO
  rw [h1]
  simp only
  by_cases k1 : s1.2 = 0
  · rw [if_neg (by simpa using k1)]
    by_cases kn : n < 1 ∨ 4 < n
    · exact .inr (.inl ⟨k1, kn, by rw [if_pos kn]⟩)
    · rw [if_neg kn]
      rcases tk2_ways h2 h3 with ⟨k2, e2⟩ | ⟨k2, e2⟩
      · rw [e2]
        exact .inr (.inr (.inl ⟨k1, kn, k2, by rw [if_pos k2]⟩))
      · rw [e2]
        simp only
        by_cases k3 : s3.2 = 0
        · rw [if_neg (by simpa using k3), h4]
          by_cases k4 : e = 0
          · exact .inr (.inr (.inr (.inr (.inr ⟨k1, kn, k2, k3, k4, by rw [if_neg (by simpa using k4)]⟩))))
          · exact .inr (.inr (.inr (.inr (.inl ⟨k1, kn, k2, k3, k4, by rw [if_pos k4]⟩))))
        · exact .inr (.inr (.inr (.inl ⟨k1, kn, k2, k3, by rw [if_pos k3]⟩)))
  · exact .inl ⟨k1, by rw [if_pos k1]⟩

theorem finO_zero (o : Opn) (st : List Nat × Int) : (finO o st).1.2 ≠ 0 → (finO o st).1.1 = zO := by
  unfold finO
  split
  · intro h; exact absurd rfl h
  · intro _; rfl
theorem takeK_zero (n a b : Nat) (d : List (Int × Int)) (st : List Nat × Int) : (takeK n a b d st).1.2 ≠ 0 → (takeK n a b d st).1.1 = zO := by
  unfold takeK
  split
  · split
    · intro _; rfl
    · exact finO_zero _ _
  · split
    · split
      · intro _; rfl
      · exact finO_zero _ _
    · split
      · split
        · intro _; rfl
        · exact finO_zero _ _
      · exact finO_zero _ _
theorem takeO_zero (st : List Nat × Int) : (takeO st).1.2 ≠ 0 → (takeO st).1.1 = zO := by
  rcases takeO_ways (st := st) (n := _) (s1 := _) rfl (a := _) (s2 := _) rfl (b := _) (s3 := _) rfl (d := _) (e := _) (s4 := _) rfl with ⟨_, e⟩ | ⟨_, _, e⟩ | ⟨_, _, _, e⟩ | ⟨_, _, _, _, e⟩ | ⟨_, _, _, _, _, e⟩ | ⟨_, _, _, _, _, e⟩
  · rw [e]; intro _; rfl
  · rw [e]; intro _; rfl
  · rw [e]; intro _; rfl
  · rw [e]; intro _; rfl
  · rw [e]; intro _; rfl
  · rw [e]; exact takeK_zero _ _ _ _ _
theorem nat64 {n : Nat} (h : n < 9223372036854775808) : in64 (n : Int) := ⟨by omega, by omega⟩
theorem rNum64 (l : List Nat) (e : Int) : in64 ((rNum l e).1 : Nat) := nat64 (rn0_lt l e)
theorem in64_0 : in64 0 := ⟨by omega, by omega⟩
theorem tk3_in (st : List Nat × Int) : runIn (tk3 st).1.1 := by
  unfold tk3
  split
  · exact ⟨⟨in64_0, in64_0⟩, in64_0⟩
  · split
    · exact ⟨⟨in64_0, in64_0⟩, in64_0⟩
    · exact ⟨⟨rNum64 _ _, rNum64 _ _⟩, rNum64 _ _⟩
theorem tkG_in : ∀ (n : Nat) (acc : List ((Int × Int) × Int)) (st : List Nat × Int), (∀ r ∈ acc, runIn r) → (∀ r ∈ (tkG n acc st).1.1, runIn r) ∧ (tkG n acc st).1.1.length ≤ acc.length + n
  | 0, acc, st, h => by rw [tkG]; exact ⟨h, by simp⟩
  | n + 1, acc, st, h => by
    rw [tkG]
    split
    · exact ⟨fun r hr => (by cases hr), by simp⟩
    · have ih := tkG_in n (acc ++ [(tk3 st).1.1]) (tk3 st).2 (fun r hr => by
        rcases List.mem_append.1 hr with hr | hr
        · exact h r hr
        · simp at hr; rw [hr]; exact tk3_in st)
      refine ⟨ih.1, ?_⟩
      have := ih.2
      simp at this
      omega
theorem tkD_in (st : List Nat × Int) : (∀ r ∈ (tkD st).1.1, runIn r) ∧ (tkD st).1.1.length ≤ 1024 := by
  unfold tkD
  split
  · exact ⟨fun r hr => (by cases hr), by simp⟩
  · split
    · exact ⟨fun r hr => (by cases hr), by simp⟩
    · rename_i h1 h2
      have := tkG_in (rNum st.1 st.2).1 [] (rNum st.1 st.2).2 (fun r hr => by cases hr)
      refine ⟨this.1, ?_⟩
      have h3 := this.2
      simp at h3
      omega
theorem tkL_len : ∀ (n : Nat) (site : Int) (acc : List (Int × Int)) (st : List Nat × Int), (tkL n site acc st).1.1.length ≤ acc.length + n
  | 0, site, acc, st => by simp [tkL]
  | n + 1, site, acc, st => by
    rw [tkL]
    split
    · simp
    · split
      · simp
      · have := tkL_len n (tkN st (site + 1) 16).1.1 (acc ++ [(((tkN st (site + 1) 16).1.1 : Int), ((tkN (tkN st (site + 1) 16).2 1 2147483647).1.1 : Int))]) (tkN (tkN st (site + 1) 16).2 1 2147483647).2
        simp at this
        simp
        omega
theorem takeV_len (st : List Nat × Int) : (takeV st).1.1.length ≤ 16 := by
  unfold takeV
  split
  · simp
  · rename_i h
    have h1 := tkN_ok (st := st) (least := 0) (most := 16) (by simpa using h)
    have h2 := tkL_len (tkN st 0 16).1.1 0 [] (tkN st 0 16).2
    simp at h2
    omega
theorem rTxt_size (l : List Nat) (e : Int) : (rTxt l e).1.size ≤ l.length := by
  unfold rTxt
  split
  · simp
  · split
    · simp
    · rw [txt_size]
      simp
      omega
theorem rNum_len (l : List Nat) (e : Int) : (rNum l e).2.1.length ≤ l.length := by unfold rNum; simp
theorem tkI_in (st : List Nat × Int) (h : st.1.length ≤ 140737488355328) : runIn (tkI st).1.1.1 ∧ (tkI st).1.1.2.size ≤ st.1.length := by
  unfold tkI
  split
  · exact ⟨⟨⟨in64_0, in64_0⟩, in64_0⟩, Nat.zero_le _⟩
  · refine ⟨tk3_in st, ?_⟩
    have h1 := rTxt_size (tk3 st).2.1 (tk3 st).2.2
    have h2 : (tk3 st).2.1.length ≤ st.1.length := by
      unfold tk3
      split
      · exact rNum_len _ _
      · split
        · exact Nat.le_trans (rNum_len _ _) (rNum_len _ _)
        · exact Nat.le_trans (rNum_len _ _) (Nat.le_trans (rNum_len _ _) (rNum_len _ _))
    exact Nat.le_trans h1 h2

end Go.Proofs.YtbnhfbdfjnigoaaGreat
