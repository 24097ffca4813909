/-
  The taker of frame, of bytes that are right.
-/
import Derived.Test.YtkffonoifbaifaaGreatZFG
import Derived.Test.YtkffonoifbaifaaGreatZV7
import Derived.Test.YtkffonoifbaifaaGreatZXR
set_option linter.unusedSimpArgs false
set_option linter.unusedVariables false
namespace Go.Proofs.YtkffonoifbaifaaGreat
open Go.RowKit Go.Lib

/-- a value, or a panic with the error -/
def upF (err : Int) (v : Value) : Ending := if err = 0 then .returned v else .panicked [{ v := .iface 52 (.int .i64 err), recovered := false }]
theorem upF_ok (v : Value) : upF 0 v = .returned v := rfl
theorem upF_no {e : Int} (h : e ≠ 0) (v : Value) : upF e v = .panicked [{ v := .iface 52 (.int .i64 e), recovered := false }] := if_neg h
theorem upF_same {e : Int} (h : e ≠ 0) (u v : Value) : upF e u = upF e v := by rw [upF_no h, upF_no h]

set_option maxRecDepth 100000 in
theorem fMust_in (e : Int) (w : World) : Calls Tryz.prog 32 #[.int .i64 e] w fun r W => r = upF e (.tuple #[]) ∧ w = W := by
  by_cases h : e = 0
  · subst h
    go_enter Tryz.func32, Tryz.ntmps32
    go_wp2
    go_end0
    exact ⟨rfl, rfl⟩
  · have hb : (e == 0) = false := by simpa using h
    rw [upF_no h]
    go_enter Tryz.func32, Tryz.ntmps32
    go_wp2
    exact ⟨rfl, rfl, rfl⟩


set_option maxRecDepth 100000 in
theorem fNumber0_in {w : World} {p : Nat} {v : Value} {st : List Nat × Int} (h : Rd w p v st.1 st.2) :
    Calls Tryz.prog 36 #[.agg #[.pointer (some ⟨p, 0, none⟩)]] w fun r W => r = upF (rNum st.1 st.2).2.2 (.int .i64 ((rNum st.1 st.2).1 : Nat)) ∧ ∃ v', Rd W p v' (rNum st.1 st.2).2.1 (rNum st.1 st.2).2.2 ∧ Kp (fun i => i = p) w W ∧ v'.ownBlock = v.ownBlock := by
  obtain ⟨X, hX⟩ : ∃ X, w.alloc (.cells #[.pointer (some ⟨p, 0, none⟩)] 58) = X := ⟨_, rfl⟩
  have HX : Bx X w.heap.size 58 #[.pointer (some ⟨p, 0, none⟩)] := by rw [← hX]; exact Bx.new w _ _
  have bX : Below w.heap.size w X := by rw [← hX]; exact ballc (Below.refl _ _) _
  have hp := h.box.lt
  have HN := hide (rNumber_in (h.below bX))
  have x0 := HX.cell 0 _ rfl
  have xl := HX.lt
  replace HX := hide HX
  have K0 := hide (Kp.of_below (N := fun i => i = p) bX)
  clear h bX
  generalize rNum st.1 st.2 = q at *
  obtain ⟨n, l, e⟩ := q
  simp only at HN ⊢
  go_enter Tryz.func36, Tryz.ntmps36
  go_wp2_with fail
  refine (unhide HN).mono ?_
  rintro r W1 ⟨rfl, v1, hr, hk, hv⟩
  have HE := hide (rErr_in hr)
  replace HX := hide ((unhide HX).kp hk (by omega))
  replace K0 := hide ((unhide K0).trans hk (fun i h => .inl h))
  have HR := hide hr
  clear hr hk HN hX x0 xl
  have x0 := (unhide HX).cell 0 _ rfl
  go_wp2_with fail
  refine (unhide HE).mono ?_
  rintro r W2 ⟨rfl, rfl⟩
  have HM := hide (fMust_in e W1)
  go_wp2_with fail
  refine (unhide HM).mono ?_
  rintro r W3 ⟨rfl, rfl⟩
  by_cases he : e = 0
  · subst he
    rw [upF_ok]
    go_wp2
    go_ret
    exact ⟨rfl, v1, unhide HR, unhide K0, hv⟩
  · rw [upF_no he]
    exact ⟨rfl, (upF_no he _).symm, v1, unhide HR, unhide K0, hv⟩


set_option maxRecDepth 100000 in
theorem fVector0_in {w : World} {p : Nat} {v : Value} {st : List Nat × Int} (h : Rd w p v st.1 st.2) :
    Calls Tryz.prog 38 #[.agg #[.pointer (some ⟨p, 0, none⟩)]] w fun r W => ∃ u, r = upF (takeV st).1.2 u ∧ OwD W w.heap.size u (takeV st).1.1 ∧ ∃ v', Rd W p v' (takeV st).2.1 (takeV st).2.2 ∧ Kp (fun i => i = p) w W ∧ v'.ownBlock = v.ownBlock := by
  obtain ⟨X, hX⟩ : ∃ X, w.alloc (.cells #[.pointer (some ⟨p, 0, none⟩)] 58) = X := ⟨_, rfl⟩
  have HX : Bx X w.heap.size 58 #[.pointer (some ⟨p, 0, none⟩)] := by rw [← hX]; exact Bx.new w _ _
  have bX : Below w.heap.size w X := by rw [← hX]; exact ballc (Below.refl _ _) _
  have hs := bX.size
  have HN := hide (Take_in (h.below bX))
  have x0 := HX.cell 0 _ rfl
  have xl := HX.lt
  have K0 := hide (Kp.of_below (N := fun i => i = p) bX)
  clear h bX HX
  generalize takeV st = q at *
  obtain ⟨⟨d, e⟩, l, e2⟩ := q
  simp only at HN ⊢
  go_enter Tryz.func38, Tryz.ntmps38
  go_wp2_with fail
  refine (unhide HN).mono ?_
  rintro r W1 ⟨u, rfl, ho, v1, hr, hk, hv⟩
  obtain ⟨a, c, rfl⟩ := ho.form
  replace K0 := hide ((unhide K0).trans hk (fun i h => .inl h))
  have HR := hide hr
  have HO := hide (ho.base hs)
  have HM := hide (fMust_in e W1)
  clear hr hk HN hX x0 xl ho hs
  go_wp2_with fail
  refine (unhide HM).mono ?_
  rintro r W3 ⟨rfl, rfl⟩
  by_cases he : e = 0
  · subst he
    rw [upF_ok]
    go_wp2
    go_ret
    exact ⟨_, rfl, unhide HO, v1, unhide HR, unhide K0, hv⟩
  · rw [upF_no he]
    exact ⟨rfl, .slice a d.length c, (upF_no he _).symm, unhide HO, v1, unhide HR, unhide K0, hv⟩


theorem rn_small (x : Nat) (l : List Nat) (h : x < 128) : rNum (x :: l) 0 = (x, l, 0) := by
  have e : tn (x :: l) = (0, x, 1) := by
    unfold tn tnL
    simp [h]
  unfold rNum rn0
  rw [if_neg (by simp), e]
  rfl
/-- the reader, somewhat further -/
def RdN (w W : World) (p : Nat) (v : Value) (l : List Nat) : Prop := ∃ v', Rd W p v' l 0 ∧ Kp (fun i => i = p) w W ∧ v'.ownBlock = v.ownBlock
theorem fNum_in {w : World} {p : Nat} {v : Value} {x : Nat} {l : List Nat} (h : Rd w p v (x :: l) 0) (hx : x < 128) :
    Calls Tryz.prog 36 #[.agg #[.pointer (some ⟨p, 0, none⟩)]] w fun r W => r = .returned (.int .i64 (x : Nat)) ∧ RdN w W p v l := by
  refine (fNumber0_in (st := (x :: l, 0)) h).mono ?_
  rintro r W ⟨rfl, v', h1, h2, h3⟩
  simp only [rn_small x l hx] at h1 ⊢
  exact ⟨rfl, v', h1, h2, h3⟩
theorem RdN.trans {w W W' : World} {p : Nat} {v v1 : Value} {l : List Nat} (k : Kp (fun i => i = p) w W) (e : v1.ownBlock = v.ownBlock) (h : RdN W W' p v1 l) : RdN w W' p v l := by
  obtain ⟨v2, h1, h2, h3⟩ := h
  exact ⟨v2, h1, k.trans h2 (fun i h => .inl h), h3.trans e⟩
set_option maxRecDepth 100000 in
set_option maxHeartbeats 1000000 in
theorem fTkKind_in {w : World} {p : Nat} {v : Value} {l : List Nat} (h : Rd w p v (1 :: l) 0) :
    Calls Tryz.prog 35 #[.agg #[.pointer (some ⟨p, 0, none⟩)]] w fun r W => r = .returned (.int .i64 1) ∧ RdN w W p v l := by
  obtain ⟨X, hX⟩ : ∃ X, w.alloc (.cells #[.pointer (some ⟨p, 0, none⟩)] 58) = X := ⟨_, rfl⟩
  have HX : Bx X w.heap.size 58 #[.pointer (some ⟨p, 0, none⟩)] := by rw [← hX]; exact Bx.new w _ _
  have bX : Below w.heap.size w X := by rw [← hX]; exact ballc (Below.refl _ _) _
  have HN := hide (fNum_in (h.below bX) (by decide))
  have K0 := hide (Kp.of_below (N := fun i => i = p) bX)
  have x0 := HX.cell 0 _ rfl
  clear h bX HX
  go_enter Tryz.func35, Tryz.ntmps35
  go_wp2_with fail
  refine (unhide HN).mono ?_
  rintro r W1 ⟨rfl, hr⟩
  have HR := hide (RdN.trans (unhide K0) rfl hr)
  clear hr HN K0 x0
  go_wp2_with (first | (go_at_call 33; refine (unless_in _ _ _).mono ?_; rintro r W2 ⟨rfl, rfl⟩) | (go_at_call 32; refine (fMust_in _ _).mono ?_; rintro r W2 ⟨rfl, rfl⟩; (try simp only [if_true, decide_true]); rw [upF_ok]) | (go_at_call 43; refine (fKind_in _ _).mono ?_; rintro r W1 ⟨rfl, rfl⟩))
  go_ret
  exact ⟨rfl, unhide HR⟩
set_option maxRecDepth 100000 in
set_option maxHeartbeats 1000000 in
theorem fTkAnswer_in {w : World} {p : Nat} {v : Value} {l : List Nat} (h : Rd w p v (1 :: l) 0) :
    Calls Tryz.prog 37 #[.agg #[.pointer (some ⟨p, 0, none⟩)]] w fun r W => r = .returned (.bool true) ∧ RdN w W p v l := by
  obtain ⟨X, hX⟩ : ∃ X, w.alloc (.cells #[.pointer (some ⟨p, 0, none⟩)] 58) = X := ⟨_, rfl⟩
  have HX : Bx X w.heap.size 58 #[.pointer (some ⟨p, 0, none⟩)] := by rw [← hX]; exact Bx.new w _ _
  have bX : Below w.heap.size w X := by rw [← hX]; exact ballc (Below.refl _ _) _
  have HN := hide (fNum_in (h.below bX) (by decide))
  have K0 := hide (Kp.of_below (N := fun i => i = p) bX)
  have x0 := HX.cell 0 _ rfl
  clear h bX HX
  go_enter Tryz.func37, Tryz.ntmps37
  go_wp2_with fail
  refine (unhide HN).mono ?_
  rintro r W1 ⟨rfl, hr⟩
  have HR := hide (RdN.trans (unhide K0) rfl hr)
  clear hr HN K0 x0
  go_wp2_with (first | (go_at_call 33; refine (unless_in _ _ _).mono ?_; rintro r W2 ⟨rfl, rfl⟩) | (go_at_call 32; refine (fMust_in _ _).mono ?_; rintro r W2 ⟨rfl, rfl⟩; (try simp only [if_true, decide_true]); rw [upF_ok]))
  go_ret
  exact ⟨rfl, unhide HR⟩
set_option maxRecDepth 100000 in
set_option maxHeartbeats 1000000 in
theorem fTkOps_in {w : World} {p : Nat} {v : Value} {l : List Nat} (h : Rd w p v (0 :: l) 0) :
    Calls Tryz.prog 39 #[.agg #[.pointer (some ⟨p, 0, none⟩)]] w fun r W => r = .returned (.slice none 0 0) ∧ RdN w W p v l := by
  obtain ⟨X, hX⟩ : ∃ X, w.alloc (.cells #[.pointer (some ⟨p, 0, none⟩)] 58) = X := ⟨_, rfl⟩
  have HX : Bx X w.heap.size 58 #[.pointer (some ⟨p, 0, none⟩)] := by rw [← hX]; exact Bx.new w _ _
  have bX : Below w.heap.size w X := by rw [← hX]; exact ballc (Below.refl _ _) _
  have HN := hide (fNum_in (h.below bX) (by decide))
  have K0 := hide (Kp.of_below (N := fun i => i = p) bX)
  have x0 := HX.cell 0 _ rfl
  clear h bX HX
  go_enter Tryz.func39, Tryz.ntmps39
  go_wp2_with fail
  refine (unhide HN).mono ?_
  rintro r W1 ⟨rfl, hr⟩
  have HR := hide (RdN.trans (unhide K0) rfl hr)
  clear hr HN K0 x0
  go_wp2_with (first | (go_at_call 33; refine (unless_in _ _ _).mono ?_; rintro r W2 ⟨rfl, rfl⟩) | (go_at_call 32; refine (fMust_in _ _).mono ?_; rintro r W2 ⟨rfl, rfl⟩; (try simp only [if_true, decide_true]); rw [upF_ok]))
  go_loopw [14, 4] (fun iv ov wr => iv = .int .i64 0 ∧ ov = .slice none 0 0 ∧ wr = W1) (fun _ _ _ => 0)
  case atStart => exact ⟨rfl, rfl, rfl⟩
  case round =>
    obtain ⟨rfl, rfl, rfl⟩ := hrel
    go_wp2
    go_ret
    exact ⟨rfl, unhide HR⟩
end Go.Proofs.YtkffonoifbaifaaGreat
