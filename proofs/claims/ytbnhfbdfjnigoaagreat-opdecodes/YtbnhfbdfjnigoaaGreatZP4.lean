/-
  Operations: an operation, taken or given up.
-/
import Derived.Test.YtbnhfbdfjnigoaaGreatZXP1
set_option linter.unusedSimpArgs false
set_option linter.unusedVariables false
namespace Go.Proofs.YtbnhfbdfjnigoaaGreat
open Go.RowKit Go.Lib

/-- what stands while an operation is taken -/
structure OpS (w W : World) (p Bo : Nat) (v v2 : Value) (cs : Array Value) (st : List Nat × Int) : Prop where
  rd : RdK w W p v v2 st
  tk : Bx W w.heap.size 68 #[.pointer (some ⟨p, 0, none⟩)]
  rs : Bx W (w.heap.size + 1) 32 #[.int .i64 0, .int .i64 0, .slice none 0 0, .int .i64 0, .int .i64 0, .int .i64 0, .int .i64 0, .int .i64 0, .string ⟨#[]⟩, .slice none 0 0, .int .i64 0]
  bx : Bx W Bo 32 cs
  lt : p < w.heap.size
  le : w.heap.size + 2 ≤ Bo
  vo : ∀ k, v.ownBlock = some k → k < w.heap.size
theorem OpS.next {w W W' : World} {p Bo : Nat} {v v2 v3 : Value} {cs : Array Value} {st st' : List Nat × Int} (h : OpS w W p Bo v v2 cs st) (hr : Rd W' p v3 st'.1 st'.2) (hk : Kp (fun i => i = p) W W') (hv : v3.ownBlock = v2.ownBlock) : OpS w W' p Bo v v3 cs st' :=
  ⟨h.rd.next hr hk hv, h.tk.kp hk (by have := h.lt; omega), h.rs.kp hk (by have := h.lt; omega), h.bx.kp hk (by have := h.lt; have := h.le; omega), h.lt, h.le, h.vo⟩
theorem OpS.below {w W W' : World} {p Bo : Nat} {v v2 : Value} {cs : Array Value} {st : List Nat × Int} (h : OpS w W p Bo v v2 cs st) (hb : Below W.heap.size W W') : OpS w W' p Bo v v2 cs st := h.next (h.rd.rd.below hb) (Kp.of_below hb) rfl
theorem OpS.kpB {w W W' : World} {p Bo : Nat} {v v2 : Value} {cs cs' : Array Value} {st : List Nat × Int} (h : OpS w W p Bo v v2 cs st) (hk : Kp (fun i => i = Bo) W W') (hb : Bx W' Bo 32 cs') : OpS w W' p Bo v v2 cs' st := by
  have h1 := h.lt
  have h2 := h.le
  refine ⟨⟨h.rd.rd.kp hk (by omega) (fun k hk' e => ?_), h.rd.kp.trans hk (fun i e => .inr (by omega)), h.rd.own⟩, h.tk.kp hk (by omega), h.rs.kp hk (by omega), hb, h1, h2, h.vo⟩
  have := h.vo k (by rw [← h.rd.own]; exact hk')
  omega
theorem OpS.set {w W : World} {p Bo : Nat} {v v2 : Value} {cs : Array Value} {st : List Nat × Int} (h : OpS w W p Bo v v2 cs st) (j : Nat) (u : Value) : OpS w (W.setCell ⟨Bo, j, none⟩ u) p Bo v v2 (cs.setIfInBounds j u) st := h.kpB (Kp.set _ _ _ rfl) (h.bx.set j u)

theorem Bx.set11 {W : World} {b : Nat} {t : TypeId} {x0 x1 x2 x3 x4 x5 x6 x7 x8 x9 x10 y0 y1 y2 y3 y4 y5 y6 y7 y8 y9 y10 : Value} (h : Bx W b t #[y0, y1, y2, y3, y4, y5, y6, y7, y8, y9, y10]) : Bx (((((((((((W.setCell ⟨b, 0, none⟩ (x0)).setCell ⟨b, 1, none⟩ (x1)).setCell ⟨b, 2, none⟩ (x2)).setCell ⟨b, 3, none⟩ (x3)).setCell ⟨b, 4, none⟩ (x4)).setCell ⟨b, 5, none⟩ (x5)).setCell ⟨b, 6, none⟩ (x6)).setCell ⟨b, 7, none⟩ (x7)).setCell ⟨b, 8, none⟩ (x8)).setCell ⟨b, 9, none⟩ (x9)).setCell ⟨b, 10, none⟩ (x10)) b t #[x0, x1, x2, x3, x4, x5, x6, x7, x8, x9, x10] := by
  have q := (((((((((((h.set 0 x0).set 1 x1).set 2 x2).set 3 x3).set 4 x4).set 5 x5).set 6 x6).set 7 x7).set 8 x8).set 9 x9).set 10 x10)
  simpa using q
theorem Kp.set11 (W : World) (b : Nat) (x0 x1 x2 x3 x4 x5 x6 x7 x8 x9 x10 : Value) : Kp (fun k => k = b) W (((((((((((W.setCell ⟨b, 0, none⟩ (x0)).setCell ⟨b, 1, none⟩ (x1)).setCell ⟨b, 2, none⟩ (x2)).setCell ⟨b, 3, none⟩ (x3)).setCell ⟨b, 4, none⟩ (x4)).setCell ⟨b, 5, none⟩ (x5)).setCell ⟨b, 6, none⟩ (x6)).setCell ⟨b, 7, none⟩ (x7)).setCell ⟨b, 8, none⟩ (x8)).setCell ⟨b, 9, none⟩ (x9)).setCell ⟨b, 10, none⟩ (x10)) := by
  have k0 := Kp.set (N := fun k => k = b) W ⟨b, 0, none⟩ x0 rfl
  have k1 := k0.trans (M := fun k => k = b) (Kp.set _ ⟨b, 1, none⟩ x1 rfl) (fun i h => .inl h)
  have k2 := k1.trans (M := fun k => k = b) (Kp.set _ ⟨b, 2, none⟩ x2 rfl) (fun i h => .inl h)
  have k3 := k2.trans (M := fun k => k = b) (Kp.set _ ⟨b, 3, none⟩ x3 rfl) (fun i h => .inl h)
  have k4 := k3.trans (M := fun k => k = b) (Kp.set _ ⟨b, 4, none⟩ x4 rfl) (fun i h => .inl h)
  have k5 := k4.trans (M := fun k => k = b) (Kp.set _ ⟨b, 5, none⟩ x5 rfl) (fun i h => .inl h)
  have k6 := k5.trans (M := fun k => k = b) (Kp.set _ ⟨b, 6, none⟩ x6 rfl) (fun i h => .inl h)
  have k7 := k6.trans (M := fun k => k = b) (Kp.set _ ⟨b, 7, none⟩ x7 rfl) (fun i h => .inl h)
  have k8 := k7.trans (M := fun k => k = b) (Kp.set _ ⟨b, 8, none⟩ x8 rfl) (fun i h => .inl h)
  have k9 := k8.trans (M := fun k => k = b) (Kp.set _ ⟨b, 9, none⟩ x9 rfl) (fun i h => .inl h)
  have k10 := k9.trans (M := fun k => k = b) (Kp.set _ ⟨b, 10, none⟩ x10 rfl) (fun i h => .inl h)
  exact k10

set_option maxRecDepth 100000 in
theorem tOp_bad {w : World} {p : Nat} {v : Value} {st s1 : List Nat × Int} {n : Nat} (h : Rd w p v st.1 st.2) (e1 : rNum st.1 st.2 = (n, s1)) (hb : s1.2 ≠ 0 ∨ n < 1 ∨ 4 < n) :
    Calls Tryz.prog 27 #[.agg #[.pointer (some ⟨p, 0, none⟩)]] w fun r W => ∃ vd vg, r = up (takeO st).1.2 (opA (takeO st).1.1 vd vg) ∧ OwD W w.heap.size vd (takeO st).1.1.deps ∧ OwR W w.heap.size vg (takeO st).1.1.gone ∧ (∀ k, vd.ownBlock = some k → vg.ownBlock ≠ some k) ∧ ∃ v', Rd W p v' (takeO st).2.1 (takeO st).2.2 ∧ Kp (fun i => i = p) w W ∧ v'.ownBlock = v.ownBlock := by
  obtain ⟨X, hX⟩ : ∃ X, (w.alloc (.cells #[.pointer (some ⟨p, 0, none⟩)] 68)).alloc (.cells #[.int .i64 0, .int .i64 0, .slice none 0 0, .int .i64 0, .int .i64 0, .int .i64 0, .int .i64 0, .int .i64 0, .string ⟨#[]⟩, .slice none 0 0, .int .i64 0] 32) = X := ⟨_, rfl⟩
  have HX : Bx X w.heap.size 68 #[.pointer (some ⟨p, 0, none⟩)] := by rw [← hX]; exact (Bx.new w _ _).below (ballc (Below.refl _ _) _)
  have bX : Below w.heap.size w X := by rw [← hX]; exact ballc (ballc (Below.refl _ _) _) _
  have hp := h.box.lt
  have PA : RdK w X p v v st := RdK.below ⟨h, Kp.refl _ _, rfl⟩ bX
  have HN := hide (tNumber_in PA.rd)
  rw [e1] at HN
  simp only at HN
  have x0 := HX.cell 0 _ rfl
  have xl := HX.lt
  replace PA := hide PA
  have hz : Hid (s1.2 ≠ 0 → takeO st = ((zO, s1.2), s1)) := fun k => by
    rcases takeO_ways e1 (a := _) (s2 := _) rfl (b := _) (s3 := _) rfl (d := _) (e := _) (s4 := _) rfl with ⟨_, e⟩ | ⟨e, _⟩ | ⟨e, _⟩ | ⟨e, _⟩ | ⟨e, _⟩ | ⟨e, _⟩
    · exact e
    all_goals exact absurd e k
  have hz2 : Hid (s1.2 = 0 → (n < 1 ∨ 4 < n) → takeO st = ((zO, 10), s1)) := fun k k2 => by
    rcases takeO_ways e1 (a := _) (s2 := _) rfl (b := _) (s3 := _) rfl (d := _) (e := _) (s4 := _) rfl with ⟨e, _⟩ | ⟨_, _, e⟩ | ⟨_, e, _⟩ | ⟨_, e, _⟩ | ⟨_, e, _⟩ | ⟨_, e, _⟩
    · exact absurd k e
    · exact e
    all_goals exact absurd k2 e
  have HK := hide (fun W => kindOf_in ⟨0, 0, [], (n : Nat), 0, 0, 0, 0, ⟨#[]⟩, [], 0⟩ (.slice none 0 0) none 0 0 W)
  unfold opA kv at HK
  simp only at HK
  have fin : ∀ (W : World) (v1 : Value) (err : Int), err ≠ 0 → takeO st = ((zO, err), s1) → RdK w W p v v1 s1 → ∃ vd vg, (Ending.panicked [{ v := .iface 65 (.int .i64 err), recovered := false }]) = up (takeO st).1.2 (opA (takeO st).1.1 vd vg) ∧ OwD W w.heap.size vd (takeO st).1.1.deps ∧ OwR W w.heap.size vg (takeO st).1.1.gone ∧ (∀ k, vd.ownBlock = some k → vg.ownBlock ≠ some k) ∧ ∃ v', Rd W p v' (takeO st).2.1 (takeO st).2.2 ∧ Kp (fun i => i = p) w W ∧ v'.ownBlock = v.ownBlock := by
    intro W v1 err he ht hr
    rw [ht]
    exact ⟨.slice none 0 0, .slice none 0 0, (up_no he _).symm, World.ownsRow_nil _ _ _ _, World.ownsRow_nil _ _ _ _, fun k hk => (by cases hk), v1, hr.rd, hr.kp, hr.own⟩
  replace fin := hide fin
  clear h bX HX e1
  go_enter Tryz.func27, Tryz.ntmps27
  go_wp2_with fail
  refine (unhide HN).mono ?_
  rintro r W1 ⟨rfl, v1, hr, hk, hv⟩
  replace PA := hide ((unhide PA).next hr hk hv)
  clear hr hk hv HN x0 xl hX
  by_cases k1 : s1.2 ≠ 0
  · rw [up_no k1]
    exact ⟨rfl, unhide fin _ _ _ k1 (unhide hz k1) (unhide PA)⟩
  replace k1 : s1.2 = 0 := by simpa using k1
  have kn : n < 1 ∨ 4 < n := by
    rcases hb with h | h
    · exact absurd k1 h
    · exact h
  rw [k1, up_ok]
  rw [if_neg (by omega), if_neg (by omega), if_neg (by omega), if_neg (by omega)] at HK
  have hzz := hide (unhide hz2 k1 kn)
  clear hb hz hz2 kn
  go_wp2_with fail
  refine (unhide HK _).mono ?_
  rintro r W2 ⟨rfl, hb⟩
  replace PA := hide ((unhide PA).below (bnext (ballc (Below.refl _ _) _) hb))
  clear hb
  go_wp2
  exact ⟨rfl, unhide fin _ _ _ (by decide) (unhide hzz) (unhide PA)⟩

set_option maxRecDepth 100000 in
set_option maxHeartbeats 2000000 in
theorem tOp1_in {w : World} {p : Nat} {v : Value} {st s1 : List Nat × Int} (h : Rd w p v st.1 st.2) (hvo : ∀ k, v.ownBlock = some k → k < w.heap.size) (e1 : rNum st.1 st.2 = (1, s1)) (k1 : s1.2 = 0) :
    Calls Tryz.prog 27 #[.agg #[.pointer (some ⟨p, 0, none⟩)]] w fun r W => ∃ vd vg, r = up (takeO st).1.2 (opA (takeO st).1.1 vd vg) ∧ OwD W w.heap.size vd (takeO st).1.1.deps ∧ OwR W w.heap.size vg (takeO st).1.1.gone ∧ (∀ k, vd.ownBlock = some k → vg.ownBlock ≠ some k) ∧ ∃ v', Rd W p v' (takeO st).2.1 (takeO st).2.2 ∧ Kp (fun i => i = p) w W ∧ v'.ownBlock = v.ownBlock := by
  have hp := h.box.lt
  obtain ⟨a, s2, e2⟩ : ∃ a s2, rNum s1.1 s1.2 = (a, s2) := ⟨_, _, rfl⟩
  obtain ⟨b, s3, e3⟩ : ∃ b s3, rNum s2.1 s2.2 = (b, s3) := ⟨_, _, rfl⟩
  obtain ⟨d, e, s4, e4⟩ : ∃ d e s4, takeV s3 = ((d, e), s4) := ⟨_, _, _, rfl⟩
  have ha : in64 (a : Int) := by have := rNum64 s1.1 s1.2; rw [e2] at this; exact this
  have hb : in64 (b : Int) := by have := rNum64 s2.1 s2.2; rw [e3] at this; exact this
  have hd : d.length ≤ 140737488355328 := by have := takeV_len s3; rw [e4] at this; simp at this; omega
  have HW := hide (takeO_ways e1 e2 e3 e4)
  have hm := (ins_meth Tryz.underlying81).2.2.2.2
  have hmf := (ins_meth Tryz.underlying81).1
  have HK := hide (fun W => kindOf_in ⟨0, 0, [], 1, 0, 0, 0, 0, ⟨#[]⟩, [], 0⟩ (.slice none 0 0) none 0 0 W)
  unfold opA kv insA at HK
  simp only [if_true] at HK
  obtain ⟨X, hX⟩ : ∃ X, (w.alloc (.cells #[.pointer (some ⟨p, 0, none⟩)] 68)).alloc (.cells #[.int .i64 0, .int .i64 0, .slice none 0 0, .int .i64 0, .int .i64 0, .int .i64 0, .int .i64 0, .int .i64 0, .string ⟨#[]⟩, .slice none 0 0, .int .i64 0] 32) = X := ⟨_, rfl⟩
  have HX : Bx X w.heap.size 68 #[.pointer (some ⟨p, 0, none⟩)] := by rw [← hX]; exact (Bx.new w _ _).below (ballc (Below.refl _ _) _)
  have HR : Bx X (w.heap.size + 1) 32 #[.int .i64 0, .int .i64 0, .slice none 0 0, .int .i64 0, .int .i64 0, .int .i64 0, .int .i64 0, .int .i64 0, .string ⟨#[]⟩, .slice none 0 0, .int .i64 0] := by
    rw [← hX]
    have := Bx.new (w.alloc (.cells #[.pointer (some ⟨p, 0, none⟩)] 68)) 32 #[.int .i64 0, .int .i64 0, .slice none 0 0, .int .i64 0, .int .i64 0, .int .i64 0, .int .i64 0, .int .i64 0, .string ⟨#[]⟩, .slice none 0 0, .int .i64 0]
    rw [World.size_alloc] at this
    exact this
  have bX : Below w.heap.size w X := by rw [← hX]; exact ballc (ballc (Below.refl _ _) _) _
  have PA : RdK w X p v v st := RdK.below ⟨h, Kp.refl _ _, rfl⟩ bX
  have HN := hide (tNumber_in PA.rd)
  rw [e1] at HN
  simp only at HN
  have x0 := HX.cell 0 _ rfl
  have xl := HX.lt
  replace HX := hide HX
  replace HR := hide HR
  replace PA := hide PA
  have Hv := hide hvo
  replace e2 := hide e2
  replace e3 := hide e3
  replace e4 := hide e4
  have fin : ∀ (W : World) (v1 : Value) (err : Int) (sx : List Nat × Int), err ≠ 0 → takeO st = ((zO, err), sx) → RdK w W p v v1 sx → ∃ vd vg, (Ending.panicked [{ v := .iface 65 (.int .i64 err), recovered := false }]) = up (takeO st).1.2 (opA (takeO st).1.1 vd vg) ∧ OwD W w.heap.size vd (takeO st).1.1.deps ∧ OwR W w.heap.size vg (takeO st).1.1.gone ∧ (∀ k, vd.ownBlock = some k → vg.ownBlock ≠ some k) ∧ ∃ v', Rd W p v' (takeO st).2.1 (takeO st).2.2 ∧ Kp (fun i => i = p) w W ∧ v'.ownBlock = v.ownBlock := by
    intro W v1 err sx he ht hr
    rw [ht]
    exact ⟨.slice none 0 0, .slice none 0 0, (up_no he _).symm, World.ownsRow_nil _ _ _ _, World.ownsRow_nil _ _ _ _, fun k hk => (by cases hk), v1, hr.rd, hr.kp, hr.own⟩
  replace fin := hide fin
  have kn : ¬ (1 < 1 ∨ 4 < 1) := by decide
  clear h bX e1 hvo
  obtain ⟨TT, hTT⟩ : ∃ T, takeO st = T := ⟨_, rfl⟩
  rw [hTT] at HW fin ⊢
  clear hTT
  go_enter Tryz.func27, Tryz.ntmps27
  go_wp2_with fail
  refine (unhide HN).mono ?_
  rintro r W1 ⟨rfl, v1, hr, hk, hv⟩
  replace PA := hide ((unhide PA).next hr hk hv)
  replace HX := hide ((unhide HX).kp hk (by omega))
  replace HR := hide ((unhide HR).kp hk (by omega))
  clear hr hk hv HN x0 xl hX
  rw [k1, up_ok]
  go_wp2_with fail
  refine (unhide HK _).mono ?_
  rintro r W2 ⟨rfl, hb2⟩
  have b2 := bnext (ballc (Below.refl W1.heap.size W1) (.cells #[.int .i64 0, .int .i64 0, .slice none 0 0, .int .i64 1, .int .i64 0, .int .i64 0, .int .i64 0, .int .i64 0, .string ⟨#[]⟩, .slice none 0 0, .int .i64 0] 32)) hb2
  obtain ⟨Bo, hBo⟩ : ∃ B, W1.heap.size = B := ⟨_, rfl⟩
  have OS : Hid (OpS w W2 p Bo v v1 #[.int .i64 0, .int .i64 0, .slice none 0 0, .int .i64 1, .int .i64 0, .int .i64 0, .int .i64 0, .int .i64 0, .string ⟨#[]⟩, .slice none 0 0, .int .i64 0] s1) := ⟨(unhide PA).below b2, (unhide HX).below b2, (unhide HR).below b2, by rw [← hBo]; exact (Bx.new W1 32 #[.int .i64 0, .int .i64 0, .slice none 0 0, .int .i64 1, .int .i64 0, .int .i64 0, .int .i64 0, .int .i64 0, .string ⟨#[]⟩, .slice none 0 0, .int .i64 0]).below hb2, hp, by have := (unhide HR).lt; omega, unhide Hv⟩
  rw [hBo]
  have hle : w.heap.size + 2 ≤ Bo := by have := (unhide HR).lt; omega
  replace hBo := hide hBo
  clear PA HX HR b2 hb2 HK
  have tk0 := (unhide OS).tk.cell 0 _ rfl
  have HN := hide (tNumber_in (unhide OS).rd.rd)
  rw [unhide e2] at HN
  simp only at HN
  go_wp2_with fail
  refine (unhide HN).mono ?_
  rintro r W3 ⟨rfl, v2, hr, hk, hv⟩
  replace OS := hide ((unhide OS).next hr hk hv)
  clear hr hk hv HN tk0
  by_cases k2 : s2.2 ≠ 0
  · have hh : Hid (TT = ((zO, s2.2), s2)) := by
      rcases unhide HW with ⟨e, _⟩ | ⟨_, e, _⟩ | ⟨_, _, _, e⟩ | ⟨_, _, e, _⟩ | ⟨_, _, e, _⟩ | ⟨_, _, e, _⟩
      · exact absurd k1 e
      · exact absurd e kn
      · exact e
      all_goals exact absurd e k2
    rw [up_no k2]
    exact ⟨rfl, unhide fin _ _ _ _ k2 (unhide hh) (unhide OS).rd⟩
  replace k2 : s2.2 = 0 := by simpa using k2
  rw [k2, up_ok]
  have b0 := (unhide OS).bx.cell 0 _ rfl
  have bf := (unhide OS).bx.frozen 0
  obtain ⟨Y2, hY2⟩ : ∃ Y, W3.setCell ⟨Bo, 0, none⟩ (.int .i64 (a : Nat)) = Y := ⟨_, rfl⟩
  replace OS : Hid (OpS w Y2 p Bo v v2 #[.int .i64 (a : Nat), .int .i64 0, .slice none 0 0, .int .i64 1, .int .i64 0, .int .i64 0, .int .i64 0, .int .i64 0, .string ⟨#[]⟩, .slice none 0 0, .int .i64 0] s2) := by rw [← hY2]; exact hide (by simpa using (unhide OS).set 0 (.int .i64 (a : Nat)))
  have tk0 := (unhide OS).tk.cell 0 _ rfl
  have HN := hide (tNumber_in (unhide OS).rd.rd)
  rw [unhide e3] at HN
  simp only at HN
  go_wp2_with fail
  refine (unhide HN).mono ?_
  rintro r W4 ⟨rfl, v3, hr, hk, hv⟩
  replace OS := hide ((unhide OS).next hr hk hv)
  clear hr hk hv HN tk0
  by_cases k3 : s3.2 ≠ 0
  · have hh : Hid (TT = ((zO, s3.2), s3)) := by
      rcases unhide HW with ⟨e, _⟩ | ⟨_, e, _⟩ | ⟨_, _, e, _⟩ | ⟨_, _, _, _, e⟩ | ⟨_, _, _, e, _⟩ | ⟨_, _, _, e, _⟩
      · exact absurd k1 e
      · exact absurd e kn
      · exact absurd k2 e
      · exact e
      all_goals exact absurd e k3
    rw [up_no k3]
    exact ⟨rfl, unhide fin _ _ _ _ k3 (unhide hh) (unhide OS).rd⟩
  replace k3 : s3.2 = 0 := by simpa using k3
  rw [k3, up_ok]
  have b0 := (unhide OS).bx.cell 1 _ rfl
  have bf := (unhide OS).bx.frozen 1
  obtain ⟨Y3, hY3⟩ : ∃ Y, W4.setCell ⟨Bo, 1, none⟩ (.int .i64 (b : Nat)) = Y := ⟨_, rfl⟩
  replace OS : Hid (OpS w Y3 p Bo v v3 #[.int .i64 (a : Nat), .int .i64 (b : Nat), .slice none 0 0, .int .i64 1, .int .i64 0, .int .i64 0, .int .i64 0, .int .i64 0, .string ⟨#[]⟩, .slice none 0 0, .int .i64 0] s3) := by rw [← hY3]; exact hide (by simpa using (unhide OS).set 1 (.int .i64 (b : Nat)))
  clear hY2
  have HY3 := hide (show Bo < Y3.heap.size from (unhide OS).bx.lt)
  have tk0 := (unhide OS).tk.cell 0 _ rfl
  have HN := hide (tVector_in (unhide OS).rd.rd)
  rw [unhide e4] at HN
  simp only at HN
  go_wp2_with fail
  refine (unhide HN).mono ?_
  rintro r W5 ⟨u, rfl, ho, v4, hr, hk, hv⟩
  replace OS := hide ((unhide OS).next hr hk hv)
  clear hr hk hv HN tk0 hY3 b0 bf
  by_cases k4 : e ≠ 0
  · have hh : Hid (TT = ((zO, e), s4)) := by
      rcases unhide HW with ⟨e, _⟩ | ⟨_, e, _⟩ | ⟨_, _, e, _⟩ | ⟨_, _, _, e, _⟩ | ⟨_, _, _, _, _, e⟩ | ⟨_, _, _, _, e, _⟩
      · exact absurd k1 e
      · exact absurd e kn
      · exact absurd k2 e
      · exact absurd k3 e
      · exact e
      · exact absurd e k4
    rw [up_no k4]
    exact ⟨rfl, unhide fin _ _ _ _ k4 (unhide hh) (unhide OS).rd⟩
  replace k4 : e = 0 := by simpa using k4
  have hh : Hid (TT = takeK 1 a b d s4) := by
    rcases unhide HW with ⟨e, _⟩ | ⟨_, e, _⟩ | ⟨_, _, e, _⟩ | ⟨_, _, _, e, _⟩ | ⟨_, _, _, _, e, _⟩ | ⟨_, _, _, _, _, e⟩
    · exact absurd k1 e
    · exact absurd e kn
    · exact absurd k2 e
    · exact absurd k3 e
    · exact absurd k4 e
    · exact e
  rw [k4, up_ok]
  obtain ⟨ad, cd, rfl⟩ := ho.form
  have b0 := (unhide OS).bx.cell 2 _ rfl
  have bf := (unhide OS).bx.frozen 2
  obtain ⟨Y4, hY4⟩ : ∃ Y, W5.setCell ⟨Bo, 2, none⟩ (.slice ad d.length cd) = Y := ⟨_, rfl⟩
  have hoB : ∀ i, (Value.slice ad d.length cd).ownBlock = some i → Y3.heap.size ≤ i := fun i hi => (ho.lt i hi).1
  have HO : Hid (OwD Y4 Y3.heap.size (.slice ad d.length cd) d) := by
    rw [← hY4]
    exact owns_kp (N := fun k => k = Bo) ho (Kp.set _ _ _ rfl) (fun i hi e => by have := hoB i hi; have := (unhide OS).bx.lt; have := unhide HY3; omega)
  replace OS : Hid (OpS w Y4 p Bo v v4 #[.int .i64 (a : Nat), .int .i64 (b : Nat), .slice ad d.length cd, .int .i64 1, .int .i64 0, .int .i64 0, .int .i64 0, .int .i64 0, .string ⟨#[]⟩, .slice none 0 0, .int .i64 0] s4) := by rw [← hY4]; exact hide (by simpa using (unhide OS).set 2 (.slice ad d.length cd))
  have tk0 := (unhide OS).tk.cell 0 _ rfl
  have bo0 := (unhide OS).bx.cell 0 _ rfl
  clear ho
  have hvo4 : ∀ k, v4.ownBlock = some k → k < Y4.heap.size := fun k hk => Nat.lt_of_lt_of_le (unhide Hv k (by rw [← (unhide OS).rd.own]; exact hk)) (unhide OS).rd.kp.size
  replace hoB := hide hoB
  have HT := hide (insTake_in (a : Nat) (unhide OS).rd.rd hvo4)
  have hqi := tkI_in s4 (unhide OS).rd.rd.small
  obtain ⟨q, s5, hq⟩ : ∃ q s5, tkI s4 = (q, s5) := ⟨_, _, rfl⟩
  have hq1 : in64 q.1.1.1.1 ∧ in64 q.1.1.1.2 ∧ in64 q.1.1.2 ∧ q.1.2.size ≤ 140737488355328 := by
    rw [hq] at hqi
    exact ⟨hqi.1.1.1, hqi.1.1.2, hqi.1.2, Nat.le_trans hqi.2 (unhide OS).rd.rd.small⟩
  clear hqi
  rw [hq] at HT
  simp only at HT
  have hs5 : Hid (TT = if q.2 ≠ 0 then ((zO, q.2), s5) else finO ⟨a, b, d, 1, q.1.1.1.1, a, q.1.1.1.2, q.1.1.2, q.1.2, [], 0⟩ s5) := by rw [unhide hh]; unfold takeK; simp only [if_true]; rw [hq]; rfl
  clear hq hh
  go_wp2_with fail
  refine (unhide HT).mono ?_
  rintro r W6 ⟨rfl, v5, hr, hk, hv⟩
  have hdY : ∀ i, (Value.slice ad d.length cd).ownBlock = some i → i < Y4.heap.size := fun i hi => ((unhide HO).lt i hi).2
  replace HO := hide (owns_kp (unhide HO) hk (fun i hi e => (by have := unhide hoB i hi; have := unhide HY3; have := (unhide OS).lt; have := (unhide OS).le; omega)))
  replace OS := hide ((unhide OS).next hr hk hv)
  clear hr hk hv HT hY4 tk0 bo0 b0 bf hvo4
  by_cases k5 : q.2 ≠ 0
  · rw [if_pos k5] at hs5
    rw [up_no k5]
    exact ⟨rfl, unhide fin _ _ _ _ k5 (unhide hs5) (unhide OS).rd⟩
  rw [if_neg k5] at hs5
  replace k5 : q.2 = 0 := by simpa using k5
  rw [k5, up_ok]
  have HF := hide (insFill_in q.1.1.1.1 (a : Nat) q.1.1.1.2 q.1.1.2 q.1.2 _ _ _ _ _ _ _ _ _ _ _ (unhide OS).bx)
  go_wp2_with fail
  refine (unhide HF).mono ?_
  rintro r W7 ⟨rfl, hB7, hk7⟩
  replace HO := hide (owns_kp (unhide HO) hk7 (fun i hi e => (by have := unhide hoB i hi; have := unhide HY3; omega)))
  replace OS := hide ((unhide OS).kpB hk7 hB7)
  clear hB7 hk7 HF
  have HI : InO ⟨a, b, d, 1, q.1.1.1.1, a, q.1.1.1.2, q.1.1.2, q.1.2, [], 0⟩ := ⟨ha, hb, (show in64 1 from ⟨by decide, by decide⟩), hq1.1, ha, hq1.2.1, hq1.2.2.1, in64_0, hd, hq1.2.2.2, fun r hr => (by cases hr), by simp⟩
  have HC := hide (OCheck_in ⟨a, b, d, 1, q.1.1.1.1, a, q.1.1.1.2, q.1.1.2, q.1.2, [], 0⟩ (.slice ad d.length cd) (.slice none 0 0) W7 (OwD.row (unhide HO)) (show RR W7 (.slice none 0 0) [] from .inl ⟨rfl, _, _, rfl⟩) HI)
  unfold opA at HC
  simp only at HC
  obtain ⟨x0, x1, x2, x3, x4, x5, x6, x7, x8, x9, x10⟩ := cells_op (unhide OS).bx
  clear HI
  go_wp2_with fail
  refine (unhide HC).mono ?_
  rintro r W8 ⟨rfl, hb8⟩
  replace HO := hide (owns_kp (N := fun _ => False) (unhide HO) (Kp.of_below hb8) (fun _ _ e => e))
  replace OS := hide ((unhide OS).below hb8)
  clear hb8 HC x0 x1 x2 x3 x4 x5 x6 x7 x8 x9 x10
  have HM := hide (must_in (chkO ⟨a, b, d, 1, q.1.1.1.1, a, q.1.1.1.2, q.1.1.2, q.1.2, [], 0⟩) W8)
  go_wp2_with fail
  refine (unhide HM).mono ?_
  rintro r W9 ⟨rfl, rfl⟩
  unfold finO at hs5
  by_cases hok : okO ⟨a, b, d, 1, q.1.1.1.1, a, q.1.1.1.2, q.1.1.2, q.1.2, [], 0⟩ = true
  · have hc : chkO ⟨a, b, d, 1, q.1.1.1.1, a, q.1.1.1.2, q.1.1.2, q.1.2, [], 0⟩ = 0 := by unfold chkO; rw [if_pos hok]
    rw [if_pos hok] at hs5
    rw [hc, up_ok]
    obtain ⟨x0, x1, x2, x3, x4, x5, x6, x7, x8, x9, x10⟩ := cells_op (unhide OS).bx
    obtain ⟨y0, y1, y2, y3, y4, y5, y6, y7, y8, y9, y10⟩ := cells_op (unhide OS).rs
    have f0 := (unhide OS).rs.frozen 0
    have f1 := (unhide OS).rs.frozen 1
    have f2 := (unhide OS).rs.frozen 2
    have f3 := (unhide OS).rs.frozen 3
    have f4 := (unhide OS).rs.frozen 4
    have f5 := (unhide OS).rs.frozen 5
    have f6 := (unhide OS).rs.frozen 6
    have f7 := (unhide OS).rs.frozen 7
    have f8 := (unhide OS).rs.frozen 8
    have f9 := (unhide OS).rs.frozen 9
    have f10 := (unhide OS).rs.frozen 10
    have RS := hide (Bx.set11 (x0 := .int .i64 (a : Nat)) (x1 := .int .i64 (b : Nat)) (x2 := .slice ad d.length cd) (x3 := .int .i64 1) (x4 := .int .i64 q.1.1.1.1) (x5 := .int .i64 (a : Nat)) (x6 := .int .i64 q.1.1.1.2) (x7 := .int .i64 q.1.1.2) (x8 := .string q.1.2) (x9 := .slice none 0 0) (x10 := .int .i64 0) (unhide OS).rs)
    have KS := hide (Kp.set11 W8 (w.heap.size + 1) (.int .i64 (a : Nat)) (.int .i64 (b : Nat)) (.slice ad d.length cd) (.int .i64 1) (.int .i64 q.1.1.1.1) (.int .i64 (a : Nat)) (.int .i64 q.1.1.1.2) (.int .i64 q.1.1.2) (.string q.1.2) (.slice none 0 0) (.int .i64 0))
    have RD := hide (show Rd _ p v5 s5.1 s5.2 from (unhide OS).rd.rd.kp (unhide KS) (by have := (unhide OS).lt; omega) (fun i hi e => (by have := (unhide OS).vo i (by rw [← (unhide OS).rd.own]; exact hi); omega)))
    have KK := hide ((unhide OS).rd.kp.trans (unhide KS) (fun i e => .inr (by omega)))
    replace HO := hide (owns_kp (unhide HO) (unhide KS) (fun i hi e => (by have := unhide hoB i hi; have := unhide HY3; omega)))
    go_wp2
    refine bodyPost_ret (results_cell_row rfl _ _ (w.heap.size + 1) _ _ _ _ rfl (unhide RS) Tryz.underlying32 rfl sizeO) rfl ?_
    refine ⟨.slice ad d.length cd, .slice none 0 0, by rw [unhide hs5]; rfl, by rw [unhide hs5]; exact OwD.base (unhide HO) (by have := unhide HY3; omega), by rw [unhide hs5]; exact World.ownsRow_nil _ _ _ _, fun i hi e => (by cases e), v5, by rw [unhide hs5]; exact unhide RD, unhide KK, (unhide OS).rd.own⟩
  · have hc : chkO ⟨a, b, d, 1, q.1.1.1.1, a, q.1.1.1.2, q.1.1.2, q.1.2, [], 0⟩ = 10 := by unfold chkO; rw [if_neg hok]
    rw [if_neg hok] at hs5
    rw [hc, up_no (by decide)]
    exact ⟨rfl, unhide fin _ _ _ _ (by decide) (unhide hs5) (unhide OS).rd⟩

set_option maxRecDepth 100000 in
set_option maxHeartbeats 2000000 in
theorem tOp2_in {w : World} {p : Nat} {v : Value} {st s1 : List Nat × Int} (h : Rd w p v st.1 st.2) (hvo : ∀ k, v.ownBlock = some k → k < w.heap.size) (e1 : rNum st.1 st.2 = (2, s1)) (k1 : s1.2 = 0) :
    Calls Tryz.prog 27 #[.agg #[.pointer (some ⟨p, 0, none⟩)]] w fun r W => ∃ vd vg, r = up (takeO st).1.2 (opA (takeO st).1.1 vd vg) ∧ OwD W w.heap.size vd (takeO st).1.1.deps ∧ OwR W w.heap.size vg (takeO st).1.1.gone ∧ (∀ k, vd.ownBlock = some k → vg.ownBlock ≠ some k) ∧ ∃ v', Rd W p v' (takeO st).2.1 (takeO st).2.2 ∧ Kp (fun i => i = p) w W ∧ v'.ownBlock = v.ownBlock := by
  have hp := h.box.lt
  obtain ⟨a, s2, e2⟩ : ∃ a s2, rNum s1.1 s1.2 = (a, s2) := ⟨_, _, rfl⟩
  obtain ⟨b, s3, e3⟩ : ∃ b s3, rNum s2.1 s2.2 = (b, s3) := ⟨_, _, rfl⟩
  obtain ⟨d, e, s4, e4⟩ : ∃ d e s4, takeV s3 = ((d, e), s4) := ⟨_, _, _, rfl⟩
  have ha : in64 (a : Int) := by have := rNum64 s1.1 s1.2; rw [e2] at this; exact this
  have hb : in64 (b : Int) := by have := rNum64 s2.1 s2.2; rw [e3] at this; exact this
  have hd : d.length ≤ 140737488355328 := by have := takeV_len s3; rw [e4] at this; simp at this; omega
  have HW := hide (takeO_ways e1 e2 e3 e4)
  have hm := (del_meth Tryz.underlying81).2.2.2.2
  have hmf := (del_meth Tryz.underlying81).1
  have HK := hide (fun W => kindOf_in ⟨0, 0, [], 2, 0, 0, 0, 0, ⟨#[]⟩, [], 0⟩ (.slice none 0 0) none 0 0 W)
  unfold opA kv insA at HK
  simp only [show ¬ ((2 : Int) = 1) by decide, if_false, if_true] at HK
  obtain ⟨X, hX⟩ : ∃ X, (w.alloc (.cells #[.pointer (some ⟨p, 0, none⟩)] 68)).alloc (.cells #[.int .i64 0, .int .i64 0, .slice none 0 0, .int .i64 0, .int .i64 0, .int .i64 0, .int .i64 0, .int .i64 0, .string ⟨#[]⟩, .slice none 0 0, .int .i64 0] 32) = X := ⟨_, rfl⟩
  have HX : Bx X w.heap.size 68 #[.pointer (some ⟨p, 0, none⟩)] := by rw [← hX]; exact (Bx.new w _ _).below (ballc (Below.refl _ _) _)
  have HR : Bx X (w.heap.size + 1) 32 #[.int .i64 0, .int .i64 0, .slice none 0 0, .int .i64 0, .int .i64 0, .int .i64 0, .int .i64 0, .int .i64 0, .string ⟨#[]⟩, .slice none 0 0, .int .i64 0] := by
    rw [← hX]
    have := Bx.new (w.alloc (.cells #[.pointer (some ⟨p, 0, none⟩)] 68)) 32 #[.int .i64 0, .int .i64 0, .slice none 0 0, .int .i64 0, .int .i64 0, .int .i64 0, .int .i64 0, .int .i64 0, .string ⟨#[]⟩, .slice none 0 0, .int .i64 0]
    rw [World.size_alloc] at this
    exact this
  have bX : Below w.heap.size w X := by rw [← hX]; exact ballc (ballc (Below.refl _ _) _) _
  have PA : RdK w X p v v st := RdK.below ⟨h, Kp.refl _ _, rfl⟩ bX
  have HN := hide (tNumber_in PA.rd)
  rw [e1] at HN
  simp only at HN
  have x0 := HX.cell 0 _ rfl
  have xl := HX.lt
  replace HX := hide HX
  replace HR := hide HR
  replace PA := hide PA
  have Hv := hide hvo
  replace e2 := hide e2
  replace e3 := hide e3
  replace e4 := hide e4
  have fin : ∀ (W : World) (v1 : Value) (err : Int) (sx : List Nat × Int), err ≠ 0 → takeO st = ((zO, err), sx) → RdK w W p v v1 sx → ∃ vd vg, (Ending.panicked [{ v := .iface 65 (.int .i64 err), recovered := false }]) = up (takeO st).1.2 (opA (takeO st).1.1 vd vg) ∧ OwD W w.heap.size vd (takeO st).1.1.deps ∧ OwR W w.heap.size vg (takeO st).1.1.gone ∧ (∀ k, vd.ownBlock = some k → vg.ownBlock ≠ some k) ∧ ∃ v', Rd W p v' (takeO st).2.1 (takeO st).2.2 ∧ Kp (fun i => i = p) w W ∧ v'.ownBlock = v.ownBlock := by
    intro W v1 err sx he ht hr
    rw [ht]
    exact ⟨.slice none 0 0, .slice none 0 0, (up_no he _).symm, World.ownsRow_nil _ _ _ _, World.ownsRow_nil _ _ _ _, fun k hk => (by cases hk), v1, hr.rd, hr.kp, hr.own⟩
  replace fin := hide fin
  have kn : ¬ (2 < 1 ∨ 4 < 2) := by decide
  clear h bX e1 hvo
  obtain ⟨TT, hTT⟩ : ∃ T, takeO st = T := ⟨_, rfl⟩
  rw [hTT] at HW fin ⊢
  clear hTT
  go_enter Tryz.func27, Tryz.ntmps27
  go_wp2_with fail
  refine (unhide HN).mono ?_
  rintro r W1 ⟨rfl, v1, hr, hk, hv⟩
  replace PA := hide ((unhide PA).next hr hk hv)
  replace HX := hide ((unhide HX).kp hk (by omega))
  replace HR := hide ((unhide HR).kp hk (by omega))
  clear hr hk hv HN x0 xl hX
  rw [k1, up_ok]
  go_wp2_with fail
  refine (unhide HK _).mono ?_
  rintro r W2 ⟨rfl, hb2⟩
  have b2 := bnext (ballc (Below.refl W1.heap.size W1) (.cells #[.int .i64 0, .int .i64 0, .slice none 0 0, .int .i64 2, .int .i64 0, .int .i64 0, .int .i64 0, .int .i64 0, .string ⟨#[]⟩, .slice none 0 0, .int .i64 0] 32)) hb2
  obtain ⟨Bo, hBo⟩ : ∃ B, W1.heap.size = B := ⟨_, rfl⟩
  have OS : Hid (OpS w W2 p Bo v v1 #[.int .i64 0, .int .i64 0, .slice none 0 0, .int .i64 2, .int .i64 0, .int .i64 0, .int .i64 0, .int .i64 0, .string ⟨#[]⟩, .slice none 0 0, .int .i64 0] s1) := ⟨(unhide PA).below b2, (unhide HX).below b2, (unhide HR).below b2, by rw [← hBo]; exact (Bx.new W1 32 #[.int .i64 0, .int .i64 0, .slice none 0 0, .int .i64 2, .int .i64 0, .int .i64 0, .int .i64 0, .int .i64 0, .string ⟨#[]⟩, .slice none 0 0, .int .i64 0]).below hb2, hp, by have := (unhide HR).lt; omega, unhide Hv⟩
  rw [hBo]
  have hle : w.heap.size + 2 ≤ Bo := by have := (unhide HR).lt; omega
  replace hBo := hide hBo
  clear PA HX HR b2 hb2 HK
  have tk0 := (unhide OS).tk.cell 0 _ rfl
  have HN := hide (tNumber_in (unhide OS).rd.rd)
  rw [unhide e2] at HN
  simp only at HN
  go_wp2_with fail
  refine (unhide HN).mono ?_
  rintro r W3 ⟨rfl, v2, hr, hk, hv⟩
  replace OS := hide ((unhide OS).next hr hk hv)
  clear hr hk hv HN tk0
  by_cases k2 : s2.2 ≠ 0
  · have hh : Hid (TT = ((zO, s2.2), s2)) := by
      rcases unhide HW with ⟨e, _⟩ | ⟨_, e, _⟩ | ⟨_, _, _, e⟩ | ⟨_, _, e, _⟩ | ⟨_, _, e, _⟩ | ⟨_, _, e, _⟩
      · exact absurd k1 e
      · exact absurd e kn
      · exact e
      all_goals exact absurd e k2
    rw [up_no k2]
    exact ⟨rfl, unhide fin _ _ _ _ k2 (unhide hh) (unhide OS).rd⟩
  replace k2 : s2.2 = 0 := by simpa using k2
  rw [k2, up_ok]
  have b0 := (unhide OS).bx.cell 0 _ rfl
  have bf := (unhide OS).bx.frozen 0
  obtain ⟨Y2, hY2⟩ : ∃ Y, W3.setCell ⟨Bo, 0, none⟩ (.int .i64 (a : Nat)) = Y := ⟨_, rfl⟩
  replace OS : Hid (OpS w Y2 p Bo v v2 #[.int .i64 (a : Nat), .int .i64 0, .slice none 0 0, .int .i64 2, .int .i64 0, .int .i64 0, .int .i64 0, .int .i64 0, .string ⟨#[]⟩, .slice none 0 0, .int .i64 0] s2) := by rw [← hY2]; exact hide (by simpa using (unhide OS).set 0 (.int .i64 (a : Nat)))
  have tk0 := (unhide OS).tk.cell 0 _ rfl
  have HN := hide (tNumber_in (unhide OS).rd.rd)
  rw [unhide e3] at HN
  simp only at HN
  go_wp2_with fail
  refine (unhide HN).mono ?_
  rintro r W4 ⟨rfl, v3, hr, hk, hv⟩
  replace OS := hide ((unhide OS).next hr hk hv)
  clear hr hk hv HN tk0
  by_cases k3 : s3.2 ≠ 0
  · have hh : Hid (TT = ((zO, s3.2), s3)) := by
      rcases unhide HW with ⟨e, _⟩ | ⟨_, e, _⟩ | ⟨_, _, e, _⟩ | ⟨_, _, _, _, e⟩ | ⟨_, _, _, e, _⟩ | ⟨_, _, _, e, _⟩
      · exact absurd k1 e
      · exact absurd e kn
      · exact absurd k2 e
      · exact e
      all_goals exact absurd e k3
    rw [up_no k3]
    exact ⟨rfl, unhide fin _ _ _ _ k3 (unhide hh) (unhide OS).rd⟩
  replace k3 : s3.2 = 0 := by simpa using k3
  rw [k3, up_ok]
  have b0 := (unhide OS).bx.cell 1 _ rfl
  have bf := (unhide OS).bx.frozen 1
  obtain ⟨Y3, hY3⟩ : ∃ Y, W4.setCell ⟨Bo, 1, none⟩ (.int .i64 (b : Nat)) = Y := ⟨_, rfl⟩
  replace OS : Hid (OpS w Y3 p Bo v v3 #[.int .i64 (a : Nat), .int .i64 (b : Nat), .slice none 0 0, .int .i64 2, .int .i64 0, .int .i64 0, .int .i64 0, .int .i64 0, .string ⟨#[]⟩, .slice none 0 0, .int .i64 0] s3) := by rw [← hY3]; exact hide (by simpa using (unhide OS).set 1 (.int .i64 (b : Nat)))
  clear hY2
  have HY3 := hide (show Bo < Y3.heap.size from (unhide OS).bx.lt)
  have tk0 := (unhide OS).tk.cell 0 _ rfl
  have HN := hide (tVector_in (unhide OS).rd.rd)
  rw [unhide e4] at HN
  simp only at HN
  go_wp2_with fail
  refine (unhide HN).mono ?_
  rintro r W5 ⟨u, rfl, ho, v4, hr, hk, hv⟩
  replace OS := hide ((unhide OS).next hr hk hv)
  clear hr hk hv HN tk0 hY3 b0 bf
  by_cases k4 : e ≠ 0
  · have hh : Hid (TT = ((zO, e), s4)) := by
      rcases unhide HW with ⟨e, _⟩ | ⟨_, e, _⟩ | ⟨_, _, e, _⟩ | ⟨_, _, _, e, _⟩ | ⟨_, _, _, _, _, e⟩ | ⟨_, _, _, _, e, _⟩
      · exact absurd k1 e
      · exact absurd e kn
      · exact absurd k2 e
      · exact absurd k3 e
      · exact e
      · exact absurd e k4
    rw [up_no k4]
    exact ⟨rfl, unhide fin _ _ _ _ k4 (unhide hh) (unhide OS).rd⟩
  replace k4 : e = 0 := by simpa using k4
  have hh : Hid (TT = takeK 2 a b d s4) := by
    rcases unhide HW with ⟨e, _⟩ | ⟨_, e, _⟩ | ⟨_, _, e, _⟩ | ⟨_, _, _, e, _⟩ | ⟨_, _, _, _, e, _⟩ | ⟨_, _, _, _, _, e⟩
    · exact absurd k1 e
    · exact absurd e kn
    · exact absurd k2 e
    · exact absurd k3 e
    · exact absurd k4 e
    · exact e
  rw [k4, up_ok]
  obtain ⟨ad, cd, rfl⟩ := ho.form
  have b0 := (unhide OS).bx.cell 2 _ rfl
  have bf := (unhide OS).bx.frozen 2
  obtain ⟨Y4, hY4⟩ : ∃ Y, W5.setCell ⟨Bo, 2, none⟩ (.slice ad d.length cd) = Y := ⟨_, rfl⟩
  have hoB : ∀ i, (Value.slice ad d.length cd).ownBlock = some i → Y3.heap.size ≤ i := fun i hi => (ho.lt i hi).1
  have HO : Hid (OwD Y4 Y3.heap.size (.slice ad d.length cd) d) := by
    rw [← hY4]
    exact owns_kp (N := fun k => k = Bo) ho (Kp.set _ _ _ rfl) (fun i hi e => by have := hoB i hi; have := (unhide OS).bx.lt; have := unhide HY3; omega)
  replace OS : Hid (OpS w Y4 p Bo v v4 #[.int .i64 (a : Nat), .int .i64 (b : Nat), .slice ad d.length cd, .int .i64 2, .int .i64 0, .int .i64 0, .int .i64 0, .int .i64 0, .string ⟨#[]⟩, .slice none 0 0, .int .i64 0] s4) := by rw [← hY4]; exact hide (by simpa using (unhide OS).set 2 (.slice ad d.length cd))
  have tk0 := (unhide OS).tk.cell 0 _ rfl
  have bo0 := (unhide OS).bx.cell 0 _ rfl
  clear ho
  have hvo4 : ∀ k, v4.ownBlock = some k → k < Y4.heap.size := fun k hk => Nat.lt_of_lt_of_le (unhide Hv k (by rw [← (unhide OS).rd.own]; exact hk)) (unhide OS).rd.kp.size
  replace hoB := hide hoB
  have HT := hide (delTake_in (a : Nat) (unhide OS).rd.rd hvo4)
  have hqi := tkD_in s4
  obtain ⟨q, s5, hq⟩ : ∃ q s5, tkD s4 = (q, s5) := ⟨_, _, rfl⟩
  have hq1 : (∀ r ∈ q.1, runIn r) ∧ q.1.length ≤ 1024 := by rw [hq] at hqi; exact hqi
  clear hqi
  rw [hq] at HT
  simp only at HT
  have hs5 : Hid (TT = if q.2 ≠ 0 then ((zO, q.2), s5) else finO ⟨a, b, d, 2, 0, 0, 0, 0, ⟨#[]⟩, q.1, 0⟩ s5) := by rw [unhide hh]; unfold takeK; simp only [show ¬ ((2 : Nat) = 1) by decide, if_false, if_true]; rw [hq]; rfl
  clear hq hh
  go_wp2_with fail
  refine (unhide HT).mono ?_
  rintro r W6 ⟨u, rfl, hg, v5, hr, hk, hv⟩
  have hdY : ∀ i, (Value.slice ad d.length cd).ownBlock = some i → i < Y4.heap.size := fun i hi => ((unhide HO).lt i hi).2
  replace HO := hide (owns_kp (unhide HO) hk (fun i hi e => (by have := unhide hoB i hi; have := unhide HY3; have := (unhide OS).lt; have := (unhide OS).le; omega)))
  have hY4s : Bo < Y4.heap.size := (unhide OS).bx.lt
  replace OS := hide ((unhide OS).next hr hk hv)
  clear hr hk hv HT hY4 tk0 bo0 b0 bf hvo4
  by_cases k5 : q.2 ≠ 0
  · rw [if_pos k5] at hs5
    rw [up_no k5]
    exact ⟨rfl, unhide fin _ _ _ _ k5 (unhide hs5) (unhide OS).rd⟩
  rw [if_neg k5] at hs5
  replace k5 : q.2 = 0 := by simpa using k5
  rw [k5, up_ok]
  obtain ⟨ag, cg, rfl⟩ := hg.form
  have HG := hide hg
  have hgB : ∀ i, (Value.slice ag q.1.length cg).ownBlock = some i → Y4.heap.size ≤ i := fun i hi => (hg.lt i hi).1
  replace hgB := hide hgB
  clear hg
  have HF := hide (delFill_in ag q.1.length cg _ _ _ _ _ _ _ _ _ _ _ (unhide OS).bx)
  go_wp2_with fail
  refine (unhide HF).mono ?_
  rintro r W7 ⟨rfl, hB7, hk7⟩
  replace HO := hide (owns_kp (unhide HO) hk7 (fun i hi e => (by have := unhide hoB i hi; have := unhide HY3; omega)))
  replace HG := hide (owns_kp (unhide HG) hk7 (fun i hi e => (by have := unhide hgB i hi; omega)))
  replace OS := hide ((unhide OS).kpB hk7 hB7)
  clear hB7 hk7 HF
  have HI : InO ⟨a, b, d, 2, 0, 0, 0, 0, ⟨#[]⟩, q.1, 0⟩ := ⟨ha, hb, (show in64 2 from ⟨by decide, by decide⟩), in64_0, in64_0, in64_0, in64_0, in64_0, hd, by simp [ByteArray.size], hq1.1, by have := hq1.2; show q.1.length ≤ _; omega⟩
  have HC := hide (OCheck_in ⟨a, b, d, 2, 0, 0, 0, 0, ⟨#[]⟩, q.1, 0⟩ (.slice ad d.length cd) (.slice ag q.1.length cg) W7 (OwD.row (unhide HO)) (OwR.row (unhide HG)) HI)
  unfold opA at HC
  simp only at HC
  obtain ⟨x0, x1, x2, x3, x4, x5, x6, x7, x8, x9, x10⟩ := cells_op (unhide OS).bx
  clear HI
  go_wp2_with fail
  refine (unhide HC).mono ?_
  rintro r W8 ⟨rfl, hb8⟩
  replace HO := hide (owns_kp (N := fun _ => False) (unhide HO) (Kp.of_below hb8) (fun _ _ e => e))
  replace HG := hide (owns_kp (N := fun _ => False) (unhide HG) (Kp.of_below hb8) (fun _ _ e => e))
  replace OS := hide ((unhide OS).below hb8)
  clear hb8 HC x0 x1 x2 x3 x4 x5 x6 x7 x8 x9 x10
  have HM := hide (must_in (chkO ⟨a, b, d, 2, 0, 0, 0, 0, ⟨#[]⟩, q.1, 0⟩) W8)
  go_wp2_with fail
  refine (unhide HM).mono ?_
  rintro r W9 ⟨rfl, rfl⟩
  unfold finO at hs5
  by_cases hok : okO ⟨a, b, d, 2, 0, 0, 0, 0, ⟨#[]⟩, q.1, 0⟩ = true
  · have hc : chkO ⟨a, b, d, 2, 0, 0, 0, 0, ⟨#[]⟩, q.1, 0⟩ = 0 := by unfold chkO; rw [if_pos hok]
    rw [if_pos hok] at hs5
    rw [hc, up_ok]
    obtain ⟨x0, x1, x2, x3, x4, x5, x6, x7, x8, x9, x10⟩ := cells_op (unhide OS).bx
    obtain ⟨y0, y1, y2, y3, y4, y5, y6, y7, y8, y9, y10⟩ := cells_op (unhide OS).rs
    have f0 := (unhide OS).rs.frozen 0
    have f1 := (unhide OS).rs.frozen 1
    have f2 := (unhide OS).rs.frozen 2
    have f3 := (unhide OS).rs.frozen 3
    have f4 := (unhide OS).rs.frozen 4
    have f5 := (unhide OS).rs.frozen 5
    have f6 := (unhide OS).rs.frozen 6
    have f7 := (unhide OS).rs.frozen 7
    have f8 := (unhide OS).rs.frozen 8
    have f9 := (unhide OS).rs.frozen 9
    have f10 := (unhide OS).rs.frozen 10
    have RS := hide (Bx.set11 (x0 := .int .i64 (a : Nat)) (x1 := .int .i64 (b : Nat)) (x2 := .slice ad d.length cd) (x3 := .int .i64 2) (x4 := .int .i64 0) (x5 := .int .i64 0) (x6 := .int .i64 0) (x7 := .int .i64 0) (x8 := .string ⟨#[]⟩) (x9 := .slice ag q.1.length cg) (x10 := .int .i64 0) (unhide OS).rs)
    have KS := hide (Kp.set11 W8 (w.heap.size + 1) (.int .i64 (a : Nat)) (.int .i64 (b : Nat)) (.slice ad d.length cd) (.int .i64 2) (.int .i64 0) (.int .i64 0) (.int .i64 0) (.int .i64 0) (.string ⟨#[]⟩) (.slice ag q.1.length cg) (.int .i64 0))
    have RD := hide (show Rd _ p v5 s5.1 s5.2 from (unhide OS).rd.rd.kp (unhide KS) (by have := (unhide OS).lt; omega) (fun i hi e => (by have := (unhide OS).vo i (by rw [← (unhide OS).rd.own]; exact hi); omega)))
    have KK := hide ((unhide OS).rd.kp.trans (unhide KS) (fun i e => .inr (by omega)))
    replace HO := hide (owns_kp (unhide HO) (unhide KS) (fun i hi e => (by have := unhide hoB i hi; have := unhide HY3; omega)))
    replace HG := hide (owns_kp (unhide HG) (unhide KS) (fun i hi e => (by have := unhide hgB i hi; have := hY4s; omega)))
    go_wp2
    refine bodyPost_ret (results_cell_row rfl _ _ (w.heap.size + 1) _ _ _ _ rfl (unhide RS) Tryz.underlying32 rfl sizeO) rfl ?_
    refine ⟨.slice ad d.length cd, .slice ag q.1.length cg, by rw [unhide hs5]; rfl, by rw [unhide hs5]; exact OwD.base (unhide HO) (by have := unhide HY3; omega), by rw [unhide hs5]; exact OwR.base (unhide HG) (by have := hY4s; omega), fun i hi e => (by have := unhide hgB i e; have := hdY i hi; omega), v5, by rw [unhide hs5]; exact unhide RD, unhide KK, (unhide OS).rd.own⟩
  · have hc : chkO ⟨a, b, d, 2, 0, 0, 0, 0, ⟨#[]⟩, q.1, 0⟩ = 10 := by unfold chkO; rw [if_neg hok]
    rw [if_neg hok] at hs5
    rw [hc, up_no (by decide)]
    exact ⟨rfl, unhide fin _ _ _ _ (by decide) (unhide hs5) (unhide OS).rd⟩

set_option maxRecDepth 100000 in
set_option maxHeartbeats 2000000 in
theorem tOp3_in {w : World} {p : Nat} {v : Value} {st s1 : List Nat × Int} (h : Rd w p v st.1 st.2) (hvo : ∀ k, v.ownBlock = some k → k < w.heap.size) (e1 : rNum st.1 st.2 = (3, s1)) (k1 : s1.2 = 0) :
    Calls Tryz.prog 27 #[.agg #[.pointer (some ⟨p, 0, none⟩)]] w fun r W => ∃ vd vg, r = up (takeO st).1.2 (opA (takeO st).1.1 vd vg) ∧ OwD W w.heap.size vd (takeO st).1.1.deps ∧ OwR W w.heap.size vg (takeO st).1.1.gone ∧ (∀ k, vd.ownBlock = some k → vg.ownBlock ≠ some k) ∧ ∃ v', Rd W p v' (takeO st).2.1 (takeO st).2.2 ∧ Kp (fun i => i = p) w W ∧ v'.ownBlock = v.ownBlock := by
  have hp := h.box.lt
  obtain ⟨a, s2, e2⟩ : ∃ a s2, rNum s1.1 s1.2 = (a, s2) := ⟨_, _, rfl⟩
  obtain ⟨b, s3, e3⟩ : ∃ b s3, rNum s2.1 s2.2 = (b, s3) := ⟨_, _, rfl⟩
  obtain ⟨d, e, s4, e4⟩ : ∃ d e s4, takeV s3 = ((d, e), s4) := ⟨_, _, _, rfl⟩
  have ha : in64 (a : Int) := by have := rNum64 s1.1 s1.2; rw [e2] at this; exact this
  have hb : in64 (b : Int) := by have := rNum64 s2.1 s2.2; rw [e3] at this; exact this
  have hd : d.length ≤ 140737488355328 := by have := takeV_len s3; rw [e4] at this; simp at this; omega
  have HW := hide (takeO_ways e1 e2 e3 e4)
  have hm := (joi_meth Tryz.underlying81).2.2.2.2
  have hmf := (joi_meth Tryz.underlying81).1
  have HK := hide (fun W => kindOf_in ⟨0, 0, [], 3, 0, 0, 0, 0, ⟨#[]⟩, [], 0⟩ (.slice none 0 0) none 0 0 W)
  unfold opA kv insA at HK
  simp only [show ¬ ((3 : Int) = 1) by decide, show ¬ ((3 : Int) = 2) by decide, if_false, if_true] at HK
  obtain ⟨X, hX⟩ : ∃ X, (w.alloc (.cells #[.pointer (some ⟨p, 0, none⟩)] 68)).alloc (.cells #[.int .i64 0, .int .i64 0, .slice none 0 0, .int .i64 0, .int .i64 0, .int .i64 0, .int .i64 0, .int .i64 0, .string ⟨#[]⟩, .slice none 0 0, .int .i64 0] 32) = X := ⟨_, rfl⟩
  have HX : Bx X w.heap.size 68 #[.pointer (some ⟨p, 0, none⟩)] := by rw [← hX]; exact (Bx.new w _ _).below (ballc (Below.refl _ _) _)
  have HR : Bx X (w.heap.size + 1) 32 #[.int .i64 0, .int .i64 0, .slice none 0 0, .int .i64 0, .int .i64 0, .int .i64 0, .int .i64 0, .int .i64 0, .string ⟨#[]⟩, .slice none 0 0, .int .i64 0] := by
    rw [← hX]
    have := Bx.new (w.alloc (.cells #[.pointer (some ⟨p, 0, none⟩)] 68)) 32 #[.int .i64 0, .int .i64 0, .slice none 0 0, .int .i64 0, .int .i64 0, .int .i64 0, .int .i64 0, .int .i64 0, .string ⟨#[]⟩, .slice none 0 0, .int .i64 0]
    rw [World.size_alloc] at this
    exact this
  have bX : Below w.heap.size w X := by rw [← hX]; exact ballc (ballc (Below.refl _ _) _) _
  have PA : RdK w X p v v st := RdK.below ⟨h, Kp.refl _ _, rfl⟩ bX
  have HN := hide (tNumber_in PA.rd)
  rw [e1] at HN
  simp only at HN
  have x0 := HX.cell 0 _ rfl
  have xl := HX.lt
  replace HX := hide HX
  replace HR := hide HR
  replace PA := hide PA
  have Hv := hide hvo
  replace e2 := hide e2
  replace e3 := hide e3
  replace e4 := hide e4
  have fin : ∀ (W : World) (v1 : Value) (err : Int) (sx : List Nat × Int), err ≠ 0 → takeO st = ((zO, err), sx) → RdK w W p v v1 sx → ∃ vd vg, (Ending.panicked [{ v := .iface 65 (.int .i64 err), recovered := false }]) = up (takeO st).1.2 (opA (takeO st).1.1 vd vg) ∧ OwD W w.heap.size vd (takeO st).1.1.deps ∧ OwR W w.heap.size vg (takeO st).1.1.gone ∧ (∀ k, vd.ownBlock = some k → vg.ownBlock ≠ some k) ∧ ∃ v', Rd W p v' (takeO st).2.1 (takeO st).2.2 ∧ Kp (fun i => i = p) w W ∧ v'.ownBlock = v.ownBlock := by
    intro W v1 err sx he ht hr
    rw [ht]
    exact ⟨.slice none 0 0, .slice none 0 0, (up_no he _).symm, World.ownsRow_nil _ _ _ _, World.ownsRow_nil _ _ _ _, fun k hk => (by cases hk), v1, hr.rd, hr.kp, hr.own⟩
  replace fin := hide fin
  have kn : ¬ (3 < 1 ∨ 4 < 3) := by decide
  clear h bX e1 hvo
  obtain ⟨TT, hTT⟩ : ∃ T, takeO st = T := ⟨_, rfl⟩
  rw [hTT] at HW fin ⊢
  clear hTT
  go_enter Tryz.func27, Tryz.ntmps27
  go_wp2_with fail
  refine (unhide HN).mono ?_
  rintro r W1 ⟨rfl, v1, hr, hk, hv⟩
  replace PA := hide ((unhide PA).next hr hk hv)
  replace HX := hide ((unhide HX).kp hk (by omega))
  replace HR := hide ((unhide HR).kp hk (by omega))
  clear hr hk hv HN x0 xl hX
  rw [k1, up_ok]
  go_wp2_with fail
  refine (unhide HK _).mono ?_
  rintro r W2 ⟨rfl, hb2⟩
  have b2 := bnext (ballc (Below.refl W1.heap.size W1) (.cells #[.int .i64 0, .int .i64 0, .slice none 0 0, .int .i64 3, .int .i64 0, .int .i64 0, .int .i64 0, .int .i64 0, .string ⟨#[]⟩, .slice none 0 0, .int .i64 0] 32)) hb2
  obtain ⟨Bo, hBo⟩ : ∃ B, W1.heap.size = B := ⟨_, rfl⟩
  have OS : Hid (OpS w W2 p Bo v v1 #[.int .i64 0, .int .i64 0, .slice none 0 0, .int .i64 3, .int .i64 0, .int .i64 0, .int .i64 0, .int .i64 0, .string ⟨#[]⟩, .slice none 0 0, .int .i64 0] s1) := ⟨(unhide PA).below b2, (unhide HX).below b2, (unhide HR).below b2, by rw [← hBo]; exact (Bx.new W1 32 #[.int .i64 0, .int .i64 0, .slice none 0 0, .int .i64 3, .int .i64 0, .int .i64 0, .int .i64 0, .int .i64 0, .string ⟨#[]⟩, .slice none 0 0, .int .i64 0]).below hb2, hp, by have := (unhide HR).lt; omega, unhide Hv⟩
  rw [hBo]
  have hle : w.heap.size + 2 ≤ Bo := by have := (unhide HR).lt; omega
  replace hBo := hide hBo
  clear PA HX HR b2 hb2 HK
  have tk0 := (unhide OS).tk.cell 0 _ rfl
  have HN := hide (tNumber_in (unhide OS).rd.rd)
  rw [unhide e2] at HN
  simp only at HN
  go_wp2_with fail
  refine (unhide HN).mono ?_
  rintro r W3 ⟨rfl, v2, hr, hk, hv⟩
  replace OS := hide ((unhide OS).next hr hk hv)
  clear hr hk hv HN tk0
  by_cases k2 : s2.2 ≠ 0
  · have hh : Hid (TT = ((zO, s2.2), s2)) := by
      rcases unhide HW with ⟨e, _⟩ | ⟨_, e, _⟩ | ⟨_, _, _, e⟩ | ⟨_, _, e, _⟩ | ⟨_, _, e, _⟩ | ⟨_, _, e, _⟩
      · exact absurd k1 e
      · exact absurd e kn
      · exact e
      all_goals exact absurd e k2
    rw [up_no k2]
    exact ⟨rfl, unhide fin _ _ _ _ k2 (unhide hh) (unhide OS).rd⟩
  replace k2 : s2.2 = 0 := by simpa using k2
  rw [k2, up_ok]
  have b0 := (unhide OS).bx.cell 0 _ rfl
  have bf := (unhide OS).bx.frozen 0
  obtain ⟨Y2, hY2⟩ : ∃ Y, W3.setCell ⟨Bo, 0, none⟩ (.int .i64 (a : Nat)) = Y := ⟨_, rfl⟩
  replace OS : Hid (OpS w Y2 p Bo v v2 #[.int .i64 (a : Nat), .int .i64 0, .slice none 0 0, .int .i64 3, .int .i64 0, .int .i64 0, .int .i64 0, .int .i64 0, .string ⟨#[]⟩, .slice none 0 0, .int .i64 0] s2) := by rw [← hY2]; exact hide (by simpa using (unhide OS).set 0 (.int .i64 (a : Nat)))
  have tk0 := (unhide OS).tk.cell 0 _ rfl
  have HN := hide (tNumber_in (unhide OS).rd.rd)
  rw [unhide e3] at HN
  simp only at HN
  go_wp2_with fail
  refine (unhide HN).mono ?_
  rintro r W4 ⟨rfl, v3, hr, hk, hv⟩
  replace OS := hide ((unhide OS).next hr hk hv)
  clear hr hk hv HN tk0
  by_cases k3 : s3.2 ≠ 0
  · have hh : Hid (TT = ((zO, s3.2), s3)) := by
      rcases unhide HW with ⟨e, _⟩ | ⟨_, e, _⟩ | ⟨_, _, e, _⟩ | ⟨_, _, _, _, e⟩ | ⟨_, _, _, e, _⟩ | ⟨_, _, _, e, _⟩
      · exact absurd k1 e
      · exact absurd e kn
      · exact absurd k2 e
      · exact e
      all_goals exact absurd e k3
    rw [up_no k3]
    exact ⟨rfl, unhide fin _ _ _ _ k3 (unhide hh) (unhide OS).rd⟩
  replace k3 : s3.2 = 0 := by simpa using k3
  rw [k3, up_ok]
  have b0 := (unhide OS).bx.cell 1 _ rfl
  have bf := (unhide OS).bx.frozen 1
  obtain ⟨Y3, hY3⟩ : ∃ Y, W4.setCell ⟨Bo, 1, none⟩ (.int .i64 (b : Nat)) = Y := ⟨_, rfl⟩
  replace OS : Hid (OpS w Y3 p Bo v v3 #[.int .i64 (a : Nat), .int .i64 (b : Nat), .slice none 0 0, .int .i64 3, .int .i64 0, .int .i64 0, .int .i64 0, .int .i64 0, .string ⟨#[]⟩, .slice none 0 0, .int .i64 0] s3) := by rw [← hY3]; exact hide (by simpa using (unhide OS).set 1 (.int .i64 (b : Nat)))
  clear hY2
  have HY3 := hide (show Bo < Y3.heap.size from (unhide OS).bx.lt)
  have tk0 := (unhide OS).tk.cell 0 _ rfl
  have HN := hide (tVector_in (unhide OS).rd.rd)
  rw [unhide e4] at HN
  simp only at HN
  go_wp2_with fail
  refine (unhide HN).mono ?_
  rintro r W5 ⟨u, rfl, ho, v4, hr, hk, hv⟩
  replace OS := hide ((unhide OS).next hr hk hv)
  clear hr hk hv HN tk0 hY3 b0 bf
  by_cases k4 : e ≠ 0
  · have hh : Hid (TT = ((zO, e), s4)) := by
      rcases unhide HW with ⟨e, _⟩ | ⟨_, e, _⟩ | ⟨_, _, e, _⟩ | ⟨_, _, _, e, _⟩ | ⟨_, _, _, _, _, e⟩ | ⟨_, _, _, _, e, _⟩
      · exact absurd k1 e
      · exact absurd e kn
      · exact absurd k2 e
      · exact absurd k3 e
      · exact e
      · exact absurd e k4
    rw [up_no k4]
    exact ⟨rfl, unhide fin _ _ _ _ k4 (unhide hh) (unhide OS).rd⟩
  replace k4 : e = 0 := by simpa using k4
  have hh : Hid (TT = takeK 3 a b d s4) := by
    rcases unhide HW with ⟨e, _⟩ | ⟨_, e, _⟩ | ⟨_, _, e, _⟩ | ⟨_, _, _, e, _⟩ | ⟨_, _, _, _, e, _⟩ | ⟨_, _, _, _, _, e⟩
    · exact absurd k1 e
    · exact absurd e kn
    · exact absurd k2 e
    · exact absurd k3 e
    · exact absurd k4 e
    · exact e
  rw [k4, up_ok]
  obtain ⟨ad, cd, rfl⟩ := ho.form
  have b0 := (unhide OS).bx.cell 2 _ rfl
  have bf := (unhide OS).bx.frozen 2
  obtain ⟨Y4, hY4⟩ : ∃ Y, W5.setCell ⟨Bo, 2, none⟩ (.slice ad d.length cd) = Y := ⟨_, rfl⟩
  have hoB : ∀ i, (Value.slice ad d.length cd).ownBlock = some i → Y3.heap.size ≤ i := fun i hi => (ho.lt i hi).1
  have HO : Hid (OwD Y4 Y3.heap.size (.slice ad d.length cd) d) := by
    rw [← hY4]
    exact owns_kp (N := fun k => k = Bo) ho (Kp.set _ _ _ rfl) (fun i hi e => by have := hoB i hi; have := (unhide OS).bx.lt; have := unhide HY3; omega)
  replace OS : Hid (OpS w Y4 p Bo v v4 #[.int .i64 (a : Nat), .int .i64 (b : Nat), .slice ad d.length cd, .int .i64 3, .int .i64 0, .int .i64 0, .int .i64 0, .int .i64 0, .string ⟨#[]⟩, .slice none 0 0, .int .i64 0] s4) := by rw [← hY4]; exact hide (by simpa using (unhide OS).set 2 (.slice ad d.length cd))
  have tk0 := (unhide OS).tk.cell 0 _ rfl
  have bo0 := (unhide OS).bx.cell 0 _ rfl
  clear ho
  have hvo4 : ∀ k, v4.ownBlock = some k → k < Y4.heap.size := fun k hk => Nat.lt_of_lt_of_le (unhide Hv k (by rw [← (unhide OS).rd.own]; exact hk)) (unhide OS).rd.kp.size
  replace hoB := hide hoB
  have HT := hide (joinTake_in (a : Nat) (unhide OS).rd.rd)
  have hqi := rNum64 s4.1 s4.2
  obtain ⟨q, s5, hq⟩ : ∃ q s5, rNum s4.1 s4.2 = (q, s5) := ⟨_, _, rfl⟩
  have hq1 : in64 (q : Int) := by rw [hq] at hqi; exact hqi
  clear hqi
  rw [hq] at HT
  simp only at HT
  have hs5 : Hid (TT = if s5.2 ≠ 0 then ((zO, s5.2), s5) else finO ⟨a, b, d, 3, 0, 0, 0, 0, ⟨#[]⟩, [], q⟩ s5) := by rw [unhide hh]; unfold takeK; simp only [show ¬ ((3 : Nat) = 1) by decide, show ¬ ((3 : Nat) = 2) by decide, if_false, if_true]; rw [hq]; rfl
  clear hq hh
  go_wp2_with fail
  refine (unhide HT).mono ?_
  rintro r W6 ⟨rfl, v5, hr, hk, hv⟩
  have hdY : ∀ i, (Value.slice ad d.length cd).ownBlock = some i → i < Y4.heap.size := fun i hi => ((unhide HO).lt i hi).2
  replace HO := hide (owns_kp (unhide HO) hk (fun i hi e => (by have := unhide hoB i hi; have := unhide HY3; have := (unhide OS).lt; have := (unhide OS).le; omega)))
  replace OS := hide ((unhide OS).next hr hk hv)
  clear hr hk hv HT hY4 tk0 bo0 b0 bf hvo4
  by_cases k5 : s5.2 ≠ 0
  · rw [if_pos k5] at hs5
    rw [up_no k5]
    exact ⟨rfl, unhide fin _ _ _ _ k5 (unhide hs5) (unhide OS).rd⟩
  rw [if_neg k5] at hs5
  replace k5 : s5.2 = 0 := by simpa using k5
  rw [k5, up_ok]
  have HF := hide (joinFill_in (q : Nat) _ _ _ _ _ _ _ _ _ _ _ (unhide OS).bx)
  go_wp2_with fail
  refine (unhide HF).mono ?_
  rintro r W7 ⟨rfl, hB7, hk7⟩
  replace HO := hide (owns_kp (unhide HO) hk7 (fun i hi e => (by have := unhide hoB i hi; have := unhide HY3; omega)))
  replace OS := hide ((unhide OS).kpB hk7 hB7)
  clear hB7 hk7 HF
  have HI : InO ⟨a, b, d, 3, 0, 0, 0, 0, ⟨#[]⟩, [], q⟩ := ⟨ha, hb, (show in64 3 from ⟨by decide, by decide⟩), in64_0, in64_0, in64_0, in64_0, hq1, hd, by simp [ByteArray.size], fun r hr => (by cases hr), by simp⟩
  have HC := hide (OCheck_in ⟨a, b, d, 3, 0, 0, 0, 0, ⟨#[]⟩, [], q⟩ (.slice ad d.length cd) (.slice none 0 0) W7 (OwD.row (unhide HO)) (show RR W7 (.slice none 0 0) [] from .inl ⟨rfl, _, _, rfl⟩) HI)
  unfold opA at HC
  simp only at HC
  obtain ⟨x0, x1, x2, x3, x4, x5, x6, x7, x8, x9, x10⟩ := cells_op (unhide OS).bx
  clear HI
  go_wp2_with fail
  refine (unhide HC).mono ?_
  rintro r W8 ⟨rfl, hb8⟩
  replace HO := hide (owns_kp (N := fun _ => False) (unhide HO) (Kp.of_below hb8) (fun _ _ e => e))
  replace OS := hide ((unhide OS).below hb8)
  clear hb8 HC x0 x1 x2 x3 x4 x5 x6 x7 x8 x9 x10
  have HM := hide (must_in (chkO ⟨a, b, d, 3, 0, 0, 0, 0, ⟨#[]⟩, [], q⟩) W8)
  go_wp2_with fail
  refine (unhide HM).mono ?_
  rintro r W9 ⟨rfl, rfl⟩
  unfold finO at hs5
  by_cases hok : okO ⟨a, b, d, 3, 0, 0, 0, 0, ⟨#[]⟩, [], q⟩ = true
  · have hc : chkO ⟨a, b, d, 3, 0, 0, 0, 0, ⟨#[]⟩, [], q⟩ = 0 := by unfold chkO; rw [if_pos hok]
    rw [if_pos hok] at hs5
    rw [hc, up_ok]
    obtain ⟨x0, x1, x2, x3, x4, x5, x6, x7, x8, x9, x10⟩ := cells_op (unhide OS).bx
    obtain ⟨y0, y1, y2, y3, y4, y5, y6, y7, y8, y9, y10⟩ := cells_op (unhide OS).rs
    have f0 := (unhide OS).rs.frozen 0
    have f1 := (unhide OS).rs.frozen 1
    have f2 := (unhide OS).rs.frozen 2
    have f3 := (unhide OS).rs.frozen 3
    have f4 := (unhide OS).rs.frozen 4
    have f5 := (unhide OS).rs.frozen 5
    have f6 := (unhide OS).rs.frozen 6
    have f7 := (unhide OS).rs.frozen 7
    have f8 := (unhide OS).rs.frozen 8
    have f9 := (unhide OS).rs.frozen 9
    have f10 := (unhide OS).rs.frozen 10
    have RS := hide (Bx.set11 (x0 := .int .i64 (a : Nat)) (x1 := .int .i64 (b : Nat)) (x2 := .slice ad d.length cd) (x3 := .int .i64 3) (x4 := .int .i64 0) (x5 := .int .i64 0) (x6 := .int .i64 0) (x7 := .int .i64 0) (x8 := .string ⟨#[]⟩) (x9 := .slice none 0 0) (x10 := .int .i64 (q : Nat)) (unhide OS).rs)
    have KS := hide (Kp.set11 W8 (w.heap.size + 1) (.int .i64 (a : Nat)) (.int .i64 (b : Nat)) (.slice ad d.length cd) (.int .i64 3) (.int .i64 0) (.int .i64 0) (.int .i64 0) (.int .i64 0) (.string ⟨#[]⟩) (.slice none 0 0) (.int .i64 (q : Nat)))
    have RD := hide (show Rd _ p v5 s5.1 s5.2 from (unhide OS).rd.rd.kp (unhide KS) (by have := (unhide OS).lt; omega) (fun i hi e => (by have := (unhide OS).vo i (by rw [← (unhide OS).rd.own]; exact hi); omega)))
    have KK := hide ((unhide OS).rd.kp.trans (unhide KS) (fun i e => .inr (by omega)))
    replace HO := hide (owns_kp (unhide HO) (unhide KS) (fun i hi e => (by have := unhide hoB i hi; have := unhide HY3; omega)))
    go_wp2
    refine bodyPost_ret (results_cell_row rfl _ _ (w.heap.size + 1) _ _ _ _ rfl (unhide RS) Tryz.underlying32 rfl sizeO) rfl ?_
    refine ⟨.slice ad d.length cd, .slice none 0 0, by rw [unhide hs5]; rfl, by rw [unhide hs5]; exact OwD.base (unhide HO) (by have := unhide HY3; omega), by rw [unhide hs5]; exact World.ownsRow_nil _ _ _ _, fun i hi e => (by cases e), v5, by rw [unhide hs5]; exact unhide RD, unhide KK, (unhide OS).rd.own⟩
  · have hc : chkO ⟨a, b, d, 3, 0, 0, 0, 0, ⟨#[]⟩, [], q⟩ = 10 := by unfold chkO; rw [if_neg hok]
    rw [if_neg hok] at hs5
    rw [hc, up_no (by decide)]
    exact ⟨rfl, unhide fin _ _ _ _ (by decide) (unhide hs5) (unhide OS).rd⟩

set_option maxRecDepth 100000 in
set_option maxHeartbeats 2000000 in
theorem tOp4_in {w : World} {p : Nat} {v : Value} {st s1 : List Nat × Int} (h : Rd w p v st.1 st.2) (hvo : ∀ k, v.ownBlock = some k → k < w.heap.size) (e1 : rNum st.1 st.2 = (4, s1)) (k1 : s1.2 = 0) :
    Calls Tryz.prog 27 #[.agg #[.pointer (some ⟨p, 0, none⟩)]] w fun r W => ∃ vd vg, r = up (takeO st).1.2 (opA (takeO st).1.1 vd vg) ∧ OwD W w.heap.size vd (takeO st).1.1.deps ∧ OwR W w.heap.size vg (takeO st).1.1.gone ∧ (∀ k, vd.ownBlock = some k → vg.ownBlock ≠ some k) ∧ ∃ v', Rd W p v' (takeO st).2.1 (takeO st).2.2 ∧ Kp (fun i => i = p) w W ∧ v'.ownBlock = v.ownBlock := by
  have hp := h.box.lt
  obtain ⟨a, s2, e2⟩ : ∃ a s2, rNum s1.1 s1.2 = (a, s2) := ⟨_, _, rfl⟩
  obtain ⟨b, s3, e3⟩ : ∃ b s3, rNum s2.1 s2.2 = (b, s3) := ⟨_, _, rfl⟩
  obtain ⟨d, e, s4, e4⟩ : ∃ d e s4, takeV s3 = ((d, e), s4) := ⟨_, _, _, rfl⟩
  have ha : in64 (a : Int) := by have := rNum64 s1.1 s1.2; rw [e2] at this; exact this
  have hb : in64 (b : Int) := by have := rNum64 s2.1 s2.2; rw [e3] at this; exact this
  have hd : d.length ≤ 140737488355328 := by have := takeV_len s3; rw [e4] at this; simp at this; omega
  have HW := hide (takeO_ways e1 e2 e3 e4)
  have hm := (lea_meth Tryz.underlying81).2.2.2.2
  have hmf := (lea_meth Tryz.underlying81).1
  have HK := hide (fun W => kindOf_in ⟨0, 0, [], 4, 0, 0, 0, 0, ⟨#[]⟩, [], 0⟩ (.slice none 0 0) none 0 0 W)
  unfold opA kv insA at HK
  simp only [show ¬ ((4 : Int) = 1) by decide, show ¬ ((4 : Int) = 2) by decide, show ¬ ((4 : Int) = 3) by decide, if_false, if_true] at HK
  obtain ⟨X, hX⟩ : ∃ X, (w.alloc (.cells #[.pointer (some ⟨p, 0, none⟩)] 68)).alloc (.cells #[.int .i64 0, .int .i64 0, .slice none 0 0, .int .i64 0, .int .i64 0, .int .i64 0, .int .i64 0, .int .i64 0, .string ⟨#[]⟩, .slice none 0 0, .int .i64 0] 32) = X := ⟨_, rfl⟩
  have HX : Bx X w.heap.size 68 #[.pointer (some ⟨p, 0, none⟩)] := by rw [← hX]; exact (Bx.new w _ _).below (ballc (Below.refl _ _) _)
  have HR : Bx X (w.heap.size + 1) 32 #[.int .i64 0, .int .i64 0, .slice none 0 0, .int .i64 0, .int .i64 0, .int .i64 0, .int .i64 0, .int .i64 0, .string ⟨#[]⟩, .slice none 0 0, .int .i64 0] := by
    rw [← hX]
    have := Bx.new (w.alloc (.cells #[.pointer (some ⟨p, 0, none⟩)] 68)) 32 #[.int .i64 0, .int .i64 0, .slice none 0 0, .int .i64 0, .int .i64 0, .int .i64 0, .int .i64 0, .int .i64 0, .string ⟨#[]⟩, .slice none 0 0, .int .i64 0]
    rw [World.size_alloc] at this
    exact this
  have bX : Below w.heap.size w X := by rw [← hX]; exact ballc (ballc (Below.refl _ _) _) _
  have PA : RdK w X p v v st := RdK.below ⟨h, Kp.refl _ _, rfl⟩ bX
  have HN := hide (tNumber_in PA.rd)
  rw [e1] at HN
  simp only at HN
  have x0 := HX.cell 0 _ rfl
  have xl := HX.lt
  replace HX := hide HX
  replace HR := hide HR
  replace PA := hide PA
  have Hv := hide hvo
  replace e2 := hide e2
  replace e3 := hide e3
  replace e4 := hide e4
  have fin : ∀ (W : World) (v1 : Value) (err : Int) (sx : List Nat × Int), err ≠ 0 → takeO st = ((zO, err), sx) → RdK w W p v v1 sx → ∃ vd vg, (Ending.panicked [{ v := .iface 65 (.int .i64 err), recovered := false }]) = up (takeO st).1.2 (opA (takeO st).1.1 vd vg) ∧ OwD W w.heap.size vd (takeO st).1.1.deps ∧ OwR W w.heap.size vg (takeO st).1.1.gone ∧ (∀ k, vd.ownBlock = some k → vg.ownBlock ≠ some k) ∧ ∃ v', Rd W p v' (takeO st).2.1 (takeO st).2.2 ∧ Kp (fun i => i = p) w W ∧ v'.ownBlock = v.ownBlock := by
    intro W v1 err sx he ht hr
    rw [ht]
    exact ⟨.slice none 0 0, .slice none 0 0, (up_no he _).symm, World.ownsRow_nil _ _ _ _, World.ownsRow_nil _ _ _ _, fun k hk => (by cases hk), v1, hr.rd, hr.kp, hr.own⟩
  replace fin := hide fin
  have kn : ¬ (4 < 1 ∨ 4 < 4) := by decide
  clear h bX e1 hvo
  obtain ⟨TT, hTT⟩ : ∃ T, takeO st = T := ⟨_, rfl⟩
  rw [hTT] at HW fin ⊢
  clear hTT
  go_enter Tryz.func27, Tryz.ntmps27
  go_wp2_with fail
  refine (unhide HN).mono ?_
  rintro r W1 ⟨rfl, v1, hr, hk, hv⟩
  replace PA := hide ((unhide PA).next hr hk hv)
  replace HX := hide ((unhide HX).kp hk (by omega))
  replace HR := hide ((unhide HR).kp hk (by omega))
  clear hr hk hv HN x0 xl hX
  rw [k1, up_ok]
  go_wp2_with fail
  refine (unhide HK _).mono ?_
  rintro r W2 ⟨rfl, hb2⟩
  have b2 := bnext (ballc (Below.refl W1.heap.size W1) (.cells #[.int .i64 0, .int .i64 0, .slice none 0 0, .int .i64 4, .int .i64 0, .int .i64 0, .int .i64 0, .int .i64 0, .string ⟨#[]⟩, .slice none 0 0, .int .i64 0] 32)) hb2
  obtain ⟨Bo, hBo⟩ : ∃ B, W1.heap.size = B := ⟨_, rfl⟩
  have OS : Hid (OpS w W2 p Bo v v1 #[.int .i64 0, .int .i64 0, .slice none 0 0, .int .i64 4, .int .i64 0, .int .i64 0, .int .i64 0, .int .i64 0, .string ⟨#[]⟩, .slice none 0 0, .int .i64 0] s1) := ⟨(unhide PA).below b2, (unhide HX).below b2, (unhide HR).below b2, by rw [← hBo]; exact (Bx.new W1 32 #[.int .i64 0, .int .i64 0, .slice none 0 0, .int .i64 4, .int .i64 0, .int .i64 0, .int .i64 0, .int .i64 0, .string ⟨#[]⟩, .slice none 0 0, .int .i64 0]).below hb2, hp, by have := (unhide HR).lt; omega, unhide Hv⟩
  rw [hBo]
  have hle : w.heap.size + 2 ≤ Bo := by have := (unhide HR).lt; omega
  replace hBo := hide hBo
  clear PA HX HR b2 hb2 HK
  have tk0 := (unhide OS).tk.cell 0 _ rfl
  have HN := hide (tNumber_in (unhide OS).rd.rd)
  rw [unhide e2] at HN
  simp only at HN
  go_wp2_with fail
  refine (unhide HN).mono ?_
  rintro r W3 ⟨rfl, v2, hr, hk, hv⟩
  replace OS := hide ((unhide OS).next hr hk hv)
  clear hr hk hv HN tk0
  by_cases k2 : s2.2 ≠ 0
  · have hh : Hid (TT = ((zO, s2.2), s2)) := by
      rcases unhide HW with ⟨e, _⟩ | ⟨_, e, _⟩ | ⟨_, _, _, e⟩ | ⟨_, _, e, _⟩ | ⟨_, _, e, _⟩ | ⟨_, _, e, _⟩
      · exact absurd k1 e
      · exact absurd e kn
      · exact e
      all_goals exact absurd e k2
    rw [up_no k2]
    exact ⟨rfl, unhide fin _ _ _ _ k2 (unhide hh) (unhide OS).rd⟩
  replace k2 : s2.2 = 0 := by simpa using k2
  rw [k2, up_ok]
  have b0 := (unhide OS).bx.cell 0 _ rfl
  have bf := (unhide OS).bx.frozen 0
  obtain ⟨Y2, hY2⟩ : ∃ Y, W3.setCell ⟨Bo, 0, none⟩ (.int .i64 (a : Nat)) = Y := ⟨_, rfl⟩
  replace OS : Hid (OpS w Y2 p Bo v v2 #[.int .i64 (a : Nat), .int .i64 0, .slice none 0 0, .int .i64 4, .int .i64 0, .int .i64 0, .int .i64 0, .int .i64 0, .string ⟨#[]⟩, .slice none 0 0, .int .i64 0] s2) := by rw [← hY2]; exact hide (by simpa using (unhide OS).set 0 (.int .i64 (a : Nat)))
  have tk0 := (unhide OS).tk.cell 0 _ rfl
  have HN := hide (tNumber_in (unhide OS).rd.rd)
  rw [unhide e3] at HN
  simp only at HN
  go_wp2_with fail
  refine (unhide HN).mono ?_
  rintro r W4 ⟨rfl, v3, hr, hk, hv⟩
  replace OS := hide ((unhide OS).next hr hk hv)
  clear hr hk hv HN tk0
  by_cases k3 : s3.2 ≠ 0
  · have hh : Hid (TT = ((zO, s3.2), s3)) := by
      rcases unhide HW with ⟨e, _⟩ | ⟨_, e, _⟩ | ⟨_, _, e, _⟩ | ⟨_, _, _, _, e⟩ | ⟨_, _, _, e, _⟩ | ⟨_, _, _, e, _⟩
      · exact absurd k1 e
      · exact absurd e kn
      · exact absurd k2 e
      · exact e
      all_goals exact absurd e k3
    rw [up_no k3]
    exact ⟨rfl, unhide fin _ _ _ _ k3 (unhide hh) (unhide OS).rd⟩
  replace k3 : s3.2 = 0 := by simpa using k3
  rw [k3, up_ok]
  have b0 := (unhide OS).bx.cell 1 _ rfl
  have bf := (unhide OS).bx.frozen 1
  obtain ⟨Y3, hY3⟩ : ∃ Y, W4.setCell ⟨Bo, 1, none⟩ (.int .i64 (b : Nat)) = Y := ⟨_, rfl⟩
  replace OS : Hid (OpS w Y3 p Bo v v3 #[.int .i64 (a : Nat), .int .i64 (b : Nat), .slice none 0 0, .int .i64 4, .int .i64 0, .int .i64 0, .int .i64 0, .int .i64 0, .string ⟨#[]⟩, .slice none 0 0, .int .i64 0] s3) := by rw [← hY3]; exact hide (by simpa using (unhide OS).set 1 (.int .i64 (b : Nat)))
  clear hY2
  have HY3 := hide (show Bo < Y3.heap.size from (unhide OS).bx.lt)
  have tk0 := (unhide OS).tk.cell 0 _ rfl
  have HN := hide (tVector_in (unhide OS).rd.rd)
  rw [unhide e4] at HN
  simp only at HN
  go_wp2_with fail
  refine (unhide HN).mono ?_
  rintro r W5 ⟨u, rfl, ho, v4, hr, hk, hv⟩
  replace OS := hide ((unhide OS).next hr hk hv)
  clear hr hk hv HN tk0 hY3 b0 bf
  by_cases k4 : e ≠ 0
  · have hh : Hid (TT = ((zO, e), s4)) := by
      rcases unhide HW with ⟨e, _⟩ | ⟨_, e, _⟩ | ⟨_, _, e, _⟩ | ⟨_, _, _, e, _⟩ | ⟨_, _, _, _, _, e⟩ | ⟨_, _, _, _, e, _⟩
      · exact absurd k1 e
      · exact absurd e kn
      · exact absurd k2 e
      · exact absurd k3 e
      · exact e
      · exact absurd e k4
    rw [up_no k4]
    exact ⟨rfl, unhide fin _ _ _ _ k4 (unhide hh) (unhide OS).rd⟩
  replace k4 : e = 0 := by simpa using k4
  have hh : Hid (TT = takeK 4 a b d s4) := by
    rcases unhide HW with ⟨e, _⟩ | ⟨_, e, _⟩ | ⟨_, _, e, _⟩ | ⟨_, _, _, e, _⟩ | ⟨_, _, _, _, e, _⟩ | ⟨_, _, _, _, _, e⟩
    · exact absurd k1 e
    · exact absurd e kn
    · exact absurd k2 e
    · exact absurd k3 e
    · exact absurd k4 e
    · exact e
  rw [k4, up_ok]
  obtain ⟨ad, cd, rfl⟩ := ho.form
  have b0 := (unhide OS).bx.cell 2 _ rfl
  have bf := (unhide OS).bx.frozen 2
  obtain ⟨Y4, hY4⟩ : ∃ Y, W5.setCell ⟨Bo, 2, none⟩ (.slice ad d.length cd) = Y := ⟨_, rfl⟩
  have hoB : ∀ i, (Value.slice ad d.length cd).ownBlock = some i → Y3.heap.size ≤ i := fun i hi => (ho.lt i hi).1
  have HO : Hid (OwD Y4 Y3.heap.size (.slice ad d.length cd) d) := by
    rw [← hY4]
    exact owns_kp (N := fun k => k = Bo) ho (Kp.set _ _ _ rfl) (fun i hi e => by have := hoB i hi; have := (unhide OS).bx.lt; have := unhide HY3; omega)
  replace OS : Hid (OpS w Y4 p Bo v v4 #[.int .i64 (a : Nat), .int .i64 (b : Nat), .slice ad d.length cd, .int .i64 4, .int .i64 0, .int .i64 0, .int .i64 0, .int .i64 0, .string ⟨#[]⟩, .slice none 0 0, .int .i64 0] s4) := by rw [← hY4]; exact hide (by simpa using (unhide OS).set 2 (.slice ad d.length cd))
  have tk0 := (unhide OS).tk.cell 0 _ rfl
  have bo0 := (unhide OS).bx.cell 0 _ rfl
  clear ho
  have hvo4 : ∀ k, v4.ownBlock = some k → k < Y4.heap.size := fun k hk => Nat.lt_of_lt_of_le (unhide Hv k (by rw [← (unhide OS).rd.own]; exact hk)) (unhide OS).rd.kp.size
  replace hoB := hide hoB
  have HT := hide (leaveTake_in (a : Nat) p Y4)
  go_wp2_with fail
  refine (unhide HT).mono ?_
  rintro r W6 ⟨rfl, hb6⟩
  replace OS := hide ((unhide OS).below hb6)
  replace HO := hide (owns_kp (N := fun _ => False) (unhide HO) (Kp.of_below hb6) (fun _ _ e => e))
  have hs5 : Hid (TT = finO ⟨a, b, d, 4, 0, 0, 0, 0, ⟨#[]⟩, [], 0⟩ s4) := by rw [unhide hh]; rfl
  clear hb6 HT hY4 tk0 bo0 b0 bf hvo4
  have HF := hide (leaveFill_in _ _ _ _ _ _ _ _ _ _ _ (unhide OS).bx)
  go_wp2_with fail
  refine (unhide HF).mono ?_
  rintro r W7 ⟨rfl, hB7, hk7⟩
  replace HO := hide (owns_kp (unhide HO) hk7 (fun i hi e => (by have := unhide hoB i hi; have := unhide HY3; omega)))
  replace OS := hide ((unhide OS).kpB hk7 hB7)
  clear hB7 hk7 HF
  have HI : InO ⟨a, b, d, 4, 0, 0, 0, 0, ⟨#[]⟩, [], 0⟩ := ⟨ha, hb, (show in64 4 from ⟨by decide, by decide⟩), in64_0, in64_0, in64_0, in64_0, in64_0, hd, by simp [ByteArray.size], fun r hr => (by cases hr), by simp⟩
  have HC := hide (OCheck_in ⟨a, b, d, 4, 0, 0, 0, 0, ⟨#[]⟩, [], 0⟩ (.slice ad d.length cd) (.slice none 0 0) W7 (OwD.row (unhide HO)) (show RR W7 (.slice none 0 0) [] from .inl ⟨rfl, _, _, rfl⟩) HI)
  unfold opA at HC
  simp only at HC
  obtain ⟨x0, x1, x2, x3, x4, x5, x6, x7, x8, x9, x10⟩ := cells_op (unhide OS).bx
  clear HI
  go_wp2_with fail
  refine (unhide HC).mono ?_
  rintro r W8 ⟨rfl, hb8⟩
  replace HO := hide (owns_kp (N := fun _ => False) (unhide HO) (Kp.of_below hb8) (fun _ _ e => e))
  replace OS := hide ((unhide OS).below hb8)
  clear hb8 HC x0 x1 x2 x3 x4 x5 x6 x7 x8 x9 x10
  have HM := hide (must_in (chkO ⟨a, b, d, 4, 0, 0, 0, 0, ⟨#[]⟩, [], 0⟩) W8)
  go_wp2_with fail
  refine (unhide HM).mono ?_
  rintro r W9 ⟨rfl, rfl⟩
  unfold finO at hs5
  by_cases hok : okO ⟨a, b, d, 4, 0, 0, 0, 0, ⟨#[]⟩, [], 0⟩ = true
  · have hc : chkO ⟨a, b, d, 4, 0, 0, 0, 0, ⟨#[]⟩, [], 0⟩ = 0 := by unfold chkO; rw [if_pos hok]
    rw [if_pos hok] at hs5
    rw [hc, up_ok]
    obtain ⟨x0, x1, x2, x3, x4, x5, x6, x7, x8, x9, x10⟩ := cells_op (unhide OS).bx
    obtain ⟨y0, y1, y2, y3, y4, y5, y6, y7, y8, y9, y10⟩ := cells_op (unhide OS).rs
    have f0 := (unhide OS).rs.frozen 0
    have f1 := (unhide OS).rs.frozen 1
    have f2 := (unhide OS).rs.frozen 2
    have f3 := (unhide OS).rs.frozen 3
    have f4 := (unhide OS).rs.frozen 4
    have f5 := (unhide OS).rs.frozen 5
    have f6 := (unhide OS).rs.frozen 6
    have f7 := (unhide OS).rs.frozen 7
    have f8 := (unhide OS).rs.frozen 8
    have f9 := (unhide OS).rs.frozen 9
    have f10 := (unhide OS).rs.frozen 10
    have RS := hide (Bx.set11 (x0 := .int .i64 (a : Nat)) (x1 := .int .i64 (b : Nat)) (x2 := .slice ad d.length cd) (x3 := .int .i64 4) (x4 := .int .i64 0) (x5 := .int .i64 0) (x6 := .int .i64 0) (x7 := .int .i64 0) (x8 := .string ⟨#[]⟩) (x9 := .slice none 0 0) (x10 := .int .i64 0) (unhide OS).rs)
    have KS := hide (Kp.set11 W8 (w.heap.size + 1) (.int .i64 (a : Nat)) (.int .i64 (b : Nat)) (.slice ad d.length cd) (.int .i64 4) (.int .i64 0) (.int .i64 0) (.int .i64 0) (.int .i64 0) (.string ⟨#[]⟩) (.slice none 0 0) (.int .i64 0))
    have RD := hide (show Rd _ p v4 s4.1 s4.2 from (unhide OS).rd.rd.kp (unhide KS) (by have := (unhide OS).lt; omega) (fun i hi e => (by have := (unhide OS).vo i (by rw [← (unhide OS).rd.own]; exact hi); omega)))
    have KK := hide ((unhide OS).rd.kp.trans (unhide KS) (fun i e => .inr (by omega)))
    replace HO := hide (owns_kp (unhide HO) (unhide KS) (fun i hi e => (by have := unhide hoB i hi; have := unhide HY3; omega)))
    go_wp2
    refine bodyPost_ret (results_cell_row rfl _ _ (w.heap.size + 1) _ _ _ _ rfl (unhide RS) Tryz.underlying32 rfl sizeO) rfl ?_
    refine ⟨.slice ad d.length cd, .slice none 0 0, by rw [unhide hs5]; rfl, by rw [unhide hs5]; exact OwD.base (unhide HO) (by have := unhide HY3; omega), by rw [unhide hs5]; exact World.ownsRow_nil _ _ _ _, fun i hi e => (by cases e), v4, by rw [unhide hs5]; exact unhide RD, unhide KK, (unhide OS).rd.own⟩
  · have hc : chkO ⟨a, b, d, 4, 0, 0, 0, 0, ⟨#[]⟩, [], 0⟩ = 10 := by unfold chkO; rw [if_neg hok]
    rw [if_neg hok] at hs5
    rw [hc, up_no (by decide)]
    exact ⟨rfl, unhide fin _ _ _ _ (by decide) (unhide hs5) (unhide OS).rd⟩

end Go.Proofs.YtbnhfbdfjnigoaaGreat
