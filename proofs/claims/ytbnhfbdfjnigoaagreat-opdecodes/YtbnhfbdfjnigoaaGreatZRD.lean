/-
  The document's own Decode of an operation.
-/
import Derived.Test.YtbnhfbdfjnigoaaGreatZRT2
import Derived.Test.YtbnhfbdfjnigoaaGreatZXP7
set_option linter.unusedSimpArgs false
set_option linter.unusedVariables false
namespace Go.Proofs.YtbnhfbdfjnigoaaGreat
open Go.RowKit Go.Lib

set_option maxRecDepth 100000 in
set_option maxHeartbeats 4000000 in
theorem docDecode_in (a : Option Addr) (n c : Nat) (l : List Nat) (w : World) (h : RC w (.slice a n c) n (bC l)) (hl : l.length = n) (hn : n ≤ 1000000) (hby : ∀ b ∈ l, b < 256) :
    Calls Tryz.prog 6 #[.slice a n c] w fun r W => ∃ vd vg, r = .returned (.tuple #[opA (decO l).1 vd vg, .int .i64 (decO l).2]) ∧ OwD W w.heap.size vd (decO l).1.deps ∧ OwR W w.heap.size vg (decO l).1.gone ∧ Below w.heap.size w W := by
  obtain ⟨X, hX⟩ : ∃ X, w.alloc (.cells #[.int .i64 0, .int .i64 0, .slice none 0 0, .int .i64 0, .int .i64 0, .int .i64 0, .int .i64 0, .int .i64 0, .string ⟨#[]⟩, .slice none 0 0, .int .i64 0] 32) = X := ⟨_, rfl⟩
  have HX : Bx X w.heap.size 32 #[.int .i64 0, .int .i64 0, .slice none 0 0, .int .i64 0, .int .i64 0, .int .i64 0, .int .i64 0, .int .i64 0, .string ⟨#[]⟩, .slice none 0 0, .int .i64 0] := by rw [← hX]; exact Bx.new w _ _
  have bX : Below w.heap.size w X := by rw [← hX]; exact ballc (Below.refl _ _) _
  have HR := hide (refRead_in (.slice a n c) n X ⟨_, _, rfl⟩)
  have hXs : w.heap.size < X.heap.size := HX.lt
  have HTk := hide (fun (W : World) (hb : Below X.heap.size X W) => docTake_in a n c 0 (Nat.zero_le _) l W ((h.below bX).below hb) hl hn hby)
  replace HX := hide HX
  have B0 := hide bX
  clear h hby bX
  obtain ⟨TT, hTT⟩ : ∃ T, takeO (l, 0) = T := ⟨_, rfl⟩
  obtain ⟨⟨o, er⟩, s'⟩ := TT
  obtain ⟨EE, hEE⟩ : ∃ E, rEnd s'.1 s'.2 = E := ⟨_, rfl⟩
  obtain ⟨DD, hDD⟩ : ∃ D, decO l = D := ⟨_, rfl⟩
  have hw1 : Hid (er ≠ 0 → DD = (zO, er)) := fun h => by rw [← hDD]; unfold decO; rw [hTT]; simp only; rw [if_pos h]
  have hw2 : Hid (er = 0 → EE ≠ 0 → DD = (zO, EE)) := fun h h2 => by rw [← hDD]; unfold decO; rw [hTT]; simp only; rw [if_neg (by simpa using h), hEE, if_pos h2]
  have hw3 : Hid (er = 0 → EE = 0 → DD = (o, 0)) := fun h h2 => by rw [← hDD]; unfold decO; rw [hTT]; simp only; rw [if_neg (by simpa using h), hEE, if_neg (by simpa using h2)]
  rw [hDD]
  replace hTT := hide hTT
  replace hEE := hide hEE
  replace hl := hide hl
  clear hDD
  go_enter Tryz.func6, Tryz.ntmps6
  go_wp2_with fail
  refine (unhide HR).mono ?_
  rintro r W1 ⟨rfl, hb1⟩
  have HT := hide (unhide HTk W1 hb1)
  rw [List.drop_zero, unhide hTT] at HT
  unfold TkO at HT
  simp only at HT
  replace HX := hide ((unhide HX).below hb1)
  replace B0 := hide (bnext (unhide B0) hb1)
  have hW1 := hb1.size
  clear hX HR hb1 HTk
  go_wp2_with fail
  refine (unhide HT).mono ?_
  rintro r W2 ⟨vd, vg, p', rfl, hp', hs', hd, hg, hb2⟩
  have hXW : W1.heap.size ≤ W2.heap.size := hb2.size
  replace HX := hide ((unhide HX).below hb2)
  replace B0 := hide (bnext (unhide B0) hb2)
  have hoB : Hid (∀ k, vd.ownBlock = some k → X.heap.size ≤ k) := fun k hk => by have := (hd.lt k hk).1; omega
  have hgB : Hid (∀ k, vg.ownBlock = some k → X.heap.size ≤ k) := fun k hk => by have := (hg.lt k hk).1; omega
  obtain ⟨ad, cd, rfl⟩ := OwD.form hd
  obtain ⟨ag, cg, rfl⟩ := OwR.form hg
  have HO : Hid (OwD W2 X.heap.size _ o.deps) := OwD.base hd hW1
  have HG : Hid (OwR W2 X.heap.size _ o.gone) := OwR.base hg hW1
  have HEn := hide (fun (W : World) => refEnd_in a n c p' s'.2 l W (unhide hl) hp' (by omega))
  rw [← hs', unhide hEE] at HEn
  clear hd hg HT hb2
  unfold opA
  obtain ⟨Y, hY⟩ : ∃ Y, (W2.alloc (.cells #[.int .i64 o.ds, .int .i64 o.dq, .slice ad o.deps.length cd, .int .i64 o.kind, .int .i64 o.it, .int .i64 o.is, .int .i64 o.rt, .int .i64 o.rs, .string o.text, .slice ag o.gone.length cg, .int .i64 o.site] 32)).alloc (.cells #[.slice a n c, .int .i64 (p' : Nat), .int .i64 s'.2] 45) = Y := ⟨_, rfl⟩
  have bY : Below W2.heap.size W2 Y := by rw [← hY]; exact ballc (ballc (Below.refl _ _) _) _
  have HY : Hid (Bx Y W2.heap.size 32 #[.int .i64 o.ds, .int .i64 o.dq, .slice ad o.deps.length cd, .int .i64 o.kind, .int .i64 o.it, .int .i64 o.is, .int .i64 o.rt, .int .i64 o.rs, .string o.text, .slice ag o.gone.length cg, .int .i64 o.site]) := by rw [← hY]; exact (Bx.new W2 _ _).below (ballc (Below.refl _ _) _)
  have HYr : Hid (Bx Y (W2.heap.size + 1) 45 #[.slice a n c, .int .i64 (p' : Nat), .int .i64 s'.2]) := by rw [← hY]; exact bx_lastR _ _ _ _
  replace HX := hide ((unhide HX).below bY)
  replace B0 := hide (bnext (unhide B0) bY)
  replace HO := hide (owns_kp (N := fun _ => False) (unhide HO) (Kp.of_below bY) (fun _ _ e => e))
  replace HG := hide (owns_kp (N := fun _ => False) (unhide HG) (Kp.of_below bY) (fun _ _ e => e))
  have y0 := (unhide HYr).cell 0 _ rfl
  have y1 := (unhide HYr).cell 1 _ rfl
  have y2 := (unhide HYr).cell 2 _ rfl
  clear bY
  obtain ⟨c0, c1, c2, c3, c4, c5, c6, c7, c8, c9, c10⟩ := cells_op (unhide HX)
  by_cases he : er = 0
  · subst he
    go_wp2_with fail
    refine (unhide HEn _).mono ?_
    rintro r W3 ⟨rfl, hb3⟩
    replace HX := hide ((unhide HX).below hb3)
    replace HY := hide ((unhide HY).below hb3)
    replace B0 := hide (bnext (unhide B0) hb3)
    replace HO := hide (owns_kp (N := fun _ => False) (unhide HO) (Kp.of_below hb3) (fun _ _ e => e))
    replace HG := hide (owns_kp (N := fun _ => False) (unhide HG) (Kp.of_below hb3) (fun _ _ e => e))
    clear c0 c1 c2 c3 c4 c5 c6 c7 c8 c9 c10 y0 y1 y2 hb3 hY
    obtain ⟨c0, c1, c2, c3, c4, c5, c6, c7, c8, c9, c10⟩ := cells_op (unhide HX)
    by_cases hE0 : EE = 0
    · subst hE0
      obtain ⟨x0, x1, x2, x3, x4, x5, x6, x7, x8, x9, x10⟩ := cells_op (unhide HY)
      have f0 := (unhide HX).frozen 0
      have f1 := (unhide HX).frozen 1
      have f2 := (unhide HX).frozen 2
      have f3 := (unhide HX).frozen 3
      have f4 := (unhide HX).frozen 4
      have f5 := (unhide HX).frozen 5
      have f6 := (unhide HX).frozen 6
      have f7 := (unhide HX).frozen 7
      have f8 := (unhide HX).frozen 8
      have f9 := (unhide HX).frozen 9
      have f10 := (unhide HX).frozen 10
      have RA := hide (Bx.set11 (x0 := .int .i64 o.ds) (x1 := .int .i64 o.dq) (x2 := .slice ad o.deps.length cd) (x3 := .int .i64 o.kind) (x4 := .int .i64 o.it) (x5 := .int .i64 o.is) (x6 := .int .i64 o.rt) (x7 := .int .i64 o.rs) (x8 := .string o.text) (x9 := .slice ag o.gone.length cg) (x10 := .int .i64 o.site) (unhide HX))
      have KA := hide (Kp.set11 W3 w.heap.size (.int .i64 o.ds) (.int .i64 o.dq) (.slice ad o.deps.length cd) (.int .i64 o.kind) (.int .i64 o.it) (.int .i64 o.is) (.int .i64 o.rt) (.int .i64 o.rs) (.string o.text) (.slice ag o.gone.length cg) (.int .i64 o.site))
      replace HO := hide (owns_kp (unhide HO) (unhide KA) (fun i hi e => by have := unhide hoB i hi; omega))
      replace HG := hide (owns_kp (unhide HG) (unhide KA) (fun i hi e => by have := unhide hgB i hi; omega))
      replace B0 := hide ((unhide KA).below (unhide B0) (fun i e => by omega))
      go_wp2
      obtain ⟨d0, d1, d2, d3, d4, d5, d6, d7, d8, d9, d10⟩ := cells_op (unhide RA)
      refine bodyPost_ret (v := .tuple #[.agg #[.int .i64 o.ds, .int .i64 o.dq, .slice ad o.deps.length cd, .int .i64 o.kind, .int .i64 o.it, .int .i64 o.is, .int .i64 o.rt, .int .i64 o.rs, .string o.text, .slice ag o.gone.length cg, .int .i64 o.site], .int .i64 0]) ?_ rfl ?_
      · rw [results_cell_tmp rfl]
        generalize World.setCell _ ⟨w.heap.size, 10, none⟩ (.int .i64 o.site) = WF at *
        simp [go_sem, d0, d1, d2, d3, d4, d5, d6, d7, d8, d9, d10]
      · obtain rfl := unhide hw3 (by trivial) (by trivial)
        exact ⟨_, _, rfl, OwD.base (unhide HO) (by omega), OwR.base (unhide HG) (by omega), unhide B0⟩
    · have hb : (EE == 0) = false := by simpa using hE0
      have s0 : W3.setCell ⟨w.heap.size, 0, none⟩ (.int .i64 0) = W3 := (unhide HX).same 0 _ rfl
      have f0 := (unhide HX).frozen 0
      have s1 : W3.setCell ⟨w.heap.size, 1, none⟩ (.int .i64 0) = W3 := (unhide HX).same 1 _ rfl
      have f1 := (unhide HX).frozen 1
      have s2 : W3.setCell ⟨w.heap.size, 2, none⟩ (.slice none 0 0) = W3 := (unhide HX).same 2 _ rfl
      have f2 := (unhide HX).frozen 2
      have s3 : W3.setCell ⟨w.heap.size, 3, none⟩ (.int .i64 0) = W3 := (unhide HX).same 3 _ rfl
      have f3 := (unhide HX).frozen 3
      have s4 : W3.setCell ⟨w.heap.size, 4, none⟩ (.int .i64 0) = W3 := (unhide HX).same 4 _ rfl
      have f4 := (unhide HX).frozen 4
      have s5 : W3.setCell ⟨w.heap.size, 5, none⟩ (.int .i64 0) = W3 := (unhide HX).same 5 _ rfl
      have f5 := (unhide HX).frozen 5
      have s6 : W3.setCell ⟨w.heap.size, 6, none⟩ (.int .i64 0) = W3 := (unhide HX).same 6 _ rfl
      have f6 := (unhide HX).frozen 6
      have s7 : W3.setCell ⟨w.heap.size, 7, none⟩ (.int .i64 0) = W3 := (unhide HX).same 7 _ rfl
      have f7 := (unhide HX).frozen 7
      have s8 : W3.setCell ⟨w.heap.size, 8, none⟩ (.string ⟨#[]⟩) = W3 := (unhide HX).same 8 _ rfl
      have f8 := (unhide HX).frozen 8
      have s9 : W3.setCell ⟨w.heap.size, 9, none⟩ (.slice none 0 0) = W3 := (unhide HX).same 9 _ rfl
      have f9 := (unhide HX).frozen 9
      have s10 : W3.setCell ⟨w.heap.size, 10, none⟩ (.int .i64 0) = W3 := (unhide HX).same 10 _ rfl
      have f10 := (unhide HX).frozen 10
      go_wp2
      refine bodyPost_ret (v := .tuple #[.agg #[.int .i64 0, .int .i64 0, .slice none 0 0, .int .i64 0, .int .i64 0, .int .i64 0, .int .i64 0, .int .i64 0, .string ⟨#[]⟩, .slice none 0 0, .int .i64 0], .int .i64 EE]) ?_ rfl ?_
      · rw [results_cell_tmp rfl]
        simp [go_sem, c0, c1, c2, c3, c4, c5, c6, c7, c8, c9, c10]
      · obtain rfl := unhide hw2 (by trivial) hE0
        exact ⟨.slice none 0 0, .slice none 0 0, rfl, World.ownsRow_nil _ _ _ _, World.ownsRow_nil _ _ _ _, unhide B0⟩
  · have hb : (er == 0) = false := by simpa using he
    have s0 : Y.setCell ⟨w.heap.size, 0, none⟩ (.int .i64 0) = Y := (unhide HX).same 0 _ rfl
    have f0 := (unhide HX).frozen 0
    have s1 : Y.setCell ⟨w.heap.size, 1, none⟩ (.int .i64 0) = Y := (unhide HX).same 1 _ rfl
    have f1 := (unhide HX).frozen 1
    have s2 : Y.setCell ⟨w.heap.size, 2, none⟩ (.slice none 0 0) = Y := (unhide HX).same 2 _ rfl
    have f2 := (unhide HX).frozen 2
    have s3 : Y.setCell ⟨w.heap.size, 3, none⟩ (.int .i64 0) = Y := (unhide HX).same 3 _ rfl
    have f3 := (unhide HX).frozen 3
    have s4 : Y.setCell ⟨w.heap.size, 4, none⟩ (.int .i64 0) = Y := (unhide HX).same 4 _ rfl
    have f4 := (unhide HX).frozen 4
    have s5 : Y.setCell ⟨w.heap.size, 5, none⟩ (.int .i64 0) = Y := (unhide HX).same 5 _ rfl
    have f5 := (unhide HX).frozen 5
    have s6 : Y.setCell ⟨w.heap.size, 6, none⟩ (.int .i64 0) = Y := (unhide HX).same 6 _ rfl
    have f6 := (unhide HX).frozen 6
    have s7 : Y.setCell ⟨w.heap.size, 7, none⟩ (.int .i64 0) = Y := (unhide HX).same 7 _ rfl
    have f7 := (unhide HX).frozen 7
    have s8 : Y.setCell ⟨w.heap.size, 8, none⟩ (.string ⟨#[]⟩) = Y := (unhide HX).same 8 _ rfl
    have f8 := (unhide HX).frozen 8
    have s9 : Y.setCell ⟨w.heap.size, 9, none⟩ (.slice none 0 0) = Y := (unhide HX).same 9 _ rfl
    have f9 := (unhide HX).frozen 9
    have s10 : Y.setCell ⟨w.heap.size, 10, none⟩ (.int .i64 0) = Y := (unhide HX).same 10 _ rfl
    have f10 := (unhide HX).frozen 10
    go_wp2
    refine bodyPost_ret (v := .tuple #[.agg #[.int .i64 0, .int .i64 0, .slice none 0 0, .int .i64 0, .int .i64 0, .int .i64 0, .int .i64 0, .int .i64 0, .string ⟨#[]⟩, .slice none 0 0, .int .i64 0], .int .i64 er]) ?_ rfl ?_
    · rw [results_cell_tmp rfl]
      simp [go_sem, c0, c1, c2, c3, c4, c5, c6, c7, c8, c9, c10]
    · obtain rfl := unhide hw1 he
      exact ⟨.slice none 0 0, .slice none 0 0, rfl, World.ownsRow_nil _ _ _ _, World.ownsRow_nil _ _ _ _, unhide B0⟩

end Go.Proofs.YtbnhfbdfjnigoaaGreat
