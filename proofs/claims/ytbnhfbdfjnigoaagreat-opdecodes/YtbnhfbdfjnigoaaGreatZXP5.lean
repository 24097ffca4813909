/-
  Operations: a panic, caught.
-/
import Derived.Test.YtbnhfbdfjnigoaaGreatZP4
import Derived.Defers
import Derived.Recover

set_option linter.unusedSimpArgs false
set_option linter.unusedVariables false
namespace Go.Proofs.YtbnhfbdfjnigoaaGreat
open Go.RowKit Go.Lib

theorem ta_ok (x : Int) (w : World) : (Instr.typeAssert (.iface 65 (.int .i64 x)) 20 65 true).run Tryz.prog w = .ok (.tuple #[.int .i64 x, .bool true]) w := by kernel_rfl
theorem ta_nil (w : World) : (Instr.typeAssert .nilIface 20 65 true).run Tryz.prog w = .ok (.tuple #[.int .i64 0, .bool false]) w := by kernel_rfl

set_option maxRecDepth 100000 in
set_option maxHeartbeats 1000000 in
theorem catch_panicking (a b : Nat) (err e0 : Int) (x0 x1 x2 x3 x4 x5 x6 x7 x8 x9 x10 : Value) (older : List PanicEntry) (w : World) (hab : a ≠ b) (ha : Bx w a 32 #[x0, x1, x2, x3, x4, x5, x6, x7, x8, x9, x10]) (hb : Bx w b 33 #[.int .i64 e0]) :
    CallsD Tryz.prog 26 #[.pointer (some ⟨a, 0, none⟩), .pointer (some ⟨b, 0, none⟩)] (.panicking ({ v := .iface 65 (.int .i64 err), recovered := false } :: older)) w fun e u' w' =>
      e = .returned (.tuple #[]) ∧ u' = .panicking ({ v := .iface 65 (.int .i64 err), recovered := true } :: older) ∧ Bx w' a 32 #[.int .i64 0, .int .i64 0, .slice none 0 0, .int .i64 0, .int .i64 0, .int .i64 0, .int .i64 0, .int .i64 0, .string ⟨#[]⟩, .slice none 0 0, .int .i64 0] ∧ Bx w' b 33 #[.int .i64 err] ∧ Kp (fun k => k = a ∨ k = b) w w' := by
  refine callsD_of_wpS Tryz.func26 rfl fun c₀ cs hu => ?_
  simp only [Tryz.ntmps26, List.size_toArray, List.length_cons, List.length_nil, Nat.reduceAdd, Nat.reduceSub, Array.replicate_succ, Array.replicate_zero, List.push_toArray, List.append_toArray, List.nil_append, List.cons_append]
  have hta := ta_ok err
  obtain ⟨c0, c1, c2, c3, c4, c5, c6, c7, c8, c9, c10⟩ := cells_op ha
  have f0 := ha.frozen 0
  have f1 := ha.frozen 1
  have f2 := ha.frozen 2
  have f3 := ha.frozen 3
  have f4 := ha.frozen 4
  have f5 := ha.frozen 5
  have f6 := ha.frozen 6
  have f7 := ha.frozen 7
  have f8 := ha.frozen 8
  have f9 := ha.frozen 9
  have f10 := ha.frozen 10
  have b0 := hb.cell 0 _ rfl
  have bf := hb.frozen 0
  have RA := hide (Bx.set11 (x0 := .int .i64 0) (x1 := .int .i64 0) (x2 := .slice none 0 0) (x3 := .int .i64 0) (x4 := .int .i64 0) (x5 := .int .i64 0) (x6 := .int .i64 0) (x7 := .int .i64 0) (x8 := .string ⟨#[]⟩) (x9 := .slice none 0 0) (x10 := .int .i64 0) ha)
  have KA := hide (Kp.set11 w a (.int .i64 0) (.int .i64 0) (.slice none 0 0) (.int .i64 0) (.int .i64 0) (.int .i64 0) (.int .i64 0) (.int .i64 0) (.string ⟨#[]⟩) (.slice none 0 0) (.int .i64 0))
  have RB := hide ((hb.kp (unhide KA) (fun e => hab e.symm)).set 0 (.int .i64 err))
  replace RA := hide ((unhide RA).setO ⟨b, 0, none⟩ hab (.int .i64 err))
  replace KA := hide (Kp.trans (N := fun k => k = a ∨ k = b) (M := fun k => k = b) ⟨(unhide KA).os, (unhide KA).tape, (unhide KA).output, (unhide KA).size, fun i h1 h2 => (unhide KA).block i h1 (fun e => h2 (.inl e))⟩ (Kp.set _ ⟨b, 0, none⟩ (.int .i64 err) rfl) (fun i h => .inl (.inr h)))
  clear ha hb
  apply wpS_seq
  apply wpS_region
  simp [wpOpsS, go_sem, recoverD, hu, hta, Exit.thenS]
  apply wpS_of_wp
  go_wp2
  simp only [bodyPostS]
  exact ⟨trivial, _, rfl, _, results_none rfl _ _ _, rfl, rfl, unhide RA, by simpa using unhide RB, unhide KA⟩

set_option maxRecDepth 100000 in
set_option maxHeartbeats 1000000 in
theorem catch_idle (a b : Nat) (w : World) :
    CallsD Tryz.prog 26 #[.pointer (some ⟨a, 0, none⟩), .pointer (some ⟨b, 0, none⟩)] .returning w fun e u' w' => e = .returned (.tuple #[]) ∧ u' = .returning ∧ w' = w := by
  refine callsD_of_wpS Tryz.func26 rfl fun c₀ cs hu => ?_
  simp only [Tryz.ntmps26, List.size_toArray, List.length_cons, List.length_nil, Nat.reduceAdd, Nat.reduceSub, Array.replicate_succ, Array.replicate_zero, List.push_toArray, List.append_toArray, List.nil_append, List.cons_append]
  have hta := ta_nil
  apply wpS_seq
  apply wpS_region
  simp [wpOpsS, go_sem, recoverD, hu, hta, Exit.thenS]
  apply wpS_of_wp
  go_wp2
  cases c₀
  simp_all [bodyPostS, results, Tryz.results26]

theorem tOp_in {w : World} {p : Nat} {v : Value} {st : List Nat × Int} (h : Rd w p v st.1 st.2) (hvo : ∀ k, v.ownBlock = some k → k < w.heap.size) :
    Calls Tryz.prog 27 #[.agg #[.pointer (some ⟨p, 0, none⟩)]] w fun r W => ∃ vd vg, r = up (takeO st).1.2 (opA (takeO st).1.1 vd vg) ∧ OwD W w.heap.size vd (takeO st).1.1.deps ∧ OwR W w.heap.size vg (takeO st).1.1.gone ∧ (∀ k, vd.ownBlock = some k → vg.ownBlock ≠ some k) ∧ ∃ v', Rd W p v' (takeO st).2.1 (takeO st).2.2 ∧ Kp (fun i => i = p) w W ∧ v'.ownBlock = v.ownBlock := by
  obtain ⟨n, s1, e1⟩ : ∃ n s1, rNum st.1 st.2 = (n, s1) := ⟨_, _, rfl⟩
  by_cases hb : s1.2 ≠ 0 ∨ n < 1 ∨ 4 < n
  · exact tOp_bad h e1 hb
  · have k1 : s1.2 = 0 := by
      by_cases k : s1.2 = 0
      · exact k
      · exact absurd (.inl k) hb
    have hn : n = 1 ∨ n = 2 ∨ n = 3 ∨ n = 4 := by
      have h1 : ¬ (n < 1 ∨ 4 < n) := fun e => hb (.inr e)
      omega
    rcases hn with rfl | rfl | rfl | rfl
    · exact tOp1_in h hvo e1 k1
    · exact tOp2_in h hvo e1 k1
    · exact tOp3_in h hvo e1 k1
    · exact tOp4_in h hvo e1 k1

end Go.Proofs.YtbnhfbdfjnigoaaGreat

/-
  Operations: Take.
-/
set_option linter.unusedSimpArgs false
set_option linter.unusedVariables false
namespace Go.Proofs.YtbnhfbdfjnigoaaGreat
open Go.RowKit Go.Lib

set_option maxRecDepth 100000 in
set_option maxHeartbeats 2000000 in
theorem OTake_in {w : World} {p : Nat} {v : Value} {st : List Nat × Int} (h : Rd w p v st.1 st.2) (hvo : ∀ k, v.ownBlock = some k → k < w.heap.size) :
    Calls Tryz.prog 11 #[.pointer (some ⟨p, 0, none⟩)] w fun r W => ∃ vd vg, r = .returned (.tuple #[opA (takeO st).1.1 vd vg, .int .i64 (takeO st).1.2]) ∧ OwD W w.heap.size vd (takeO st).1.1.deps ∧ OwR W w.heap.size vg (takeO st).1.1.gone ∧ (∀ k, vd.ownBlock = some k → vg.ownBlock ≠ some k) ∧ ∃ v', Rd W p v' (takeO st).2.1 (takeO st).2.2 ∧ Kp (fun i => i = p) w W ∧ v'.ownBlock = v.ownBlock := by
  have hmf : ∀ (fn : Fn) (first cap : Array Value) (w : World), (Instr.makeFunc fn first cap).run Tryz.prog w = .ok (.func fn first cap) w := fun _ _ _ _ => rfl
  have hp := h.box.lt
  obtain ⟨X, hX⟩ : ∃ X, (w.alloc (.cells #[.int .i64 0, .int .i64 0, .slice none 0 0, .int .i64 0, .int .i64 0, .int .i64 0, .int .i64 0, .int .i64 0, .string ⟨#[]⟩, .slice none 0 0, .int .i64 0] 32)).alloc (.cells #[.int .i64 0] 33) = X := ⟨_, rfl⟩
  have HA : Bx X w.heap.size 32 #[.int .i64 0, .int .i64 0, .slice none 0 0, .int .i64 0, .int .i64 0, .int .i64 0, .int .i64 0, .int .i64 0, .string ⟨#[]⟩, .slice none 0 0, .int .i64 0] := by rw [← hX]; exact (Bx.new w _ _).below (ballc (Below.refl _ _) _)
  have HB : Bx X (w.heap.size + 1) 33 #[.int .i64 0] := by
    rw [← hX]
    have := Bx.new (w.alloc (.cells #[.int .i64 0, .int .i64 0, .slice none 0 0, .int .i64 0, .int .i64 0, .int .i64 0, .int .i64 0, .int .i64 0, .string ⟨#[]⟩, .slice none 0 0, .int .i64 0] 32)) 33 #[.int .i64 0]
    rw [World.size_alloc] at this
    exact this
  have bX : Below w.heap.size w X := by rw [← hX]; exact ballc (ballc (Below.refl _ _) _) _
  have hXs := HB.lt
  have hXw := bX.size
  have HT := hide (tOp_in (h.below bX) (fun k hk => Nat.lt_of_lt_of_le (hvo k hk) bX.size))
  have K0 := hide (Kp.of_below (N := fun i => i = p) bX)
  replace HA := hide HA
  replace HB := hide HB
  have Hv := hide hvo
  have hz : Hid ((takeO st).1.2 ≠ 0 → (takeO st).1.1 = zO) := takeO_zero st
  obtain ⟨TT, hTT⟩ : ∃ T, takeO st = T := ⟨_, rfl⟩
  rw [hTT] at HT hz ⊢
  obtain ⟨⟨o, er⟩, s'⟩ := TT
  simp only at HT hz ⊢
  clear h bX hvo hTT
  go_enter_defers Tryz.func11, Tryz.ntmps11
  go_wp2_with fail
  refine (unhide HT).mono ?_
  rintro r W1 ⟨vd, vg, rfl, ho, hg, hne, v1, hr, hk, hv⟩
  replace HA := hide ((unhide HA).kp hk (by omega))
  replace HB := hide ((unhide HB).kp hk (by omega))
  replace K0 := hide ((unhide K0).trans hk (fun i h => .inl h))
  have HO := hide ho
  have HG := hide hg
  have HR := hide hr
  have hoB : Hid (∀ k, vd.ownBlock = some k → w.heap.size + 2 ≤ k) := fun k hk => by have := (ho.lt k hk).1; omega
  have hgB : Hid (∀ k, vg.ownBlock = some k → w.heap.size + 2 ≤ k) := fun k hk => by have := (hg.lt k hk).1; omega
  have hvB : Hid (∀ k, v1.ownBlock = some k → k < w.heap.size) := fun k hk' => unhide Hv k (by rw [← hv]; exact hk')
  have Hne := hide hne
  clear ho hg hr hk hX HT hXs hne
  by_cases he : er = 0
  · subst he
    rw [up_ok]
    obtain ⟨ad, cd, hd⟩ := OwD.form (unhide HO)
    obtain ⟨ag, cg, hgg⟩ := OwR.form (unhide HG)
    subst hd hgg
    unfold opA
    obtain ⟨c0, c1, c2, c3, c4, c5, c6, c7, c8, c9, c10⟩ := cells_op (unhide HA)
    have f0 := (unhide HA).frozen 0
    have f1 := (unhide HA).frozen 1
    have f2 := (unhide HA).frozen 2
    have f3 := (unhide HA).frozen 3
    have f4 := (unhide HA).frozen 4
    have f5 := (unhide HA).frozen 5
    have f6 := (unhide HA).frozen 6
    have f7 := (unhide HA).frozen 7
    have f8 := (unhide HA).frozen 8
    have f9 := (unhide HA).frozen 9
    have f10 := (unhide HA).frozen 10
    have b0 := (unhide HB).cell 0 _ rfl
    have bf := (unhide HB).frozen 0
    have RA := hide (Bx.set11 (x0 := .int .i64 o.ds) (x1 := .int .i64 o.dq) (x2 := .slice ad o.deps.length cd) (x3 := .int .i64 o.kind) (x4 := .int .i64 o.it) (x5 := .int .i64 o.is) (x6 := .int .i64 o.rt) (x7 := .int .i64 o.rs) (x8 := .string o.text) (x9 := .slice ag o.gone.length cg) (x10 := .int .i64 o.site) (unhide HA))
    have KA := hide (Kp.set11 W1 w.heap.size (.int .i64 o.ds) (.int .i64 o.dq) (.slice ad o.deps.length cd) (.int .i64 o.kind) (.int .i64 o.it) (.int .i64 o.is) (.int .i64 o.rt) (.int .i64 o.rs) (.string o.text) (.slice ag o.gone.length cg) (.int .i64 o.site))
    have RB := hide (((unhide HB).kp (unhide KA) (by omega)).set 0 (.int .i64 0))
    replace RA := hide ((unhide RA).setO ⟨w.heap.size + 1, 0, none⟩ (by show w.heap.size ≠ w.heap.size + 1; omega) (.int .i64 0))
    replace KA := hide (Kp.trans (N := fun k => k = w.heap.size ∨ k = w.heap.size + 1) (M := fun k => k = w.heap.size + 1) ⟨(unhide KA).os, (unhide KA).tape, (unhide KA).output, (unhide KA).size, fun i h1 h2 => (unhide KA).block i h1 (fun e => h2 (.inl e))⟩ (Kp.set _ ⟨w.heap.size + 1, 0, none⟩ (.int .i64 0) rfl) (fun i h => .inl (.inr h)))
    go_wp2
    refine leaves_cons (f := 26) (args := #[.pointer (some ⟨w.heap.size, 0, none⟩), .pointer (some ⟨w.heap.size + 1, 0, none⟩)]) (by simp) (by simp [go_sem]) ?_
    refine (catch_idle w.heap.size (w.heap.size + 1) _).mono ?_
    rintro e u' w'' ⟨rfl, rfl, rfl⟩
    have b1 : World.cell? _ ⟨w.heap.size + 1, 0, none⟩ = some (.int .i64 0) := (unhide RB).cell 0 _ rfl
    obtain ⟨d0, d1, d2, d3, d4, d5, d6, d7, d8, d9, d10⟩ := cells_op (unhide RA)
    generalize World.setCell _ ⟨w.heap.size + 1, 0, none⟩ (.int .i64 0) = WF at *
    simp [Leaves, settle, results, Tryz.results11, go_sem, b1, d0, d1, d2, d3, d4, d5, d6, d7, d8, d9, d10]
    have nn : ∀ i, i = w.heap.size ∨ i = w.heap.size + 1 → w.heap.size ≤ i := fun i e => by omega
    exact ⟨_, _, rfl, OwD.base (owns_kp (unhide HO) (unhide KA) (fun i hi e => by have := unhide hoB i hi; omega)) hXw, OwR.base (owns_kp (unhide HG) (unhide KA) (fun i hi e => by have := unhide hgB i hi; omega)) hXw, unhide Hne, v1, (unhide HR).kp (unhide KA) (by omega) (fun i hi e => by have := unhide hvB i hi; have := nn i e; omega), (unhide K0).trans (unhide KA) (fun i e => .inr (nn i e)), hv⟩
  · rw [up_no he]
    obtain rfl := unhide hz he
    refine leaves_cons (f := 26) (args := #[.pointer (some ⟨w.heap.size, 0, none⟩), .pointer (some ⟨w.heap.size + 1, 0, none⟩)]) (by simp) (by simp [go_sem]) ?_
    refine (catch_panicking w.heap.size (w.heap.size + 1) er 0 _ _ _ _ _ _ _ _ _ _ _ [] _ (by omega) (unhide HA) (unhide HB)).mono ?_
    rintro e u' WF ⟨rfl, rfl, RA, RB, KA⟩
    have b1 : WF.cell? ⟨w.heap.size + 1, 0, none⟩ = some (.int .i64 er) := RB.cell 0 _ rfl
    obtain ⟨d0, d1, d2, d3, d4, d5, d6, d7, d8, d9, d10⟩ := cells_op RA
    simp [Leaves, settle, results, Tryz.results11, go_sem, b1, d0, d1, d2, d3, d4, d5, d6, d7, d8, d9, d10]
    have nn : ∀ i, i = w.heap.size ∨ i = w.heap.size + 1 → w.heap.size ≤ i := fun i e => by omega
    exact ⟨.slice none 0 0, .slice none 0 0, rfl, World.ownsRow_nil _ _ _ _, World.ownsRow_nil _ _ _ _, fun k hk => (by cases hk), v1, (unhide HR).kp KA (by omega) (fun i hi e => by have := unhide hvB i hi; have := nn i e; omega), (unhide K0).trans KA (fun i e => .inr (nn i e)), hv⟩

set_option maxRecDepth 100000 in
theorem tOp_nil (w : World) : Calls Tryz.prog 27 #[.agg #[.pointer none]] w fun r W => r = up 1 (.int .i64 0) ∧ Below w.heap.size w W := by
  have HN := hide (fun W => tNumber_nil W)
  have B0 := hide (ballc (ballc (Below.refl w.heap.size w) (.cells #[.pointer none] 68)) (.cells #[.int .i64 0, .int .i64 0, .slice none 0 0, .int .i64 0, .int .i64 0, .int .i64 0, .int .i64 0, .int .i64 0, .string ⟨#[]⟩, .slice none 0 0, .int .i64 0] 32))
  go_enter Tryz.func27, Tryz.ntmps27
  go_wp2_with fail
  refine (unhide HN _).mono ?_
  rintro r W1 ⟨rfl, hb⟩
  rw [up_no (by decide)]
  exact ⟨rfl, (up_no (by decide) _).symm, bnext (unhide B0) hb⟩

set_option maxRecDepth 100000 in
set_option maxHeartbeats 1000000 in
theorem OTake_nil (w : World) : Calls Tryz.prog 11 #[.pointer none] w fun r W => r = .returned (.tuple #[opA zO (.slice none 0 0) (.slice none 0 0), .int .i64 1]) ∧ Below w.heap.size w W := by
  have hmf : ∀ (fn : Fn) (first cap : Array Value) (w : World), (Instr.makeFunc fn first cap).run Tryz.prog w = .ok (.func fn first cap) w := fun _ _ _ _ => rfl
  obtain ⟨X, hX⟩ : ∃ X, (w.alloc (.cells #[.int .i64 0, .int .i64 0, .slice none 0 0, .int .i64 0, .int .i64 0, .int .i64 0, .int .i64 0, .int .i64 0, .string ⟨#[]⟩, .slice none 0 0, .int .i64 0] 32)).alloc (.cells #[.int .i64 0] 33) = X := ⟨_, rfl⟩
  have HA : Bx X w.heap.size 32 #[.int .i64 0, .int .i64 0, .slice none 0 0, .int .i64 0, .int .i64 0, .int .i64 0, .int .i64 0, .int .i64 0, .string ⟨#[]⟩, .slice none 0 0, .int .i64 0] := by rw [← hX]; exact (Bx.new w _ _).below (ballc (Below.refl _ _) _)
  have HB : Bx X (w.heap.size + 1) 33 #[.int .i64 0] := by
    rw [← hX]
    have := Bx.new (w.alloc (.cells #[.int .i64 0, .int .i64 0, .slice none 0 0, .int .i64 0, .int .i64 0, .int .i64 0, .int .i64 0, .int .i64 0, .string ⟨#[]⟩, .slice none 0 0, .int .i64 0] 32)) 33 #[.int .i64 0]
    rw [World.size_alloc] at this
    exact this
  have bX : Below w.heap.size w X := by rw [← hX]; exact ballc (ballc (Below.refl _ _) _) _
  have HT := hide (tOp_nil X)
  replace HA := hide HA
  replace HB := hide HB
  replace bX := hide bX
  go_enter_defers Tryz.func11, Tryz.ntmps11
  go_wp2_with fail
  refine (unhide HT).mono ?_
  rintro r W1 ⟨rfl, hb⟩
  replace HA := hide ((unhide HA).below hb)
  replace HB := hide ((unhide HB).below hb)
  replace bX := hide (bnext (unhide bX) hb)
  clear hb hX HT
  rw [up_no (by decide)]
  refine leaves_cons (f := 26) (args := #[.pointer (some ⟨w.heap.size, 0, none⟩), .pointer (some ⟨w.heap.size + 1, 0, none⟩)]) (by simp) (by simp [go_sem]) ?_
  refine (catch_panicking w.heap.size (w.heap.size + 1) 1 0 _ _ _ _ _ _ _ _ _ _ _ [] _ (by omega) (unhide HA) (unhide HB)).mono ?_
  rintro e u' WF ⟨rfl, rfl, RA, RB, KA⟩
  have b1 : WF.cell? ⟨w.heap.size + 1, 0, none⟩ = some (.int .i64 1) := RB.cell 0 _ rfl
  obtain ⟨d0, d1, d2, d3, d4, d5, d6, d7, d8, d9, d10⟩ := cells_op RA
  simp [Leaves, settle, results, Tryz.results11, go_sem, b1, d0, d1, d2, d3, d4, d5, d6, d7, d8, d9, d10]
  exact ⟨rfl, KA.below (unhide bX) (fun i e => by omega)⟩

end Go.Proofs.YtbnhfbdfjnigoaaGreat
