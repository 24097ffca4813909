/-
  Decode of the document's example and of nothing.
-/
import Derived.Test.YtkffonoifbaifaaGreatZFK
import Derived.Defers
import Derived.Recover
set_option linter.unusedSimpArgs false
set_option linter.unusedVariables false
namespace Go.Proofs.YtkffonoifbaifaaGreat
open Go.RowKit Go.Lib

theorem taF_ok (x : Int) (w : World) : (Instr.typeAssert (.iface 52 (.int .i64 x)) 20 52 true).run Tryz.prog w = .ok (.tuple #[.int .i64 x, .bool true]) w := by kernel_rfl
theorem taF_nil (w : World) : (Instr.typeAssert .nilIface 20 52 true).run Tryz.prog w = .ok (.tuple #[.int .i64 0, .bool false]) w := by kernel_rfl
theorem setRow_bx {W : World} {b c : Nat} {t : TypeId} {vs us : Array Value} (h : Bx W b t vs) (hn : b ≠ c) : Bx (W.setRow c us) b t vs := by
  have k : Kp (fun i => i = c) W (W.setRow c us) := ⟨rfl, rfl, rfl, by simp, fun k _ hk => setRow_other _ _ k _ (fun e => hk e)⟩
  exact h.kp k hn
theorem zr_one : (#[Value.int .i64 0, Value.int .i64 0, Value.int .i64 0, Value.int .i64 0, Value.int .i64 0, Value.int .i64 0, Value.bool false, (Value.slice none 0 0), (Value.slice none 0 0), (Value.slice none 0 0), (Value.slice none 0 0), (Value.int .i64 0), (Value.slice none 0 0), (Value.slice none 0 0), (Value.slice none 0 0), (Value.slice none 0 0), (Value.int .i64 0)] : Array Value).all (·.oneCell') = true := by first | rfl | decide | (simp [Value.oneCell'])

set_option maxRecDepth 100000 in
set_option maxHeartbeats 2000000 in
theorem catchF_panicking (a b : Nat) (err e0 : Int) (x : Array Value) (hx : x.size = 17) (older : List PanicEntry) (w : World) (hab : a ≠ b) (ha : Bx w a 39 x) (hb : Bx w b 28 #[.int .i64 e0]) :
    CallsD Tryz.prog 16 #[.pointer (some ⟨a, 0, none⟩), .pointer (some ⟨b, 0, none⟩)] (.panicking ({ v := .iface 52 (.int .i64 err), recovered := false } :: older)) w fun e u' w' =>
      e = .returned (.tuple #[]) ∧ u' = .panicking ({ v := .iface 52 (.int .i64 err), recovered := true } :: older) ∧ Bx w' a 39 #[Value.int .i64 0, Value.int .i64 0, Value.int .i64 0, Value.int .i64 0, Value.int .i64 0, Value.int .i64 0, Value.bool false, (Value.slice none 0 0), (Value.slice none 0 0), (Value.slice none 0 0), (Value.slice none 0 0), (Value.int .i64 0), (Value.slice none 0 0), (Value.slice none 0 0), (Value.slice none 0 0), (Value.slice none 0 0), (Value.int .i64 0)] ∧ Bx w' b 28 #[.int .i64 err] ∧ Kp (fun k => k = a ∨ k = b) w w' := by
  refine callsD_of_wpS Tryz.func16 rfl fun c₀ cs hu => ?_
  simp only [Tryz.ntmps16, List.size_toArray, List.length_cons, List.length_nil, Nat.reduceAdd, Nat.reduceSub, Array.replicate_succ, Array.replicate_zero, List.push_toArray, List.append_toArray, List.nil_append, List.cons_append]
  have hta := taF_ok err
  have HA := hide ha
  have b0 := hb.cell 0 _ rfl
  have c0 := (setRow_bx (us := #[Value.int .i64 0, Value.int .i64 0, Value.int .i64 0, Value.int .i64 0, Value.int .i64 0, Value.int .i64 0, Value.bool false, (Value.slice none 0 0), (Value.slice none 0 0), (Value.slice none 0 0), (Value.slice none 0 0), (Value.int .i64 0), (Value.slice none 0 0), (Value.slice none 0 0), (Value.slice none 0 0), (Value.slice none 0 0), (Value.int .i64 0)]) hb (fun e => hab e.symm)).cell 0 _ rfl
  have bf := hb.frozen 0
  have cf := (setRow_bx (us := #[Value.int .i64 0, Value.int .i64 0, Value.int .i64 0, Value.int .i64 0, Value.int .i64 0, Value.int .i64 0, Value.bool false, (Value.slice none 0 0), (Value.slice none 0 0), (Value.slice none 0 0), (Value.slice none 0 0), (Value.int .i64 0), (Value.slice none 0 0), (Value.slice none 0 0), (Value.slice none 0 0), (Value.slice none 0 0), (Value.int .i64 0)]) hb (fun e => hab e.symm)).frozen 0
  have RB := hide ((setRow_bx (us := #[Value.int .i64 0, Value.int .i64 0, Value.int .i64 0, Value.int .i64 0, Value.int .i64 0, Value.int .i64 0, Value.bool false, (Value.slice none 0 0), (Value.slice none 0 0), (Value.slice none 0 0), (Value.slice none 0 0), (Value.int .i64 0), (Value.slice none 0 0), (Value.slice none 0 0), (Value.slice none 0 0), (Value.slice none 0 0), (Value.int .i64 0)]) hb (fun e => hab e.symm)).set 0 (.int .i64 err))
  have RA := hide ((ha.setRow #[Value.int .i64 0, Value.int .i64 0, Value.int .i64 0, Value.int .i64 0, Value.int .i64 0, Value.int .i64 0, Value.bool false, (Value.slice none 0 0), (Value.slice none 0 0), (Value.slice none 0 0), (Value.slice none 0 0), (Value.int .i64 0), (Value.slice none 0 0), (Value.slice none 0 0), (Value.slice none 0 0), (Value.slice none 0 0), (Value.int .i64 0)]).setO ⟨b, 0, none⟩ hab (.int .i64 err))
  have KA := hide (Kp.trans (N := fun k => k = a ∨ k = b) (M := fun k => k = b) (show Kp (fun k => k = a ∨ k = b) w (w.setRow a #[Value.int .i64 0, Value.int .i64 0, Value.int .i64 0, Value.int .i64 0, Value.int .i64 0, Value.int .i64 0, Value.bool false, (Value.slice none 0 0), (Value.slice none 0 0), (Value.slice none 0 0), (Value.slice none 0 0), (Value.int .i64 0), (Value.slice none 0 0), (Value.slice none 0 0), (Value.slice none 0 0), (Value.slice none 0 0), (Value.int .i64 0)]) from ⟨rfl, rfl, rfl, by simp, fun k _ hk => setRow_other _ _ k _ (fun e => hk (.inl e))⟩) (Kp.set _ ⟨b, 0, none⟩ (.int .i64 err) rfl) (fun i h => .inl (.inr h)))
  clear ha hb
  apply wpS_seq
  apply wpS_region
  simp [wpOpsS, go_sem, recoverD, hu, hta, Exit.thenS]
  apply wpS_of_wp
  go_wp2_with (first | refine wpl_storeF rfl _ _ rfl rfl rfl (unhide HA) hx rfl zr_one ?_)
  simp only [bodyPostS]
  exact ⟨trivial, _, rfl, _, results_none rfl _ _ _, rfl, rfl, unhide RA, by simpa using unhide RB, unhide KA⟩

set_option maxRecDepth 100000 in
set_option maxHeartbeats 1000000 in
theorem catchF_idle (a b : Nat) (w : World) :
    CallsD Tryz.prog 16 #[.pointer (some ⟨a, 0, none⟩), .pointer (some ⟨b, 0, none⟩)] .returning w fun e u' w' => e = .returned (.tuple #[]) ∧ u' = .returning ∧ w' = w := by
  refine callsD_of_wpS Tryz.func16 rfl fun c₀ cs hu => ?_
  simp only [Tryz.ntmps16, List.size_toArray, List.length_cons, List.length_nil, Nat.reduceAdd, Nat.reduceSub, Array.replicate_succ, Array.replicate_zero, List.push_toArray, List.append_toArray, List.nil_append, List.cons_append]
  have hta := taF_nil
  apply wpS_seq
  apply wpS_region
  simp [wpOpsS, go_sem, recoverD, hu, hta, Exit.thenS]
  apply wpS_of_wp
  go_wp2
  cases c₀
  simp_all [bodyPostS, results, Tryz.results16]

set_option maxRecDepth 100000 in
theorem opened_nil (w : World) : Calls Tryz.prog 18 #[(Value.slice none 0 0)] w fun r W => r = upF 5 (.int .i64 0) ∧ w = W := by
  go_enter Tryz.func18, Tryz.ntmps18
  go_wp2_with (first | (go_at_call 33; refine (unless_in false _ _).mono ?_; rintro r W2 ⟨rfl, rfl⟩; rw [if_neg (by decide)]))
  refine (fMust_in 5 _).mono ?_
  rintro r W2 ⟨rfl, rfl⟩
  rw [upF_no (by decide)]
  exact ⟨rfl, (upF_no (by decide) _).symm, rfl⟩

set_option maxRecDepth 100000 in
set_option maxHeartbeats 4000000 in
theorem Decode_nil (w : World) : Calls Tryz.prog 10 #[(Value.slice none 0 0)] w fun r W => r = .returned (.tuple #[.agg #[Value.int .i64 0, Value.int .i64 0, Value.int .i64 0, Value.int .i64 0, Value.int .i64 0, Value.int .i64 0, Value.bool false, (Value.slice none 0 0), (Value.slice none 0 0), (Value.slice none 0 0), (Value.slice none 0 0), (Value.int .i64 0), (Value.slice none 0 0), (Value.slice none 0 0), (Value.slice none 0 0), (Value.slice none 0 0), (Value.int .i64 0)], .int .i64 5]) ∧ Below w.heap.size w W := by
  have hmf : ∀ (fn : Fn) (first cap : Array Value) (w : World), (Instr.makeFunc fn first cap).run Tryz.prog w = .ok (.func fn first cap) w := fun _ _ _ _ => rfl
  obtain ⟨X, hX⟩ : ∃ X, (w.alloc (.cells #[Value.int .i64 0, Value.int .i64 0, Value.int .i64 0, Value.int .i64 0, Value.int .i64 0, Value.int .i64 0, Value.bool false, (Value.slice none 0 0), (Value.slice none 0 0), (Value.slice none 0 0), (Value.slice none 0 0), (Value.int .i64 0), (Value.slice none 0 0), (Value.slice none 0 0), (Value.slice none 0 0), (Value.slice none 0 0), (Value.int .i64 0)] 39)).alloc (.cells #[.int .i64 0] 28) = X := ⟨_, rfl⟩
  have HA : Bx X w.heap.size 39 #[Value.int .i64 0, Value.int .i64 0, Value.int .i64 0, Value.int .i64 0, Value.int .i64 0, Value.int .i64 0, Value.bool false, (Value.slice none 0 0), (Value.slice none 0 0), (Value.slice none 0 0), (Value.slice none 0 0), (Value.int .i64 0), (Value.slice none 0 0), (Value.slice none 0 0), (Value.slice none 0 0), (Value.slice none 0 0), (Value.int .i64 0)] := by rw [← hX]; exact (Bx.new w _ _).below (ballc (Below.refl _ _) _)
  have HB : Bx X (w.heap.size + 1) 28 #[.int .i64 0] := by
    rw [← hX]
    have := Bx.new (w.alloc (.cells #[Value.int .i64 0, Value.int .i64 0, Value.int .i64 0, Value.int .i64 0, Value.int .i64 0, Value.int .i64 0, Value.bool false, (Value.slice none 0 0), (Value.slice none 0 0), (Value.slice none 0 0), (Value.slice none 0 0), (Value.int .i64 0), (Value.slice none 0 0), (Value.slice none 0 0), (Value.slice none 0 0), (Value.slice none 0 0), (Value.int .i64 0)] 39)) 28 #[.int .i64 0]
    rw [World.size_alloc] at this
    exact this
  have bX : Below w.heap.size w X := by rw [← hX]; exact ballc (ballc (Below.refl _ _) _) _
  replace HA := hide HA
  replace HB := hide HB
  have H0 := hide bX
  clear bX
  have HT := hide (opened_nil X)
  go_enter_defers Tryz.func10, Tryz.ntmps10
  go_wp2_with fail
  refine (unhide HT).mono ?_
  rintro r W1 ⟨rfl, rfl⟩
  clear hX
  rw [upF_no (by decide)]
  refine leaves_cons (f := 16) (args := #[.pointer (some ⟨w.heap.size, 0, none⟩), .pointer (some ⟨w.heap.size + 1, 0, none⟩)]) (by simp) (by simp [go_sem]) ?_
  refine (catchF_panicking w.heap.size (w.heap.size + 1) 5 0 _ rfl [] _ (by omega) (unhide HA) (unhide HB)).mono ?_
  rintro e u' WF ⟨rfl, rfl, RA, RB, KA⟩
  have b1 : WF.cell? ⟨w.heap.size + 1, 0, none⟩ = some (.int .i64 5) := RB.cell 0 _ rfl
  have d0 := RA.cell 0 _ rfl
  have d1 := RA.cell 1 _ rfl
  have d2 := RA.cell 2 _ rfl
  have d3 := RA.cell 3 _ rfl
  have d4 := RA.cell 4 _ rfl
  have d5 := RA.cell 5 _ rfl
  have d6 := RA.cell 6 _ rfl
  have d7 := RA.cell 7 _ rfl
  have d8 := RA.cell 8 _ rfl
  have d9 := RA.cell 9 _ rfl
  have d10 := RA.cell 10 _ rfl
  have d11 := RA.cell 11 _ rfl
  have d12 := RA.cell 12 _ rfl
  have d13 := RA.cell 13 _ rfl
  have d14 := RA.cell 14 _ rfl
  have d15 := RA.cell 15 _ rfl
  have d16 := RA.cell 16 _ rfl
  have FIN := hide (KA.below (unhide H0) (fun i e => by omega))
  simp [Leaves, settle, results, Tryz.results10, go_sem, b1, d0, d1, d2, d3, d4, d5, d6, d7, d8, d9, d10, d11, d12, d13, d14, d15, d16]
  exact unhide FIN

set_option maxRecDepth 100000 in
set_option maxHeartbeats 4000000 in
theorem Decode_ex {w : World} {a : Option Addr} {c : Nat} (h : RB w (.slice a 19 c) all17) : Calls Tryz.prog 10 #[.slice a 19 c] w fun r W => ∃ u, r = .returned (.tuple #[.agg #[Value.int .i64 1, Value.int .i64 1, Value.int .i64 2, Value.int .i64 3, Value.int .i64 4, Value.int .i64 5, Value.bool true, u, (Value.slice none 0 0), (Value.slice none 0 0), (Value.slice none 0 0), (Value.int .i64 0), (Value.slice none 0 0), (Value.slice none 0 0), (Value.slice none 0 0), (Value.slice none 0 0), (Value.int .i64 0)], .int .i64 0]) ∧ OwD W w.heap.size u [(1, 7)] ∧ Below w.heap.size w W := by
  have hmf : ∀ (fn : Fn) (first cap : Array Value) (w : World), (Instr.makeFunc fn first cap).run Tryz.prog w = .ok (.func fn first cap) w := fun _ _ _ _ => rfl
  obtain ⟨X, hX⟩ : ∃ X, (w.alloc (.cells #[Value.int .i64 0, Value.int .i64 0, Value.int .i64 0, Value.int .i64 0, Value.int .i64 0, Value.int .i64 0, Value.bool false, (Value.slice none 0 0), (Value.slice none 0 0), (Value.slice none 0 0), (Value.slice none 0 0), (Value.int .i64 0), (Value.slice none 0 0), (Value.slice none 0 0), (Value.slice none 0 0), (Value.slice none 0 0), (Value.int .i64 0)] 39)).alloc (.cells #[.int .i64 0] 28) = X := ⟨_, rfl⟩
  have HA : Bx X w.heap.size 39 #[Value.int .i64 0, Value.int .i64 0, Value.int .i64 0, Value.int .i64 0, Value.int .i64 0, Value.int .i64 0, Value.bool false, (Value.slice none 0 0), (Value.slice none 0 0), (Value.slice none 0 0), (Value.slice none 0 0), (Value.int .i64 0), (Value.slice none 0 0), (Value.slice none 0 0), (Value.slice none 0 0), (Value.slice none 0 0), (Value.int .i64 0)] := by rw [← hX]; exact (Bx.new w _ _).below (ballc (Below.refl _ _) _)
  have HB : Bx X (w.heap.size + 1) 28 #[.int .i64 0] := by
    rw [← hX]
    have := Bx.new (w.alloc (.cells #[Value.int .i64 0, Value.int .i64 0, Value.int .i64 0, Value.int .i64 0, Value.int .i64 0, Value.int .i64 0, Value.bool false, (Value.slice none 0 0), (Value.slice none 0 0), (Value.slice none 0 0), (Value.slice none 0 0), (Value.int .i64 0), (Value.slice none 0 0), (Value.slice none 0 0), (Value.slice none 0 0), (Value.slice none 0 0), (Value.int .i64 0)] 39)) 28 #[.int .i64 0]
    rw [World.size_alloc] at this
    exact this
  have bX : Below w.heap.size w X := by rw [← hX]; exact ballc (ballc (Below.refl _ _) _) _
  replace HA := hide HA
  replace HB := hide HB
  have H0 := hide bX
  clear bX
  have HT := hide (opened_ex (h.below (unhide H0)))
  clear h
  go_enter_defers Tryz.func10, Tryz.ntmps10
  go_wp2_with fail
  refine (unhide HT).mono ?_
  rintro r W1 ⟨a', c', rfl, hrow, hb⟩
  replace HA := hide ((unhide HA).below hb)
  replace HB := hide ((unhide HB).below hb)
  replace H0 := hide (bnext (unhide H0) hb)
  have HR := hide (rRead_in W1 (.slice a' 11 c') body17 hrow (by decide) (by decide))
  have hw1 := (unhide HB).lt
  clear hrow hb HT hX
  go_wp2_with fail
  refine (unhide HR).mono ?_
  rintro r W2 ⟨p, v', rfl, hrd, hb, hp, hvo⟩
  replace HA := hide ((unhide HA).below hb)
  replace HB := hide ((unhide HB).below hb)
  have hw2 := (unhide H0).size
  have hpa : w.heap.size + 1 < p := by omega
  have hw4 := hb.size
  replace H0 := hide (bnext (unhide H0) hb)
  have HT := hide (tkFrame_in hrd (fun k hk => hrd.own_lt (by decide) k hk))
  have hw3 := (unhide H0).size
  clear hrd hb HR hvo
  go_wp2_with fail
  refine (unhide HT).mono ?_
  rintro r W3 ⟨u, rfl, ho, hk⟩
  replace HA := hide ((unhide HA).kp hk (by omega))
  replace HB := hide ((unhide HB).kp hk (by omega))
  replace H0 := hide (hk.below (unhide H0) (fun i e => by omega))
  obtain ⟨ua, uc, rfl⟩ := OwD.form ho
  rw [show [((1 : Int), (7 : Int))].length = 1 from rfl] at ho ⊢
  have H1C := hide (show (#[Value.int .i64 1, Value.int .i64 1, Value.int .i64 2, Value.int .i64 3, Value.int .i64 4, Value.int .i64 5, Value.bool true, (.slice ua 1 uc), (Value.slice none 0 0), (Value.slice none 0 0), (Value.slice none 0 0), (Value.int .i64 0), (Value.slice none 0 0), (Value.slice none 0 0), (Value.slice none 0 0), (Value.slice none 0 0), (Value.int .i64 0)] : Array Value).all (·.oneCell') = true by first | rfl | decide | (simp [Value.oneCell']))
  have b0 := (setRow_bx (us := #[Value.int .i64 1, Value.int .i64 1, Value.int .i64 2, Value.int .i64 3, Value.int .i64 4, Value.int .i64 5, Value.bool true, (.slice ua 1 uc), (Value.slice none 0 0), (Value.slice none 0 0), (Value.slice none 0 0), (Value.int .i64 0), (Value.slice none 0 0), (Value.slice none 0 0), (Value.slice none 0 0), (Value.slice none 0 0), (Value.int .i64 0)]) (unhide HB) (show w.heap.size + 1 ≠ w.heap.size by omega)).cell 0 _ rfl
  have bf := (setRow_bx (us := #[Value.int .i64 1, Value.int .i64 1, Value.int .i64 2, Value.int .i64 3, Value.int .i64 4, Value.int .i64 5, Value.bool true, (.slice ua 1 uc), (Value.slice none 0 0), (Value.slice none 0 0), (Value.slice none 0 0), (Value.int .i64 0), (Value.slice none 0 0), (Value.slice none 0 0), (Value.slice none 0 0), (Value.slice none 0 0), (Value.int .i64 0)]) (unhide HB) (show w.heap.size + 1 ≠ w.heap.size by omega)).frozen 0
  have RB' := hide ((setRow_bx (us := #[Value.int .i64 1, Value.int .i64 1, Value.int .i64 2, Value.int .i64 3, Value.int .i64 4, Value.int .i64 5, Value.bool true, (.slice ua 1 uc), (Value.slice none 0 0), (Value.slice none 0 0), (Value.slice none 0 0), (Value.int .i64 0), (Value.slice none 0 0), (Value.slice none 0 0), (Value.slice none 0 0), (Value.slice none 0 0), (Value.int .i64 0)]) (unhide HB) (show w.heap.size + 1 ≠ w.heap.size by omega)).set 0 (.int .i64 0))
  have RA := hide (((unhide HA).setRow #[Value.int .i64 1, Value.int .i64 1, Value.int .i64 2, Value.int .i64 3, Value.int .i64 4, Value.int .i64 5, Value.bool true, (.slice ua 1 uc), (Value.slice none 0 0), (Value.slice none 0 0), (Value.slice none 0 0), (Value.int .i64 0), (Value.slice none 0 0), (Value.slice none 0 0), (Value.slice none 0 0), (Value.slice none 0 0), (Value.int .i64 0)]).setO ⟨w.heap.size + 1, 0, none⟩ (by show w.heap.size ≠ w.heap.size + 1; omega) (.int .i64 0))
  have KA := hide (Kp.trans (N := fun k => k = w.heap.size ∨ k = w.heap.size + 1) (M := fun k => k = w.heap.size + 1) (show Kp (fun k => k = w.heap.size ∨ k = w.heap.size + 1) W3 (W3.setRow w.heap.size #[Value.int .i64 1, Value.int .i64 1, Value.int .i64 2, Value.int .i64 3, Value.int .i64 4, Value.int .i64 5, Value.bool true, (.slice ua 1 uc), (Value.slice none 0 0), (Value.slice none 0 0), (Value.slice none 0 0), (Value.int .i64 0), (Value.slice none 0 0), (Value.slice none 0 0), (Value.slice none 0 0), (Value.slice none 0 0), (Value.int .i64 0)]) from ⟨rfl, rfl, rfl, by simp, fun k _ hk => setRow_other _ _ k _ (fun e => hk (.inl e))⟩) (Kp.set _ ⟨w.heap.size + 1, 0, none⟩ (.int .i64 0) rfl) (fun i h => .inl (.inr h)))
  have HO := hide ho
  clear ho hk HT
  go_wp2_with (first | refine wpl_storeF rfl _ _ rfl rfl rfl (unhide HA) rfl rfl (unhide H1C) ?_)
  refine leaves_cons (f := 16) (args := #[.pointer (some ⟨w.heap.size, 0, none⟩), .pointer (some ⟨w.heap.size + 1, 0, none⟩)]) (by simp) (by simp [go_sem]) ?_
  refine (catchF_idle w.heap.size (w.heap.size + 1) _).mono ?_
  rintro e u' w'' ⟨rfl, rfl, rfl⟩
  have b1 : World.cell? _ ⟨w.heap.size + 1, 0, none⟩ = some (.int .i64 0) := (unhide RB').cell 0 _ rfl
  have RA2 := unhide RA
  have KA2 := unhide KA
  generalize World.setCell _ ⟨w.heap.size + 1, 0, none⟩ (.int .i64 0) = WF at *
  have d0 := RA2.cell 0 _ rfl
  have d1 := RA2.cell 1 _ rfl
  have d2 := RA2.cell 2 _ rfl
  have d3 := RA2.cell 3 _ rfl
  have d4 := RA2.cell 4 _ rfl
  have d5 := RA2.cell 5 _ rfl
  have d6 := RA2.cell 6 _ rfl
  have d7 := RA2.cell 7 _ rfl
  have d8 := RA2.cell 8 _ rfl
  have d9 := RA2.cell 9 _ rfl
  have d10 := RA2.cell 10 _ rfl
  have d11 := RA2.cell 11 _ rfl
  have d12 := RA2.cell 12 _ rfl
  have d13 := RA2.cell 13 _ rfl
  have d14 := RA2.cell 14 _ rfl
  have d15 := RA2.cell 15 _ rfl
  have d16 := RA2.cell 16 _ rfl
  have FIN := hide (show OwD WF w.heap.size (.slice ua 1 uc) [(1, 7)] ∧ Below w.heap.size w WF from ⟨OwD.base (owns_kp (unhide HO) KA2 (fun i hi e => by have := (World.ownsRow.lt (unhide HO) i hi).1; omega)) (by omega), KA2.below (unhide H0) (fun i e => by omega)⟩)
  simp [Leaves, settle, results, Tryz.results10, go_sem, b1, d0, d1, d2, d3, d4, d5, d6, d7, d8, d9, d10, d11, d12, d13, d14, d15, d16]
  exact unhide FIN
end Go.Proofs.YtkffonoifbaifaaGreat
