/-
  An Alarm in new memory; what the document fixes.
-/
import Derived.Test.YtknomhgglmgciaaZAB2
set_option linter.unusedSimpArgs false
set_option linter.unusedVariables false
namespace Go.Proofs.Ytknomhgglmgciaa
open Go.RowKit Go.Lib

/-- an Alarm in new memory -/
def KA (w W : World) (b : Nat) (ls ms : Int) (n : Nat) (L : List Tm) : Prop := ∃ P, AL P W b ls ms n L ∧ (∀ i, P i → w.heap.size ≤ i ∧ i < W.heap.size) ∧ Below w.heap.size w W
variable {w W W' : World} {b n : Nat} {ls ms : Int} {L : List Tm}
theorem KA.bel (h : KA w W b ls ms n L) : Below w.heap.size w W := by obtain ⟨_, _, _, h⟩ := h; exact h
theorem KA.gl (h : KA w W b ls ms n L) : GL ls ms L := by obtain ⟨_, h, _⟩ := h; exact h.gl
theorem KA.ln (h : KA w W b ls ms n L) : L.length ≤ n := by obtain ⟨_, h, _⟩ := h; exact h.ln
theorem KA.below (h : KA w W b ls ms n L) (hb : Below W.heap.size W W') : KA w W' b ls ms n L := by
  obtain ⟨P, h1, h2, h3⟩ := h
  have hz := hb.size
  exact ⟨P, h1.below hb, fun i hi => ⟨(h2 i hi).1, by have := (h2 i hi).2; omega⟩, bnext h3 hb⟩
theorem KA.call (h : KA w W b ls ms n L) {F : FuncId} {args : Array Value} {n' : Nat} {L' : List Tm} {v : Value} (hc : ∀ P1, AL P1 W b ls ms n L → (∀ i, P1 i → i < W.heap.size) → Calls Try.prog F args W (CA P1 W b ls ms n' L' v)) :
    Calls Try.prog F args W fun e W' => e = .returned v ∧ KA w W' b ls ms n' L' := by
  obtain ⟨P, h1, h2, h3⟩ := h
  refine (hc P h1 (fun i hi => (h2 i hi).2)).mono ?_
  rintro e W' ⟨rfl, ha, k⟩
  have hz := h3.size
  refine ⟨rfl, _, ha.lt, fun i hi => ⟨?_, hi.2⟩, k.below h3 (fun i hi => (h2 i hi).1)⟩
  rcases hi.1 with e | e
  · exact (h2 i e).1
  · omega
theorem KA.set (h : KA w W b ls ms n L) (hn : n ≤ 999998) (k : Int) (hk : in64 k) (now : Int) : Calls Try.prog 17 #[.pointer (some ⟨b, 0, none⟩), .int .i64 k, .int .i64 now] W fun e W' => e = .returned (.int .i64 (setE ls L k now)) ∧ KA w W' b ls ms (n + 1) (setS ls L k now) := h.call (fun P h1 h2 => Set_in h1 h2 hn k hk now)
theorem KA.rst (h : KA w W b ls ms n L) (hn : n ≤ 999998) (k : Int) (hk : in64 k) (now : Int) : Calls Try.prog 18 #[.pointer (some ⟨b, 0, none⟩), .int .i64 k, .int .i64 now] W fun e W' => e = .returned (.int .i64 (rstE ls now)) ∧ KA w W' b ls ms (n + 1) (rstS ls L k now) := h.call (fun P h1 h2 => Reset_in h1 h2 hn k hk now)
theorem KA.off (h : KA w W b ls ms n L) (hn : n ≤ 999998) (k : Int) (hk : in64 k) : Calls Try.prog 14 #[.pointer (some ⟨b, 0, none⟩), .int .i64 k] W fun e W' => e = .returned (.tuple #[]) ∧ KA w W' b ls ms n (offL L k) := h.call (fun P h1 h2 => Off_in h1 (by omega) k hk)
theorem KA.due (h : KA w W b ls ms n L) (hn : n ≤ 999998) (now : Int) : Calls Try.prog 19 #[.pointer (some ⟨b, 0, none⟩), .int .i64 now] W fun e W' => ∃ a c, e = .returned (.slice a (duA ms now L).1.length c) ∧ OwN W' W.heap.size (.slice a (duA ms now L).1.length c) (duA ms now L).1 ∧ KA w W' b ls ms n (duA ms now L).2 := by
  obtain ⟨P, h1, h2, h3⟩ := h
  refine (Due_in h1 (fun i hi => (h2 i hi).2) hn now).mono ?_
  rintro e W' ⟨v, rfl, ho, ha, k⟩
  have hz := k.size
  obtain ⟨a, c, rfl⟩ := ho.form
  exact ⟨a, c, rfl, ho, P, ha, fun i hi => ⟨(h2 i hi).1, by have := (h2 i hi).2; omega⟩, k.below h3 (fun i hi => (h2 i hi).1)⟩
theorem KA.gap (h : KA w W b ls ms n L) (k : Int) (hk : in64 k) : Calls Try.prog 15 #[.pointer (some ⟨b, 0, none⟩), .int .i64 k] W fun e W' => e = .returned (gapA L k) ∧ Below W.heap.size W W' := by
  obtain ⟨P, h1, _⟩ := h
  exact Gap_in h1 k hk
theorem KA.next (h : KA w W b ls ms n L) : Calls Try.prog 16 #[.pointer (some ⟨b, 0, none⟩)] W fun e W' => e = .returned (nxtA L) ∧ Below W.heap.size W W' := by
  obtain ⟨P, h1, _⟩ := h
  exact Next_in h1
theorem KA.len (h : KA w W b ls ms n L) : Calls Try.prog 20 #[.pointer (some ⟨b, 0, none⟩)] W fun e W' => e = .returned (.int .i64 (L.length : Nat)) ∧ W = W' := by
  obtain ⟨P, h1, _⟩ := h
  exact Len_in h1
theorem KA.new {e : Ending} (h : NewA (fun i => W.heap.size ≤ i) W ls ms e W') (hb : Below w.heap.size w W) (hn : newB ls ms = true) : e = .returned (.tuple #[.pointer (some ⟨W.heap.size + 1, 0, none⟩), .int .i64 0]) ∧ KA w W' (W.heap.size + 1) ls ms 0 [] := by
  obtain ⟨h1, h2⟩ := h
  rcases h2 with ⟨_, he, ha⟩ | ⟨h2, _⟩
  · have hz := hb.size
    exact ⟨he, _, ha.lt, fun i hi => ⟨by have := hi.1; omega, hi.2⟩, bnext hb h1⟩
  · rw [hn] at h2; cases h2

def kL1 : List Tm := [⟨5, 2, 12⟩]
def kL2 : List Tm := [⟨5, 2, 12⟩, ⟨-3, 2, 12⟩]
def kL3 : List Tm := [⟨5, 4, 17⟩, ⟨-3, 4, 17⟩]
theorem k_s1 : setS 2 [] 5 10 = kL1 ∧ setE 2 [] 5 10 = 0 := ⟨rfl, rfl⟩
theorem k_s2 : setS 2 kL1 5 11 = kL1 ∧ setE 2 kL1 5 11 = 12 := ⟨rfl, rfl⟩
theorem k_s3 : setS 2 kL1 (-3) 10 = kL2 ∧ setE 2 kL1 (-3) 10 = 0 := ⟨rfl, rfl⟩
theorem k_du : (duA 7 13 kL2).1 = [-3, 5] ∧ (duA 7 13 kL2).2 = kL3 := ⟨by rfl, by rfl⟩
theorem k_ga : gapA kL3 5 = .tuple #[.int .i64 4, .int .i64 17] := by rfl
theorem k_nx : nxtA kL3 = .tuple #[.int .i64 (-3), .int .i64 17, .bool true] := by rfl
set_option maxRecDepth 100000 in
set_option maxHeartbeats 4000000 in
theorem known_in (w : World) : Calls Try.prog 12 #[] w fun e W => e = .returned (.bool true) ∧ Below w.heap.size w W := by
  have i5 : in64 5 := by unfold in64; omega
  have i3 : in64 (-3) := by unfold in64; omega
  have HN := hide (New_in 2 7 w)
  obtain ⟨b, hb⟩ : ∃ b, w.heap.size + 1 = b := ⟨_, rfl⟩
  have HNW := hide (fun e W (h : NewA (fun i => w.heap.size ≤ i) w 2 7 e W) => KA.new h (Below.refl _ _) (by rfl))
  rw [hb] at HNW
  clear hb
  have A1 := hide (fun W (h : KA w W b 2 7 0 []) => h.set (by omega) 5 i5 10)
  have A2 := hide (fun W (h : KA w W b 2 7 1 kL1) => h.set (by omega) 5 i5 11)
  have A3 := hide (fun W (h : KA w W b 2 7 2 kL1) => h.set (by omega) (-3) i3 10)
  have A4 := hide (fun W (h : KA w W b 2 7 3 kL2) => h.due (by omega) 13)
  have A5 := hide (fun W (h : KA w W b 2 7 3 kL3) => h.gap 5 i5)
  have A6 := hide (fun W (h : KA w W b 2 7 3 kL3) => h.next)
  have A7 := hide (fun W (h : KA w W b 2 7 3 kL3) => h.len)
  rw [k_s1.1, k_s1.2] at A1
  rw [k_s2.1, k_s2.2] at A2
  rw [k_s3.1, k_s3.2] at A3
  rw [k_du.1, k_du.2] at A4
  rw [k_ga] at A5
  rw [k_nx] at A6
  rw [show (kL3.length : Int) = 2 from rfl] at A7
  simp only [List.length_cons, List.length_nil, Nat.zero_add, Nat.reduceAdd] at A4
  clear i5 i3
  go_enter Try.func12, Try.ntmps12
  go_wp2_with fail
  refine (unhide HN).mono ?_
  intro e W1 h1
  obtain ⟨rfl, k1⟩ := unhide HNW e W1 h1
  replace k1 := hide k1
  clear h1 HN HNW
  go_wp2_with fail
  refine (unhide A1 _ (unhide k1)).mono ?_
  rintro e W2 ⟨rfl, k2⟩
  replace k2 := hide k2
  clear A1 k1
  go_wp2_with fail
  refine (unhide A2 _ (unhide k2)).mono ?_
  rintro e W3 ⟨rfl, k3⟩
  replace k3 := hide k3
  clear A2 k2
  go_wp2_with fail
  refine (unhide A3 _ (unhide k3)).mono ?_
  rintro e W4 ⟨rfl, k4⟩
  replace k4 := hide k4
  clear A3 k3
  go_wp2_with fail
  refine (unhide A4 _ (unhide k4)).mono ?_
  rintro e W5 ⟨a, c, rfl, ho, k5⟩
  replace k5 := hide k5
  replace ho := hide ho
  clear A4 k4
  go_wp2_with fail
  refine (unhide A5 _ (unhide k5)).mono ?_
  rintro e W6 ⟨rfl, b6⟩
  have k6 := hide ((unhide k5).below b6)
  have o6 := hide (own_kp (N := fun _ => False) (unhide ho) (Kp.of_below b6) (fun _ _ e => e))
  clear A5 k5 ho b6
  go_wp2_with fail
  refine (unhide A6 _ (unhide k6)).mono ?_
  rintro e W7 ⟨rfl, b7⟩
  have k7 := hide ((unhide k6).below b7)
  have o7 := hide (own_kp (N := fun _ => False) (unhide o6) (Kp.of_below b7) (fun _ _ e => e))
  clear A6 k6 o6 b7
  obtain ⟨X8, hX8⟩ : ∃ X8, W7.alloc (.cells #[.int .i64 (-3), .int .i64 5] 3) = X8 := ⟨_, rfl⟩
  have b8 : Below W7.heap.size W7 X8 := by rw [← hX8]; exact ballc (Below.refl _ _) _
  have r8 : RN X8 (.slice (some ⟨W7.heap.size, 0, none⟩) 2 2) [-3, 5] := by
    have hb := Bx.new W7 3 #[.int .i64 (-3), .int .i64 5]
    rw [hX8] at hb
    exact .inr ⟨W7.heap.size, 0, 2, rfl, Nat.le_refl _, hb.lt, fun j x hx => by rw [Nat.zero_add]; exact hb.cell j x (by rw [← hx]; simp [nC])⟩
  have k8 := hide ((unhide k7).below b8)
  have HI := hide (ints_in (.slice a 2 c) _ [-3, 5] [-3, 5] X8 ((own_kp (N := fun _ => False) (unhide o7) (Kp.of_below b8) (fun _ _ e => e)).row) r8 (by simp) (by simp))
  rw [decide_eq_true rfl] at HI
  clear k7 o7 b8 r8
  go_wp2_with fail
  refine (unhide HI).mono ?_
  rintro e W9 ⟨rfl, b9⟩
  have k9 := hide ((unhide k8).below b9)
  clear HI k8 b9
  go_wp2_with fail
  refine (unhide A7 _ (unhide k9)).mono ?_
  rintro e WA ⟨rfl, rfl⟩
  clear A7
  go_wp2
  go_ret
  exact ⟨rfl, (unhide k9).bel⟩

end Go.Proofs.Ytknomhgglmgciaa
