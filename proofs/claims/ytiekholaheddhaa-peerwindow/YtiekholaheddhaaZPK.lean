/-
  A Peer in new memory; what the document fixes.
-/
import Derived.Test.YtiekholaheddhaaZPH
set_option linter.unusedSimpArgs false
set_option linter.unusedVariables false
namespace Go.Proofs.Ytiekholaheddhaa
open Go.RowKit Go.Lib

/-- a Peer in new memory -/
def KP (w W : World) (b : Nat) (s : St) : Prop := ∃ P, PL P W 39 b s ∧ (∀ i, P i → w.heap.size ≤ i ∧ i < W.heap.size) ∧ Below w.heap.size w W
variable {w W W' : World} {b : Nat} {s : St}
theorem KP.bel (h : KP w W b s) : Below w.heap.size w W := by obtain ⟨_, _, _, h⟩ := h; exact h
theorem KP.gd (h : KP w W b s) : Gd s := by obtain ⟨_, h, _⟩ := h; exact h.gd
theorem KP.ln (h : KP w W b s) : s.fl.length ≤ 64 := by have := h.gd.ln; have := h.gd.w1; omega
theorem KP.below (h : KP w W b s) (hb : Below W.heap.size W W') : KP w W' b s := by
  obtain ⟨P, h1, h2, h3⟩ := h
  have hz := hb.size
  exact ⟨P, h1.below hb, fun i hi => ⟨(h2 i hi).1, by have := (h2 i hi).2; omega⟩, bnext h3 hb⟩
/-- a call: what was Below W of others (blocks from B on that are not its own) is told by Kp -/
theorem KP.call (h : KP w W b s) {F : FuncId} {args : Array Value} {s2 : St} {v : Value} (hc : ∀ P1, PL P1 W 39 b s → Calls Try.prog F args W (CP P1 W 39 b s2 v)) :
    Calls Try.prog F args W fun e W' => e = .returned v ∧ KP w W' b s2 := by
  obtain ⟨P, h1, h2, h3⟩ := h
  refine (hc P h1).mono ?_
  rintro e W' ⟨rfl, ha, k⟩
  have hz := h3.size
  refine ⟨rfl, _, ha.lt, fun i hi => ⟨?_, hi.2⟩, k.below h3 (fun i hi => (h2 i hi).1)⟩
  rcases hi.1 with e | e
  · exact (h2 i e).1
  · omega
theorem KP.snd (h : KP w W b s) (k : Int) : Calls Try.prog 14 #[.pointer (some ⟨b, 0, none⟩), .int .i64 k] W fun e W' => e = .returned (.tuple #[.int .i64 (sndN s k), .int .i64 (sndC s k)]) ∧ KP w W' b (sndS s k) := h.call (fun P1 h1 => Send_in h1 k)
theorem KP.hrd (h : KP w W b s) (n g c : Int) : Calls Try.prog 15 #[.pointer (some ⟨b, 0, none⟩), .int .i64 n, .int .i64 g, .int .i64 c] W fun e W' => e = .returned (.bool (hrdB s g)) ∧ KP w W' b (hrdS s n g c) := h.call (fun P1 h1 => Heard_in h1 n g c)
theorem KP.flg (h : KP w W b s) : Calls Try.prog 16 #[.pointer (some ⟨b, 0, none⟩)] W (FlA W s.fl) := by
  obtain ⟨P, h, _⟩ := h
  exact Flight_in h
theorem KP.got (h : KP w W b s) : Calls Try.prog 17 #[.pointer (some ⟨b, 0, none⟩)] W fun e W' => e = .returned (.int .i64 s.gt) ∧ W = W' := by
  obtain ⟨P, h, _⟩ := h
  exact Got_in h
theorem KP.crd (h : KP w W b s) : Calls Try.prog 18 #[.pointer (some ⟨b, 0, none⟩)] W fun e W' => e = .returned (.int .i64 s.cr) ∧ W = W' := by
  obtain ⟨P, h, _⟩ := h
  exact Credit_in h
theorem KP.new {x y : Int} {e : Ending} (h : NewA w 39 x y e W) (hn : newB x y = true) : e = .returned (.tuple #[.pointer (some ⟨w.heap.size, 0, none⟩), .int .i64 0]) ∧ KP w W w.heap.size (newS x y) := by
  obtain ⟨h1, h2⟩ := h
  rcases h2 with ⟨_, he, ha⟩ | ⟨h2, _⟩
  · exact ⟨he, _, ha.lt, fun i hi => hi, h1⟩
  · rw [hn] at h2; cases h2

def k0 : St := ⟨2, 5, 0, [], 0, 5⟩
def k1 : St := ⟨2, 5, 1, [1], 0, 5⟩
def k2 : St := ⟨2, 5, 2, [1, 2], 0, 5⟩
def k4 : St := ⟨2, 5, 2, [2], 4, 2⟩
def k5 : St := ⟨2, 5, 3, [2, 3], 4, 2⟩
theorem k_n : newS 2 5 = k0 := rfl
theorem k_1 : sndN k0 9 = 1 ∧ sndC k0 9 = 5 ∧ sndS k0 9 = k1 := ⟨rfl, rfl, rfl⟩
theorem k_2 : sndN k1 3 = 2 ∧ sndC k1 3 = 3 ∧ sndS k1 3 = k2 := ⟨rfl, rfl, rfl⟩
theorem k_3 : sndN k2 9 = 1 ∧ sndC k2 9 = 5 ∧ sndS k2 9 = k2 := ⟨rfl, rfl, rfl⟩
theorem k_4 : hrdB k2 1 = true ∧ hrdS k2 4 1 2 = k4 := ⟨rfl, rfl⟩
theorem k_5 : sndN k4 9 = 3 ∧ sndC k4 9 = 2 ∧ sndS k4 9 = k5 := ⟨rfl, rfl, rfl⟩
set_option maxRecDepth 100000 in
set_option maxHeartbeats 4000000 in
theorem known_in (w : World) : Calls Try.prog 12 #[] w fun e W => e = .returned (.bool true) ∧ Below w.heap.size w W := by
  have HN := hide (New_in 2 5 w)
  have HNW := hide (fun e W (h : NewA w 39 2 5 e W) => KP.new h (by rfl))
  rw [k_n] at HNW
  have A1 := hide (fun W (h : KP w W w.heap.size k0) => h.snd 9)
  have A2 := hide (fun W (h : KP w W w.heap.size k1) => h.snd 3)
  have A3 := hide (fun W (h : KP w W w.heap.size k2) => h.snd 9)
  have A4 := hide (fun W (h : KP w W w.heap.size k2) => h.hrd 4 1 2)
  have A5 := hide (fun W (h : KP w W w.heap.size k4) => h.snd 9)
  have A6 := hide (fun W (h : KP w W w.heap.size k5) => h.flg)
  have A7 := hide (fun W (h : KP w W w.heap.size k5) => h.got)
  have A8 := hide (fun W (h : KP w W w.heap.size k5) => h.crd)
  rw [k_1.1, k_1.2.1, k_1.2.2] at A1
  rw [k_2.1, k_2.2.1, k_2.2.2] at A2
  rw [k_3.1, k_3.2.1, k_3.2.2] at A3
  rw [k_4.1, k_4.2] at A4
  rw [k_5.1, k_5.2.1, k_5.2.2] at A5
  rw [show k5.fl = [2, 3] from rfl] at A6
  rw [show k5.gt = 4 from rfl] at A7
  rw [show k5.cr = 2 from rfl] at A8
  obtain ⟨b, hb⟩ : ∃ b, w.heap.size = b := ⟨_, rfl⟩
  rw [hb] at HNW A1 A2 A3 A4 A5 A6 A7 A8
  clear hb
  go_enter Try.func12, Try.ntmps12
  go_wp2_with fail
  refine (unhide HN).mono ?_
  intro e W1 h1
  obtain ⟨rfl, k1⟩ := unhide HNW e W1 h1
  replace k1 := hide k1
  clear h1 HN HNW
  go_wp2_with fail
  refine (unhide A1 _ (unhide k1)).mono ?_
  rintro e W2 ⟨rfl, k2⟩
  replace k2 := hide k2
  clear A1 k1
  go_wp2_with fail
  refine (unhide A2 _ (unhide k2)).mono ?_
  rintro e W3 ⟨rfl, k3⟩
  replace k3 := hide k3
  clear A2 k2
  go_wp2_with fail
  refine (unhide A3 _ (unhide k3)).mono ?_
  rintro e W4 ⟨rfl, k4⟩
  replace k4 := hide k4
  clear A3 k3
  go_wp2_with fail
  refine (unhide A4 _ (unhide k4)).mono ?_
  rintro e W5 ⟨rfl, k5⟩
  replace k5 := hide k5
  clear A4 k4
  go_wp2_with fail
  refine (unhide A5 _ (unhide k5)).mono ?_
  rintro e W6 ⟨rfl, k6⟩
  replace k6 := hide k6
  clear A5 k5
  go_wp2_with fail
  refine (unhide A6 _ (unhide k6)).mono ?_
  rintro e W7 ⟨a, c, rfl, ho, b7⟩
  have k7 := hide ((unhide k6).below b7)
  clear A6 k6 b7
  obtain ⟨X8, hX8⟩ : ∃ X8, W7.alloc (.cells #[.int .i64 2, .int .i64 3] 3) = X8 := ⟨_, rfl⟩
  have b8 : Below W7.heap.size W7 X8 := by rw [← hX8]; exact ballc (Below.refl _ _) _
  have r8 : RN X8 (.slice (some ⟨W7.heap.size, 0, none⟩) 2 2) [2, 3] := by
    have hb := Bx.new W7 3 #[.int .i64 2, .int .i64 3]
    rw [hX8] at hb
    exact .inr ⟨W7.heap.size, 0, 2, rfl, Nat.le_refl _, hb.lt, fun j x hx => by rw [Nat.zero_add]; exact hb.cell j x (by rw [← hx]; simp [nC])⟩
  have k8 := hide ((unhide k7).below b8)
  have HI := hide (ints_in (.slice a 2 c) _ [2, 3] [2, 3] X8 (own_below ho b8).row r8 (by simp) (by simp))
  rw [decide_eq_true rfl] at HI
  simp only [List.length_cons, List.length_nil, Nat.zero_add, Nat.reduceAdd] at ho
  clear k7 ho b8 r8
  go_wp2_with fail
  refine (unhide HI).mono ?_
  rintro e W9 ⟨rfl, b9⟩
  have k9 := hide ((unhide k8).below b9)
  clear HI k8 b9
  go_wp2_with fail
  refine (unhide A7 _ (unhide k9)).mono ?_
  rintro e WA ⟨rfl, rfl⟩
  clear A7
  go_wp2_with fail
  refine (unhide A8 _ (unhide k9)).mono ?_
  rintro e WA ⟨rfl, rfl⟩
  clear A8
  go_wp2
  go_ret
  exact ⟨rfl, (unhide k9).bel⟩

end Go.Proofs.Ytiekholaheddhaa
