/-
  What the document fixes.
-/
import Derived.Test.YtjcdfjnlpfineaaZRL
set_option linter.unusedSimpArgs false
set_option linter.unusedVariables false
namespace Go.Proofs.Ytjcdfjnlpfineaa
open Go.RowKit Go.Lib
variable {w W W' : World} {b b' : Nat} {s s' : St}

def kS1 : St := ⟨4#32, 0#32, 1⟩
def kS2 : St := ⟨6#32, 0#32, 2⟩
def kS3 : St := ⟨6#32, 4#32, 3⟩
theorem k1 : joS nilS 2 = kS1 ∧ joB nilS 2 = true := ⟨by rfl, by rfl⟩
theorem k2 : joS kS1 2 = kS1 ∧ joB kS1 2 = false := ⟨by rfl, by rfl⟩
theorem k3 : joS kS1 1 = kS2 ∧ joB kS1 1 = true := ⟨by rfl, by rfl⟩
theorem k4 : lvS kS2 2 = kS3 ∧ lvB kS2 2 = true := ⟨by rfl, by rfl⟩
theorem k5 : fillW 0#32 [1, 2] = some 6#32 ∧ fillW 0#32 [2] = some 4#32 := ⟨by rfl, by rfl⟩
theorem k6 : lsW kS3.m = [1] ∧ lsW kS3.l = [2] := ⟨by rfl, by rfl⟩
theorem k7 : errL [1, 2] [2] 3 = 0 := by rfl
theorem k8 : errL [1, 2] [2] 4 = 6 := by rfl
theorem load_good {p : Value} (h : LoadA W b [1, 2] [2] 3 p) : p = .pointer (some ⟨b, 0, none⟩) ∧ RB W b kS3 ∧ Gd kS3 := by
  rcases h with ⟨h, _⟩ | ⟨_, h, J, L, h1, h2, h3, h4⟩
  · exact absurd k7 h
  · rw [k5.1] at h1
    rw [k5.2] at h2
    cases h1
    cases h2
    exact ⟨h, h4, h3⟩
theorem load_bad {p : Value} (h : LoadA W b [1, 2] [2] 4 p) : p = .pointer none := by
  rcases h with ⟨_, h⟩ | ⟨h, _⟩
  · exact h
  · rw [k8] at h; cases h
theorem KR.told_m (h : KR w W b kS3) : Calls Try.prog 23 #[.pointer (some ⟨b, 0, none⟩)] W fun e W' => ∃ a c, e = .returned (.slice a 1 c) ∧ RN W' (.slice a 1 c) [1] ∧ Below W.heap.size W W' := by
  have := Members_in h.rb h.gd
  unfold Told at this
  rw [k6.1] at this
  exact this.mono fun e W' ⟨a, c, h1, h2, h3⟩ => ⟨a, c, h1, OwN.row h2, h3⟩
theorem KR.told_l (h : KR w W b kS3) : Calls Try.prog 25 #[.pointer (some ⟨b, 0, none⟩)] W fun e W' => ∃ a c, e = .returned (.slice a 1 c) ∧ RN W' (.slice a 1 c) [2] ∧ Below W.heap.size W W' := by
  have := Left_in h.rb h.gd
  unfold Told at this
  rw [k6.2] at this
  exact this.mono fun e W' ⟨a, c, h1, h2, h3⟩ => ⟨a, c, h1, OwN.row h2, h3⟩

set_option maxRecDepth 100000 in
set_option maxHeartbeats 8000000 in
theorem known_in (w : World) : Calls Try.prog 9 #[] w fun e W => e = .returned (.bool true) ∧ Below w.heap.size w W := by
  have HN := hide (KR.new w)
  obtain ⟨b, hb⟩ : ∃ b, w.heap.size = b := ⟨_, rfl⟩
  rw [hb] at HN
  have A1 := hide (fun W (h : KR w W b nilS) => h.join 2)
  have A2 := hide (fun W (h : KR w W b kS1) => h.join 2)
  have A3 := hide (fun W (h : KR w W b kS1) => h.join 1)
  have A4 := hide (fun W (h : KR w W b kS2) => h.leave 2)
  rw [k1.1, k1.2] at A1
  rw [k2.1, k2.2] at A2
  rw [k3.1, k3.2] at A3
  rw [k4.1, k4.2] at A4
  have A5 := hide (fun W b (h : KR w W b kS3) => h.told_m)
  have A6 := hide (fun W (h : KR w W b kS3) => h.told_l)
  have A7 : Hid (∀ W, KR w W b kS3 → Calls Try.prog 26 #[.pointer (some ⟨b, 0, none⟩)] W fun e W' => e = .returned (.int .i64 3) ∧ W = W') := fun W h => Epoch_in h.rb
  have IN := hide (fun (W : World) (a a' : Option Addr) (c c' : Nat) (x : Int) (h : RN W (.slice a 1 c) [x]) (h' : RN W (.slice a' 1 c') [x]) => ints_in _ _ [x] [x] W h h' (by simp) (by simp))
  simp only [decide_true] at IN
  have L3 := hide (fun (W : World) (a a' : Option Addr) (c c' : Nat) (h : RN W (.slice a 2 c) [1, 2]) (h' : RN W (.slice a' 1 c') [2]) => Load_in h h' (by simp) (by simp) 3 (by unfold in64; omega))
  have L4 := hide (fun (W : World) (a a' : Option Addr) (c c' : Nat) (h : RN W (.slice a 2 c) [1, 2]) (h' : RN W (.slice a' 1 c') [2]) => Load_in h h' (by simp) (by simp) 4 (by unfold in64; omega))
  rw [k7] at L3
  rw [k8] at L4
  clear hb
  go_enter Try.func9, Try.ntmps9
  go_wp2_with fail
  refine (unhide HN).mono ?_
  rintro e W1 ⟨rfl, h1⟩
  have K1 := hide h1
  clear h1 HN
  go_wp2_with fail
  refine (unhide A1 _ (unhide K1)).mono ?_
  rintro e W2 ⟨rfl, h2⟩
  have K2 := hide h2
  clear h2 A1 K1
  go_wp2_with fail
  refine (unhide A2 _ (unhide K2)).mono ?_
  rintro e W3 ⟨rfl, h3⟩
  have K3 := hide h3
  clear h3 A2 K2
  go_wp2_with fail
  refine (unhide A3 _ (unhide K3)).mono ?_
  rintro e W4 ⟨rfl, h4⟩
  have K4 := hide h4
  clear h4 A3 K3
  go_wp2_with fail
  refine (unhide A4 _ (unhide K4)).mono ?_
  rintro e W5 ⟨rfl, h5⟩
  have K5 := hide h5
  clear h5 A4 K4
  obtain ⟨Y1, hY1⟩ : ∃ Y1, W5.alloc (.cells #[.int .i64 1, .int .i64 2] 3) = Y1 := ⟨_, rfl⟩
  obtain ⟨Y2, hY2⟩ : ∃ Y2, Y1.alloc (.cells #[.int .i64 2] 3) = Y2 := ⟨_, rfl⟩
  have y1 : Below W5.heap.size W5 Y1 := by rw [← hY1]; exact ballc (Below.refl _ _) _
  have y2 : Below Y1.heap.size Y1 Y2 := by rw [← hY2]; exact ballc (Below.refl _ _) _
  have r1 : RN Y1 (.slice (some ⟨W5.heap.size, 0, none⟩) 2 2) [1, 2] := by rw [← hY1]; exact RN.new W5 [1, 2]
  have r2 : RN Y2 (.slice (some ⟨Y1.heap.size, 0, none⟩) 1 1) [2] := by rw [← hY2]; exact RN.new Y1 [2]
  have z1 : Y1.heap.size = W5.heap.size + 1 := by rw [← hY1]; simp
  have K6 := hide ((unhide K5).below (bnext y1 y2))
  rw [z1] at r2
  have HL := hide (unhide L3 Y2 _ _ _ _ (r1.below y2) r2)
  have HB := hide y2
  clear y1 y2 r1 r2 K5 L3
  go_wp2_with fail
  refine (unhide HL).mono ?_
  rintro e W6 ⟨p6, rfl, hp6, b6⟩
  obtain ⟨rfl, r6, g6⟩ := load_good hp6
  have K7 := hide ((unhide K6).below b6)
  have Q7 : Hid (KR w W6 Y2.heap.size kS3) := ⟨r6, g6, (unhide K6).bel.size, (unhide K7).bel⟩
  obtain ⟨q, hq⟩ : ∃ q, Y2.heap.size = q := ⟨_, rfl⟩
  rw [hq] at Q7 ⊢
  clear hp6 r6 g6 b6 K6 HL HB hY1 hY2 z1 hq
  obtain ⟨Z1, hZ1⟩ : ∃ Z1, W6.alloc (.cells #[.int .i64 1, .int .i64 2] 3) = Z1 := ⟨_, rfl⟩
  obtain ⟨Z2, hZ2⟩ : ∃ Z2, Z1.alloc (.cells #[.int .i64 2] 3) = Z2 := ⟨_, rfl⟩
  have y1 : Below W6.heap.size W6 Z1 := by rw [← hZ1]; exact ballc (Below.refl _ _) _
  have y2 : Below Z1.heap.size Z1 Z2 := by rw [← hZ2]; exact ballc (Below.refl _ _) _
  have r1 : RN Z1 (.slice (some ⟨W6.heap.size, 0, none⟩) 2 2) [1, 2] := by rw [← hZ1]; exact RN.new W6 [1, 2]
  have r2 : RN Z2 (.slice (some ⟨Z1.heap.size, 0, none⟩) 1 1) [2] := by rw [← hZ2]; exact RN.new Z1 [2]
  have z1 : Z1.heap.size = W6.heap.size + 1 := by rw [← hZ1]; simp
  rw [z1] at r2
  have K8 := hide ((unhide K7).below (bnext y1 y2))
  have Q8 := hide ((unhide Q7).below (bnext y1 y2))
  have HL := hide (unhide L4 Z2 _ _ _ _ (r1.below y2) r2)
  clear y1 y2 r1 r2 K7 Q7 L4
  go_wp2_with fail
  refine (unhide HL).mono ?_
  rintro e W7 ⟨p7, rfl, hp7, b7⟩
  obtain rfl := load_bad hp7
  have K9 := hide ((unhide K8).below b7)
  have Q9 := hide ((unhide Q8).below b7)
  clear hp7 b7 K8 Q8 HL hZ1 hZ2 z1
  go_wp2_with fail
  refine (unhide A5 _ _ (unhide K9)).mono ?_
  rintro e X1 ⟨a1, c1, rfl, o1, b1⟩
  have KA1 := hide ((unhide K9).below b1)
  have QA1 := hide ((unhide Q9).below b1)
  obtain ⟨V1, hV1⟩ : ∃ V1, X1.alloc (.cells #[.int .i64 1] 3) = V1 := ⟨_, rfl⟩
  have v1 : Below X1.heap.size X1 V1 := by rw [← hV1]; exact ballc (Below.refl _ _) _
  have s1 : RN V1 (.slice (some ⟨X1.heap.size, 0, none⟩) 1 1) [1] := by rw [← hV1]; exact RN.new X1 [1]
  have KB1 := hide ((unhide KA1).below v1)
  have QB1 := hide ((unhide QA1).below v1)
  have HI := hide (unhide IN V1 _ _ _ _ 1 (o1.below v1) s1)
  clear o1 b1 K9 Q9 KA1 QA1 v1 s1
  go_wp2_with fail
  refine (unhide HI).mono ?_
  rintro e U1 ⟨rfl, d1⟩
  have KC1 := hide ((unhide KB1).below d1)
  have QC1 := hide ((unhide QB1).below d1)
  clear d1 KB1 QB1 HI hV1
  go_wp2_with fail
  refine (unhide A6 _ (unhide KC1)).mono ?_
  rintro e X2 ⟨a2, c2, rfl, o2, b2⟩
  have KA2 := hide ((unhide KC1).below b2)
  have QA2 := hide ((unhide QC1).below b2)
  obtain ⟨V2, hV2⟩ : ∃ V2, X2.alloc (.cells #[.int .i64 2] 3) = V2 := ⟨_, rfl⟩
  have v2 : Below X2.heap.size X2 V2 := by rw [← hV2]; exact ballc (Below.refl _ _) _
  have s2 : RN V2 (.slice (some ⟨X2.heap.size, 0, none⟩) 1 1) [2] := by rw [← hV2]; exact RN.new X2 [2]
  have KB2 := hide ((unhide KA2).below v2)
  have QB2 := hide ((unhide QA2).below v2)
  have HI := hide (unhide IN V2 _ _ _ _ 2 (o2.below v2) s2)
  clear o2 b2 KC1 QC1 KA2 QA2 v2 s2
  go_wp2_with fail
  refine (unhide HI).mono ?_
  rintro e U2 ⟨rfl, d2⟩
  have KC2 := hide ((unhide KB2).below d2)
  have QC2 := hide ((unhide QB2).below d2)
  clear d2 KB2 QB2 HI hV2
  go_wp2_with fail
  refine (unhide A7 _ (unhide KC2)).mono ?_
  rintro e U2' ⟨rfl, rfl⟩
  go_wp2_with fail
  refine (unhide A5 _ _ (unhide QC2)).mono ?_
  rintro e X3 ⟨a3, c3, rfl, o3, b3⟩
  have KA3 := hide ((unhide KC2).below b3)
  have QA3 := hide ((unhide QC2).below b3)
  obtain ⟨V3, hV3⟩ : ∃ V3, X3.alloc (.cells #[.int .i64 1] 3) = V3 := ⟨_, rfl⟩
  have v3 : Below X3.heap.size X3 V3 := by rw [← hV3]; exact ballc (Below.refl _ _) _
  have s3 : RN V3 (.slice (some ⟨X3.heap.size, 0, none⟩) 1 1) [1] := by rw [← hV3]; exact RN.new X3 [1]
  have KB3 := hide ((unhide KA3).below v3)
  have QB3 := hide ((unhide QA3).below v3)
  have HI := hide (unhide IN V3 _ _ _ _ 1 (o3.below v3) s3)
  clear o3 b3 KC2 QC2 KA3 QA3 v3 s3
  go_wp2_with fail
  refine (unhide HI).mono ?_
  rintro e U3 ⟨rfl, d3⟩
  have KC3 := hide ((unhide KB3).below d3)
  have QC3 := hide ((unhide QB3).below d3)
  clear d3 KB3 QB3 HI hV3
  go_wp2
  go_ret
  exact ⟨rfl, (unhide KC3).bel⟩

end Go.Proofs.Ytjcdfjnlpfineaa
