/-
  Chapter 3's law PlaceTwo returns true for every two texts and every two numbers, and leaves its arguments as they were; no condition.
-/
import Derived.Test.YtjgkkkfonioplaaRows
import Derived.WalkKit
import Derived.ProofKit
import Derived.OpenShut
import Derived.ShutString
import Derived.ChangeOld
import Derived.Below
import Derived.Test.YtjgkkkfonioplaaZTel
import Derived.Test.YtjgkkkfonioplaaZKn3
set_option linter.unusedVariables false
set_option linter.unusedSimpArgs false
namespace Go.Proofs.Ytjgkkkfonioplaa
namespace LPlaceTwo
open Go.ChangeShapes Go.WideShapes Go.ChangeAt Go.RowKit Go.Lib
open Go.ChangeMaps (open_string shut_string)

theorem zero_map (W : World) : MapAt ⟨#[]⟩ W.heap.size (W.alloc (.cells #[.string ⟨#[]⟩, .slice none 0 0] 38)) := by
  have h : (W.alloc (.cells #[.string ⟨#[]⟩, .slice none 0 0] 38)).heap[W.heap.size]? = some (.cells #[.string ⟨#[]⟩, .slice none 0 0] 38 (0, 0)) := World.alloc_heap_new W _
  have h0 : (W.alloc (.cells #[.string ⟨#[]⟩, .slice none 0 0] 38)).cell? ⟨W.heap.size, 0, none⟩ = some (.string ⟨#[]⟩) := by unfold World.cell?; rw [h]; rfl
  have h1 : (W.alloc (.cells #[.string ⟨#[]⟩, .slice none 0 0] 38)).cell? ⟨W.heap.size, 1, none⟩ = some (.slice none 0 0) := by unfold World.cell?; rw [h]; rfl
  exact ⟨h0, _, h1, .inl ⟨rfl, rfl⟩⟩

set_option maxRecDepth 100000 in
set_option maxHeartbeats 8000000 in
theorem walk (a0 a1 : ByteArray) (a2 a3 : Int) (w0 : a0.size ≤ maxLen) (w1 : a1.size ≤ maxLen) (w2 : (Lit.int .i64 a2).wf = true) (w3 : (Lit.int .i64 a3).wf = true) (w : World) :
    Calls Try.prog 5 #[.string a0, .string a1, .int .i64 a2, .int .i64 a3] w fun e w' => e = .returned (.bool true) ∧ Below w.heap.size w w' := by
  unfold maxLen at w0 w1
  have hkn := fun W => hide (known_in W)
  clear w2 w3
  by_cases hbig : 300 < a0.size
  · go_enter Try.func5, Try.ntmps5
    go_wp2_with (go_at_call 7; refine (unhide (hkn _)).mono ?_; rintro e w' ⟨rfl, hB⟩)
    go_ret
    exact ⟨rfl, hB⟩
  · by_cases hbig1 : 300 < a1.size
    · go_enter Try.func5, Try.ntmps5
      go_wp2_with (go_at_call 7; refine (unhide (hkn _)).mono ?_; rintro e w' ⟨rfl, hB⟩)
      go_ret
      exact ⟨rfl, hB⟩
    · have hs0 : a0.size ≤ 1000000 := by omega
      have hs1 : a1.size ≤ 1000000 := by omega
      have hz : ByteArray.size ⟨#[]⟩ ≤ 1000000 := by decide
      have hn0 := fun W => hide (new_in a0 hs0 W)
      have hn1 := fun W => hide (new_in a1 hs1 W)
      have ht0 := fun p u n l c W hm => hide (tells_in a0 p u n l c hs0 W hm)
      have ht1 := fun p u n l c W hm => hide (tells_in a1 p u n l c hs1 W hm)
      have htz := fun p u n l c W hm => hide (tells_in ⟨#[]⟩ p u n l c hz W hm)
      have hna := fun W => hide (at_arg none a2 a3 W (.inl rfl))
      have hnc := fun W => hide (cell_none 1 1 W)
      have hnl := fun W => hide (len_none none a2 W (.inl rfl))
      have hni := fun W => hide (line_none 1 W)
      have hns := fun W => hide (lines_none W)
      rw [show zeroV = .agg #[.int .i64 0, .int .i64 0, .int .i64 0, .int .i64 0, .int .i64 0, .int .i64 0] from rfl] at hna hnc
      clear hs0 hs1 hz
      go_enter Try.func5, Try.ntmps5
      go_wp2_with fail
      refine (unhide (hn0 _)).mono ?_
      rintro e W1 ⟨p, rfl, mp, b1⟩
      go_wp2_with fail
      refine (unhide (hn1 _)).mono ?_
      rintro e W2 ⟨q, rfl, mq, h2⟩
      have b2 := bnext b1 h2
      replace mp := mp.below h2
      have mz := zero_map W2
      have hz2 := (Below.refl _ W2).alloc (Nat.le_refl _) (.cells #[.string ⟨#[]⟩, .slice none 0 0] 38)
      replace b2 := bnext b2 hz2
      replace mp := mp.below hz2
      replace mq := mq.below hz2
      clear h2 b1 hn0 hn1
      go_wp2_with fail
      generalize W2.heap.size = z at mz ⊢
      generalize W2.alloc (.cells #[.string ⟨#[]⟩, .slice none 0 0] 38) = X2 at mz mp mq b2 ⊢
      clear hz2
      refine (unhide (ht0 _ _ _ _ _ _ mp)).mono ?_
      rintro e W3 ⟨rfl, h3⟩
      have b3 := bnext b2 h3
      replace mp := mp.below h3
      replace mq := mq.below h3
      replace mz := mz.below h3
      clear b2 h3
      go_wp2_with fail
      refine (unhide (ht1 _ _ _ _ _ _ mq)).mono ?_
      rintro e W4 ⟨rfl, h4⟩
      have b4 := bnext b3 h4
      replace mp := mp.below h4
      replace mz := mz.below h4
      clear b3 h4 mq
      go_wp2_with fail
      refine (unhide (ht0 _ _ _ _ _ _ mp)).mono ?_
      rintro e W5 ⟨rfl, h5⟩
      have b5 := bnext b4 h5
      replace mz := mz.below h5
      clear b4 h5 mp
      go_wp2_with fail
      refine (unhide (htz _ _ _ _ _ _ mz)).mono ?_
      rintro e W6 ⟨rfl, h6⟩
      have b6 := bnext b5 h6
      replace mz := mz.below h6
      clear b5 h6
      go_wp2_with fail
      refine (unhide (htz _ _ _ _ _ _ mz)).mono ?_
      rintro e W7 ⟨rfl, h7⟩
      have b7 := bnext b6 h7
      clear b6 h7 mz ht0 ht1 htz
      go_wp2_with fail
      refine (unhide (hna _)).mono ?_
      rintro e W8 ⟨rfl, h8⟩
      have k8 := Box6.new W8 (.int .i64 0) (.int .i64 0) (.int .i64 0) (.int .i64 0) (.int .i64 0) (.int .i64 0)
      have h8a := (Below.refl _ W8).alloc (Nat.le_refl _) (.cells #[.int .i64 0, .int .i64 0, .int .i64 0, .int .i64 0, .int .i64 0, .int .i64 0] 29)
      have b8 := bnext (bnext b7 h8) h8a
      clear b7 h8 h8a
      go_wp2_with fail
      generalize W8.heap.size = x8 at k8 ⊢
      generalize W8.alloc (.cells #[.int .i64 0, .int .i64 0, .int .i64 0, .int .i64 0, .int .i64 0, .int .i64 0] 29) = X8 at k8 b8 ⊢
      refine (unhide (hnc _)).mono ?_
      rintro e W9 ⟨rfl, h9⟩
      have k9 := Box6.new W9 (.int .i64 0) (.int .i64 0) (.int .i64 0) (.int .i64 0) (.int .i64 0) (.int .i64 0)
      have h9a := (Below.refl _ W9).alloc (Nat.le_refl _) (.cells #[.int .i64 0, .int .i64 0, .int .i64 0, .int .i64 0, .int .i64 0, .int .i64 0] 29)
      have b9 := bnext (bnext b8 h9) h9a
      replace k8 := (k8.below h9).below h9a
      clear b8 h9 h9a
      go_wp2_with fail
      generalize W9.heap.size = x9 at k9 ⊢
      generalize W9.alloc (.cells #[.int .i64 0, .int .i64 0, .int .i64 0, .int .i64 0, .int .i64 0, .int .i64 0] 29) = X9 at k8 k9 b9 ⊢
      refine (unhide (hnl _)).mono ?_
      rintro e W10 ⟨rfl, h10⟩
      have b10 := bnext b9 h10
      replace k8 := k8.below h10
      replace k9 := k9.below h10
      clear b9 h10
      go_wp2_with fail
      refine (unhide (hni _)).mono ?_
      rintro e W11 ⟨rfl, h11⟩
      have b11 := bnext b10 h11
      replace k8 := k8.below h11
      replace k9 := k9.below h11
      obtain ⟨p0, p1, p2, p3, p4, p5, _⟩ := k8.facts
      obtain ⟨q0, q1, q2, q3, q4, q5, _⟩ := k9.facts
      clear b10 h11 k8 k9
      go_wp2_with (first | (go_at_call 16; refine (unhide (hns _)).mono ?_; rintro e W12 ⟨rfl, h12⟩) | (go_at_call 7; refine (unhide (hkn _)).mono ?_; rintro e W13 ⟨rfl, h13⟩))
      go_ret
      exact ⟨rfl, bnext (bnext b11 h12) h13⟩

theorem own : ownKnob Try.prog.godebug = none := by kernel_rfl

set_option maxRecDepth 100000 in
theorem lifted (os : Os) (started : os.Started) (H : Type) (enc : TypeId × Value → H) :
    ReturnsInHanded {} Try.checked os 5 .any (Rows.placeTwoSpec.pre6 enc Try.prog Try.f5 Rows.placeTwoRow.domain false) (Rows.placeTwoSpec.post enc Try.prog Try.f5 false true false false) := by
  refine returnsInHanded_of_change (C := Try.checked) own started (by kernel_rfl) Try.func5
    (ChangeSpec.witness6 (enc := enc) (C := Try.checked) false ⟨#[], #[.string ByteArray.empty, .string ByteArray.empty, .int .i64 0, .int .i64 0], []⟩ 8 (by kernel_rfl) (by kernel_rfl) (by kernel_rfl) (by kernel_rfl)) ?_
  intro W base args ds gs before hval0 hW hcnd _
  have hval : ∀ (j : Nat) t v, Try.f5.params[j]? = some t → args[j]? = some v → Value.okWide Try.prog W .any base t v := hval0
  have hW' := hW
  obtain ⟨p, q, hA0, hV, rfl, hfz, hnd⟩ := hW
  have hA : DataW.TrodAll enc Try.prog W 0 (fun _ => true) true Try.f5.params.toList args.toList ds p := hA0
  rw [Try.params5] at hA hval
  obtain ⟨v0, vs0, d0, ds0, p0, q0, hargs, rfl, rfl, h0, r0⟩ := trodAll_cons hA
  obtain ⟨v1, vs1, d1, ds1, p1, q1, rfl, rfl, rfl, h1, r1⟩ := trodAll_cons r0
  obtain ⟨v2, vs2, d2, ds2, p2, q2, rfl, rfl, rfl, h2, r2⟩ := trodAll_cons r1
  obtain ⟨v3, vs3, d3, ds3, p3, q3, rfl, rfl, rfl, h3, r3⟩ := trodAll_cons r2
  obtain ⟨rfl, rfl, rfl⟩ := trodAll_nil r3
  obtain rfl : args = #[v0, v1, v2, v3] := by cases args; simp_all
  obtain ⟨rfl, rfl⟩ := trodVars_none hV
  obtain ⟨a0, rfl, rfl, rfl, w0⟩ := open_string Try.underlying9 (hval 0 9 v0 rfl rfl) h0
  obtain ⟨a1, rfl, rfl, rfl, w1⟩ := open_string Try.underlying9 (hval 1 9 v1 rfl rfl) h1
  obtain ⟨a2, rfl, rfl, rfl, w2⟩ := open_int Try.underlying3 (hval 2 3 v2 rfl rfl) h2
  obtain ⟨a3, rfl, rfl, rfl, w3⟩ := open_int Try.underlying3 (hval 3 3 v3 rfl rfl) h3
  clear hA0 hval0
  simp only [List.append_nil] at hW'
  refine (walk a0 a1 a2 a3 w0 w1 w2 w3 W).mono fun e W' ⟨he, bel⟩ => ?_
  subst he
  exact ⟨_, rfl, _, _, _, [], _, [], hW', trodAll_mk1 (shut_bool Try.underlying4 _), (trodAll_cons_mk (shut_string Try.underlying9 w0) (trodAll_cons_mk (shut_string Try.underlying9 w1) (trodAll_cons_mk (shut_int Try.underlying3 w2) (trodAll_cons_mk (shut_int Try.underlying3 w3) trodAll_mk0)))), rfl, bel.frame _, fun h => by cases h⟩

theorem over : Rows.placeTwoRow.holds Try.pinned (OpenSpec.ofChange Rows.placeTwoSpec) :=
  OpenClaim.holds_of_wide 5 Try.f5 rfl rfl rfl rfl rfl rfl rfl ⟨rfl, rfl, rfl, rfl, rfl⟩ rfl rfl rfl rfl rfl (by kernel_rfl) Try.func5 (by kernel_rfl)
    (of_decide_eq_true (by kernel_rfl)) (by unfold Func.isWrapper; first | (rw [if_pos (by decide +kernel)]; kernel_rfl) | (rw [if_neg (by decide +kernel)]; exact ⟨rfl, rfl⟩))
    (fun os started H enc _ => lifted os started H enc)

end LPlaceTwo

theorem placeTwo_holds : Rows.PlaceTwoSaid := LPlaceTwo.over

end Go.Proofs.Ytjgkkkfonioplaa
