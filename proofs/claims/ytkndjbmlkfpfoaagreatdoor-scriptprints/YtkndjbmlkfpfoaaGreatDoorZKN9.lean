/-
  The law's known.
-/
import Derived.Test.YtkndjbmlkfpfoaaGreatDoorZTT0ToRegV
import Derived.Test.YtkndjbmlkfpfoaaGreatDoorZTT
import Derived.Test.YtkndjbmlkfpfoaaGreatDoorZKN4ToKN8

set_option linter.unusedSimpArgs false
set_option linter.unusedVariables false
namespace Go.Proofs.YtkndjbmlkfpfoaaGreatDoor
open Go Go.RowKit Go.Lib

theorem OwT.rs {W : World} {N : Nat} {v : Value} {l : List (Sp × Value × Value)} (h : OwT W N v l) : RStp W v l := ⟨RC.of_owns h.row, fun e he => RC.of_owns (h.rows e he).1, fun e he => (h.rows e he).2.row⟩
theorem in64_d (x : Int) (h : decide (-9223372036854775808 ≤ x ∧ x ≤ 9223372036854775807) = true) : in64 x := by
  have h1 : -9223372036854775808 ≤ x ∧ x ≤ 9223372036854775807 := of_decide_eq_true h
  exact h1
theorem ks1_k : isK ks1 := ⟨by decide, by decide⟩
theorem ks2_k : isK ks2 := ⟨by decide, by decide⟩
theorem ks3_k : isK ks3 := ⟨by decide, by decide⟩
theorem ks1_w : SpW ks1 := ⟨(in64_d _ (by decide)), (in64_d _ (by decide)), (in64_d _ (by decide)), (in64_d _ (by decide)), (in64_d _ (by decide)), (in64_d _ (by decide)), by decide, by decide, (fun x hx => by cases hx), by decide⟩
theorem ks2_w : SpW ks2 := ⟨(in64_d _ (by decide)), (in64_d _ (by decide)), (in64_d _ (by decide)), (in64_d _ (by decide)), (in64_d _ (by decide)), (in64_d _ (by decide)), by decide, by decide, (fun x hx => by simp [ks2] at hx; rcases hx with rfl | rfl <;> exact in64_d _ (by decide)), by decide⟩
theorem ks3_w : SpW ks3 := ⟨(in64_d _ (by decide)), (in64_d _ (by decide)), (in64_d _ (by decide)), (in64_d _ (by decide)), (in64_d _ (by decide)), (in64_d _ (by decide)), by decide, by decide, (fun x hx => by cases hx), by decide⟩
theorem kc1_w : CpW kc1 := ⟨(in64_d _ (by decide)), (in64_d _ (by decide)), (in64_d _ (by decide)), (in64_d _ (by decide)), by decide⟩
theorem two_sp {l : List (Sp × Value × Value)} {a b : Sp} (h : l.map Prod.fst = [a, b]) : ∃ x y, l = [(a, x), (b, y)] := by
  match l, h with
  | [(p, x), (q, y)], h =>
    simp at h
    obtain ⟨rfl, rfl⟩ := h
    exact ⟨x, y, rfl⟩
  | [], h => simp at h
  | [_], h => simp at h
  | _ :: _ :: _ :: _, h => simp at h

set_option maxRecDepth 100000 in
set_option maxHeartbeats 8000000 in
theorem known_in {w : World} (hL : Lw w) : KnO w := by
  intro W hb
  have HL := hide (hL.below hb)
  have h0 := hide (Parse_all kt1 (by decide) W (unhide HL))
  unfold kt1 at h0
  clear hL hb
  go_enter Tryz.func9, Tryz.ntmps9
  go_wp2_with fail
  refine (unhide h0).mono ?_
  rintro e W1 ⟨hb1, hp⟩
  change (match prL (scL kt1) with
  | .inl (S, _) => ∃ v l, e = .returned (.tuple #[v, .int .i64 0, .int .i64 0]) ∧ OwT W1 W.heap.size v l ∧ l.map Prod.fst = S
  | .inr (ln, en) => e = .returned (.tuple #[.slice none 0 0, .int .i64 (ln : Int), .int .i64 (en : Int)])) at hp
  rw [kp_1] at hp
  obtain ⟨v, l, rfl, ho, hl⟩ := hp
  obtain ⟨⟨d1, y1⟩, ⟨d2, y2⟩, rfl⟩ := two_sp hl
  have hrs := ho.rs
  obtain ⟨g, c, rfl, hc2, cur, hg⟩ := owns_some ho.row (by simp)
  obtain ⟨da, dc, hd2⟩ := owns_form (ho.rows (ks2, d2, y2) (by simp)).1
  simp only [ks2, List.length_cons, List.length_nil, Nat.zero_add, Nat.reduceAdd] at hd2
  subst hd2
  have HRS := hide hrs
  have HB1 := hide hb1
  have hpt : pT [(ks1, d1, y1), (ks2, .slice da 2 dc, y2)] = [105, 110, 115, 101, 114, 116, 32, 49, 32, 48, 32, 34, 104, 195, 169, 34, 10, 116, 105, 99, 107, 32, 50, 32, 45, 49, 10] := by
    rw [← kp_3]
    simp [pT]
  have h1 := hide (Print_in hrs (fun x hx => by simp at hx; rcases hx with rfl | rfl; exact ks1_w; exact ks2_w) (by simp) ((unhide HL).below hb1) (by rw [hpt]; simp))
  simp only [List.length_cons, List.length_nil, Nat.zero_add, Nat.reduceAdd] at h1 HRS ⊢
  clear hb1 h0 ho hl hg cur hrs
  go_wp2_with fail
  refine (unhide h1).mono ?_
  rintro e W2 ⟨hp, hb2⟩
  rcases hp with ⟨_, rfl⟩ | ⟨⟨x, hx, hk⟩, _⟩
  case inr => exact absurd (show isK x.1 by simp at hx; rcases hx with rfl | rfl; exact ks1_k; exact ks2_k) hk
  rw [hpt, show ofL [105, 110, 115, 101, 114, 116, 32, 49, 32, 48, 32, 34, 104, 195, 169, 34, 10, 116, 105, 99, 107, 32, 50, 32, 45, 49, 10] = (⟨#[105, 110, 115, 101, 114, 116, 32, 49, 32, 48, 32, 34, 104, 195, 169, 34, 10, 116, 105, 99, 107, 32, 50, 32, 45, 49, 10]⟩ : ByteArray) from rfl]
  have HB2 := hide (bnext (unhide HB1) hb2)
  have HRS2 := hide ((unhide HRS).below hb2)
  have h2 := hide (Parse_all kt2 (by decide) W2 ((unhide HL).below (unhide HB2)))
  unfold kt2 at h2
  clear h1 hb2 HRS HB1
  go_wp2_with fail
  refine (unhide h2).mono ?_
  rintro e W3 ⟨hb3, hp⟩
  change (match prL (scL kt2) with
  | .inl (S, _) => ∃ v l, e = .returned (.tuple #[v, .int .i64 0, .int .i64 0]) ∧ OwT W3 W2.heap.size v l ∧ l.map Prod.fst = S
  | .inr (ln, en) => e = .returned (.tuple #[.slice none 0 0, .int .i64 (ln : Int), .int .i64 (en : Int)])) at hp
  rw [kp_2] at hp
  obtain rfl := hp
  have HB3 := hide (bnext (unhide HB2) hb3)
  have HRS3 := hide ((unhide HRS2).below hb3)
  clear h2 hb3 HRS2 HB2
  obtain ⟨X3, hX3⟩ : ∃ X, W3.alloc (.cells #[.int .u8 1] 5) = X := ⟨_, rfl⟩
  obtain ⟨X4, hX4⟩ : ∃ X, X3.alloc (.cells #[.int .i64 7, .int .i64 1, .int .i64 2, .slice (some ⟨W3.heap.size, 0, none⟩) 1 1, .int .i64 4, .bool true] 64) = X := ⟨_, rfl⟩
  have hz3 : X3.heap.size = W3.heap.size + 1 := by rw [← hX3]; simp
  have b3 : Below W3.heap.size W3 X3 := by rw [← hX3]; exact ballc (Below.refl _ _) _
  have b34 : Below X3.heap.size X3 X4 := by rw [← hX4]; exact ballc (Below.refl _ _) _
  have q3 : Bq X4 W3.heap.size 5 #[.int .u8 1] := by
    have h := Bq.new W3 5 #[.int .u8 1]
    rw [hX3] at h
    exact h.keep b34 h.lt
  have q4 : Bq X4 (W3.heap.size + 1) 64 #[.int .i64 7, .int .i64 1, .int .i64 2, .slice (some ⟨W3.heap.size, 0, none⟩) 1 1, .int .i64 4, .bool true] := by rw [← hX4, ← hz3]; exact Bq.new _ _ _
  have hrc : RCpy X4 (.slice (some ⟨W3.heap.size + 1, 0, none⟩) 1 1) [(kc1, .slice (some ⟨W3.heap.size, 0, none⟩) 1 1)] :=
    ⟨.inr ⟨W3.heap.size + 1, 0, 1, rfl, Nat.le_refl _, q4.lt, fun j u hu => by rw [Nat.zero_add]; exact q4.cell j u (by simpa [flat, enP, cpC, kc1] using hu)⟩,
     fun e he => by
      simp at he
      subst he
      exact .inr ⟨W3.heap.size, 0, 1, rfl, Nat.le_refl _, q3.lt, fun j u hu => by rw [Nat.zero_add]; exact q3.cell j u (by simpa [Lib.byteCells, kc1] using hu)⟩⟩
  have HB4 := hide (bnext (unhide HB3) (bnext b3 b34))
  have HRS4 := hide ((unhide HRS3).below (bnext b3 b34))
  have hcs : stT ks3 ++ csT [(kc1, Value.slice (some ⟨W3.heap.size, 0, none⟩) 1 1)] = [100, 114, 111, 112, 32, 55, 10, 32, 32, 99, 111, 112, 121, 32, 55, 32, 102, 114, 111, 109, 32, 49, 32, 116, 111, 32, 50, 32, 115, 101, 110, 116, 32, 52, 32, 98, 97, 100, 32, 34, 92, 120, 48, 49, 34, 10] := by
    rw [← kp_4]
    simp [csT]
  have h3 := hide (Tell_cp (w := X4) ks3 none 0 0 none 0 0 (some ⟨W3.heap.size + 1, 0, none⟩) 1 [(kc1, .slice (some ⟨W3.heap.size, 0, none⟩) 1 1)] (RC.nil _ _ _) (RC.nil _ _ _) ks3_w ks3_k (by decide) hrc (fun e he => by simp at he; subst he; exact kc1_w) (by simp) ((unhide HL).below (unhide HB4)) (by rw [hcs]; simp))
  rw [hcs, show ofL [100, 114, 111, 112, 32, 55, 10, 32, 32, 99, 111, 112, 121, 32, 55, 32, 102, 114, 111, 109, 32, 49, 32, 116, 111, 32, 50, 32, 115, 101, 110, 116, 32, 52, 32, 98, 97, 100, 32, 34, 92, 120, 48, 49, 34, 10] = (⟨#[100, 114, 111, 112, 32, 55, 10, 32, 32, 99, 111, 112, 121, 32, 55, 32, 102, 114, 111, 109, 32, 49, 32, 116, 111, 32, 50, 32, 115, 101, 110, 116, 32, 52, 32, 98, 97, 100, 32, 34, 92, 120, 48, 49, 34, 10]⟩ : ByteArray) from rfl] at h3
  clear b3 b34 q3 q4 hrc HB3 HRS3
  go_wp2_with fail
  try rw [hX3]
  try rw [hX4]
  refine (unhide h3).mono ?_
  rintro e W4 ⟨rfl, hb4⟩
  have HB5 := hide (bnext (unhide HB4) hb4)
  have hR5 := (unhide HRS4).below hb4
  obtain ⟨g1, o1, e1, _, cs1⟩ := hR5.at (i := 0) (e := (ks1, d1, y1)) rfl
  obtain ⟨g2, o2, e2, _, cs2⟩ := hR5.at (i := 1) (e := (ks2, .slice da 2 dc, y2)) rfl
  cases e1
  cases e2
  have t6 := cs1 6 (.string ⟨#[104, 195, 169]⟩) rfl
  have t7 := cs2 7 (.slice da 2 dc) rfl
  simp only [Nat.zero_mul, Nat.zero_add, Nat.one_mul, Nat.reduceAdd] at t6 t7
  have hd2 := hR5.dr (ks2, .slice da 2 dc, y2) (by simp)
  have bX5 := ballc (Below.refl _ W4) (.cells #[.int .i64 2, .int .i64 (-1)] 3)
  have hn5 : RNm (W4.alloc (.cells #[.int .i64 2, .int .i64 (-1)] 3)) (.slice (some ⟨W4.heap.size, 0, none⟩) 2 2) [2, -1] := by
    refine .inr ⟨W4.heap.size, 0, 2, rfl, Nat.le_refl _, by simp, fun j u hu => ?_⟩
    rw [Nat.zero_add]
    exact (Bq.new W4 3 #[.int .i64 2, .int .i64 (-1)]).cell j u (by simpa [flat, enN] using hu)
  have h4 := hide (ints_in (.slice da 2 dc) (.slice (some ⟨W4.heap.size, 0, none⟩) 2 2) [2, -1] [2, -1] _ (RC.below hd2 bX5) hn5 (by simp) (by simp))
  have HB6 := hide (bnext (unhide HB5) bX5)
  have hc0 : 2 ≤ c := by simpa using hc2
  clear hR5 cs1 cs2 hd2 bX5 hn5 h3 hb4 HRS4 HB4 HB5 hX3 hX4 hz3 hcs
  go_wp2_with fail
  refine (unhide h4).mono ?_
  rintro e W6 ⟨rfl, hb6⟩
  have HF := hide (bnext (unhide HB6) hb6)
  clear h4 hb6 HB6
  go_wp2
  go_ret
  exact ⟨rfl, unhide HF⟩
end Go.Proofs.YtkndjbmlkfpfoaaGreatDoor
