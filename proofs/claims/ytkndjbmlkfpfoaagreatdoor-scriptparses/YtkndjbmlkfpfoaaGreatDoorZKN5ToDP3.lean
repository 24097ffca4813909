/-
  Pure: a small script's text is small; what Print answers is told by the steps alone.
-/
import Derived.Test.YtkndjbmlkfpfoaaGreatDoorZDNcToKN2
import Derived.Test.YtkndjbmlkfpfoaaGreatDoorZTM
import Derived.Test.YtkndjbmlkfpfoaaGreatDoorZSv
import Derived.Test.YtkndjbmlkfpfoaaGreatDoorZLN2ToKN3
import Derived.Deep.Slices
import Derived.OpenShut
import Derived.ChangeSame
import Derived.ChangeArms
import Derived.SizedLaws
import Derived.Test.YtkndjbmlkfpfoaaGreatDoorZKP
import Derived.Test.YtkndjbmlkfpfoaaGreatDoorZTT
import Derived.Test.YtkndjbmlkfpfoaaGreatDoorZSd5ToDP2

set_option linter.unusedSimpArgs false
set_option linter.unusedVariables false
namespace Go.Proofs.YtkndjbmlkfpfoaaGreatDoor
open Go.RowKit Go.Lib

/-- a step's numbers are those of Go's ints -/
structure SpI (s : Sp) : Prop where
  kind : in64 s.kind
  site : in64 s.site
  peer : in64 s.peer
  unit : in64 s.unit
  at_ : in64 s.at_
  n : in64 s.n
  dnum : ∀ x ∈ s.draws, in64 x
theorem SpI.w {s : Sp} (h : SpI s) (h1 : s.text.size ≤ 30000) (h2 : s.draws.length ≤ 400) (h3 : s.data.length ≤ 30000) : SpW s := ⟨h.kind, h.site, h.peer, h.unit, h.at_, h.n, by omega, by omega, h.dnum, by omega⟩
theorem fw_small {s : Sp} (h : SpW s) (h1 : s.text.size ≤ 30000) (h2 : s.draws.length ≤ 400) (h3 : s.data.length ≤ 30000) (f : Nat) : (blT (fw s f)).length ≤ 310000 := by
  have e1 := itoa_lim s.site h.site
  have e2 := itoa_lim s.peer h.peer
  have e3 := itoa_lim s.at_ h.at_
  have e4 := itoa_lim s.n h.n
  have e5 := blT_lim s.draws 400 h.dnum h2
  have e6 := qT_len s.text
  have e7 := qT_len (ofL s.data)
  rw [ofL_size] at e7
  simp at e6 e7
  unfold fw
  split <;> first | (simp [blT]; omega) | omega
theorem flds_small {s : Sp} (hf : ∀ f, (blT (fw s f)).length ≤ 310000) : ∀ (l : List Nat), (blT (l.flatMap (fw s))).length ≤ l.length * 310000
  | [] => by simp [blT]
  | f :: l => by
    have h1 := hf f
    have h2 := flds_small hf l
    rw [List.flatMap_cons, blT_app, List.length_append, List.length_cons]
    omega
theorem tfl_len : ∀ r ∈ tfl, r.length ≤ 3 := by decide
theorem tnm_len : ∀ r ∈ tnm, r.length ≤ 10 := by decide
theorem getD_le {α : Type} {l : List (List α)} {n : Nat} (h : ∀ r ∈ l, r.length ≤ n) (i : Nat) : (l.getD i []).length ≤ n := by
  rw [List.getD_eq_getElem?_getD]
  cases hi : l[i]? with
  | none => simp
  | some r => simpa using h r (List.mem_of_getElem? hi)
theorem stT_small {s : Sp} (h : SpW s) (h1 : s.text.size ≤ 30000) (h2 : s.draws.length ≤ 400) (h3 : s.data.length ≤ 30000) : (stT s).length ≤ 1000000 := by
  have e1 := flds_small (fun f => fw_small h h1 h2 h3 f) (tfl.getD (kx s) [])
  have e2 := getD_le tfl_len (kx s)
  have e3 := getD_le tnm_len (kx s)
  unfold stT lnT stW
  simp only [List.length_append, List.length_cons, List.length_nil]
  omega
theorem dlT_small {s : Sp} (h : SpW s) (h1 : s.text.size ≤ 30000) (h2 : s.draws.length ≤ 400) (h3 : s.data.length ≤ 30000) : (dlT s).length ≤ 1000000000 := by
  by_cases hk : isK s
  · have e := congrArg List.length (dlT_is hk)
    have e2 := stT_small h h1 h2 h3
    simp at e
    omega
  · rw [dlT_no hk]; simp
theorem smL_mem {l : List (Sp × Value × Value)} {x : Sp × Value × Value} (h : x ∈ l) : x.1.text.size + x.1.data.length ≤ smL l := by
  unfold smL
  induction l with
  | nil => cases h
  | cons a l ih =>
    rw [List.map_cons, List.sum_cons]
    rcases List.mem_cons.1 h with rfl | h
    · omega
    · have := ih h; omega
theorem pT_small : ∀ {l : List (Sp × Value × Value)}, (∀ x ∈ l, (stT x.1).length ≤ 1000000) → (pT l).length ≤ l.length * 1000000
  | [], _ => by simp [pT]
  | x :: l, h => by
    have h1 := h x (List.mem_cons_self)
    have h2 := pT_small (l := l) fun y hy => h y (List.mem_cons_of_mem _ hy)
    unfold pT at h2 ⊢
    rw [List.flatMap_cons, List.length_append, List.length_cons]
    omega
structure LitW (l : List (Sp × Value × Value)) : Prop where
  w : ∀ x ∈ l, SpW x.1
  pt : (pT l).length ≤ 1000000000
  dl : ∀ x ∈ l, (dlT x.1).length ≤ 1000000000
theorem LitS.w {l : List (Sp × Value × Value)} (h : LitS l) (hi : ∀ x ∈ l, SpI x.1) : LitW l := by
  have hb : ∀ x ∈ l, x.1.text.size ≤ 30000 ∧ x.1.data.length ≤ 30000 := fun x hx => by
    have h1 := smL_mem hx
    have h2 := h.sm
    omega
  have hw : ∀ x ∈ l, SpW x.1 := fun x hx => (hi x hx).w (hb x hx).1 (h.dr x hx) (hb x hx).2
  refine ⟨hw, ?_, fun x hx => dlT_small (hw x hx) (hb x hx).1 (h.dr x hx) (hb x hx).2⟩
  have := pT_small (l := l) fun x hx => stT_small (hw x hx) (hb x hx).1 (h.dr x hx) (hb x hx).2
  have h2 := h.len
  omega
end Go.Proofs.YtkndjbmlkfpfoaaGreatDoor

/-
  The walk of ScriptPrints, but for the law's known.
-/
set_option linter.unusedSimpArgs false
set_option linter.unusedVariables false
namespace Go.Proofs.YtkndjbmlkfpfoaaGreatDoor
open Go.RowKit Go.Lib

/-- what is asked of the law's known -/
def KnO (w : World) : Prop := ∀ W, Below w.heap.size w W → Calls Tryz.prog 9 #[] W fun e W' => e = .returned (.bool true) ∧ Below W.heap.size W W'
end Go.Proofs.YtkndjbmlkfpfoaaGreatDoor

/-
  The law's known.
-/
set_option linter.unusedSimpArgs false
set_option linter.unusedVariables false
namespace Go.Proofs.YtkndjbmlkfpfoaaGreatDoor
open Go Go.RowKit Go.Lib

theorem OwT.rs {W : World} {N : Nat} {v : Value} {l : List (Sp × Value × Value)} (h : OwT W N v l) : RStp W v l := ⟨RC.of_owns h.row, fun e he => RC.of_owns (h.rows e he).1, fun e he => (h.rows e he).2.row⟩
theorem in64_d (x : Int) (h : decide (-9223372036854775808 ≤ x ∧ x ≤ 9223372036854775807) = true) : in64 x := by
  have h1 : -9223372036854775808 ≤ x ∧ x ≤ 9223372036854775807 := of_decide_eq_true h
  exact h1
theorem ks1_k : isK ks1 := ⟨by decide, by decide⟩
theorem ks2_k : isK ks2 := ⟨by decide, by decide⟩
theorem ks3_k : isK ks3 := ⟨by decide, by decide⟩
theorem ks1_w : SpW ks1 := ⟨(in64_d _ (by decide)), (in64_d _ (by decide)), (in64_d _ (by decide)), (in64_d _ (by decide)), (in64_d _ (by decide)), (in64_d _ (by decide)), by decide, by decide, (fun x hx => by cases hx), by decide⟩
theorem ks2_w : SpW ks2 := ⟨(in64_d _ (by decide)), (in64_d _ (by decide)), (in64_d _ (by decide)), (in64_d _ (by decide)), (in64_d _ (by decide)), (in64_d _ (by decide)), by decide, by decide, (fun x hx => by simp [ks2] at hx; rcases hx with rfl | rfl <;> exact in64_d _ (by decide)), by decide⟩
theorem ks3_w : SpW ks3 := ⟨(in64_d _ (by decide)), (in64_d _ (by decide)), (in64_d _ (by decide)), (in64_d _ (by decide)), (in64_d _ (by decide)), (in64_d _ (by decide)), by decide, by decide, (fun x hx => by cases hx), by decide⟩
theorem kc1_w : CpW kc1 := ⟨(in64_d _ (by decide)), (in64_d _ (by decide)), (in64_d _ (by decide)), (in64_d _ (by decide)), by decide⟩
theorem two_sp {l : List (Sp × Value × Value)} {a b : Sp} (h : l.map Prod.fst = [a, b]) : ∃ x y, l = [(a, x), (b, y)] := by
  match l, h with
  | [(p, x), (q, y)], h =>
    simp at h
    obtain ⟨rfl, rfl⟩ := h
    exact ⟨x, y, rfl⟩
  | [], h => simp at h
  | [_], h => simp at h
  | _ :: _ :: _ :: _, h => simp at h

set_option maxRecDepth 100000 in
set_option maxHeartbeats 8000000 in
theorem known_in {w : World} (hL : Lw w) : KnO w := by
  intro W hb
  have HL := hide (hL.below hb)
  have h0 := hide (Parse_all kt1 (by decide) W (unhide HL))
  unfold kt1 at h0
  clear hL hb
  go_enter Tryz.func9, Tryz.ntmps9
  go_wp2_with fail
  refine (unhide h0).mono ?_
  rintro e W1 ⟨hb1, hp⟩
  change (match prL (scL kt1) with
  | .inl (S, _) => ∃ v l, e = .returned (.tuple #[v, .int .i64 0, .int .i64 0]) ∧ OwT W1 W.heap.size v l ∧ l.map Prod.fst = S
  | .inr (ln, en) => e = .returned (.tuple #[.slice none 0 0, .int .i64 (ln : Int), .int .i64 (en : Int)])) at hp
  rw [kp_1] at hp
  obtain ⟨v, l, rfl, ho, hl⟩ := hp
  obtain ⟨⟨d1, y1⟩, ⟨d2, y2⟩, rfl⟩ := two_sp hl
  have hrs := ho.rs
  obtain ⟨g, c, rfl, hc2, cur, hg⟩ := owns_some ho.row (by simp)
  obtain ⟨da, dc, hd2⟩ := owns_form (ho.rows (ks2, d2, y2) (by simp)).1
  simp only [ks2, List.length_cons, List.length_nil, Nat.zero_add, Nat.reduceAdd] at hd2
  subst hd2
  have HRS := hide hrs
  have HB1 := hide hb1
  have hpt : pT [(ks1, d1, y1), (ks2, .slice da 2 dc, y2)] = [105, 110, 115, 101, 114, 116, 32, 49, 32, 48, 32, 34, 104, 195, 169, 34, 10, 116, 105, 99, 107, 32, 50, 32, 45, 49, 10] := by
    rw [← kp_3]
    simp [pT]
  have h1 := hide (Print_in hrs (fun x hx => by simp at hx; rcases hx with rfl | rfl; exact ks1_w; exact ks2_w) (by simp) ((unhide HL).below hb1) (by rw [hpt]; simp))
  simp only [List.length_cons, List.length_nil, Nat.zero_add, Nat.reduceAdd] at h1 HRS ⊢
  clear hb1 h0 ho hl hg cur hrs
  go_wp2_with fail
  refine (unhide h1).mono ?_
  rintro e W2 ⟨hp, hb2⟩
  rcases hp with ⟨_, rfl⟩ | ⟨⟨x, hx, hk⟩, _⟩
  case inr => exact absurd (show isK x.1 by simp at hx; rcases hx with rfl | rfl; exact ks1_k; exact ks2_k) hk
  rw [hpt, show ofL [105, 110, 115, 101, 114, 116, 32, 49, 32, 48, 32, 34, 104, 195, 169, 34, 10, 116, 105, 99, 107, 32, 50, 32, 45, 49, 10] = (⟨#[105, 110, 115, 101, 114, 116, 32, 49, 32, 48, 32, 34, 104, 195, 169, 34, 10, 116, 105, 99, 107, 32, 50, 32, 45, 49, 10]⟩ : ByteArray) from rfl]
  have HB2 := hide (bnext (unhide HB1) hb2)
  have HRS2 := hide ((unhide HRS).below hb2)
  have h2 := hide (Parse_all kt2 (by decide) W2 ((unhide HL).below (unhide HB2)))
  unfold kt2 at h2
  clear h1 hb2 HRS HB1
  go_wp2_with fail
  refine (unhide h2).mono ?_
  rintro e W3 ⟨hb3, hp⟩
  change (match prL (scL kt2) with
  | .inl (S, _) => ∃ v l, e = .returned (.tuple #[v, .int .i64 0, .int .i64 0]) ∧ OwT W3 W2.heap.size v l ∧ l.map Prod.fst = S
  | .inr (ln, en) => e = .returned (.tuple #[.slice none 0 0, .int .i64 (ln : Int), .int .i64 (en : Int)])) at hp
  rw [kp_2] at hp
  obtain rfl := hp
  have HB3 := hide (bnext (unhide HB2) hb3)
  have HRS3 := hide ((unhide HRS2).below hb3)
  clear h2 hb3 HRS2 HB2
  obtain ⟨X3, hX3⟩ : ∃ X, W3.alloc (.cells #[.int .u8 1] 5) = X := ⟨_, rfl⟩
  obtain ⟨X4, hX4⟩ : ∃ X, X3.alloc (.cells #[.int .i64 7, .int .i64 1, .int .i64 2, .slice (some ⟨W3.heap.size, 0, none⟩) 1 1, .int .i64 4, .bool true] 64) = X := ⟨_, rfl⟩
  have hz3 : X3.heap.size = W3.heap.size + 1 := by rw [← hX3]; simp
  have b3 : Below W3.heap.size W3 X3 := by rw [← hX3]; exact ballc (Below.refl _ _) _
  have b34 : Below X3.heap.size X3 X4 := by rw [← hX4]; exact ballc (Below.refl _ _) _
  have q3 : Bq X4 W3.heap.size 5 #[.int .u8 1] := by
    have h := Bq.new W3 5 #[.int .u8 1]
    rw [hX3] at h
    exact h.keep b34 h.lt
  have q4 : Bq X4 (W3.heap.size + 1) 64 #[.int .i64 7, .int .i64 1, .int .i64 2, .slice (some ⟨W3.heap.size, 0, none⟩) 1 1, .int .i64 4, .bool true] := by rw [← hX4, ← hz3]; exact Bq.new _ _ _
  have hrc : RCpy X4 (.slice (some ⟨W3.heap.size + 1, 0, none⟩) 1 1) [(kc1, .slice (some ⟨W3.heap.size, 0, none⟩) 1 1)] :=
    ⟨.inr ⟨W3.heap.size + 1, 0, 1, rfl, Nat.le_refl _, q4.lt, fun j u hu => by rw [Nat.zero_add]; exact q4.cell j u (by simpa [flat, enP, cpC, kc1] using hu)⟩,
     fun e he => by
      simp at he
      subst he
      exact .inr ⟨W3.heap.size, 0, 1, rfl, Nat.le_refl _, q3.lt, fun j u hu => by rw [Nat.zero_add]; exact q3.cell j u (by simpa [Lib.byteCells, kc1] using hu)⟩⟩
  have HB4 := hide (bnext (unhide HB3) (bnext b3 b34))
  have HRS4 := hide ((unhide HRS3).below (bnext b3 b34))
  have hcs : stT ks3 ++ csT [(kc1, Value.slice (some ⟨W3.heap.size, 0, none⟩) 1 1)] = [100, 114, 111, 112, 32, 55, 10, 32, 32, 99, 111, 112, 121, 32, 55, 32, 102, 114, 111, 109, 32, 49, 32, 116, 111, 32, 50, 32, 115, 101, 110, 116, 32, 52, 32, 98, 97, 100, 32, 34, 92, 120, 48, 49, 34, 10] := by
    rw [← kp_4]
    simp [csT]
  have h3 := hide (Tell_cp (w := X4) ks3 none 0 0 none 0 0 (some ⟨W3.heap.size + 1, 0, none⟩) 1 [(kc1, .slice (some ⟨W3.heap.size, 0, none⟩) 1 1)] (RC.nil _ _ _) (RC.nil _ _ _) ks3_w ks3_k (by decide) hrc (fun e he => by simp at he; subst he; exact kc1_w) (by simp) ((unhide HL).below (unhide HB4)) (by rw [hcs]; simp))
  rw [hcs, show ofL [100, 114, 111, 112, 32, 55, 10, 32, 32, 99, 111, 112, 121, 32, 55, 32, 102, 114, 111, 109, 32, 49, 32, 116, 111, 32, 50, 32, 115, 101, 110, 116, 32, 52, 32, 98, 97, 100, 32, 34, 92, 120, 48, 49, 34, 10] = (⟨#[100, 114, 111, 112, 32, 55, 10, 32, 32, 99, 111, 112, 121, 32, 55, 32, 102, 114, 111, 109, 32, 49, 32, 116, 111, 32, 50, 32, 115, 101, 110, 116, 32, 52, 32, 98, 97, 100, 32, 34, 92, 120, 48, 49, 34, 10]⟩ : ByteArray) from rfl] at h3
  clear b3 b34 q3 q4 hrc HB3 HRS3
  go_wp2_with fail
  try rw [hX3]
  try rw [hX4]
  refine (unhide h3).mono ?_
  rintro e W4 ⟨rfl, hb4⟩
  have HB5 := hide (bnext (unhide HB4) hb4)
  have hR5 := (unhide HRS4).below hb4
  obtain ⟨g1, o1, e1, _, cs1⟩ := hR5.at (i := 0) (e := (ks1, d1, y1)) rfl
  obtain ⟨g2, o2, e2, _, cs2⟩ := hR5.at (i := 1) (e := (ks2, .slice da 2 dc, y2)) rfl
  cases e1
  cases e2
  have t6 := cs1 6 (.string ⟨#[104, 195, 169]⟩) rfl
  have t7 := cs2 7 (.slice da 2 dc) rfl
  simp only [Nat.zero_mul, Nat.zero_add, Nat.one_mul, Nat.reduceAdd] at t6 t7
  have hd2 := hR5.dr (ks2, .slice da 2 dc, y2) (by simp)
  have bX5 := ballc (Below.refl _ W4) (.cells #[.int .i64 2, .int .i64 (-1)] 3)
  have hn5 : RNm (W4.alloc (.cells #[.int .i64 2, .int .i64 (-1)] 3)) (.slice (some ⟨W4.heap.size, 0, none⟩) 2 2) [2, -1] := by
    refine .inr ⟨W4.heap.size, 0, 2, rfl, Nat.le_refl _, by simp, fun j u hu => ?_⟩
    rw [Nat.zero_add]
    exact (Bq.new W4 3 #[.int .i64 2, .int .i64 (-1)]).cell j u (by simpa [flat, enN] using hu)
  have h4 := hide (ints_in (.slice da 2 dc) (.slice (some ⟨W4.heap.size, 0, none⟩) 2 2) [2, -1] [2, -1] _ (RC.below hd2 bX5) hn5 (by simp) (by simp))
  have HB6 := hide (bnext (unhide HB5) bX5)
  have hc0 : 2 ≤ c := by simpa using hc2
  clear hR5 cs1 cs2 hd2 bX5 hn5 h3 hb4 HRS4 HB4 HB5 hX3 hX4 hz3 hcs
  go_wp2_with fail
  refine (unhide h4).mono ?_
  rintro e W6 ⟨rfl, hb6⟩
  have HF := hide (bnext (unhide HB6) hb6)
  clear h4 hb6 HB6
  go_wp2
  go_ret
  exact ⟨rfl, unhide HF⟩
end Go.Proofs.YtkndjbmlkfpfoaaGreatDoor

/-
  The walk of ScriptParses.
-/
set_option linter.unusedSimpArgs false
set_option linter.unusedVariables false
namespace Go.Proofs.YtkndjbmlkfpfoaaGreatDoor
open Go.RowKit Go.Lib

theorem rdFs_draws : ∀ (fl : List Nat) (s : Sp) (l : List It) (s' : Sp) (r : List It), rdFs fl s l = some (s', r) → s'.draws.length + r.length ≤ s.draws.length + l.length
  | [], s, l, s', r, h => by cases h; exact Nat.le_refl _
  | f :: fl, s, l, s', r, h => by
    have h' : (match tkF s f l with | none => none | some (s', n) => rdFs fl s' (l.drop n)) = some (s', r) := h
    cases hq : tkF s f l with
    | none => rw [hq] at h'; cases h'
    | some p =>
      obtain ⟨s2, n⟩ := p
      rw [hq] at h'
      have h1 := (tkF_cnt hq).2
      have h2 := rdFs_draws fl s2 (l.drop n) s' r h'
      omega
theorem fstR_draws {L : List It} {t : Sp} (h : fstR L = some t) : t.draws.length ≤ L.length := by
  unfold fstR at h
  obtain ⟨i, hi, h⟩ := List.exists_of_findSome?_eq_some h
  cases L with
  | nil => cases h
  | cons x l =>
    have h' : (if x.w.k = 1 ∧ x.w.t = ofL (tnm.getD i []) then endR (rdFs (tfl.getD i []) (sp0 ((i : Int) + 1)) l) else none) = some t := h
    split at h'
    · cases hr : rdFs (tfl.getD i []) (sp0 ((i : Int) + 1)) l with
      | none => rw [hr] at h'; cases h'
      | some p =>
        obtain ⟨s', r⟩ := p
        rw [hr] at h'
        have := rdFs_draws _ _ _ _ _ hr
        cases r with
        | nil =>
          have e : some s' = some t := h'
          cases e
          simp only [List.length_cons]
          simp [sp0] at this
          omega
        | cons y r => cases h'
    · cases h'
theorem prL_draws : ∀ (n : Nat) (pre : List It) (S : List Sp) (L : List It), pre.length = n → prL pre = .inl (S, L) → (∀ t ∈ S, t.draws.length ≤ n) ∧ L.length ≤ n ∧ S.length ≤ n := by
  intro n
  induction n with
  | zero =>
    intro pre S L hn h
    have : pre = [] := List.eq_nil_of_length_eq_zero hn
    subst this
    cases h
    exact ⟨(fun t ht => by cases ht), Nat.le_refl _, Nat.le_refl _⟩
  | succ n ih =>
    intro pre S L hn h
    rcases List.eq_nil_or_concat pre with rfl | ⟨p, x, rfl⟩
    · cases hn
    · rw [List.concat_eq_append] at h hn
      rw [prL_snoc] at h
      have hp : p.length = n := by simpa using hn
      cases hq : prL p with
      | inr q => rw [hq] at h; obtain ⟨a, b⟩ := q; cases h
      | inl q =>
        obtain ⟨S1, L1⟩ := q
        rw [hq] at h
        obtain ⟨i1, i2, i3⟩ := ih p S1 L1 hp hq
        have h' : (if x.w.e ≠ 0 then (.inr (x.ln, x.w.e) : Pr) else if x.w.k ≠ 4 then .inl (S1, L1 ++ [x]) else match fstR L1 with | some t => .inl (S1 ++ [t], []) | none => .inr (x.ln, 19)) = .inl (S, L) := h
        split at h'
        · cases h'
        · split at h'
          · simp only [Sum.inl.injEq, Prod.mk.injEq] at h'
            obtain ⟨rfl, rfl⟩ := h'
            refine ⟨fun t ht => Nat.le_succ_of_le (i1 t ht), ?_, by omega⟩
            simp only [List.length_append, List.length_cons, List.length_nil]
            omega
          · cases hf : fstR L1 with
            | none => rw [hf] at h'; cases h'
            | some t =>
              rw [hf] at h'
              simp only [Sum.inl.injEq, Prod.mk.injEq] at h'
              obtain ⟨rfl, rfl⟩ := h'
              refine ⟨fun u hu => ?_, Nat.zero_le _, ?_⟩
              · rcases List.mem_append.1 hu with hu | hu
                · exact Nat.le_succ_of_le (i1 u hu)
                · simp at hu
                  subst hu
                  have := fstR_draws hf
                  omega
              · simp only [List.length_append, List.length_cons, List.length_nil]
                omega

set_option maxRecDepth 100000 in
set_option maxHeartbeats 8000000 in
theorem parses_in {w : World} (s : ByteArray) (hL : Lw w) : Calls Tryz.prog 3 #[.string s] w fun e W => e = .returned (.bool true) ∧ Below w.heap.size w W := by
  have hk := hide (known_in hL)
  have HL := hide hL
  clear hL
  by_cases hb : 30000 < s.size
  · have hb' : (30000 : Int) < ((s.size : Nat) : Int) := by omega
    have h1 := hide (unhide hk w (Below.refl _ _))
    clear hb
    go_enter Tryz.func3, Tryz.ntmps3
    go_wp2_with fail
    refine (unhide h1).mono ?_
    rintro e W2 ⟨rfl, hb2⟩
    have HB2 := hide hb2
    clear hb2 h1
    go_wp2
    go_ret
    exact ⟨rfl, unhide HB2⟩
  · have hb' : ¬ ((30000 : Int) < ((s.size : Nat) : Int)) := by omega
    have hs : s.size ≤ 100000 := by omega
    have h1 := hide (Parse_all s (by omega) w (unhide HL))
    clear hb
    go_enter Tryz.func3, Tryz.ntmps3
    go_wp2_with fail
    refine (unhide h1).mono ?_
    rintro e W1 ⟨hb1, hp⟩
    clear h1
    have h2 := hide (refParse_in s hs W1)
    have hlen := scL_len s
    cases hq : prL (scL s) with
    | inl q =>
      obtain ⟨S, L⟩ := q
      rw [hq] at hp
      obtain ⟨v, l, rfl, ho, hl⟩ := hp
      obtain ⟨a1, c1, rfl⟩ := owns_form ho.row
      have hdr := prL_draws _ (scL s) S L rfl hq
      have HB1 := hide hb1
      have HO := hide ho
      have HQ := hide hq
      have HLn := hide (And.intro hlen (And.intro hdr hl))
      obtain ⟨m1, hm1⟩ : ∃ m, l.length = m := ⟨_, rfl⟩
      have HM1 := hide hm1
      rw [hm1] at HO ⊢
      clear hb1 ho hq hlen hdr hm1
      go_wp2_with fail
      refine (unhide h2).mono ?_
      rintro e W2 ⟨hb2, hp⟩
      clear h2
      rw [unhide HQ] at hp
      obtain ⟨v, m, rfl, ho2, hm⟩ := hp
      obtain ⟨a2, c2, rfl⟩ := owns_form ho2.row
      have HB2 := hide (bnext (unhide HB1) hb2)
      obtain ⟨hlen, hdr, hl⟩ := unhide HLn
      have hml : l.length ≤ 1000000 := by
        have : l.length = S.length := by rw [← hl, List.length_map]
        have := hdr.2.2
        omega
      have h3 := hide (same_in (w := W2) (.slice a1 m1 c1) (.slice a2 m.length c2) l m (((unhide HO).rs).below hb2) ho2.rs (by rw [hl, hm]) hml (fun x hx => by
        have h1 : x.1 ∈ S := by rw [← hl]; exact List.mem_map_of_mem hx
        have := hdr.1 x.1 h1
        omega))
      obtain ⟨m2, hm2⟩ : ∃ q, m.length = q := ⟨_, rfl⟩
      rw [hm2] at h3 ⊢
      clear hb2 ho2 hm hm2 hlen hdr hl hml HLn HO HB1
      go_wp2_with fail
      refine (unhide h3).mono ?_
      rintro e W3 ⟨rfl, hb3⟩
      have HB3 := hide (bnext (unhide HB2) hb3)
      have h4 := hide (unhide hk W3 (unhide HB3))
      clear hb3 h3 HB2
      go_wp2_with fail
      refine (unhide h4).mono ?_
      rintro e W4 ⟨rfl, hb4⟩
      have HB4 := hide (bnext (unhide HB3) hb4)
      clear hb4 h4
      go_wp2
      go_ret
      exact ⟨rfl, unhide HB4⟩
    | inr q =>
      obtain ⟨ln, en⟩ := q
      rw [hq] at hp
      obtain rfl := hp
      have HB1 := hide hb1
      have HQ := hide hq
      clear hb1 hq hlen
      go_wp2_with fail
      refine (unhide h2).mono ?_
      rintro e W2 ⟨hb2, hp⟩
      clear h2
      rw [unhide HQ] at hp
      obtain rfl := hp
      have HB2 := hide (bnext (unhide HB1) hb2)
      have h3 := hide (same_in (w := W2) (.slice none 0 0) (.slice none 0 0) [] [] ⟨RC.nil _ _ _, (fun x hx => by cases hx), (fun x hx => by cases hx)⟩ ⟨RC.nil _ _ _, (fun x hx => by cases hx), (fun x hx => by cases hx)⟩ rfl (by simp) (fun x hx => by cases hx))
      clear hb2 HB1
      go_wp2_with fail
      refine (unhide h3).mono ?_
      rintro e W3 ⟨rfl, hb3⟩
      have HB3 := hide (bnext (unhide HB2) hb3)
      have h4 := hide (unhide hk W3 (unhide HB3))
      have e1 : ((ln : Int) == (ln : Int)) = true := by simp
      have e2 : ((en : Int) == (en : Int)) = true := by simp
      clear hb3 h3 HB2
      go_wp2_with fail
      refine (unhide h4).mono ?_
      rintro e W4 ⟨rfl, hb4⟩
      have HB4 := hide (bnext (unhide HB3) hb4)
      clear hb4 h4
      go_wp2
      go_ret
      exact ⟨rfl, unhide HB4⟩
end Go.Proofs.YtkndjbmlkfpfoaaGreatDoor
