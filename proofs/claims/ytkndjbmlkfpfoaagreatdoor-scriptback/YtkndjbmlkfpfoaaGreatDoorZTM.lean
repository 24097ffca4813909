/-
  What script.Print answers.
-/
import Derived.Test.YtkndjbmlkfpfoaaGreatDoorZTJToTL

set_option linter.unusedSimpArgs false
set_option linter.unusedVariables false
namespace Go.Proofs.YtkndjbmlkfpfoaaGreatDoor
open Go.RowKit Go.Lib

theorem lineTo_in (b : Nat) (W : World) : Calls Tryz.prog 29 #[.pointer (some ⟨b, 0, none⟩)] W fun e W' => e = .returned (.func (.func 66) #[] #[.pointer (some ⟨W.heap.size, 0, none⟩)]) ∧ W.alloc (.cells #[.pointer (some ⟨b, 0, none⟩)] 84) = W' := by
  go_enter Tryz.func29, Tryz.ntmps29
  go_wp2
  go_ret
  exact ⟨rfl, rfl⟩

/-- steps in a row -/
def encS (e : Sp × Value × Value) : List Value := (spC e.1 e.2.1 e.2.2).toList
theorem encS_len (e : Sp × Value × Value) : (encS e).length = 9 := rfl
structure RStp (W : World) (v : Value) (l : List (Sp × Value × Value)) : Prop where
  row : RC W v l.length (flat encS l)
  dr : ∀ e ∈ l, RNm W e.2.1 e.1.draws
  by_ : ∀ e ∈ l, RBy W e.2.2 e.1.data
theorem RStp.below {W W' : World} {v : Value} {l : List (Sp × Value × Value)} (h : RStp W v l) (hb : Below W.heap.size W W') : RStp W' v l := ⟨RC.below h.row hb, fun e he => RC.below (h.dr e he) hb, fun e he => RC.below (h.by_ e he) hb⟩
theorem RStp.at {W : World} {a : Option Addr} {n c : Nat} {l : List (Sp × Value × Value)} (h : RStp W (.slice a n c) l) {i : Nat} {e : Sp × Value × Value} (hi : l[i]? = some e) :
    ∃ b off, a = some ⟨b, off, none⟩ ∧ b < W.heap.size ∧ ∀ (q : Nat) u, (encS e)[q]? = some u → W.cell? ⟨b, off + i * 9 + q, none⟩ = some u := by
  rcases h.row with ⟨h0, _⟩ | ⟨b, off, cap, e2, hn, hlt, hc⟩
  · have := (List.getElem?_eq_some_iff.1 hi).1; omega
  · simp at e2
    refine ⟨b, off, e2.1, hlt, fun q u hu => ?_⟩
    have hq := (List.getElem?_eq_some_iff.1 hu).1
    rw [encS_len] at hq
    rw [Nat.add_assoc]
    exact hc _ _ ((flat_get encS_len l i q e hi hq).trans hu)
def pT (l : List (Sp × Value × Value)) : List UInt8 := l.flatMap fun e => stT e.1
theorem pT_take {l : List (Sp × Value × Value)} {j : Nat} {e : Sp × Value × Value} (h : l[j]? = some e) : pT (l.take (j + 1)) = pT (l.take j) ++ stT e.1 := by
  unfold pT
  rw [List.take_add_one, h]
  simp
theorem pT_le {l : List (Sp × Value × Value)} {j : Nat} : (pT (l.take j)).length ≤ (pT l).length := by
  conv => rhs; rw [← List.take_append_drop j l]
  unfold pT
  simp only [List.flatMap_append, List.length_append]
  omega
/-- what Print answers -/
def PrA (l : List (Sp × Value × Value)) (e : Ending) : Prop :=
  ((∀ x ∈ l, isK x.1) ∧ e = .returned (.tuple #[.string (ofL (pT l)), .int .i64 0])) ∨ ((∃ x ∈ l, ¬ isK x.1) ∧ e = .returned (.tuple #[.string ⟨#[]⟩, .int .i64 19]))

set_option maxRecDepth 100000 in
set_option maxHeartbeats 4000000 in
theorem Print_in {w : World} {v : Value} {l : List (Sp × Value × Value)} (h : RStp w v l) (hw : ∀ x ∈ l, SpW x.1) (hl : l.length ≤ 1000000) (hL : Lw w) (hs : (pT l).length ≤ 1000000000) :
    Calls Tryz.prog 15 #[v] w fun e W => PrA l e ∧ Below w.heap.size w W := by
  obtain ⟨a0, c0, rfl⟩ := h.row.form
  have HR := hide h
  have HW := hide hw
  have HL := hide hL
  have HS := hide hs
  obtain ⟨N, hN⟩ : ∃ N, l.length = N := ⟨_, rfl⟩
  rw [hN] at hl ⊢
  have HN := hide hN
  clear h hw hL hs hN
  go_enter Tryz.func15, Tryz.ntmps15
  go_wp2_with fail
  refine (lineTo_in _ _).mono ?_
  rintro e W1 ⟨rfl, hW1⟩
  have hp1 : LnP (w.heap.size + 1) w.heap.size w.heap.size [] W1 := by
    have h0 := IsBuilderF.of (fresh_isBuilder 86 5 w)
    have hb := ballc (Below.refl _ (w.alloc (.cells #[.pointer none, .slice none 0 0] 86))) (.cells #[.pointer (some ⟨w.heap.size, 0, none⟩)] 84)
    have hx := Bq.new (w.alloc (.cells #[.pointer none, .slice none 0 0] 86)) 84 #[.pointer (some ⟨w.heap.size, 0, none⟩)]
    rw [World.size_alloc] at hx
    rw [← hW1]
    exact ⟨hx, isB_below h0 hb, by simp; omega, by omega⟩
  have hb1 : Below w.heap.size w W1 := by rw [← hW1]; exact ballc (ballc (Below.refl _ _) _) _
  have HP1 := hide hp1
  have HB1 := hide hb1
  clear hW1 hp1 hb1
  go_wp2_with fail
  refine (table_in _).mono ?_
  rintro e W2 ⟨tv, tb, bs, rfl, ht, hb2⟩
  have htf := ht.form
  subst htf
  have HT := hide ht
  have HP2 := hide ((unhide HP1).below hb2)
  have HB2 := hide (bnext (unhide HB1) hb2)
  clear ht hb2 HP1 HB1
  go_wp2_with fail
  go_loopw [8, 13] (fun v8 v13 wr => ∃ (j : Nat), v13 = .int .i64 (j : Int) ∧ j ≤ N ∧ Hid ((∀ x ∈ l.take j, isK x.1) ∧ LnP (w.heap.size + 1) w.heap.size w.heap.size (pT (l.take j)) wr ∧ Tb wr (.slice (some ⟨tb, 0, none⟩) 14 14) tb bs ∧ Below w.heap.size w wr)) (fun _ v13 _ => N - (RowKit.intOf v13).toNat)
  case atStart => exact ⟨0, rfl, Nat.zero_le _, hide ⟨fun x hx => by simp at hx, unhide HP2, unhide HT, unhide HB2⟩⟩
  case round =>
    obtain ⟨j, rfl, hj, H⟩ := hrel
    by_cases hjl : j < N
    · obtain ⟨⟨s, dv, bv⟩, he⟩ : ∃ e, l[j]? = some e := ⟨_, List.getElem?_eq_getElem (by rw [unhide HN]; exact hjl)⟩
      have hmem := List.mem_of_getElem? he
      have hR2 := (unhide HR).below (unhide H).2.2.2
      obtain ⟨a1, k1, e1⟩ := RC.form (hR2.dr _ hmem)
      obtain ⟨a2, k2, e2⟩ := RC.form (hR2.by_ _ hmem)
      simp only at e1 e2
      obtain ⟨b3, off, rfl, hblt, hcs⟩ := hR2.at he
      have hdr := hR2.dr _ hmem
      have hby := hR2.by_ _ hmem
      simp only at hdr hby
      subst e1
      subst e2
      obtain ⟨n1, hn1⟩ : ∃ n, s.draws.length = n := ⟨_, rfl⟩
      obtain ⟨n2, hn2⟩ : ∃ n, s.data.length = n := ⟨_, rfl⟩
      rw [hn1] at hdr hcs
      rw [hn2] at hby hcs
      have c0 := hcs 0 (.int .i64 s.kind) rfl
      rw [Nat.add_zero] at c0
      have c1 := hcs 1 (.int .i64 s.site) rfl
      have c2 := hcs 2 (.int .i64 s.peer) rfl
      have c3 := hcs 3 (.int .i64 s.unit) rfl
      have c4 := hcs 4 (.int .i64 s.at_) rfl
      have c5 := hcs 5 (.int .i64 s.n) rfl
      have c6 := hcs 6 (.string s.text) rfl
      have c7 := hcs 7 (.slice a1 n1 k1) rfl
      have c8 := hcs 8 (.slice a2 n2 k2) rfl
      have hwx := unhide HW _ hmem
      simp only at hwx
      have hpt := pT_take he
      simp only at hpt
      have hple := pT_le (l := l) (j := j + 1)
      rw [hpt] at hple
      have hbX := ballc (Below.refl _ wr) (.cells (spC s (.slice a1 n1 k1) (.slice a2 n2 k2)) 40)
      have hbx := Bq.new wr 40 (spC s (.slice a1 n1 k1) (.slice a2 n2 k2))
      have d0 := hbx.cell 0 (.int .i64 s.kind) rfl
      have d1 := hbx.cell 1 (.int .i64 s.site) rfl
      have d2 := hbx.cell 2 (.int .i64 s.peer) rfl
      have d3 := hbx.cell 3 (.int .i64 s.unit) rfl
      have d4 := hbx.cell 4 (.int .i64 s.at_) rfl
      have d5 := hbx.cell 5 (.int .i64 s.n) rfl
      have d6 := hbx.cell 6 (.string s.text) rfl
      have d7 := hbx.cell 7 (.slice a1 n1 k1) rfl
      have d8 := hbx.cell 8 (.slice a2 n2 k2) rfl
      have hlay := hide (layStep_in ((unhide H).2.1.below hbX) ((unhide H).2.2.1.below hbX) (RC.below hdr hbX) (RC.below hby hbX) hwx ((unhide HL).below (bnext (unhide H).2.2.2 hbX)) (Nat.le_trans hple (unhide HS)) rfl rfl)
      have HB5 := hide (bnext (unhide H).2.2.2 hbX)
      have HTX := hide ((unhide H).2.2.1.below hbX)
      have HBD := hide ((unhide H).2.1.below hbX).bld
      have HA := hide (unhide H).1
      have HE := hide he
      have HPT := hide hpt
      unfold spC at hlay d0 d1 d2 d3 d4 d5 d6 d7 d8 HB5 HTX HBD
      have k5 : (j : Int) < (N : Int) := by omega
      have k6 : (0 : Int) ≤ (j : Int) := by omega
      have HMem := hide hmem
      clear hn1 hn2 hcs hdr hby hbX hbx hple hpt he hR2 hwx H hblt hmem
      go_wp2_with fail
      refine (unhide hlay).mono ?_
      rintro e W4 hA
      obtain ⟨x4, f4, hbd⟩ := unhide HBD
      rcases hA with ⟨hk, rfl, p4, w4⟩ | ⟨hk, rfl, p4, w4⟩
      · have HN4 := hide (show (∀ x ∈ l.take (j + 1), isK x.1) ∧ LnP (w.heap.size + 1) w.heap.size w.heap.size (pT (l.take (j + 1))) W4 ∧ Tb W4 (.slice (some ⟨tb, 0, none⟩) 14 14) tb bs ∧ Below w.heap.size w W4 from ⟨fun x hx => by
          rw [List.take_add_one, unhide HE] at hx
          rcases List.mem_append.1 hx with h | h
          · exact unhide HA x h
          · simp at h; subst h; exact hk, by rw [unhide HPT]; exact p4, (unhide HTX).wrt w4 hbd, (unhide HB5).trans w4.bel⟩)
        clear p4 w4 hlay HB5 HTX HBD HA HE HPT hbd hk
        go_wp2
        go_roundw
        case rel => exact ⟨j + 1, by go_num, by omega, HN4⟩
        case measure => simp [RowKit.intOf]; omega
      · have HF := hide (show PrA l (.returned (.tuple #[.string ⟨#[]⟩, .int .i64 19])) ∧ Below w.heap.size w W4 from ⟨.inr ⟨⟨_, unhide HMem, hk⟩, rfl⟩, (unhide HB5).trans w4.bel⟩)
        clear p4 w4 hlay HB5 HTX HBD HA HE HPT hbd hk
        go_wp2
        refine bodyPost_ret (results_tmp2 rfl _ _ _) rfl ?_
        exact unhide HF
    · obtain rfl : j = N := by omega
      have kd : decide ((j : Int) < (j : Int)) = false := by simp
      have e1 : l.take j = l := List.take_of_length_le (by rw [unhide HN]; exact Nat.le_refl _)
      rw [e1] at H
      have hstr := hide (string_any_k w.heap.size w.heap.size (pT l) wr (unhide H).2.1.bui (unhide H).2.1.sz)
      have HA := hide (unhide H).1
      have HB5 := hide (unhide H).2.2.2
      clear H e1
      go_wp2_with fail
      refine (unhide hstr).mono ?_
      rintro e W4 ⟨rfl, hb4, -⟩
      have HF := hide (show PrA l (.returned (.tuple #[.string (ofL (pT l)), .int .i64 0])) ∧ Below w.heap.size w W4 from ⟨.inl ⟨unhide HA, rfl⟩, (unhide HB5).trans hb4⟩)
      clear hb4 hstr HA HB5
      go_wp2
      refine bodyPost_ret (results_tmp2 rfl _ _ _) rfl ?_
      exact unhide HF
end Go.Proofs.YtkndjbmlkfpfoaaGreatDoor
