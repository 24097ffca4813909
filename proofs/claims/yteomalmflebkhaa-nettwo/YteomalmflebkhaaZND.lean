/-
  octets, plain, slices.Clone of bytes; the law's bytes.
-/
import Derived.Test.YteomalmflebkhaaZNB
import Derived.Shelf.Bytes.SlClone
set_option linter.unusedSimpArgs false
set_option linter.unusedVariables false
namespace Go.Proofs.Yteomalmflebkhaa
open Go.RowKit Go.Lib

theorem infoO : (Try.prog.info? 104).map (fun i => (i.zero, i.size, i.bytes)) = some (some (.agg #[.int .u8 0]), 1, 1) := by kernel_rfl
theorem mkO (N : Nat) (hN : N ≤ 1000000000) : ∃ Z : Array Value, Z.size = N ∧ ∀ w : World, (Instr.makeSlice 83 (.int .i64 (N : Nat)) (.int .i64 (N : Nat))).run Try.prog w = .ok (.slice (some ⟨w.heap.size, 0, none⟩) N N) (w.alloc (.cells Z 104)) := by
  obtain ⟨i, hi, hz, hs, hb⟩ := info_parts infoO
  refine ⟨madeCells (Value.agg #[.int .u8 0]).cells (N * 1), by rw [size_madeCells]; omega, fun w => ?_⟩
  have := run_make (P := Try.prog) w 83 104 i _ Try.underlying83 hi hz .i64 .i64 (N : Int) (N : Int) (by omega) (Int.le_refl _) (by rw [hb]; omega) (by omega)
  rw [hs, Int.toNat_natCast] at this
  exact this
/-- what octets, plain and Clone answer -/
def NewB (w : World) (t : TypeId) (l : List Int) (e : Ending) (W : World) : Prop := ∃ a c, e = .returned (.slice a l.length c) ∧ OwB W w.heap.size t (.slice a l.length c) l ∧ Below w.heap.size w W
set_option maxRecDepth 100000 in
set_option maxHeartbeats 2000000 in
theorem octets_in (v : Value) (l : List Int) (w : World) (h : RB w v l) (hl : l.length ≤ 1000000) : Calls Try.prog 39 #[v] w (NewB w 104 l) := by
  obtain ⟨a, c, rfl⟩ := h.form
  obtain ⟨n, hn⟩ : ∃ n, l.length = n := ⟨_, rfl⟩
  obtain ⟨Z, hZ, mk⟩ := mkO n (by omega)
  have F0 := hide (Fl.new w (l := l) (Z := Z) (by omega) 104)
  have Hn := hide hn
  have HR := hide h
  rw [hn] at hl ⊢
  unfold NewB
  rw [hn]
  clear hn h hZ
  obtain ⟨X, hX⟩ : ∃ X, w.alloc (.cells Z 104) = X := ⟨_, rfl⟩
  rw [hX] at F0
  go_enter Try.func39, Try.ntmps39
  go_wp2
  go_loopw [11] (fun iv wr => ∃ i : Nat, i ≤ n ∧ iv = .int .i64 (i : Nat) ∧ Hid (Fl w wr w.heap.size 104 l i)) (fun iv _ => n - (RowKit.intOf iv).toNat)
  case atStart => exact ⟨0, Nat.zero_le _, rfl, F0⟩
  case round =>
    obtain ⟨i, hi, rfl, HF⟩ := hrel
    by_cases hlt : i < n
    · have hlt' : (i : Int) < (n : Int) := by omega
      have hi1 : i < l.length := by rw [unhide Hn]; exact hlt
      have hx := List.getElem?_eq_getElem hi1
      have ru := (unhide HR).below (unhide HF).bel
      rw [show (Value.slice a l.length c) = .slice a n c by rw [unhide Hn]] at ru
      obtain ⟨b, off, rfl, _, k1⟩ := RB.at ru hx
      have F1 := hide ((unhide HF).set (Nat.le_refl _) hx)
      obtain ⟨u, hu⟩ := (unhide HF).cell hi1
      have fz := (unhide HF).fz i
      generalize l[i] = x at *
      clear hx ru
      go_wp2
      go_roundw
      case rel => exact ⟨i + 1, by omega, by go_num, F1⟩
      case measure => show n - ((i : Int) + 1).toNat < n - ((i : Nat) : Int).toNat; omega
    · obtain rfl : i = n := by omega
      have hlt' : ¬ (i : Int) < (i : Int) := by omega
      have e := unhide Hn
      have HO := hide ((by rw [e]; exact unhide HF : Fl w wr w.heap.size 104 l l.length).own (Nat.le_refl _) (by omega))
      have HB := hide (unhide HF).bel
      rw [e] at HO
      clear e
      go_wp2
      go_ret
      exact ⟨_, _, rfl, unhide HO, unhide HB⟩
set_option maxRecDepth 100000 in
set_option maxHeartbeats 2000000 in
theorem plain_in (v : Value) (l : List Int) (w : World) (h : RB w v l) (hl : l.length ≤ 1000000) : Calls Try.prog 43 #[v] w (NewB w 5 l) := by
  obtain ⟨a, c, rfl⟩ := h.form
  obtain ⟨n, hn⟩ : ∃ n, l.length = n := ⟨_, rfl⟩
  obtain ⟨Z, hZ, mk⟩ := mkB n (by omega)
  have F0 := hide (Fl.new w (l := l) (Z := Z) (by omega) 5)
  have Hn := hide hn
  have HR := hide h
  rw [hn] at hl ⊢
  unfold NewB
  rw [hn]
  clear hn h hZ
  obtain ⟨X, hX⟩ : ∃ X, w.alloc (.cells Z 5) = X := ⟨_, rfl⟩
  rw [hX] at F0
  go_enter Try.func43, Try.ntmps43
  go_wp2
  go_loopw [11] (fun iv wr => ∃ i : Nat, i ≤ n ∧ iv = .int .i64 (i : Nat) ∧ Hid (Fl w wr w.heap.size 5 l i)) (fun iv _ => n - (RowKit.intOf iv).toNat)
  case atStart => exact ⟨0, Nat.zero_le _, rfl, F0⟩
  case round =>
    obtain ⟨i, hi, rfl, HF⟩ := hrel
    by_cases hlt : i < n
    · have hlt' : (i : Int) < (n : Int) := by omega
      have hi1 : i < l.length := by rw [unhide Hn]; exact hlt
      have hx := List.getElem?_eq_getElem hi1
      have ru := (unhide HR).below (unhide HF).bel
      rw [show (Value.slice a l.length c) = .slice a n c by rw [unhide Hn]] at ru
      obtain ⟨b, off, rfl, _, k1⟩ := RB.at ru hx
      have bA := ballc (Below.refl wr.heap.size wr) (.cells #[.int .u8 l[i]] 104)
      have FA : Fl w (wr.alloc (.cells #[.int .u8 l[i]] 104)) w.heap.size 5 l i := by
        obtain ⟨⟨cur, h1, h2, h3⟩, h4⟩ := unhide HF
        exact ⟨⟨cur, h1.below bA, h2, h3⟩, bnext h4 bA⟩
      have F1 := hide (FA.set (Nat.le_refl _) hx)
      obtain ⟨u, hu⟩ := FA.cell hi1
      have fz := FA.fz i
      clear FA bA
      generalize l[i] = x at *
      clear hx ru
      go_wp2
      go_roundw
      case rel => exact ⟨i + 1, by omega, by go_num, F1⟩
      case measure => show n - ((i : Int) + 1).toNat < n - ((i : Nat) : Int).toNat; omega
    · obtain rfl : i = n := by omega
      have hlt' : ¬ (i : Int) < (i : Int) := by omega
      have e := unhide Hn
      have HO := hide ((by rw [e]; exact unhide HF : Fl w wr w.heap.size 5 l l.length).own (Nat.le_refl _) (by omega))
      have HB := hide (unhide HF).bel
      rw [e] at HO
      clear e
      go_wp2
      go_ret
      exact ⟨_, _, rfl, unhide HO, unhide HB⟩
/-- slices.Clone of what is not nil -/
theorem clone_at (ad : Addr) (c : Nat) (l : List Int) (w : World) (hl : l.length ≤ 1000000) (hc : ∀ j x, (bC l)[j]? = some x → w.cell? (ad.add j) = some x) :
    Calls Try.prog 58 #[.slice (some ad) l.length c] w fun e W => ∃ v', e = .returned v' ∧ OwB W w.heap.size 5 v' l ∧ Below w.heap.size w W := by
  obtain ⟨i0, hi, hz0, hz1, hz2⟩ := info_parts infoB
  have q22 : ∀ (w : World) (a : Option Addr) (n c n' c' : Nat), (binOp .eql 30 (.slice a n c) (.slice none n' c')).run Try.prog w = .ok (.bool a.isNone) w := fun w a n c n' c' => Lib.run_eql_slice_nil w _ _ a n c n' c' Try.underlying30
  have A := hide hc
  clear hc
  obtain ⟨n, hn⟩ : ∃ n, l.length = n := ⟨_, rfl⟩
  have Hn := hide hn
  rw [hn] at hl ⊢
  clear hn
  go_enter Try.func58, Try.ntmps58
  go_wp2_with (at_builtin; refine wpList_append_own _ rfl _ _ 30 rfl w.heap.size 5 i0 _ 1 1 Try.underlying30 hi hz0 hz1 hz2 rfl (by omega) _ _ _ rfl (World.ownsRow_made w #[] 0 (Nat.le_refl _) (Nat.zero_le _) (by simp)) ad n c (bC l) rfl ?qc1 ?qc2 ?qc3 ?qc4 ?qc5 ?qc6 ?_)
  case qc1 => rw [bC_len, unhide Hn]; omega
  case qc2 =>
    intro j u hj
    exact Lib.cell?_alloc_some _ (unhide A j u hj)
  case qc3 => exact bC_one l
  case qc4 => unfold maxLen; omega
  case qc5 => omega
  case qc6 => simp
  intro v' w1 hown hgrow hnil
  go_wp2
  go_ret
  have e := unhide Hn
  refine ⟨v', rfl, ?_, ?_⟩
  · subst e; unfold OwB; simpa using hown
  · exact ((Below.refl _ w).alloc (Nat.le_refl _) _).grown hgrow (by simp) (by intro k hk; simp [Value.ownBlock] at hk; omega)
theorem Clone_in (v : Value) (l : List Int) (w : World) (h : RB w v l) (hl : l.length ≤ 1000000) : Calls Try.prog 58 #[v] w (NewB w 5 l) := by
  have main : Calls Try.prog 58 #[v] w fun e W => ∃ v', e = .returned v' ∧ OwB W w.heap.size 5 v' l ∧ Below w.heap.size w W := by
    rcases h with ⟨h0, a, cap, rfl⟩ | ⟨b, off, cap, rfl, _, _, hc⟩
    · have e : l = [] := List.eq_nil_of_length_eq_zero h0
      subst e
      rcases a with _ | ad
      · have q22 : ∀ (w : World) (a : Option Addr) (n c n' c' : Nat), (binOp .eql 30 (.slice a n c) (.slice none n' c')).run Try.prog w = .ok (.bool a.isNone) w := fun w a n c n' c' => Lib.run_eql_slice_nil w _ _ a n c n' c' Try.underlying30
        go_enter Try.func58, Try.ntmps58
        go_wp2
        go_ret
        exact ⟨_, rfl, World.ownsRow_nil _ _ _ _, Below.refl _ _⟩
      · exact clone_at ad cap [] w (by simp) (fun j x hx => by simp [bC] at hx)
    · exact clone_at ⟨b, off, none⟩ cap l w hl (fun j x hx => by rw [Addr.add_lit]; exact hc j x hx)
  refine main.mono ?_
  rintro e W ⟨v', rfl, ho, hb⟩
  obtain ⟨a, c, rfl⟩ := ho.form
  exact ⟨a, c, rfl, ho, hb⟩

end Go.Proofs.Yteomalmflebkhaa
