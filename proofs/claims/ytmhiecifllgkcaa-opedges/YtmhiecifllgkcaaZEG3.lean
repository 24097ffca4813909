/-
  The law OpEdges' own 'of' (what a vector says of a site), and append of a row of runs.
-/
import Derived.Test.YtmhiecifllgkcaaZEG2
import Derived.Test.YtmhiecifllgkcaaZQ4
import Derived.Test.YtmhiecifllgkcaaZQ5
set_option linter.unusedSimpArgs false
set_option linter.unusedVariables false
namespace Go.Proofs.Ytmhiecifllgkcaa
open Go.RowKit Go.Lib

/-- the first that has the site, in a vector: what the vector says -/
theorem of_some {l : List (Int × Int)} (h : chk l = 0) {i : Nat} {d : Int × Int} (hd : l[i]? = some d) {s : Int} (hs : d.1 = s) (h1 : 1 ≤ s) (h2 : s ≤ 16) : d.2 = getV l s := by
  have hv := vec_of_chk h
  have hm : d ∈ vec (sy l) := by rw [hv]; exact List.mem_of_getElem? hd
  obtain ⟨k, hk, _, rfl⟩ := vecN_mem hm
  unfold getV
  simp only at hs
  subst hs
  rw [if_pos ⟨h1, h2⟩]
  simp
theorem of_none {l : List (Int × Int)} (h : chk l = 0) {s : Int} (hn : ∀ d ∈ l, d.1 ≠ s) (h1 : 1 ≤ s) (h2 : s ≤ 16) : getV l s = 0 := by
  have hv := vec_of_chk h
  unfold getV
  rw [if_pos ⟨h1, h2⟩]
  have hg := (sy_good l).lo s.toNat
  by_cases e : 0 < sy l s.toNat
  · exfalso
    have hm : ((s.toNat : Int), sy l s.toNat) ∈ vec (sy l) := by
      unfold vec vecN
      exact List.mem_filterMap.2 ⟨s.toNat, List.mem_range.2 (by omega), by rw [if_pos e]⟩
    rw [hv] at hm
    exact hn _ hm (by simp; omega)
  · omega

set_option maxRecDepth 100000 in
set_option maxHeartbeats 2000000 in
theorem of_in (a : Option Addr) (n c : Nat) (l : List (Int × Int)) (s : Int) (w : World) (h : RI w (.slice a n c) l) (hn : l.length = n) (hl : n ≤ 3000) (hc : chk l = 0) (h1 : 1 ≤ s) (h2 : s ≤ 16) :
    Calls Try.prog 7 #[.slice a n c, .int .i64 s] w fun e W => e = .returned (.int .i64 (getV l s)) ∧ W = w := by
  have H := hide h
  have Hn := hide hn
  have Hc := hide hc
  clear h hn hc
  obtain ⟨g, hg⟩ : ∃ g, getV l s = g := ⟨_, rfl⟩
  rw [hg]
  replace hg := hide hg
  go_enter Try.func7, Try.ntmps7
  go_wp2
  go_loopw [5] (fun iv wr => ∃ i : Nat, iv = .int .i64 (i : Nat) ∧ i ≤ n ∧ Hid (∀ d ∈ l.take i, d.1 ≠ s) ∧ wr = w) (fun iv _ => n - (Lib.intOf iv).toNat)
  case atStart => exact ⟨0, rfl, by omega, hide (fun d hd => by simp at hd), rfl⟩
  case round =>
    obtain ⟨i, rfl, hi, hA, rfl⟩ := hrel
    by_cases hlt : i < n
    · have hlt' : (i : Int) < (n : Int) := by omega
      obtain ⟨d, hd⟩ : ∃ d, l[i]? = some d := ⟨_, List.getElem?_eq_getElem (by have := unhide Hn; omega)⟩
      obtain ⟨b, off, rfl, hb, c0, c1⟩ := RI.at (unhide H) hd
      by_cases hs : d.1 = s
      · have hv := of_some (unhide Hc) hd hs h1 h2
        rw [unhide hg] at hv
        rw [hs] at c0
        rw [hv] at c1
        clear hd hs hv
        go_wp2
        go_ret
        exact ⟨rfl, rfl⟩
      · have Hd := hide hd
        have hA2 : Hid (∀ d ∈ l.take (i + 1), d.1 ≠ s) := hide (fun e he => by
          rw [List.take_add_one, hd] at he
          simp only [Option.toList_some, List.mem_append, List.mem_singleton] at he
          rcases he with he | he
          · exact unhide hA e he
          · rw [he]; exact hs)
        obtain ⟨d1, d2⟩ := d
        simp only at c0 c1 hs
        clear hd hA Hd
        go_wp2
        go_roundw
        case measure => show n - ((i : Int) + 1).toNat < n - ((i : Nat) : Int).toNat; omega
        case rel => exact ⟨i + 1, by go_num, by omega, hA2, by trivial⟩
    · have hlt' : ¬ (i : Int) < (n : Int) := by omega
      have hz : g = 0 := by
        rw [← unhide hg]
        refine of_none (unhide Hc) (fun d hd => unhide hA d ?_) h1 h2
        rw [List.take_of_length_le (by have := unhide Hn; omega)]
        exact hd
      subst hz
      go_wp2
      go_ret
      exact ⟨rfl, rfl⟩

theorem own_emptyR (w : World) : (w.alloc (.cells #[] 36)).ownsRow w.heap.size 36 3 (.slice (some ⟨w.heap.size, 0, none⟩) 0 0) ([] : List ((Int × Int) × Int)).length (flat encR []) :=
  ⟨rfl, .inr ⟨w.heap.size, 0, #[], rfl, Nat.le_refl _, Bx.new w _ _, Nat.le_refl _, by unfold maxLen; omega, rfl, rfl⟩⟩
theorem infoRo : (Try.prog.info? 36).map (fun i => (i.zero, i.size, i.bytes)) = some (some (.agg #[.int .i64 0, .int .i64 0, .int .i64 0]), 3, 24) := by kernel_rfl
theorem encR_one' (l : List ((Int × Int) × Int)) : ∀ u ∈ flat encR l, u.oneCell' = true := fun u hu => by
  unfold flat at hu
  obtain ⟨x, _, hx⟩ := List.mem_flatMap.1 hu
  unfold encR at hx
  simp at hx
  rcases hx with rfl | rfl | rfl <;> rfl
theorem encR_len' (l : List ((Int × Int) × Int)) : (flat encR l).length = l.length * 3 := by
  unfold flat
  induction l with
  | nil => rfl
  | cons x l ih => rw [List.flatMap_cons, List.length_append, ih, List.length_cons]; simp [encR]; omega
/-- append(b, m...) of runs -/
theorem app_runs (w : World) (ty : TypeId) (N : Nat) (v u : Value) (L M : List ((Int × Int) × Int)) (h : w.ownsRow N 36 3 v L.length (flat encR L)) (hv : v ≠ .slice none 0 0) (hu : RR w u M) (hN : N ≤ w.heap.size) (hl : L.length ≤ 100000) (hm : M.length ≤ 100000) :
    ∃ v' w', (Builtin.append_ #[28, 28] ty #[v, u]).run Try.prog w = .ok v' w' ∧ w'.ownsRow N 36 3 v' (L ++ M).length (flat encR (L ++ M)) ∧ w.grownBy w' v.ownBlock ∧ v' ≠ .slice none 0 0 := by
  obtain ⟨i0, hi, hz0, hz1, hz2⟩ := info_parts infoRo
  have step : ∀ (ad : Addr) (cc : Nat), u = .slice (some ad) M.length cc → (∀ j x, (flat encR M)[j]? = some x → w.cell? (ad.add j) = some x) → ∃ v' w', (Builtin.append_ #[28, 28] ty #[v, u]).run Try.prog w = .ok v' w' ∧ w'.ownsRow N 36 3 v' (L ++ M).length (flat encR (L ++ M)) ∧ w.grownBy w' v.ownBlock ∧ v' ≠ .slice none 0 0 := by
    rintro ad cc rfl hc
    obtain ⟨v', w', q1, q2, q3, q4, _⟩ := run_append_own_at (P := Try.prog) w N 28 ty 36 i0 _ 3 24 Try.underlying28 hi hz0 hz1 hz2 rfl (by decide) v L.length (flat encR L) h ad M.length cc (flat encR M) (encR_len' M) hc (encR_one' M) (by unfold maxLen; omega) (by omega) hN
    refine ⟨v', w', q1, ?_, q3, fun e => hv (q4.1 e).1⟩
    rw [flat_append, List.length_append]
    exact q2
  rcases hu with ⟨h0, a, cap, rfl⟩ | ⟨b, off, cap, rfl, _, _, hc⟩
  · have e : M = [] := List.eq_nil_of_length_eq_zero h0
    subst e
    cases a with
    | some ad => exact step ad cap rfl (fun j x hx => by simp [flat] at hx)
    | none =>
      rcases h.2 with ⟨e, _⟩ | ⟨g, cg, cur, rfl, hbg, hg, h1, h2, h3, h4⟩
      · exact absurd e hv
      refine ⟨.slice (some ⟨g, 0, none⟩) L.length cg, w, ?_, by simpa using h, ⟨rfl, rfl, rfl, Nat.le_refl _, fun _ _ _ => rfl⟩, hv⟩
      simp [Builtin.append_, run_underlying Try.underlying28, sizeOf, typeInfo, hi, Builtin.lenOf, Builtin.firstCells, storeCells, h1]
  · exact step ⟨b, off, none⟩ cap rfl (fun j x hx => by rw [Addr.add_lit]; exact hc j x hx)

end Go.Proofs.Ytmhiecifllgkcaa
