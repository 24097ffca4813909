/-
  rising: the same identifiers in their order, in a list of its own.
-/
import Derived.Test.YtccggjhnjknblaaZPP
import Derived.Test.YtccggjhnjknblaaZShS
import Derived.Laws.MakeOwn
import Derived.Laws.CopyRow
import Derived.Deep.RegionWith
set_option linter.unusedSimpArgs false
set_option linter.unusedVariables false
namespace Go.Proofs.Ytccggjhnjknblaa
open Go.RowKit Go.Lib Go.Sort

theorem infoI : (Try.prog.info? 30).map (fun i => (i.zero, i.size, i.bytes)) = some (some (.agg #[.int .i64 0, .int .i64 0]), 2, 16) := by kernel_rfl
theorem infoR : (Try.prog.info? 32).map (fun i => (i.zero, i.size, i.bytes)) = some (some (.agg #[.int .i64 0, .int .i64 0, .int .i64 0]), 3, 24) := by kernel_rfl

theorem mkI (N : Nat) (hN : N ≤ 1000000) : ∃ Z : Array Value, Z.size = N * 2 ∧ ∀ w : World, (Instr.makeSlice 24 (.int .i64 (N : Nat)) (.int .i64 (N : Nat))).run Try.prog w = .ok (.slice (some ⟨w.heap.size, 0, none⟩) N N) (w.alloc (.cells Z 30)) := by
  obtain ⟨i, hi, hz, hs, hb⟩ := info_parts infoI
  refine ⟨madeCells (Value.agg #[.int .i64 0, .int .i64 0]).cells (N * 2), by rw [size_madeCells], fun w => ?_⟩
  have := run_makeSlice (P := Try.prog) w 24 30 i _ Try.underlying24 hi hz .i64 .i64 (N : Int) (N : Int) (by omega) (Int.le_refl _) (by rw [hs]; omega) (by rw [hb]; omega) (by omega)
  rw [hs, Int.toNat_natCast] at this
  exact this

theorem encI_one {l : List (Int × Int)} : ∀ u ∈ flat encI l, u.oneCell' = true := fun u hu => by
  obtain ⟨x, _, hx⟩ := flat_mem hu
  simp [encI] at hx
  rcases hx with rfl | rfl <;> rfl
theorem encR_one {l : List ((Int × Int) × Int)} : ∀ u ∈ flat encR l, u.oneCell' = true := fun u hu => by
  obtain ⟨x, _, hx⟩ := flat_mem hu
  simp [encR] at hx
  rcases hx with rfl | rfl | rfl <;> rfl

theorem copyI (w : World) (ty : TypeId) (Z : Array Value) (v : Value) (l : List (Int × Int)) (hZ : Z.size = l.length * 2) (h : RI w v l) :
    ∃ W', (Builtin.copy_ #[24, 24] ty #[.slice (some ⟨w.heap.size, 0, none⟩) l.length l.length, v]).run Try.prog (w.alloc (.cells Z 30)) = .ok (goInt l.length) W' ∧ Bx W' w.heap.size 30 (flat encI l).toArray ∧ Below w.heap.size w W' := by
  obtain ⟨i0, hi, hz0, hz1, hz2⟩ := info_parts infoI
  have hlen := flat_len encI_len l
  have hst := run_storeCells_at Try.prog w.heap.size 0 30 (flat encI l) 0 Z (w.alloc (.cells Z 30)) (heap_alloc_new w _) (by omega) encI_one
  have hrow : (Z.toList.take (0 + 0) ++ flat encI l ++ Z.toList.drop (0 + 0 + (flat encI l).length)) = flat encI l := by
    rw [hlen, ← hZ]
    simp
  rw [hrow] at hst
  have step : (Builtin.firstCells 2 l.length v).run Try.prog (w.alloc (.cells Z 30)) = .ok (flat encI l).toArray (w.alloc (.cells Z 30)) := by
    have h2 := h.below (ballc (Below.refl _ w) (.cells Z 30))
    rcases h2 with ⟨h0, a, c, rfl⟩ | ⟨b, off, cap, rfl, h1, h3, hc⟩
    · have e : l = [] := List.eq_nil_of_length_eq_zero h0
      subst e
      cases a with
      | none => simp [Builtin.firstCells, flat]
      | some ad => exact run_firstCells_some (P := Try.prog) _ 2 0 ad 0 c [] rfl (fun j u hu => by simp at hu)
    · exact run_firstCells_some (P := Try.prog) _ 2 l.length ⟨b, off, none⟩ l.length cap (flat encI l) hlen (fun j u hu => by rw [Addr.add_lit]; exact hc j u hu)
  obtain ⟨a, c, rfl⟩ := RC.form h
  refine ⟨(w.alloc (.cells Z 30)).setRow w.heap.size (flat encI l).toArray, ?_, setRow_heap _ _ _ _ _ _ (heap_alloc_new w _), ?_⟩
  · simp [Builtin.copy_, run_underlying Try.underlying24, Builtin.lenOf, sizeOf, typeInfo, hi, hz1, Nat.min_self, step, hst]
  · have b1 := ballc (Below.refl _ w) (.cells Z 30)
    exact ⟨rfl, rfl, rfl, by simp, fun k hk => (setRow_other _ _ k _ (by omega)).trans (b1.block k hk)⟩

theorem flatK_eq (l : List (Int × Int)) (j : Nat) (hj : j < l.length * 2) : (flat encI l)[j]? = some (flatK encI 2 l.toArray)[j]! := by
  rw [get_flatK encI 2 l.toArray j (by simpa using hj)]
  have h2 : j / 2 < l.length := by omega
  have e := flat_get encI_len l (j / 2) (j % 2) l[j / 2] (List.getElem?_eq_getElem h2) (by omega)
  rw [show j / 2 * 2 + j % 2 = j by omega] at e
  rw [e]
  have e2 : l.toArray[j / 2]! = l[j / 2] := by rw [getElem!_pos l.toArray (j / 2) (by simpa using h2)]; simp
  rw [e2]
  rcases (by omega : j % 2 = 0 ∨ j % 2 = 1) with h | h <;> rw [h] <;> rfl

theorem holdsK_of {W : World} {g : Nat} {l : List (Int × Int)} (h : Bx W g 30 (flat encI l).toArray) : HoldsK encI 2 W g 0 l.toArray := by
  intro j hj
  simp at hj
  refine ⟨?_, by rw [Nat.zero_add]; exact h.frozen j⟩
  rw [Nat.zero_add]
  exact h.cell j _ (by rw [List.getElem?_toArray]; exact flatK_eq l j hj)
theorem RI.of_holds {W : World} {g cap : Nat} {l : List (Int × Int)} (h : HoldsK encI 2 W g 0 l.toArray) (hc : l.length ≤ cap) (hg : g < W.heap.size) : RI W (.slice (some ⟨g, 0, none⟩) l.length cap) l := by
  refine .inr ⟨g, 0, cap, rfl, hc, hg, fun j x hx => ?_⟩
  have hj : j < l.length * 2 := by have := (List.getElem?_eq_some_iff.1 hx).1; rwa [flat_len encI_len] at this
  have := (h j (by simpa using hj)).1
  exact this.trans ((flatK_eq l j hj).symm.trans hx)

theorem sort_in (w : World) (g : Nat) (l : List (Int × Int)) (cap : Nat) (h : Bx w g 30 (flat encI l).toArray) (hl : l.length ≤ 1000000) (B : Nat) (hB : B ≤ g) :
    Calls Try.prog 46 #[.slice (some ⟨g, 0, none⟩) l.length cap, .func (.func 17) #[] #[]] w fun e W => e = .returned (.tuple #[]) ∧ (l.length ≤ cap → RI W (.slice (some ⟨g, 0, none⟩) l.length cap) (sortI l)) ∧ Below B w W := by
  have eg : ∀ args w, (callFunc 17 args).run Try.prog w = .ok (.enter 17 args) w := enters_of Try.func17 (by kernel_rfl) rfl
  have hcmp : CmpLays Try.prog 17 #[] encI 2 cmpI g 0 l.toArray.size w := fun m os dk _ x y => Compare_in x.1 x.2 y.1 y.2 _
  have hH := holdsK_of h
  have := AnyQ.slices_SortFunc_total shSort 2 Try.isAgg30 Try.sizeOf30 encI encI_len (fun x u hu => by simp [encI] at hu; rcases hu with rfl | rfl <;> rfl) cmpI swoI 17 #[] g 0 cap l.toArray w eg hcmp hH h.lt (by simp; omega) totI
  change Calls Try.prog 46 _ _ _ at this
  simp only [List.size_toArray] at this
  refine this.mono ?_
  rintro e W ⟨rfl, n, os, rfl⟩
  have hsz : (sortI l).length = l.length := (sortI_perm l).length_eq
  have hK := holdsK_sortWorldK encI 2 w g 0 n l.toArray (sortI l).toArray os h.lt hH (by simp [hsz])
  have hlt := lt_sortWorldK encI 2 w g 0 n (sortI l).toArray os h.lt
  refine ⟨rfl, fun hc => ?_, ⟨rfl, rfl, rfl, size_sortWorldK_c encI 2 w g 0 n _ os, fun k hk => ?_⟩⟩
  · have := RI.of_holds (cap := cap) hK (by omega) hlt
    rw [hsz] at this
    exact this
  · have hks : k < w.heap.size := by have := h.lt; omega
    show (grow (putRowK encI 2 (Sort.ahead w n) g 0 (sortI l).toArray) os).heap[k]? = w.heap[k]?
    have hp : (putRowK encI 2 (Sort.ahead w n) g 0 (sortI l).toArray).heap[k]? = w.heap[k]? := by
      show (w.heap.modify g _)[k]? = _
      rw [Array.getElem?_modify, if_neg (by omega)]
    have hps : k < (putRowK encI 2 (Sort.ahead w n) g 0 (sortI l).toArray).heap.size := by
      show k < (w.heap.modify g _).size
      simpa using hks
    show ((putRowK encI 2 (Sort.ahead w n) g 0 (sortI l).toArray).heap ++ os)[k]? = _
    rw [Array.getElem?_append_left hps, hp]

set_option maxRecDepth 100000 in
set_option maxHeartbeats 1000000 in
theorem rising_in (v : Value) (l : List (Int × Int)) (w : World) (h : RI w v l) (hl : l.length ≤ 1000000) :
    Calls Try.prog 31 #[v] w fun e W => ∃ v', e = .returned v' ∧ RI W v' (sortI l) ∧ Below w.heap.size w W ∧ (∀ k, v'.ownBlock = some k → w.heap.size ≤ k) := by
  obtain ⟨Z, hZ, hmk⟩ := mkI l.length hl
  obtain ⟨a, cap, rfl⟩ := RC.form h
  have H := hide h
  have HZ := hide hZ
  have Hl := hide hl
  obtain ⟨W1, hcp, hbx, hb1⟩ := copyI w 3 Z _ l hZ h
  replace hbx := hide hbx
  replace hb1 := hide hb1
  clear h hZ hl
  go_enter Try.func31, Try.ntmps31
  go_wp2_with fail
  refine (sort_in W1 w.heap.size l l.length (unhide hbx) (unhide Hl) w.heap.size (Nat.le_refl _)).mono ?_
  rintro e W2 ⟨rfl, hr, hb2⟩
  replace hr := hide hr
  replace hb2 := hide hb2
  go_wp2
  go_ret
  exact ⟨_, rfl, by have := unhide hr (Nat.le_refl _); exact this, (unhide hb1).trans (unhide hb2), fun k hk => by simp [Value.ownBlock] at hk; omega⟩

end Go.Proofs.Ytccggjhnjknblaa
