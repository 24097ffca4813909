/-
  What the rows' condition gives: the one cell of the library's table that is read.
-/
import Derived.Test.YtkndjbmlkfpfoaaGreatDoorRows
import Derived.Test.YtkndjbmlkfpfoaaGreatDoorZKn
import Derived.Lib.LaidTab
import Derived.Stop.LaidErr
import Derived.MakeChecks
import Derived.LaidMore
import Derived.Test.YtkndjbmlkfpfoaaGreatDoorZShelf2ToSc4
import Derived.LaidLaws
import Derived.Test.YtkndjbmlkfpfoaaGreatDoorZShelf3ToTB
import Derived.Lib.AppendZerosOnto
import Derived.Lib.SliceRun
import Derived.Laws.EntriesVeiled

namespace Go.Proofs.YtkndjbmlkfpfoaaGreatDoor
open Go.RowKit Go.Lib

theorem t64 : (Tryz.prog.globals[4]?).map (·.type) = some 233 := by kernel_rfl
def zs64 : List Int := [0, 1, 56, 2, 57, 49, 28, 3, 61, 58, 42, 50, 38, 29, 17, 4, 62, 47, 59, 36, 45, 43, 51, 22, 53, 39, 33, 30, 24, 18, 12, 5, 63, 55, 48, 27, 60, 41, 37, 16, 46, 35, 44, 21, 52, 32, 23, 11, 54, 26, 40, 15, 34, 20, 31, 10, 25, 14, 19, 9, 13, 8, 7, 6]
theorem tab_of {W : World} {nm : String} {x : String × DataW Unit} {r : List (String × DataW Unit)} (g64 : Tryz.prog.globalNamed nm = some 4) (h : laidMet Tryz.prog (x :: (nm, Rows.laid_math_bits_deBruijn64tab) :: r) W) : Tab W := by
  have h1 : laidMet Tryz.prog ((nm, tabData .u8 zs64) :: r) W := h.tail
  have h2 := tabIs_of_head g64 t64 Tryz.underlying233 Tryz.underlying5 (by kernel_rfl) (by kernel_rfl) h1
  have h3 := h2.cell g64 15 (by decide)
  refine ⟨h3, ?_⟩
  unfold World.cell? at h3
  by_cases hlt : 4 < W.heap.size
  · exact hlt
  · have : W.heap[4]? = none := by simp; omega
    simp [this] at h3

end Go.Proofs.YtkndjbmlkfpfoaaGreatDoor

/-
  What the rows' condition gives: all that the scanner asks of the library's variables.
-/
set_option linter.unusedSimpArgs false
set_option linter.unusedVariables false
namespace Go.Proofs.YtkndjbmlkfpfoaaGreatDoor
open Go.RowKit Go.Lib Go.ChangeShapes

theorem t10 : (Tryz.prog.globals[0]?).map (·.type) = some 213 := by kernel_rfl
theorem tER : (Tryz.prog.globals[2]?).map (·.type) = some 137 := by kernel_rfl
theorem tES : (Tryz.prog.globals[1]?).map (·.type) = some 137 := by kernel_rfl
theorem heap_of_var {W : World} {nm : String} {g : Nat} {cs : Array Value} (hg : Tryz.prog.globalNamed nm = some g) (h : W.var? Tryz.prog nm = some cs) : ∃ ty lk, W.heap[g]? = some (.cells cs ty lk) := by
  unfold World.var? at h
  rw [hg] at h
  simp only [Option.bind_some] at h
  split at h
  · rename_i c ty lk e
    cases h
    exact ⟨ty, lk, e⟩
  · cases h
theorem lt_of_heap {W : World} {g : Nat} {o : Obj} (h : W.heap[g]? = some o) : g < W.heap.size := (Array.getElem?_eq_some_iff.1 h).1
theorem err_of {W : World} {nm tn : String} {g : Nat} {d : DataW Unit} {r : List (String × DataW Unit)} (hg : Tryz.prog.globalNamed nm = some g) (ht : (Tryz.prog.globals[g]?).map (·.type) = some 137) (h : laidMet Tryz.prog ((nm, .iface tn d) :: r) W) : ErrAt g W ∧ g < W.heap.size := by
  obtain ⟨ps, ⟨g', t', cs, fuel, p, q, hg', ht', hvar, hd, _, _⟩, _⟩ := h
  obtain rfl := Option.some.inj (hg.symm.trans hg')
  obtain rfl := Option.some.inj (ht.symm.trans ht')
  obtain ⟨ty, lk, hh⟩ := heap_of_var hg hvar
  refine ⟨?_, lt_of_heap hh⟩
  obtain ⟨_, u, v, hcs, _⟩ := iface_of_trod Tryz.underlying137 hd
  refine ⟨.iface u v, ?_, .inr ⟨u, v, rfl⟩⟩
  have hc := World.var?_cell hg hvar 0
  rw [hc]
  obtain ⟨l⟩ := cs
  simp at hcs
  subst hcs
  rfl
theorem errS_of {W : World} {nm tn : String} {d : DataW Unit} {r : List (String × DataW Unit)} (hg : Tryz.prog.globalNamed nm = some 1) (h : laidMet Tryz.prog ((nm, .iface tn d) :: r) W) : ErrS W ∧ 1 < W.heap.size := by
  obtain ⟨ps, ⟨g', t', cs, fuel, p, q, hg', ht', hvar, hd, _, _⟩, _⟩ := h
  obtain rfl := Option.some.inj (hg.symm.trans hg')
  obtain rfl := Option.some.inj (tES.symm.trans ht')
  obtain ⟨ty, lk, hh⟩ := heap_of_var hg hvar
  obtain ⟨_, u, v, hcs, _⟩ := iface_of_trod Tryz.underlying137 hd
  obtain ⟨l⟩ := cs
  simp at hcs
  subst hcs
  exact ⟨⟨u, v, ty, lk, hh⟩, lt_of_heap hh⟩
theorem lw_of {W : World} {x : String × DataW Unit} {n2 n3 n4 n5 : String} (g64 : Tryz.prog.globalNamed n2 = some 4) (g10 : Tryz.prog.globalNamed n3 = some 0) (gR : Tryz.prog.globalNamed n4 = some 2) (gS : Tryz.prog.globalNamed n5 = some 1)
    (h : laidMet Tryz.prog (x :: (n2, Rows.laid_math_bits_deBruijn64tab) :: (n3, Rows.laid_internal_strconv_uint64pow10) :: (n4, Rows.laid_strconv_ErrRange) :: (n5, Rows.laid_strconv_ErrSyntax) :: []) W) : Lw W := by
  have hT := tab_of g64 h
  have h10 : laidMet Tryz.prog ((n3, tabData .u64 Lib.pow10Tab) :: (n4, Rows.laid_strconv_ErrRange) :: (n5, Rows.laid_strconv_ErrSyntax) :: []) W := h.tail.tail
  have hP := tabIs_of_head g10 t10 Tryz.underlying213 Tryz.underlying179 (by kernel_rfl) (by kernel_rfl) h10
  unfold TabIs at hP
  obtain ⟨ty, lk, hh⟩ := heap_of_var g10 hP
  have hR := err_of gR tER h.tail.tail.tail
  have hS := errS_of gS h.tail.tail.tail.tail
  exact ⟨hT, hS.1, hR.1, ⟨ty, lk, hh⟩, hT.2, hS.2, hR.2, lt_of_heap hh⟩

end Go.Proofs.YtkndjbmlkfpfoaaGreatDoor

/-
  What script.named, when, quoted and dots answer.
-/
set_option linter.unusedSimpArgs false
set_option linter.unusedVariables false
namespace Go.Proofs.YtkndjbmlkfpfoaaGreatDoor
open Go.RowKit Go.Lib

theorem MkT.of {w W : World} {l : List (List UInt8)} {e : Ending} (h : MkT w l e W) : ∃ a c, e = .returned (.slice a l.length c) ∧ OT W w.heap.size (.slice a l.length c) l ∧ Below w.heap.size w W := by
  obtain ⟨u, rfl, ho, hb⟩ := h
  obtain ⟨a, c, rfl⟩ := owns_form ho
  exact ⟨a, c, rfl, ho, hb⟩
theorem OT.wk {W : World} {B B' : Nat} {v : Value} {l : List (List UInt8)} (h : OT W B v l) (hb : B' ≤ B) : OT W B' v l := owns_wk h hb

set_option maxRecDepth 100000 in
set_option maxHeartbeats 1000000 in
theorem named_in (t : List UInt8) (l : List Int) (v : Value) (w : World) (h : RNm w v l) (hl : l.length ≤ 1000000) (hi : ∀ x ∈ l, in64 x) (hL : Lw w) :
    Calls Tryz.prog 39 #[.string (ofL t), v] w (MkT w (t :: l.map itoa)) := by
  have hb0 := ballc (Below.refl _ w) (.cells #[.string (ofL t)] 9)
  have HN := hide (numbers_in l v (w.alloc (.cells #[.string (ofL t)] 9)) (RC.below h hb0) hl hi (hL.below hb0))
  have HO := hide (OT.one w t)
  have HB := hide hb0
  clear h hi hL hb0
  go_enter Tryz.func39, Tryz.ntmps39
  go_wp2_with fail
  refine (unhide HN).mono ?_
  rintro e W2 h2
  obtain ⟨a, c, rfl, ho, hb2⟩ := h2.of
  rw [List.length_map] at ho ⊢
  have ho0 := (unhide HO).below hb2
  have hb3 := bnext (unhide HB) hb2
  obtain ⟨v', w', q1, q2, q3⟩ := append_txts W2 96 w.heap.size (.slice (some ⟨w.heap.size, 0, none⟩) 1 1) (.slice a l.length c) [t] (l.map itoa) ho0 ho.rt hb3.size (by simp) (by simp; omega)
  have HM := hide (show MkT w (t :: l.map itoa) (.returned v') w' from ⟨v', rfl, q2, (Kp.of_grown (N := fun k => w.heap.size ≤ k) q3 (fun k hk => (World.ownsRow.lt ho0 k hk).1)).below hb3 (fun i hi => hi)⟩)
  have HA := hide q1
  clear q1 q2 q3 ho0 hb3 ho hb2 h2 HN HO HB
  go_wp2_with (at_builtin; refine wpList_append_eq rfl _ _ 96 96 rfl _ _ _ _ rfl rfl (unhide HA) ?_)
  go_ret
  exact unhide HM

set_option maxRecDepth 100000 in
theorem when_in (b : Bool) (t : List UInt8) (w : World) : Calls Tryz.prog 40 #[.bool b, .string (ofL t)] w (MkT w (if b then [t] else [])) := by
  cases b
  · go_enter Tryz.func40, Tryz.ntmps40
    go_wp2
    go_ret
    exact ⟨_, rfl, OT.nil _ _, Below.refl _ _⟩
  · have HO := hide (OT.one w t)
    go_enter Tryz.func40, Tryz.ntmps40
    go_wp2
    go_ret
    exact ⟨_, rfl, unhide HO, ballc (Below.refl _ _) _⟩

set_option maxRecDepth 100000 in
theorem quoted_in (s : ByteArray) (hs : s.size ≤ 1000000) (w : World) (hL : Lw w) : Calls Tryz.prog 35 #[.string s] w (MkT w [(qT s).data.toList]) := by
  have HQ := hide (quote_in s (by omega) w hL.1)
  clear hL
  go_enter Tryz.func35, Tryz.ntmps35
  go_wp2_with fail
  refine (unhide HQ).mono ?_
  rintro e W2 ⟨rfl, hb⟩
  have HO := hide (OT.one W2 (qT s).data.toList)
  have HB := hide (ballc hb (.cells #[.string (ofL (qT s).data.toList)] 9))
  have HZ := hide hb.size
  clear hb HQ
  go_wp2
  go_ret
  exact ⟨_, rfl, (unhide HO).wk (unhide HZ), unhide HB⟩
end Go.Proofs.YtkndjbmlkfpfoaaGreatDoor

/-
  What slices.Grow and slices.Concat answer, of rows of strings.
-/
set_option linter.unusedSimpArgs false
set_option linter.unusedVariables false
namespace Go.Proofs.YtkndjbmlkfpfoaaGreatDoor
open Go.RowKit Go.Lib

set_option maxRecDepth 100000 in
set_option maxHeartbeats 1000000 in
theorem grow_in (N : Nat) (hN : N ≤ 100000000) (w : World) : Calls Tryz.prog 92 #[.slice none 0 0, .int .i64 (N : Int)] w fun e W => ∃ c a, e = .returned (.slice a 0 c) ∧ OT W w.heap.size (.slice a 0 c) [] ∧ Below w.heap.size w W := by
  rcases Nat.eq_zero_or_pos N with rfl | h0
  · go_enter Tryz.func92, Tryz.ntmps92
    go_wp2
    go_ret
    exact ⟨_, _, rfl, OT.nil _ _, Below.refl _ _⟩
  · have k1 : ¬ ((N : Int) < 0) := by omega
    have k2 : (N : Int) > 0 := by omega
    obtain ⟨i0, hi, hz0, hz1, hz2⟩ := info_parts5 infoT
    have hnx : Builtin.nextslicecap (0 + N) 0 = N := by
      unfold Builtin.nextslicecap
      simp
      omega
    have HR := Lib.run_append_grow_zeros (P := Tryz.prog) w 96 3 96 9 i0 (.string ⟨#[]⟩) .i64 .i64 Tryz.underlying96 Tryz.underlying3 hi hz0 none 0 0 [] (run_firstCells_none w.drew i0.size 0 0 0) N h0 (by omega) (by omega) (by omega) (by rw [hz2]; omega) (by rw [hnx, hz2]; omega)
    have hG1 := grownCap_ge w (0 + N) 0 9
    have hG2 := grownCap_le_maxLen w (0 + N) 0 9 (by unfold maxLen; omega)
    obtain ⟨G, hG⟩ : ∃ G, G = grownCap w (0 + N) 0 9 := ⟨_, rfl⟩
    rw [← hG] at HR hG1 hG2
    obtain ⟨Cs, hCs⟩ : ∃ Cs, Cs = (([] : List Value).toArray ++ Builtin.zeroCells (Value.string ⟨#[]⟩).cells N ++ Builtin.zeroCells (Value.string ⟨#[]⟩).cells (G - (0 + N))) := ⟨_, rfl⟩
    have hsz : Cs.size = G := by
      rw [hCs]
      simp [Builtin.zeroCells, Value.cells]
      omega
    rw [← hCs] at HR
    have hG63 : G ≤ 9223372036854775807 := by unfold maxLen at hG2; omega
    rw [Nat.zero_add] at HR
    have HO := hide (show OT (w.drew.alloc (.cells Cs 9)) w.heap.size (.slice (some ⟨w.heap.size, 0, none⟩) 0 G) [] from ⟨rfl, .inr ⟨w.heap.size, G, Cs, rfl, Nat.le_refl _, Bq.new w.drew 9 Cs, Nat.zero_le _, hG2, by rw [hsz, Nat.mul_one], by simp [flat]⟩⟩)
    have HB := hide (show Below w.heap.size w (w.drew.alloc (.cells Cs 9)) from ((Below.refl w.heap.size w).drew).alloc (Nat.le_refl _) _)
    have HA := hide HR
    clear HR hG hCs hsz hG2 hnx hi hz0 hz1 hz2
    go_enter Tryz.func92, Tryz.ntmps92
    go_wp2_with (at_builtin; refine wpList_append_eq rfl _ _ 96 3 rfl _ _ _ _ rfl rfl (unhide HA) ?_)
    go_ret
    exact ⟨_, _, rfl, unhide HO, unhide HB⟩
end Go.Proofs.YtkndjbmlkfpfoaaGreatDoor

/-
  What slices.Concat answers, of rows of strings.
-/
set_option linter.unusedSimpArgs false
set_option linter.unusedVariables false
namespace Go.Proofs.YtkndjbmlkfpfoaaGreatDoor
open Go.RowKit Go.Lib

/-- a row's block is typed as strings, or as rows of them -/
def RTy (W : World) (v : Value) : Prop := ∀ (b off n c : Nat), v = .slice (some ⟨b, off, none⟩) n c → 0 < n → ∃ cs t fz, W.heap[b]? = some (Obj.cells cs t fz) ∧ (t = 9 ∨ t = 96)
theorem RTy.below {W W' : World} {v : Value} (h : RTy W v) (hb : Below W.heap.size W W') : RTy W' v := fun b off n c e h0 => by
  obtain ⟨cs, t, fz, hc, ht⟩ := h b off n c e h0
  exact ⟨cs, t, fz, (hb.block b (Array.getElem?_eq_some_iff.1 hc).1).trans hc, ht⟩
theorem OT.ty {W : World} {B : Nat} {v : Value} {l : List (List UInt8)} (h : OT W B v l) : RTy W v := fun b off n c e h0 => by
  obtain ⟨_, (⟨e1, _⟩ | ⟨g, cap, cur, e1, _, hc, _⟩)⟩ := h
  · rw [e1] at e; cases e
  · rw [e1] at e
    cases e
    exact ⟨_, _, _, hc, .inl rfl⟩
/-- a row of rows of words -/
def RR (W : World) (v : Value) (ls : List (List (List UInt8))) : Prop :=
  ∃ us : List Value, us.length = ls.length ∧ RC W v ls.length us ∧ RTy W v ∧ ∀ (j : Nat) l, ls[j]? = some l → ∃ u, us[j]? = some u ∧ RT W u l ∧ RTy W u
theorem RR.below {W W' : World} {v : Value} {ls : List (List (List UInt8))} (h : RR W v ls) (hb : Below W.heap.size W W') : RR W' v ls := by
  obtain ⟨us, h1, h2, ht, h3⟩ := h
  exact ⟨us, h1, h2.below hb, ht.below hb, fun j l hj => by obtain ⟨u, e, q, ty⟩ := h3 j l hj; exact ⟨u, e, q.below hb, ty.below hb⟩⟩
theorem RR.form {W : World} {v : Value} {ls : List (List (List UInt8))} (h : RR W v ls) : ∃ a c, v = .slice a ls.length c := by
  obtain ⟨us, h1, h2, h3⟩ := h
  exact h2.form
theorem RR.at {W : World} {a : Option Addr} {n c : Nat} {ls : List (List (List UInt8))} (h : RR W (.slice a n c) ls) {j : Nat} {l : List (List UInt8)} (hj : ls[j]? = some l) :
    ∃ b off u c', a = some ⟨b, off, none⟩ ∧ b < W.heap.size ∧ W.cell? ⟨b, off + j, none⟩ = some (.slice u l.length c') ∧ RT W (.slice u l.length c') l := by
  obtain ⟨us, h1, h2, ht, h3⟩ := h
  obtain ⟨u, e, q, ty⟩ := h3 j l hj
  obtain ⟨ua, uc, rfl⟩ := q.form
  rcases h2 with ⟨h0, _⟩ | ⟨b, off, cap, e2, hn, hlt, hc⟩
  · have := (List.getElem?_eq_some_iff.1 hj).1; omega
  · simp at e2
    exact ⟨b, off, ua, uc, e2.1, hlt, hc j _ e, q⟩
/-- a row that was just built -/
theorem RR.new (W : World) (us : List Value) (ls : List (List (List UInt8))) (hl : us.length = ls.length) (h : ∀ (j : Nat) l, ls[j]? = some l → ∃ u, us[j]? = some u ∧ RT W u l ∧ RTy W u) (n : Nat) (hn : n = ls.length) :
    RR (W.alloc (.cells us.toArray 96)) (.slice (some ⟨W.heap.size, 0, none⟩) n n) ls := by
  subst hn
  have hb := ballc (Below.refl _ W) (.cells us.toArray 96)
  refine ⟨us, hl, .inr ⟨W.heap.size, 0, _, rfl, Nat.le_refl _, by simp, fun j x hx => ?_⟩, ?_, fun j l hj => ?_⟩
  · rw [Nat.zero_add]
    exact (Bq.new W 96 us.toArray).cell j x (by simpa using hx)
  · intro b off n c e h0
    cases e
    exact ⟨_, _, _, Bq.new W 96 us.toArray, .inr rfl⟩
  · obtain ⟨u, e, q, ty⟩ := h j l hj
    exact ⟨u, e, q.below hb, ty.below hb⟩
/-- one row alone -/
theorem RR.one {W : World} {N : Nat} {v : Value} {l : List (List UInt8)} (h : OT W N v l) : RR (W.alloc (.cells #[v] 96)) (.slice (some ⟨W.heap.size, 0, none⟩) 1 1) [l] :=
  RR.new W [v] [l] rfl (fun j l' hj => by
    cases j with
    | zero => cases hj; exact ⟨v, rfl, h.rt, h.ty⟩
    | succ j => cases hj) 1 rfl
theorem flat_take1 {ls : List (List (List UInt8))} {j : Nat} {l : List (List UInt8)} (h : ls[j]? = some l) : (ls.take (j + 1)).flatten = (ls.take j).flatten ++ l := by
  rw [List.take_add_one, h]
  simp
theorem flat_le {ls : List (List (List UInt8))} {j : Nat} : (ls.take j).flatten.length ≤ ls.flatten.length := by
  conv => rhs; rw [← List.take_append_drop j ls]
  simp only [List.flatten_append, List.length_append]
  omega

set_option maxRecDepth 100000 in
set_option maxHeartbeats 2000000 in
theorem Concat_in (ls : List (List (List UInt8))) (v : Value) (w : World) (h : RR w v ls) (hl : ls.length ≤ 1000000) (hs : ls.flatten.length ≤ 100000000) :
    Calls Tryz.prog 68 #[v] w (MkT w ls.flatten) := by
  obtain ⟨a0, c0, rfl⟩ := h.form
  obtain ⟨L, hLn⟩ : ∃ L, ls.length = L := ⟨_, rfl⟩
  have hat := fun j l hj => RR.at h (j := j) (l := l) hj
  rw [hLn] at hl ⊢
  have HAT := hide hat
  have HLn := hide hLn
  have HS := hide hs
  clear hat hLn hs h
  go_enter Tryz.func68, Tryz.ntmps68
  go_wp2_with fail
  go_loopw [3, 5, 11] (fun v3 v5 v11 wr => ∃ (j : Nat), v11 = .int .i64 (j : Int) ∧ v3 = .int .i64 (((ls.take j).flatten.length : Nat) : Int) ∧ j ≤ L ∧ w = wr) (fun _ _ v11 _ => L - (RowKit.intOf v11).toNat)
  case atStart => exact ⟨0, rfl, rfl, Nat.zero_le _, rfl⟩
  case round =>
    obtain ⟨j, rfl, rfl, hj, rfl⟩ := hrel
    have hfl := flat_le (ls := ls) (j := j)
    have hS0 := unhide HS
    by_cases hjl : j < L
    · obtain ⟨x, hx⟩ : ∃ x, ls[j]? = some x := ⟨_, List.getElem?_eq_getElem (by rw [unhide HLn]; exact hjl)⟩
      obtain ⟨b, off, u, c', rfl, hblt, hcell, hrt⟩ := unhide HAT j x hx
      have hf1 := flat_take1 hx
      have hfl1 := flat_le (ls := ls) (j := j + 1)
      have k1 : (j : Int) < (L : Int) := by omega
      have k2 : (0 : Int) ≤ (j : Int) := by omega
      have hsum : (ls.take (j + 1)).flatten.length = (ls.take j).flatten.length + x.length := by rw [hf1, List.length_append]
      obtain ⟨P, hP⟩ : ∃ P, (ls.take j).flatten.length = P := ⟨_, rfl⟩
      obtain ⟨X, hX⟩ : ∃ X, x.length = X := ⟨_, rfl⟩
      rw [hP, hX] at hsum
      rw [hX] at hcell
      rw [hP] at hfl ⊢
      have kp : P + X ≤ 100000000 := by omega
      have k4 : ¬ (((P : Int) + (X : Int)) < 0) := by omega
      have HSum := hide hsum
      clear hf1 hfl1 hsum hP hX hfl hS0 hrt hx
      go_wp2
      go_roundw
      case rel => exact ⟨j + 1, by go_num, by rw [unhide HSum]; go_num, by omega, trivial⟩
      case measure => simp [RowKit.intOf]; omega
    · obtain rfl : j = L := by omega
      have k1 : decide ((j : Int) < (j : Int)) = false := by simp
      have e1 : ls.take j = ls := List.take_of_length_le (by rw [unhide HLn]; exact Nat.le_refl _)
      rw [e1] at hfl ⊢
      obtain ⟨P, hP⟩ : ∃ P, ls.flatten.length = P := ⟨_, rfl⟩
      rw [hP] at hS0 hfl ⊢
      have HG := hide (grow_in P (by omega) w)
      have HP := hide hP
      clear hP hfl e1
      go_wp2_with fail
      refine (unhide HG).mono ?_
      rintro e W2 ⟨c, a, rfl, ho, hb⟩
      have HB := hide hb
      have HO := hide ho
      clear hb ho HG
      go_wp2_with fail
      go_loopw [6, 8, 27] (fun v6 v8 v27 wr2 => ∃ (i c2 : Nat) (a2 : Option Addr), v27 = .int .i64 (i : Int) ∧ v6 = .slice a2 (ls.take i).flatten.length c2 ∧ i ≤ j ∧ Hid (OT wr2 w.heap.size (.slice a2 (ls.take i).flatten.length c2) (ls.take i).flatten ∧ Below w.heap.size w wr2)) (fun _ _ v27 _ => j - (RowKit.intOf v27).toNat)
      case atStart => exact ⟨0, c, a, rfl, rfl, Nat.zero_le _, hide ⟨unhide HO, unhide HB⟩⟩
      case round =>
        obtain ⟨i, c2, a2, rfl, rfl, hi, H⟩ := hrel
        by_cases hil : i < j
        · obtain ⟨x, hx⟩ : ∃ x, ls[i]? = some x := ⟨_, List.getElem?_eq_getElem (by rw [unhide HLn]; exact hil)⟩
          obtain ⟨b, off, u, c', rfl, hblt, hcell0, hrt0⟩ := unhide HAT i x hx
          have hcell := cell_below hcell0 (unhide H).2
          have hrt := hrt0.below (unhide H).2
          have hf1 := flat_take1 hx
          have hfl1 := flat_le (ls := ls) (j := i + 1)
          have hS1 := unhide HP
          have k5 : (i : Int) < (j : Int) := by omega
          have k6 : (0 : Int) ≤ (i : Int) := by omega
          have hsum : (ls.take (i + 1)).flatten.length = (ls.take i).flatten.length + x.length := by rw [hf1, List.length_append]
          obtain ⟨v', w', q1, q2, q3⟩ := append_txts wr 96 w.heap.size (.slice a2 (ls.take i).flatten.length c2) (.slice u x.length c') (ls.take i).flatten x (unhide H).1 hrt (unhide H).2.size (by omega) (by omega)
          rw [← hf1] at q2
          obtain ⟨a', c3, e'⟩ := owns_form q2
          subst e'
          have HN := hide (show OT w' w.heap.size (.slice a' (ls.take (i + 1)).flatten.length c3) (ls.take (i + 1)).flatten ∧ Below w.heap.size w w' from ⟨q2, (Kp.of_grown (N := fun k => w.heap.size ≤ k) q3 (fun k hk => (World.ownsRow.lt (unhide H).1 k hk).1)).below (unhide H).2 (fun i hi => hi)⟩)
          have HA := hide q1
          generalize (ls.take i).flatten.length = P1 at *
          generalize x.length = X1 at *
          clear q1 q2 q3 hf1 hfl1 hsum hrt hcell0 hrt0 H hx hS1
          go_wp2_with (at_builtin; refine wpList_append_eq rfl _ _ 96 96 rfl _ _ _ _ rfl rfl (unhide HA) ?_)
          go_roundw
          case rel => exact ⟨i + 1, c3, a', by go_num, by simp [List.length_flatten, List.map_take], by omega, HN⟩
          case measure => simp [RowKit.intOf]; omega
        · obtain rfl : i = j := by omega
          have k1 : decide ((i : Int) < (i : Int)) = false := by simp
          have e1 : ls.take i = ls := List.take_of_length_le (by rw [unhide HLn]; exact Nat.le_refl _)
          rw [e1] at H ⊢
          go_wp2
          go_ret
          exact ⟨_, rfl, (unhide H).1, (unhide H).2⟩
end Go.Proofs.YtkndjbmlkfpfoaaGreatDoor

/-
  What the closure of script.lineTo does to the Builder.
-/
set_option linter.unusedSimpArgs false
set_option linter.unusedVariables false
namespace Go.Proofs.YtkndjbmlkfpfoaaGreatDoor
open Go.RowKit Go.Lib

/-- blanks and words -/
def blT (ws : List (List UInt8)) : List UInt8 := ws.flatMap fun w => 32 :: w
def lnT (t : List UInt8) (ws : List (List UInt8)) : List UInt8 := t ++ (blT ws ++ [10])
theorem blT_take {ws : List (List UInt8)} {j : Nat} {t : List UInt8} (h : ws[j]? = some t) : blT (ws.take (j + 1)) = blT (ws.take j) ++ (32 :: t) := by
  unfold blT
  rw [List.take_add_one, h]
  simp
theorem blT_le {ws : List (List UInt8)} {j : Nat} : (blT (ws.take j)).length ≤ (blT ws).length := by
  conv => rhs; rw [← List.take_append_drop j ws]
  unfold blT
  simp only [List.flatMap_append, List.length_append]
  omega
theorem blT_app (l m : List (List UInt8)) : blT (l ++ m) = blT l ++ blT m := by unfold blT; simp

/-- a call that wrote to the Builder b alone -/
structure Wrt (B b : Nat) (W W' : World) : Prop where
  bel : Below B W W'
  oth : OthersKept 5 (some b) W W'
theorem Wrt.refl (B b : Nat) (W : World) : Wrt B b W W := ⟨Below.refl _ _, OthersKept.refl _ _ _⟩
theorem Wrt.trans {B b : Nat} {X Y Z : World} (h : Wrt B b X Y) (k : Wrt B b Y Z) : Wrt B b X Z := ⟨h.bel.trans k.bel, h.oth.trans k.oth⟩
theorem Wrt.of_below {B b : Nat} {W W' : World} (h : Below W.heap.size W W') (hB : B ≤ W.heap.size) : Wrt B b W W' := ⟨h.mono hB, fun k o hk _ _ => (h.block k (Array.getElem?_eq_some_iff.1 hk).1).trans hk⟩
theorem Wrt.bq {B b : Nat} {W W' : World} (h : Wrt B b W W') {k : Nat} {t : TypeId} {vs : Array Value} (hb : Bq W k t vs) (hk : k ≠ b) (ht : t ≠ 5) : Bq W' k t vs :=
  h.oth k _ hb (fun e => hk (Option.some.inj e)) (fun c fz e => ht (by cases e; rfl))
theorem Wrt.ot {B b : Nat} {W W' : World} (h : Wrt B b W W') {N : Nat} {v : Value} {l : List (List UInt8)} (ho : OT W N v l) (hb : b < N) : OT W' N v l := by
  obtain ⟨h1, h2⟩ := ho
  refine ⟨h1, h2.imp id ?_⟩
  rintro ⟨g, cap, cur, e, hg, hc, hr⟩
  exact ⟨g, cap, cur, e, hg, h.bq (show Bq W g 9 cur from hc) (by omega) (by decide), hr⟩
theorem Wrt.size {B b : Nat} {W W' : World} (h : Wrt B b W W') : W.heap.size ≤ W'.heap.size := h.bel.size

theorem Wrt.rc {B b : Nat} {W W' : World} (k : Wrt B b W W') {x : Array Value} {fb : Nat × Nat} (hB : W.heap[b]? = some (.cells x 86 fb)) {v : Value} {n : Nat} {C : List Value} (h : RC W v n C) (ty : RTy W v) : RC W' v n C ∧ RTy W' v := by
  have kp : ∀ (b' : Nat) cs t fz, W.heap[b']? = some (Obj.cells cs t fz) → (t = 9 ∨ t = 96) → W'.heap[b']? = some (Obj.cells cs t fz) := fun b' cs t fz hc ht => k.oth b' _ hc (fun e => by
    cases e
    rw [hB] at hc
    cases hc
    rcases ht with e | e <;> exact absurd e (by decide)) (fun c f e => by
    cases e
    rcases ht with e | e <;> exact absurd e (by decide))
  refine ⟨?_, fun b' off n' c' e h0 => ?_⟩
  · rcases h with h | ⟨b', off, cap, e, hn, hl, hc⟩
    · exact .inl h
    · rcases Nat.eq_zero_or_pos n with rfl | h0
      · exact .inl ⟨rfl, _, _, e⟩
      obtain ⟨cs, t, fz, h1, ht⟩ := ty b' off n cap e h0
      have h2 := kp b' cs t fz h1 ht
      refine .inr ⟨b', off, cap, e, hn, (Array.getElem?_eq_some_iff.1 h2).1, fun j y hy => ?_⟩
      have := hc j y hy
      unfold World.cell? at this ⊢
      rw [h2]
      rw [h1] at this
      exact this
  · obtain ⟨cs, t, fz, h1, ht⟩ := ty b' off n' c' e h0
    exact ⟨cs, t, fz, kp b' cs t fz h1 ht, ht⟩
theorem RR.wrt {B b : Nat} {W W' : World} (k : Wrt B b W W') {x : Array Value} {fb : Nat × Nat} (hB : W.heap[b]? = some (.cells x 86 fb)) {v : Value} {ls : List (List (List UInt8))} (h : RR W v ls) : RR W' v ls := by
  obtain ⟨us, h1, h2, ht, h3⟩ := h
  exact ⟨us, h1, (k.rc hB h2 ht).1, (k.rc hB h2 ht).2, fun j l hj => by
    obtain ⟨u, e, q, ty⟩ := h3 j l hj
    exact ⟨u, e, (k.rc hB q ty).1, (k.rc hB q ty).2⟩⟩

/-- a liner: its box, its Builder, and what was written -/
structure LnP (c b B : Nat) (L : List UInt8) (W : World) : Prop where
  box : Bq W c 84 #[.pointer (some ⟨b, 0, none⟩)]
  bui : IsBuilderF 86 5 B b (Lib.byteCells L) W
  sz : B ≤ W.heap.size
  ne : c ≠ b
theorem LnP.below {c b B : Nat} {L : List UInt8} {W W' : World} (h : LnP c b B L W) (hb : Below W.heap.size W W') : LnP c b B L W' := ⟨h.box.keep hb h.box.lt, isB_below h.bui hb, Nat.le_trans h.sz hb.size, h.ne⟩
theorem LnP.blt {c b B : Nat} {L : List UInt8} {W : World} (h : LnP c b B L W) : b < W.heap.size := by
  rcases h.bui with ⟨_, v, hb, _⟩ | ⟨_, v, hb, _⟩ <;> exact (Array.getElem?_eq_some_iff.1 hb).1
theorem LnP.bld {c b B : Nat} {L : List UInt8} {W : World} (h : LnP c b B L W) : ∃ x fb, W.heap[b]? = some (.cells x 86 fb) := by
  rcases h.bui with ⟨_, v, hb, _⟩ | ⟨_, v, hb, _⟩ <;> exact ⟨_, _, hb⟩
theorem bytC_len (L : List UInt8) : (Lib.byteCells L).length = L.length := by simp [Lib.byteCells]
theorem LnP.str {c b B : Nat} {L : List UInt8} {W : World} (h : LnP c b B L W) (t : List UInt8) (hl : L.length + t.length ≤ 1000000000) :
    Calls Tryz.prog 67 #[.pointer (some ⟨b, 0, none⟩), .string (ofL t)] W fun e W' => e = .returned (.tuple #[.int .i64 t.length, .nilIface]) ∧ LnP c b B (L ++ t) W' ∧ Wrt B b W W' := by
  refine (writeString_k B b (Lib.byteCells L) (ofL t) W h.bui (by rw [bytC_len, ofL_size]; omega) h.sz).mono ?_
  rintro e W' ⟨rfl, h1, h2, h3⟩
  have k : Wrt B b W W' := ⟨h2, h3⟩
  refine ⟨by rw [ofL_size], ⟨k.bq h.box h.ne (by decide), ?_, Nat.le_trans h.sz h2.size, h.ne⟩, k⟩
  rw [Lib.byteCells_append, ← strCells_ofL]
  exact .inr h1
theorem LnP.byte {c b B : Nat} {L : List UInt8} {W : World} (h : LnP c b B L W) (n : Nat) (hn : n < 256) (hl : L.length + 1 ≤ 1000000000) :
    Calls Tryz.prog 69 #[.pointer (some ⟨b, 0, none⟩), .int .u8 (n : Int)] W fun e W' => e = .returned .nilIface ∧ LnP c b B (L ++ [UInt8.ofNat n]) W' ∧ Wrt B b W W' := by
  refine (writeByte_k B b (Lib.byteCells L) (n : Int) W h.bui (by rw [bytC_len]; omega) h.sz).mono ?_
  rintro e W' ⟨rfl, h1, h2, h3⟩
  have k : Wrt B b W W' := ⟨h2, h3⟩
  refine ⟨rfl, ⟨k.bq h.box h.ne (by decide), ?_, Nat.le_trans h.sz h2.size, h.ne⟩, k⟩
  rw [Lib.byteCells_append, ← ofNat_cell n hn]
  exact .inr h1

set_option maxRecDepth 100000 in
set_option maxHeartbeats 2000000 in
theorem line_in {c b B : Nat} {L : List UInt8} {W : World} (h : LnP c b B L W) (t : List UInt8) (ls : List (List (List UInt8))) (v : Value) (hr : RR W v ls) (hl : ls.length ≤ 1000000) (hn : ls.flatten.length ≤ 100000000) (hs : (L ++ lnT t ls.flatten).length ≤ 1000000000) :
    Calls Tryz.prog 66 #[.string (ofL t), v, .pointer (some ⟨c, 0, none⟩)] W fun e W' => e = .returned (.tuple #[]) ∧ LnP c b B (L ++ lnT t ls.flatten) W' ∧ Wrt B b W W' := by
  have hsz : L.length + (t.length + ((blT ls.flatten).length + 1)) ≤ 1000000000 := by simpa [lnT] using hs
  have H0 := hide h
  have HR := hide hr
  have HS := hide hsz
  have q0 := h.box.cell 0 _ rfl
  have hst := hide (h.str t (by omega))
  clear h hr hs hsz
  go_enter Tryz.func66, Tryz.ntmps66
  go_wp2_with fail
  refine (unhide hst).mono ?_
  rintro e W1 ⟨rfl, h1, k1⟩
  obtain ⟨x, fb, hB⟩ := (unhide H0).bld
  have HC := hide (Concat_in ls v W1 (RR.wrt k1 hB (unhide HR)) hl hn)
  have H1 := hide h1
  have K1 := hide k1
  clear h1 k1 hB hst
  go_wp2_with fail
  refine (unhide HC).mono ?_
  rintro e W2 h2
  obtain ⟨a, c2, rfl, ho, hb⟩ := h2.of
  obtain ⟨l, hl2⟩ : ∃ l, ls.flatten = l := ⟨_, rfl⟩
  rw [hl2] at ho HS hn ⊢
  obtain ⟨N, hN⟩ : ∃ N, l.length = N := ⟨_, rfl⟩
  rw [hN] at ho hn ⊢
  have HO := hide ho
  have H2 := hide ((unhide H1).below hb)
  have K2 := hide ((unhide K1).trans (Wrt.of_below hb (unhide H1).sz))
  have HN := hide hN
  have HE := hide hl2
  have hblt := (unhide H1).blt
  have HZ := hide hblt
  clear ho hb h2 hl2 hN HC H1 K1 HR hblt
  go_wp2_with fail
  go_loopw [6, 13] (fun v6 v13 wr => ∃ (j : Nat), v13 = .int .i64 (j : Int) ∧ j ≤ N ∧ Hid (LnP c b B (L ++ t ++ blT (l.take j)) wr ∧ Wrt B b W wr ∧ OT wr W1.heap.size (.slice a N c2) l)) (fun _ v13 _ => N - (RowKit.intOf v13).toNat)
  case atStart => exact ⟨0, rfl, Nat.zero_le _, hide ⟨by simpa [blT] using unhide H2, unhide K2, unhide HO⟩⟩
  case round =>
    obtain ⟨j, rfl, hj, H⟩ := hrel
    have hq0 := (unhide H).1.box.cell 0 _ rfl
    by_cases hjl : j < N
    · obtain ⟨y, hy⟩ : ∃ y, l[j]? = some y := ⟨_, List.getElem?_eq_getElem (by rw [unhide HN]; exact hjl)⟩
      obtain ⟨g, off, rfl, hglt, hcell⟩ := (unhide H).2.2.rt.at hy
      have k5 : (j : Int) < (N : Int) := by omega
      have k6 : (0 : Int) ≤ (j : Int) := by omega
      have ht1 := blT_take hy
      have hle := blT_le (ws := l) (j := j + 1)
      have hsz := unhide HS
      rw [ht1, List.length_append, List.length_cons] at hle
      have hwb := hide ((unhide H).1.byte 32 (by omega) (by simp only [List.length_append]; omega))
      have HY := hide hy
      have HT := hide ht1
      have HLE := hide hle
      clear hy hle hsz ht1
      go_wp2_with fail
      refine (unhide hwb).mono ?_
      rintro e W3 ⟨rfl, h3, k3⟩
      have hq3 := h3.box.cell 0 _ rfl
      have hws := hide (h3.str y (by have := unhide HS; have := unhide HLE; simp only [List.length_append, List.length_cons, List.length_nil]; omega))
      have K3 := hide ((unhide H).2.1.trans k3)
      have HO3 := hide (k3.ot (unhide H).2.2 (unhide HZ))
      clear h3 k3 hwb hq0
      go_wp2_with fail
      refine (unhide hws).mono ?_
      rintro e W4 ⟨rfl, h4, k4⟩
      have HN4 := hide (show LnP c b B (L ++ t ++ blT (l.take (j + 1))) W4 ∧ Wrt B b W W4 ∧ OT W4 W1.heap.size (.slice (some ⟨g, off, none⟩) N c2) l from ⟨by rw [unhide HT]; simpa using h4, (unhide K3).trans k4, k4.ot (unhide HO3) (unhide HZ)⟩)
      clear h4 k4 hws H K3 HO3
      go_wp2
      go_roundw
      case rel => exact ⟨j + 1, by go_num, by omega, HN4⟩
      case measure => simp [RowKit.intOf]; omega
    · obtain rfl : j = N := by omega
      have k1 : decide ((j : Int) < (j : Int)) = false := by simp
      have e1 : l.take j = l := List.take_of_length_le (by rw [unhide HN]; exact Nat.le_refl _)
      rw [e1] at H
      have hwb := hide ((unhide H).1.byte 10 (by omega) (by have := unhide HS; simp only [List.length_append]; omega))
      go_wp2_with fail
      refine (unhide hwb).mono ?_
      rintro e W3 ⟨rfl, h3, k3⟩
      have HF := hide (show LnP c b B (L ++ lnT t l) W3 ∧ Wrt B b W W3 from ⟨by simpa [lnT] using h3, (unhide H).2.1.trans k3⟩)
      clear h3 k3 hwb H
      go_wp2
      refine bodyPost_end (results_none rfl _ _ _) rfl ?_
      rw [unhide HE]
      exact ⟨rfl, (unhide HF).1, (unhide HF).2⟩
end Go.Proofs.YtkndjbmlkfpfoaaGreatDoor

/-
  What script.table answers: the kinds of steps.
-/
set_option linter.unusedSimpArgs false
set_option linter.unusedVariables false
namespace Go.Proofs.YtkndjbmlkfpfoaaGreatDoor
open Go.RowKit Go.Lib

/-- the word of a kind of steps, from 0 on -/
def tnm : List (List UInt8) := [[105, 110, 115, 101, 114, 116], [100, 101, 108, 101, 116, 101], [106, 111, 105, 110], [108, 101, 97, 118, 101], [115, 116, 111, 112], [116, 105, 99, 107], [100, 101, 108, 105, 118, 101, 114], [100, 114, 111, 112], [100, 111, 117, 98, 108, 101], [97, 108, 116, 101, 114], [99, 117, 116], [116, 101, 120, 116], [115, 105, 103, 104, 116], [99, 111, 112, 105, 101, 115]]
/-- its fields: 0 Site, 1 Peer, 2 At, 3 N, 4 Draws, 5 Text, 6 Data -/
def tfl : List (List Nat) := [[0, 2, 5], [0, 2, 3], [0, 1], [0], [0], [4], [3], [3], [3], [3, 2, 6], [3, 2], [0], [0], []]
/-- a field's cells -/
def fC (f : Nat) : List Value := match f with
  | 0 => [(.func (.func 47) #[] #[]), .nilFunc, .nilFunc, .nilFunc]
  | 1 => [(.func (.func 48) #[] #[]), .nilFunc, .nilFunc, .nilFunc]
  | 2 => [(.func (.func 49) #[] #[]), .nilFunc, .nilFunc, .nilFunc]
  | 3 => [(.func (.func 50) #[] #[]), .nilFunc, .nilFunc, .nilFunc]
  | 4 => [.nilFunc, (.func (.func 51) #[] #[]), .nilFunc, .nilFunc]
  | 5 => [.nilFunc, .nilFunc, (.func (.func 52) #[] #[]), .nilFunc]
  | _ => [.nilFunc, .nilFunc, .nilFunc, (.func (.func 53) #[] #[])]

def fsC (i : Nat) : Array Value := (flat fC (tfl.getD i [])).toArray
def fsV (bs : Nat → Nat) (i : Nat) : Value := if i = 13 then .slice none 0 0 else .slice (some ⟨bs i, 0, none⟩) (tfl.getD i []).length (tfl.getD i []).length
def rwC (bs : Nat → Nat) (i : Nat) : List Value := [.string (ofL (tnm.getD i [])), .int .i64 ((i : Int) + 1), fsV bs i]
def rowsC (bs : Nat → Nat) : Array Value := (flat (rwC bs) (List.range 14)).toArray
/-- the table in memory -/
structure Tb (W : World) (v : Value) (b : Nat) (bs : Nat → Nat) : Prop where
  form : v = .slice (some ⟨b, 0, none⟩) 14 14
  row : Bq W b 76 (rowsC bs)
  fld : ∀ i, i < 13 → Bq W (bs i) 117 (fsC i)
theorem Tb.below {W W' : World} {v : Value} {b : Nat} {bs : Nat → Nat} (h : Tb W v b bs) (hb : Below W.heap.size W W') : Tb W' v b bs := ⟨h.form, h.row.keep hb h.row.lt, fun i hi => (h.fld i hi).keep hb (h.fld i hi).lt⟩
theorem Tb.wrt {B c : Nat} {W W' : World} {v : Value} {b : Nat} {bs : Nat → Nat} (h : Tb W v b bs) (k : Wrt B c W W') {x : Array Value} {fb : Nat × Nat} (hc : W.heap[c]? = some (.cells x 86 fb)) : Tb W' v b bs :=
  ⟨h.form, k.bq h.row (fun e => by subst e; have := h.row; unfold Bq at this; rw [hc] at this; cases this) (by decide), fun i hi => k.bq (h.fld i hi) (fun e => by subst e; have := h.fld i hi; unfold Bq at this; rw [hc] at this; cases this) (by decide)⟩

def allocs (w : World) (l : List Obj) : World := l.foldl (fun W o => W.alloc o) w
theorem allocs_below (l : List Obj) : ∀ w : World, Below w.heap.size w (allocs w l) := by
  induction l with
  | nil => intro w; exact Below.refl _ _
  | cons o l ih => intro w; exact bnext (ballc (Below.refl _ w) o) (ih (w.alloc o))
theorem allocs_get (l : List Obj) : ∀ (w : World) (i : Nat) (o : Obj), l[i]? = some o → (allocs w l).heap[w.heap.size + i]? = some o := by
  induction l with
  | nil => intro w i o h; cases h
  | cons p l ih =>
    intro w i o h
    cases i with
    | zero =>
      cases h
      exact ((allocs_below l (w.alloc p)).block w.heap.size (by rw [World.size_alloc]; omega)).trans (heap_alloc_new w p)
    | succ i =>
      have := ih (w.alloc p) i o h
      rw [World.size_alloc] at this
      rw [show w.heap.size + (i + 1) = w.heap.size + 1 + i by omega]
      exact this

set_option maxRecDepth 100000 in
set_option maxHeartbeats 4000000 in
theorem table_in (w : World) : Calls Tryz.prog 23 #[] w fun e W => ∃ v b bs, e = .returned v ∧ Tb W v b bs ∧ Below w.heap.size w W := by
  go_enter Tryz.func23, Tryz.ntmps23
  go_wp2
  go_ret
  refine ⟨_, w.heap.size + 20, fun i => w.heap.size + 7 + i, rfl, ?_, ?_⟩
  · have hX := allocs_get [(.cells (fC 0).toArray 117), (.cells (fC 1).toArray 117), (.cells (fC 2).toArray 117), (.cells (fC 3).toArray 117), (.cells (fC 4).toArray 117), (.cells (fC 5).toArray 117), (.cells (fC 6).toArray 117), (.cells (fsC 0) 117), (.cells (fsC 1) 117), (.cells (fsC 2) 117), (.cells (fsC 3) 117), (.cells (fsC 4) 117), (.cells (fsC 5) 117), (.cells (fsC 6) 117), (.cells (fsC 7) 117), (.cells (fsC 8) 117), (.cells (fsC 9) 117), (.cells (fsC 10) 117), (.cells (fsC 11) 117), (.cells (fsC 12) 117), (.cells (rowsC (fun i => w.heap.size + 7 + i)) 76)] w
    refine ⟨rfl, hX 20 _ rfl, fun i hi => ?_⟩
    have hi2 : i = 0 ∨ i = 1 ∨ i = 2 ∨ i = 3 ∨ i = 4 ∨ i = 5 ∨ i = 6 ∨ i = 7 ∨ i = 8 ∨ i = 9 ∨ i = 10 ∨ i = 11 ∨ i = 12 := by omega
    rcases hi2 with rfl | rfl | rfl | rfl | rfl | rfl | rfl | rfl | rfl | rfl | rfl | rfl | rfl
    · exact hX 7 _ rfl
    · exact hX 8 _ rfl
    · exact hX 9 _ rfl
    · exact hX 10 _ rfl
    · exact hX 11 _ rfl
    · exact hX 12 _ rfl
    · exact hX 13 _ rfl
    · exact hX 14 _ rfl
    · exact hX 15 _ rfl
    · exact hX 16 _ rfl
    · exact hX 17 _ rfl
    · exact hX 18 _ rfl
    · exact hX 19 _ rfl
  · exact allocs_below [(.cells (fC 0).toArray 117), (.cells (fC 1).toArray 117), (.cells (fC 2).toArray 117), (.cells (fC 3).toArray 117), (.cells (fC 4).toArray 117), (.cells (fC 5).toArray 117), (.cells (fC 6).toArray 117), (.cells (fsC 0) 117), (.cells (fsC 1) 117), (.cells (fsC 2) 117), (.cells (fsC 3) 117), (.cells (fsC 4) 117), (.cells (fsC 5) 117), (.cells (fsC 6) 117), (.cells (fsC 7) 117), (.cells (fsC 8) 117), (.cells (fsC 9) 117), (.cells (fsC 10) 117), (.cells (fsC 11) 117), (.cells (fsC 12) 117), (.cells (rowsC (fun i => w.heap.size + 7 + i)) 76)] w
end Go.Proofs.YtkndjbmlkfpfoaaGreatDoor

/-
  A step, in memory and as words.
-/
set_option linter.unusedSimpArgs false
set_option linter.unusedVariables false
namespace Go.Proofs.YtkndjbmlkfpfoaaGreatDoor
open Go.RowKit Go.Lib

structure Sp where
  kind : Int
  site : Int
  peer : Int
  unit : Int
  at_ : Int
  n : Int
  text : ByteArray
  draws : List Int
  data : List UInt8
def RBy (W : World) (v : Value) (l : List UInt8) : Prop := RC W v l.length (Lib.byteCells l)
/-- a step's cells, of its two rows' values -/
def spC (s : Sp) (dv bv : Value) : Array Value := #[.int .i64 s.kind, .int .i64 s.site, .int .i64 s.peer, .int .i64 s.unit, .int .i64 s.at_, .int .i64 s.n, .string s.text, dv, bv]
/-- what a step's numbers and lengths are -/
structure SpW (s : Sp) : Prop where
  kind : in64 s.kind
  site : in64 s.site
  peer : in64 s.peer
  unit : in64 s.unit
  at_ : in64 s.at_
  n : in64 s.n
  text : s.text.size ≤ 1000000
  draws : s.draws.length ≤ 1000000
  dnum : ∀ x ∈ s.draws, in64 x
  data : s.data.length ≤ 1000000
/-- a field's words -/
def fw (s : Sp) (f : Nat) : List (List UInt8) := match f with
  | 0 => [itoa s.site]
  | 1 => [itoa s.peer]
  | 2 => [itoa s.at_]
  | 3 => [itoa s.n]
  | 4 => s.draws.map itoa
  | 5 => [(qT s.text).data.toList]
  | _ => [(qT (ofL s.data)).data.toList]
structure StB (W : World) (b : Nat) (s : Sp) (dv bv : Value) : Prop where
  box : Bq W b 40 (spC s dv bv)
  dr : RNm W dv s.draws
  by_ : RBy W bv s.data
theorem StB.below {W W' : World} {b : Nat} {s : Sp} {dv bv : Value} (h : StB W b s dv bv) (hb : Below W.heap.size W W') : StB W' b s dv bv := ⟨h.box.keep hb h.box.lt, RC.below h.dr hb, RC.below h.by_ hb⟩
theorem conv_rc {W : World} {v : Value} {l : List UInt8} (h : RBy W v l) : (convert 38 9 v).run Tryz.prog W = .ok (.string (ofL l)) W := by
  have u8b : (l.map fun b => ((b.toNat : Nat) : Int)).map (fun z => UInt8.ofNat z.toNat) = l := u8_back l
  rcases h with ⟨h0, a, cap, rfl⟩ | ⟨b, off, cap, rfl, hn, hl, hc⟩
  · have e : l = [] := List.eq_nil_of_length_eq_zero h0
    subst e
    cases a with
    | none => simp [convert, run_underlying Tryz.underlying38, run_underlying Tryz.underlying9, run_underlying Tryz.underlying5, Conv.bytesToString]; rfl
    | some ad => exact conv_bytes W ad 0 cap [] rfl (fun j hj => by cases hj)
  · have := conv_bytes W ⟨b, off, none⟩ l.length cap (l.map fun b => ((b.toNat : Nat) : Int)) (by simp) (fun j hj => by
      rw [Addr.add_lit]
      simp at hj
      refine hc j _ ?_
      simp [Lib.byteCells, hj])
    rw [u8b] at this
    exact this

theorem one_row (W : World) (x : Int) : RNm (W.alloc (.cells #[.int .i64 x] 3)) (.slice (some ⟨W.heap.size, 0, none⟩) 1 1) [x] := by
  refine .inr ⟨W.heap.size, 0, 1, rfl, Nat.le_refl _, by simp, fun j u hu => ?_⟩
  rw [Nat.zero_add]
  exact (Bq.new W 3 #[.int .i64 x]).cell j u (by simpa [flat, enN] using hu)
theorem ptr_in0 (b : Nat) (W : World) : Calls Tryz.prog 47 #[.pointer (some ⟨b, 0, none⟩)] W fun e W' => e = .returned (.pointer (some ⟨b, 1, none⟩)) ∧ W = W' := by
  go_enter Tryz.func47, Tryz.ntmps47
  go_wp2
  go_ret
  exact ⟨rfl, rfl⟩
end Go.Proofs.YtkndjbmlkfpfoaaGreatDoor
