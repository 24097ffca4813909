/-
  What the rows' condition gives: the one cell of the library's table that is read.
-/
import Derived.Test.YtkndjbmlkfpfoaaGreatDoorRows
import Derived.Test.YtkndjbmlkfpfoaaGreatDoorZKn
import Derived.Lib.LaidTab
import Derived.Stop.LaidErr
import Derived.MakeChecks
import Derived.LaidMore
import Derived.Test.YtkndjbmlkfpfoaaGreatDoorZShelf2ToSc4
import Derived.LaidLaws
import Derived.Test.YtkndjbmlkfpfoaaGreatDoorZShelf3ToTB

namespace Go.Proofs.YtkndjbmlkfpfoaaGreatDoor
open Go.RowKit Go.Lib

theorem t64 : (Tryz.prog.globals[4]?).map (·.type) = some 233 := by kernel_rfl
def zs64 : List Int := [0, 1, 56, 2, 57, 49, 28, 3, 61, 58, 42, 50, 38, 29, 17, 4, 62, 47, 59, 36, 45, 43, 51, 22, 53, 39, 33, 30, 24, 18, 12, 5, 63, 55, 48, 27, 60, 41, 37, 16, 46, 35, 44, 21, 52, 32, 23, 11, 54, 26, 40, 15, 34, 20, 31, 10, 25, 14, 19, 9, 13, 8, 7, 6]
theorem tab_of {W : World} {nm : String} {x : String × DataW Unit} {r : List (String × DataW Unit)} (g64 : Tryz.prog.globalNamed nm = some 4) (h : laidMet Tryz.prog (x :: (nm, Rows.laid_math_bits_deBruijn64tab) :: r) W) : Tab W := by
  have h1 : laidMet Tryz.prog ((nm, tabData .u8 zs64) :: r) W := h.tail
  have h2 := tabIs_of_head g64 t64 Tryz.underlying233 Tryz.underlying5 (by kernel_rfl) (by kernel_rfl) h1
  have h3 := h2.cell g64 15 (by decide)
  refine ⟨h3, ?_⟩
  unfold World.cell? at h3
  by_cases hlt : 4 < W.heap.size
  · exact hlt
  · have : W.heap[4]? = none := by simp; omega
    simp [this] at h3

end Go.Proofs.YtkndjbmlkfpfoaaGreatDoor

/-
  What the rows' condition gives: all that the scanner asks of the library's variables.
-/
set_option linter.unusedSimpArgs false
set_option linter.unusedVariables false
namespace Go.Proofs.YtkndjbmlkfpfoaaGreatDoor
open Go.RowKit Go.Lib Go.ChangeShapes

theorem t10 : (Tryz.prog.globals[0]?).map (·.type) = some 213 := by kernel_rfl
theorem tER : (Tryz.prog.globals[2]?).map (·.type) = some 137 := by kernel_rfl
theorem tES : (Tryz.prog.globals[1]?).map (·.type) = some 137 := by kernel_rfl
theorem heap_of_var {W : World} {nm : String} {g : Nat} {cs : Array Value} (hg : Tryz.prog.globalNamed nm = some g) (h : W.var? Tryz.prog nm = some cs) : ∃ ty lk, W.heap[g]? = some (.cells cs ty lk) := by
  unfold World.var? at h
  rw [hg] at h
  simp only [Option.bind_some] at h
  split at h
  · rename_i c ty lk e
    cases h
    exact ⟨ty, lk, e⟩
  · cases h
theorem lt_of_heap {W : World} {g : Nat} {o : Obj} (h : W.heap[g]? = some o) : g < W.heap.size := (Array.getElem?_eq_some_iff.1 h).1
theorem err_of {W : World} {nm tn : String} {g : Nat} {d : DataW Unit} {r : List (String × DataW Unit)} (hg : Tryz.prog.globalNamed nm = some g) (ht : (Tryz.prog.globals[g]?).map (·.type) = some 137) (h : laidMet Tryz.prog ((nm, .iface tn d) :: r) W) : ErrAt g W ∧ g < W.heap.size := by
  obtain ⟨ps, ⟨g', t', cs, fuel, p, q, hg', ht', hvar, hd, _, _⟩, _⟩ := h
  obtain rfl := Option.some.inj (hg.symm.trans hg')
  obtain rfl := Option.some.inj (ht.symm.trans ht')
  obtain ⟨ty, lk, hh⟩ := heap_of_var hg hvar
  refine ⟨?_, lt_of_heap hh⟩
  obtain ⟨_, u, v, hcs, _⟩ := iface_of_trod Tryz.underlying137 hd
  refine ⟨.iface u v, ?_, .inr ⟨u, v, rfl⟩⟩
  have hc := World.var?_cell hg hvar 0
  rw [hc]
  obtain ⟨l⟩ := cs
  simp at hcs
  subst hcs
  rfl
theorem errS_of {W : World} {nm tn : String} {d : DataW Unit} {r : List (String × DataW Unit)} (hg : Tryz.prog.globalNamed nm = some 1) (h : laidMet Tryz.prog ((nm, .iface tn d) :: r) W) : ErrS W ∧ 1 < W.heap.size := by
  obtain ⟨ps, ⟨g', t', cs, fuel, p, q, hg', ht', hvar, hd, _, _⟩, _⟩ := h
  obtain rfl := Option.some.inj (hg.symm.trans hg')
  obtain rfl := Option.some.inj (tES.symm.trans ht')
  obtain ⟨ty, lk, hh⟩ := heap_of_var hg hvar
  obtain ⟨_, u, v, hcs, _⟩ := iface_of_trod Tryz.underlying137 hd
  obtain ⟨l⟩ := cs
  simp at hcs
  subst hcs
  exact ⟨⟨u, v, ty, lk, hh⟩, lt_of_heap hh⟩
theorem lw_of {W : World} {x : String × DataW Unit} {n2 n3 n4 n5 : String} (g64 : Tryz.prog.globalNamed n2 = some 4) (g10 : Tryz.prog.globalNamed n3 = some 0) (gR : Tryz.prog.globalNamed n4 = some 2) (gS : Tryz.prog.globalNamed n5 = some 1)
    (h : laidMet Tryz.prog (x :: (n2, Rows.laid_math_bits_deBruijn64tab) :: (n3, Rows.laid_internal_strconv_uint64pow10) :: (n4, Rows.laid_strconv_ErrRange) :: (n5, Rows.laid_strconv_ErrSyntax) :: []) W) : Lw W := by
  have hT := tab_of g64 h
  have h10 : laidMet Tryz.prog ((n3, tabData .u64 Lib.pow10Tab) :: (n4, Rows.laid_strconv_ErrRange) :: (n5, Rows.laid_strconv_ErrSyntax) :: []) W := h.tail.tail
  have hP := tabIs_of_head g10 t10 Tryz.underlying213 Tryz.underlying179 (by kernel_rfl) (by kernel_rfl) h10
  unfold TabIs at hP
  obtain ⟨ty, lk, hh⟩ := heap_of_var g10 hP
  have hR := err_of gR tER h.tail.tail.tail
  have hS := errS_of gS h.tail.tail.tail.tail
  exact ⟨hT, hS.1, hR.1, ⟨ty, lk, hh⟩, hT.2, hS.2, hR.2, lt_of_heap hh⟩

end Go.Proofs.YtkndjbmlkfpfoaaGreatDoor

/-
  What script.named, when, quoted and dots answer.
-/
set_option linter.unusedSimpArgs false
set_option linter.unusedVariables false
namespace Go.Proofs.YtkndjbmlkfpfoaaGreatDoor
open Go.RowKit Go.Lib

theorem MkT.of {w W : World} {l : List (List UInt8)} {e : Ending} (h : MkT w l e W) : ∃ a c, e = .returned (.slice a l.length c) ∧ OT W w.heap.size (.slice a l.length c) l ∧ Below w.heap.size w W := by
  obtain ⟨u, rfl, ho, hb⟩ := h
  obtain ⟨a, c, rfl⟩ := owns_form ho
  exact ⟨a, c, rfl, ho, hb⟩
theorem OT.wk {W : World} {B B' : Nat} {v : Value} {l : List (List UInt8)} (h : OT W B v l) (hb : B' ≤ B) : OT W B' v l := owns_wk h hb

set_option maxRecDepth 100000 in
set_option maxHeartbeats 1000000 in
theorem named_in (t : List UInt8) (l : List Int) (v : Value) (w : World) (h : RNm w v l) (hl : l.length ≤ 1000000) (hi : ∀ x ∈ l, in64 x) (hL : Lw w) :
    Calls Tryz.prog 39 #[.string (ofL t), v] w (MkT w (t :: l.map itoa)) := by
  have hb0 := ballc (Below.refl _ w) (.cells #[.string (ofL t)] 9)
  have HN := hide (numbers_in l v (w.alloc (.cells #[.string (ofL t)] 9)) (RC.below h hb0) hl hi (hL.below hb0))
  have HO := hide (OT.one w t)
  have HB := hide hb0
  clear h hi hL hb0
  go_enter Tryz.func39, Tryz.ntmps39
  go_wp2_with fail
  refine (unhide HN).mono ?_
  rintro e W2 h2
  obtain ⟨a, c, rfl, ho, hb2⟩ := h2.of
  rw [List.length_map] at ho ⊢
  have ho0 := (unhide HO).below hb2
  have hb3 := bnext (unhide HB) hb2
  obtain ⟨v', w', q1, q2, q3⟩ := append_txts W2 96 w.heap.size (.slice (some ⟨w.heap.size, 0, none⟩) 1 1) (.slice a l.length c) [t] (l.map itoa) ho0 ho.rt hb3.size (by simp) (by simp; omega)
  have HM := hide (show MkT w (t :: l.map itoa) (.returned v') w' from ⟨v', rfl, q2, (Kp.of_grown (N := fun k => w.heap.size ≤ k) q3 (fun k hk => (World.ownsRow.lt ho0 k hk).1)).below hb3 (fun i hi => hi)⟩)
  have HA := hide q1
  clear q1 q2 q3 ho0 hb3 ho hb2 h2 HN HO HB
  go_wp2_with (at_builtin; refine wpList_append_eq rfl _ _ 96 96 rfl _ _ _ _ rfl rfl (unhide HA) ?_)
  go_ret
  exact unhide HM

set_option maxRecDepth 100000 in
theorem when_in (b : Bool) (t : List UInt8) (w : World) : Calls Tryz.prog 40 #[.bool b, .string (ofL t)] w (MkT w (if b then [t] else [])) := by
  cases b
  · go_enter Tryz.func40, Tryz.ntmps40
    go_wp2
    go_ret
    exact ⟨_, rfl, OT.nil _ _, Below.refl _ _⟩
  · have HO := hide (OT.one w t)
    go_enter Tryz.func40, Tryz.ntmps40
    go_wp2
    go_ret
    exact ⟨_, rfl, unhide HO, ballc (Below.refl _ _) _⟩

set_option maxRecDepth 100000 in
theorem quoted_in (s : ByteArray) (hs : s.size ≤ 1000000) (w : World) (hL : Lw w) : Calls Tryz.prog 35 #[.string s] w (MkT w [(qT s).data.toList]) := by
  have HQ := hide (quote_in s (by omega) w hL.1)
  clear hL
  go_enter Tryz.func35, Tryz.ntmps35
  go_wp2_with fail
  refine (unhide HQ).mono ?_
  rintro e W2 ⟨rfl, hb⟩
  have HO := hide (OT.one W2 (qT s).data.toList)
  have HB := hide (ballc hb (.cells #[.string (ofL (qT s).data.toList)] 9))
  have HZ := hide hb.size
  clear hb HQ
  go_wp2
  go_ret
  exact ⟨_, rfl, (unhide HO).wk (unhide HZ), unhide HB⟩
end Go.Proofs.YtkndjbmlkfpfoaaGreatDoor

/-
  What script.dots answers.
-/
set_option linter.unusedSimpArgs false
set_option linter.unusedVariables false
namespace Go.Proofs.YtkndjbmlkfpfoaaGreatDoor
open Go.RowKit Go.Lib

/-- the numbers of Dots -/
def dtN (l : List (Int × Int)) : List Int := l.flatMap fun d => [d.1, d.2]
theorem dtN_len (l : List (Int × Int)) : (dtN l).length = 2 * l.length := by
  induction l with
  | nil => rfl
  | cons d l ih => unfold dtN at ih ⊢; simp only [List.flatMap_cons, List.length_append, List.length_cons, List.length_nil, ih]; omega
theorem dtN_take {l : List (Int × Int)} {j : Nat} {d : Int × Int} (h : l[j]? = some d) : dtN (l.take (j + 1)) = dtN (l.take j) ++ [d.1, d.2] := by
  unfold dtN
  rw [List.take_add_one, h]
  simp
theorem two_row (W : World) (x y : Int) : RNm (W.alloc (.cells #[.int .i64 x, .int .i64 y] 3)) (.slice (some ⟨W.heap.size, 0, none⟩) 2 2) [x, y] := by
  refine .inr ⟨W.heap.size, 0, 2, rfl, Nat.le_refl _, by simp, fun j u hu => ?_⟩
  rw [Nat.zero_add]
  exact (Bq.new W 3 #[.int .i64 x, .int .i64 y]).cell j u (by simpa [flat, enN] using hu)

set_option maxRecDepth 100000 in
set_option maxHeartbeats 2000000 in
theorem dots_in (l : List (Int × Int)) (v : Value) (w : World) (h : RDt w v l) (hl : l.length ≤ 1000000) (hi : ∀ x ∈ l, in64 x.1 ∧ in64 x.2) (hL : Lw w) :
    Calls Tryz.prog 36 #[v] w (MkT w ((dtN l).map itoa)) := by
  obtain ⟨a0, c0, rfl⟩ := h.form
  obtain ⟨L, hLn⟩ : ∃ L, l.length = L := ⟨_, rfl⟩
  have hat := fun i x hx => RDt.at h (i := i) (x := x) hx
  rw [hLn] at hl ⊢
  have HAT := hide hat
  have HLn := hide hLn
  have HI := hide hi
  have HL := hide hL
  clear hat hLn h hi hL
  go_enter Tryz.func36, Tryz.ntmps36
  go_wp2_with fail
  go_loopw [3, 5, 8] (fun v3 v5 v8 wr => ∃ (j c : Nat) (a : Option Addr), v8 = .int .i64 (j : Int) ∧ v3 = .slice a (2 * j) c ∧ j ≤ L ∧ Hid (OT wr w.heap.size (.slice a (2 * j) c) ((dtN (l.take j)).map itoa) ∧ Below w.heap.size w wr)) (fun _ _ v8 _ => L - (RowKit.intOf v8).toNat)
  case atStart => exact ⟨0, 0, none, rfl, rfl, Nat.zero_le _, hide ⟨OT.nil _ _, Below.refl _ _⟩⟩
  case round =>
    obtain ⟨j, c, a, rfl, rfl, hj, H⟩ := hrel
    by_cases hjl : j < L
    · obtain ⟨x, hx⟩ : ∃ x, l[j]? = some x := ⟨_, List.getElem?_eq_getElem (by rw [unhide HLn]; exact hjl)⟩
      obtain ⟨b, off, rfl, hblt, hc1, hc2⟩ := unhide HAT j x hx
      have d1 := cell_below hc1 (unhide H).2
      have d2 := cell_below hc2 (unhide H).2
      have k1 : (j : Int) < (L : Int) := by omega
      have k2 : (0 : Int) ≤ (j : Int) := by omega
      have hx64 := unhide HI x (List.mem_of_getElem? hx)
      have hb1 := ballc (unhide H).2 (.cells #[.int .i64 x.1, .int .i64 x.2] 42)
      have ho1 := (unhide H).1.below (ballc (Below.refl _ wr) (.cells #[.int .i64 x.1, .int .i64 x.2] 42))
      have hbx := Bq.new wr 42 #[.int .i64 x.1, .int .i64 x.2]
      have hb2 := ballc hb1 (.cells #[.int .i64 x.1, .int .i64 x.2] 3)
      have ho2 := ho1.below (ballc (Below.refl _ (wr.alloc (.cells #[.int .i64 x.1, .int .i64 x.2] 42))) (.cells #[.int .i64 x.1, .int .i64 x.2] 3))
      have hrow := two_row (wr.alloc (.cells #[.int .i64 x.1, .int .i64 x.2] 42)) x.1 x.2
      rw [World.size_alloc] at hrow
      have HNm := hide (numbers_in [x.1, x.2] _ _ hrow (by simp) (by simp; exact hx64) ((unhide HL).below hb2))
      have HX := hide hx
      have HO := hide ho2
      have HB := hide hb2
      clear hc1 hc2 hx ho1 hb1 ho2 hb2 hrow hx64 H
      have e0 := hbx.cell 0 _ rfl
      have e1 := hbx.cell 1 _ rfl
      go_wp2_with fail
      refine (unhide HNm).mono ?_
      rintro e W2 h2
      obtain ⟨a2, c2, rfl, ho3, hb3⟩ := h2.of
      have ho4 := (unhide HO).below hb3
      have hb4 := bnext (unhide HB) hb3
      have hlen : ((dtN (l.take j)).map itoa).length = 2 * j := by rw [List.length_map, dtN_len, List.length_take, unhide HLn]; omega
      obtain ⟨v', w', q1, q2, q3⟩ := append_txts W2 96 w.heap.size (.slice a (2 * j) c) (.slice a2 2 c2) ((dtN (l.take j)).map itoa) [itoa x.1, itoa x.2] ho4 ho3.rt hb4.size (by omega) (by simp)
      obtain ⟨a', c', e'⟩ := owns_form q2
      have e2 : (dtN (l.take j)).map itoa ++ [itoa x.1, itoa x.2] = (dtN (l.take (j + 1))).map itoa := by rw [dtN_take (unhide HX)]; simp
      have e3 : ((dtN (l.take (j + 1))).map itoa).length = 2 * (j + 1) := by rw [List.length_map, dtN_len, List.length_take, unhide HLn]; omega
      rw [e2] at q2 e'
      rw [e3] at e'
      subst e'
      have HN := hide (show OT w' w.heap.size (.slice a' (2 * (j + 1)) c') ((dtN (l.take (j + 1))).map itoa) ∧ Below w.heap.size w w' from ⟨q2, (Kp.of_grown (N := fun k => w.heap.size ≤ k) q3 (fun k hk => (World.ownsRow.lt ho4 k hk).1)).below hb4 (fun i hi => hi)⟩)
      have HA := hide q1
      clear q1 q2 q3 e2 e3 ho3 hb3 ho4 hb4 hlen h2 HNm HX HO HB
      go_wp2_with (at_builtin; refine wpList_append_eq rfl _ _ 96 96 rfl _ _ _ _ rfl rfl (unhide HA) ?_)
      go_roundw
      case rel => exact ⟨j + 1, c', a', by go_num, rfl, by omega, HN⟩
      case measure => simp [RowKit.intOf]; omega
    · obtain rfl : j = L := by omega
      have k1 : decide ((j : Int) < (j : Int)) = false := by simp
      have e1 : l.take j = l := List.take_of_length_le (by rw [unhide HLn]; exact Nat.le_refl _)
      rw [e1] at H
      go_wp2
      go_ret
      exact ⟨_, rfl, (unhide H).1, (unhide H).2⟩
end Go.Proofs.YtkndjbmlkfpfoaaGreatDoor
