/-
  The scanner's numbers: the number that a word is, if that is the one form of it.
-/
import Derived.Test.YticjilkcobpcjaaDoorZXSc
import Derived.Test.YticjilkcobpcjaaDoorZShelf2
import Derived.Below
import Derived.Shelf.Strconv.ErrVarParseInt
set_option linter.unusedSimpArgs false
set_option linter.unusedVariables false
namespace Go.Proofs.YticjilkcobpcjaaDoor
open Go.RowKit Go.Lib

theorem below_bytes (w : World) (e : TypeId) (t : ByteArray) : Below w.heap.size w (Lib.bytesWorld w e t) := Lib.bytesWorld_below w e t
theorem below_grow (w : World) (k : Nat) (os : Array Obj) : Below w.heap.size w (Sort.grow (w.drewN k) os) := by
  refine ⟨rfl, rfl, rfl, ?_, fun i hi => ?_⟩
  · show w.heap.size ≤ (w.heap ++ os).size
    rw [Array.size_append]; omega
  · show (w.heap ++ os)[i]? = w.heap[i]?
    rw [Array.getElem?_append_left hi]

/-- a variable that holds an error -/
def ErrAt (g : Nat) (w : World) : Prop := ∃ ev, w.cell? ⟨g, 0, none⟩ = some ev ∧ (ev = .nilIface ∨ ∃ te pe, ev = .iface te pe)
theorem ErrAt.below {g : Nat} {w w' : World} {B : Nat} (h : ErrAt g w) (hb : Below B w w') (hB : g < B) : ErrAt g w' := by
  obtain ⟨ev, h1, h2⟩ := h
  exact ⟨ev, (hb.cell (p := ⟨g, 0, none⟩) hB).trans h1, h2⟩
/-- the variable of the one error, as the shelf's contract asks it -/
def ErrS (w : World) : Prop := ∃ tp p ty lk, w.heap[1]? = some (.cells #[.iface tp p] ty lk)
theorem ErrS.below {w w' : World} {B : Nat} (h : ErrS w) (hb : Below B w w') (hB : 1 < B) : ErrS w' := by
  obtain ⟨tp, p, ty, lk, h⟩ := h
  exact ⟨tp, p, ty, lk, (hb.block _ hB).trans h⟩
theorem gErrS : Tryd.prog.globalNamed "strconv.ErrSyntax" = some 1 := by kernel_rfl
theorem ErrS.var {w : World} (h : ErrS w) : ∃ tp p, w.var? Tryd.prog "strconv.ErrSyntax" = some #[.iface tp p] := by
  obtain ⟨tp, p, ty, lk, h⟩ := h
  refine ⟨tp, p, ?_⟩
  unfold World.var?
  rw [gErrS]
  simp only [Option.bind_some, h]
/-- the table of the powers of ten -/
def Pow (w : World) : Prop := ∃ ty lk, w.heap[0]? = some (.cells (Lib.pow10Tab.map fun z => Value.int .u64 z).toArray ty lk)
theorem Pow.below {w w' : World} {B : Nat} (h : Pow w) (hb : Below B w w') (hB : 0 < B) : Pow w' := by
  obtain ⟨ty, lk, h⟩ := h
  exact ⟨ty, lk, (hb.block _ hB).trans h⟩
/-- all that the scanner asks of the library's variables -/
def Lw (w : World) : Prop := Tab w ∧ ErrS w ∧ ErrAt 2 w ∧ Pow w ∧ 5 < w.heap.size ∧ 1 < w.heap.size ∧ 2 < w.heap.size ∧ 0 < w.heap.size
theorem Lw.below {w w' : World} (h : Lw w) (hb : Below w.heap.size w w') : Lw w' := by
  obtain ⟨h1, h2, h3, h4, g1, g2, g3, g4⟩ := h
  have := hb.size
  exact ⟨h1.below hb g1, h2.below hb g2, h3.below hb g3, h4.below hb g4, by omega, by omega, by omega, by omega⟩

theorem fmt_in (n : Int) (h0 : -9223372036854775808 ≤ n) (h1 : n ≤ 9223372036854775807) (w : World) (hP : Pow w) :
    Calls Tryd.prog 36 #[.int .i64 n, .int .i64 10] w fun e w' => e = .returned (.string (ofL (Lib.itoa n))) ∧ Below w.heap.size w w' := by
  obtain ⟨ty, lk, hP⟩ := hP
  refine (Any.strconv_FormatInt_10 sh173 n h0 h1 w ?_).mono ?_
  · unfold Lib.TabIs World.var?
    rw [sh173.m17]
    show (match w.heap[0]? with | some (.cells cs _ _) => some cs | _ => none) = _
    rw [hP]
  · rintro e w' ⟨rfl, k, os, rfl⟩
    exact ⟨rfl, below_grow w k os⟩

/-- the number that a word is -/
def decN (t : ByteArray) : Option Int := match Lib.parseIntB 64 t.data.toList with
  | .ok v => if Lib.itoa v = t.data.toList then some v else none
  | _ => none

theorem lists_beq (x y : ByteArray) : (x.toList == y.toList) = decide (x.data.toList = y.data.toList) := by
  rw [ByteArray.toList_eq, ByteArray.toList_eq, Bool.eq_iff_iff, beq_iff_eq, decide_eq_true_eq]

set_option maxRecDepth 100000 in
set_option maxHeartbeats 2000000 in
theorem decimal_in (t : ByteArray) (ht : t.size ≤ 1000000000) (w : World) (hL : Lw w) :
    Calls Tryd.prog 47 #[.string t] w fun e w' => e = .returned (.tuple #[.int .i64 ((decN t).getD 0), .bool (decN t).isSome]) ∧ Below w.heap.size w w' := by
  obtain ⟨R, hR⟩ : ∃ R, decN t = R := ⟨_, rfl⟩
  rw [hR]
  unfold decN at hR
  rcases hc : Lib.parseIntB 64 t.data.toList with v | _ | _
  · have hb := Lib.parseIntB_bounds hc
    have h63 : (2 ^ (64 - 1) : Nat) = 9223372036854775808 := by decide
    rw [h63] at hb
    have hf := fun W h => hide (fmt_in v (by omega) (by omega) W h)
    have hp := hide (Any.strconv_ParseInt_10_at64_ok sh174 t (by omega) v hc w)
    rw [hc] at hR
    dsimp only at hR
    clear hb h63 hc
    by_cases he : Lib.itoa v = t.data.toList
    · rw [if_pos he] at hR
      subst hR
      have n1 : ((ofL (Lib.itoa v)).toList == t.toList) = true := by rw [lists_beq, ofL_list, decide_eq_true he]
      have n2 : ((ofL (Lib.itoa v)).toList != t.toList) = false := by rw [bne, n1]; rfl
      have HL := hide hL
      clear he hL
      obtain ⟨x, hx⟩ : ∃ x, ofL (Lib.itoa v) = x := ⟨_, rfl⟩
      rw [hx] at n1 n2 hf
      clear hx
      go_enter Tryd.func47, Tryd.ntmps47
      go_wp2_with fail
      refine (unhide hp).mono ?_
      rintro e W1 ⟨rfl, hW⟩
      have b1 : Below w.heap.size w W1 := by
        rcases hW with rfl | ⟨u, rfl⟩
        · exact Below.refl _ _
        · exact below_bytes _ _ _
      have hP1 := hide ((unhide HL).below b1).2.2.2.1
      have B1 := hide b1
      clear hW b1 hp
      go_wp2_with fail
      refine (unhide (hf W1 (unhide hP1))).mono ?_
      rintro e W2 ⟨rfl, b2⟩
      have B2 := hide ((unhide B1).trans (b2.mono (unhide B1).size))
      clear b2 hf hP1
      go_wp2
      go_ret2
      exact ⟨rfl, unhide B2⟩
    · rw [if_neg he] at hR
      subst hR
      have n1 : ((ofL (Lib.itoa v)).toList == t.toList) = false := by rw [lists_beq, ofL_list, decide_eq_false he]
      have n2 : ((ofL (Lib.itoa v)).toList != t.toList) = true := by rw [bne, n1]; rfl
      have HL := hide hL
      clear he hL
      obtain ⟨x, hx⟩ : ∃ x, ofL (Lib.itoa v) = x := ⟨_, rfl⟩
      rw [hx] at n1 n2 hf
      clear hx
      go_enter Tryd.func47, Tryd.ntmps47
      go_wp2_with fail
      refine (unhide hp).mono ?_
      rintro e W1 ⟨rfl, hW⟩
      have b1 : Below w.heap.size w W1 := by
        rcases hW with rfl | ⟨u, rfl⟩
        · exact Below.refl _ _
        · exact below_bytes _ _ _
      have hP1 := hide ((unhide HL).below b1).2.2.2.1
      have B1 := hide b1
      clear hW b1 hp
      go_wp2_with fail
      refine (unhide (hf W1 (unhide hP1))).mono ?_
      rintro e W2 ⟨rfl, b2⟩
      have B2 := hide ((unhide B1).trans (b2.mono (unhide B1).size))
      clear b2 hf hP1
      go_wp2
      go_ret2
      exact ⟨rfl, unhide B2⟩
  · obtain ⟨tp, pp, e1⟩ := hL.2.1.var
    have e2 := e1
    have hp := hide (Any.strconv_ParseInt_10_at64_syntax_var sh174 t (by omega) hc tp pp w e1)
    rw [hc] at hR
    subst hR
    clear hc e1 e2 hL
    go_enter Tryd.func47, Tryd.ntmps47
    go_wp2_with fail
    refine (unhide hp).mono ?_
    rintro e W1 ⟨N, rfl, _, _, b1⟩
    have B1 := hide b1
    clear b1 hp
    go_wp2
    go_ret2
    exact ⟨rfl, unhide B1⟩
  · obtain ⟨ev, e1, e2⟩ := hL.2.2.1
    have hp := hide (Any.strconv_ParseInt_10_at64_range sh174 t (by omega) hc ev w e1 e2)
    rw [hc] at hR
    subst hR
    clear hc e1 e2 hL
    go_enter Tryd.func47, Tryd.ntmps47
    go_wp2_with fail
    refine (unhide hp).mono ?_
    rintro e W1 ⟨N, rfl, _, _, b1⟩
    have B1 := hide b1
    clear b1 hp
    go_wp2
    go_ret2
    exact ⟨rfl, unhide B1⟩

end Go.Proofs.YticjilkcobpcjaaDoor
