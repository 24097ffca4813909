/-
  The library's contracts of strconv.FormatInt and ParseInt at base 10, laid at this program's numbers.
-/
import Derived.Shelf.Strconv.Itoa4
import Derived.Shelf.Strconv.ParseIntPublic10
import Derived.Test.YtkndjbmlkfpfoaaGreatDoorProg
import Derived.Test.YtkndjbmlkfpfoaaGreatDoorZScToSc3
import Derived.Below
import Derived.Shelf.Strconv.ErrVarParseInt

namespace Go.Proofs.YtkndjbmlkfpfoaaGreatDoor
open Go.Shelf Go.RowKit

set_option maxRecDepth 100000

def sh173_ren : Go.Shelf.Ren := ⟨fun | 129 => 140 | 173 => 97 | 246 => 112 | 283 => 123 | 284 => 124 | 285 => 125 | 286 => 126 | 317 => 139 | 318 => 141 | 319 => 142 | 320 => 143 | 337 => 152 | 338 => 153 | n => n, fun | 0 => 0 | 2 => 2 | 3 => 3 | 4 => 4 | 5 => 5 | 9 => 9 | 20 => 20 | 37 => 38 | 46 => 198 | 51 => 214 | 53 => 179 | 171 => 193 | 173 => 196 | 212 => 213 | 213 => 215 | 232 => 232 | 233 => 233 | n => n, fun | 17 => 0 | 18 => 3 | 19 => 4 | n => n⟩
theorem sh173 : Go.Proofs.LaysM.n173 Tryz.prog sh173_ren := {
  mixed := by kernel_rfl
  f129 := Tryz.func140.trans (congrArg some (by kernel_rfl))
  f173 := Tryz.func97.trans (congrArg some (by kernel_rfl))
  f246 := Tryz.func112.trans (congrArg some (by kernel_rfl))
  f283 := Tryz.func123.trans (congrArg some (by kernel_rfl))
  f284 := Tryz.func124.trans (congrArg some (by kernel_rfl))
  f285 := Tryz.func125.trans (congrArg some (by kernel_rfl))
  f286 := Tryz.func126.trans (congrArg some (by kernel_rfl))
  f317 := Tryz.func139.trans (congrArg some (by kernel_rfl))
  f318 := Tryz.func141.trans (congrArg some (by kernel_rfl))
  f319 := Tryz.func142.trans (congrArg some (by kernel_rfl))
  f320 := Tryz.func143.trans (congrArg some (by kernel_rfl))
  f337 := Tryz.func152.trans (congrArg some (by kernel_rfl))
  f338 := Tryz.func153.trans (congrArg some (by kernel_rfl))
  t0 := Tryz.underlying0
  a0 := Tryz.isAgg0
  z0 := Tryz.sizeOf0
  v0 := Tryz.zeroValue0
  t2 := Tryz.underlying2
  a2 := Tryz.isAgg2
  z2 := Tryz.sizeOf2
  v2 := Tryz.zeroValue2
  t3 := Tryz.underlying3
  a3 := Tryz.isAgg3
  z3 := Tryz.sizeOf3
  v3 := Tryz.zeroValue3
  t4 := Tryz.underlying4
  a4 := Tryz.isAgg4
  z4 := Tryz.sizeOf4
  v4 := Tryz.zeroValue4
  t5 := Tryz.underlying5
  a5 := Tryz.isAgg5
  z5 := Tryz.sizeOf5
  v5 := Tryz.zeroValue5
  t9 := Tryz.underlying9
  a9 := Tryz.isAgg9
  z9 := Tryz.sizeOf9
  v9 := Tryz.zeroValue9
  t20 := Tryz.underlying20
  a20 := Tryz.isAgg20
  z20 := Tryz.sizeOf20
  v20 := Tryz.zeroValue20
  t37 := Tryz.underlying38
  a37 := Tryz.isAgg38
  z37 := Tryz.sizeOf38
  v37 := Tryz.zeroValue38
  t46 := Tryz.underlying198
  a46 := Tryz.isAgg198
  z46 := Tryz.sizeOf198
  v46 := Tryz.zeroValue198
  t51 := Tryz.underlying214
  a51 := Tryz.isAgg214
  z51 := Tryz.sizeOf214
  v51 := Tryz.zeroValue214
  t53 := Tryz.underlying179
  a53 := Tryz.isAgg179
  z53 := Tryz.sizeOf179
  v53 := Tryz.zeroValue179
  t171 := Tryz.underlying193
  a171 := Tryz.isAgg193
  z171 := Tryz.sizeOf193
  v171 := Tryz.zeroValue193
  t173 := Tryz.underlying196
  a173 := Tryz.isAgg196
  z173 := Tryz.sizeOf196
  v173 := Tryz.zeroValue196
  t212 := Tryz.underlying213
  a212 := Tryz.isAgg213
  z212 := Tryz.sizeOf213
  v212 := Tryz.zeroValue213
  t213 := Tryz.underlying215
  a213 := Tryz.isAgg215
  z213 := Tryz.sizeOf215
  t232 := Tryz.underlying232
  a232 := Tryz.isAgg232
  z232 := Tryz.sizeOf232
  v232 := Tryz.zeroValue232
  t233 := Tryz.underlying233
  a233 := Tryz.isAgg233
  z233 := Tryz.sizeOf233
  v233 := Tryz.zeroValue233
  g17 := by kernel_rfl
  g18 := by kernel_rfl
  g19 := by kernel_rfl
  i0 := by kernel_rfl
  i2 := by kernel_rfl
  i3 := by kernel_rfl
  i4 := by kernel_rfl
  i5 := by kernel_rfl
  i9 := by kernel_rfl
  i20 := by kernel_rfl
  i37 := by kernel_rfl
  i46 := by kernel_rfl
  i51 := by kernel_rfl
  i53 := by kernel_rfl
  i171 := by kernel_rfl
  i173 := by kernel_rfl
  i212 := by kernel_rfl
  i232 := by kernel_rfl
  i233 := by kernel_rfl
  m17 := by kernel_rfl
  m18 := by kernel_rfl
  m19 := by kernel_rfl }

def sh174_ren : Go.Shelf.Ren := ⟨fun | 129 => 140 | 171 => 73 | 174 => 103 | 205 => 150 | 243 => 93 | 245 => 117 | 246 => 112 | 247 => 116 | 279 => 132 | 280 => 133 | 281 => 134 | 282 => 135 | 283 => 123 | 284 => 124 | 285 => 125 | 286 => 126 | 287 => 131 | 316 => 149 | 317 => 139 | 318 => 141 | 319 => 142 | 320 => 143 | 321 => 147 | 322 => 148 | 337 => 152 | 338 => 153 | n => n, fun | 0 => 0 | 2 => 2 | 3 => 3 | 4 => 4 | 5 => 5 | 9 => 9 | 20 => 20 | 21 => 21 | 37 => 38 | 46 => 198 | 51 => 214 | 53 => 179 | 75 => 137 | 80 => 91 | 85 => 172 | 127 => 145 | 143 => 229 | 145 => 231 | 167 => 205 | 168 => 208 | 171 => 193 | 173 => 196 | 175 => 206 | 210 => 224 | 212 => 213 | 213 => 215 | 232 => 232 | 233 => 233 | n => n, fun | 15 => 1 | 16 => 2 | 17 => 0 | 18 => 3 | 19 => 4 | n => n⟩
theorem sh174 : Go.Proofs.LaysC.n174 Tryz.prog sh174_ren := {
  mixed := by kernel_rfl
  f129 := Tryz.func140.trans (congrArg some (by kernel_rfl))
  f171 := Tryz.func73.trans (congrArg some (by kernel_rfl))
  f174 := Tryz.func103.trans (congrArg some (by kernel_rfl))
  f205 := Tryz.func150.trans (congrArg some (by kernel_rfl))
  f243 := Tryz.func93.trans (congrArg some (by kernel_rfl))
  f245 := Tryz.func117.trans (congrArg some (by kernel_rfl))
  f246 := Tryz.func112.trans (congrArg some (by kernel_rfl))
  f247 := Tryz.func116.trans (congrArg some (by kernel_rfl))
  f279 := Tryz.func132.trans (congrArg some (by kernel_rfl))
  f280 := Tryz.func133.trans (congrArg some (by kernel_rfl))
  f281 := Tryz.func134.trans (congrArg some (by kernel_rfl))
  f282 := Tryz.func135.trans (congrArg some (by kernel_rfl))
  f283 := Tryz.func123.trans (congrArg some (by kernel_rfl))
  f284 := Tryz.func124.trans (congrArg some (by kernel_rfl))
  f285 := Tryz.func125.trans (congrArg some (by kernel_rfl))
  f286 := Tryz.func126.trans (congrArg some (by kernel_rfl))
  f287 := Tryz.func131.trans (congrArg some (by kernel_rfl))
  f316 := Tryz.func149.trans (congrArg some (by kernel_rfl))
  f317 := Tryz.func139.trans (congrArg some (by kernel_rfl))
  f318 := Tryz.func141.trans (congrArg some (by kernel_rfl))
  f319 := Tryz.func142.trans (congrArg some (by kernel_rfl))
  f320 := Tryz.func143.trans (congrArg some (by kernel_rfl))
  f321 := Tryz.func147.trans (congrArg some (by kernel_rfl))
  f322 := Tryz.func148.trans (congrArg some (by kernel_rfl))
  f337 := Tryz.func152.trans (congrArg some (by kernel_rfl))
  f338 := Tryz.func153.trans (congrArg some (by kernel_rfl))
  t0 := Tryz.underlying0
  a0 := Tryz.isAgg0
  z0 := Tryz.sizeOf0
  v0 := Tryz.zeroValue0
  t2 := Tryz.underlying2
  a2 := Tryz.isAgg2
  z2 := Tryz.sizeOf2
  v2 := Tryz.zeroValue2
  t3 := Tryz.underlying3
  a3 := Tryz.isAgg3
  z3 := Tryz.sizeOf3
  v3 := Tryz.zeroValue3
  t4 := Tryz.underlying4
  a4 := Tryz.isAgg4
  z4 := Tryz.sizeOf4
  v4 := Tryz.zeroValue4
  t5 := Tryz.underlying5
  a5 := Tryz.isAgg5
  z5 := Tryz.sizeOf5
  v5 := Tryz.zeroValue5
  t9 := Tryz.underlying9
  a9 := Tryz.isAgg9
  z9 := Tryz.sizeOf9
  v9 := Tryz.zeroValue9
  t20 := Tryz.underlying20
  a20 := Tryz.isAgg20
  z20 := Tryz.sizeOf20
  v20 := Tryz.zeroValue20
  t21 := Tryz.underlying21
  a21 := Tryz.isAgg21
  z21 := Tryz.sizeOf21
  v21 := Tryz.zeroValue21
  t37 := Tryz.underlying38
  a37 := Tryz.isAgg38
  z37 := Tryz.sizeOf38
  v37 := Tryz.zeroValue38
  t46 := Tryz.underlying198
  a46 := Tryz.isAgg198
  z46 := Tryz.sizeOf198
  v46 := Tryz.zeroValue198
  t51 := Tryz.underlying214
  a51 := Tryz.isAgg214
  z51 := Tryz.sizeOf214
  v51 := Tryz.zeroValue214
  t53 := Tryz.underlying179
  a53 := Tryz.isAgg179
  z53 := Tryz.sizeOf179
  v53 := Tryz.zeroValue179
  t75 := Tryz.underlying137
  a75 := Tryz.isAgg137
  z75 := Tryz.sizeOf137
  v75 := Tryz.zeroValue137
  t85 := Tryz.underlying172
  a85 := Tryz.isAgg172
  z85 := Tryz.sizeOf172
  v85 := Tryz.zeroValue172
  t127 := Tryz.underlying145
  a127 := Tryz.isAgg145
  z127 := Tryz.sizeOf145
  v127 := Tryz.zeroValue145
  t143 := Tryz.underlying229
  a143 := Tryz.isAgg229
  z143 := Tryz.sizeOf229
  v143 := Tryz.zeroValue229
  t145 := Tryz.underlying231
  a145 := Tryz.isAgg231
  z145 := Tryz.sizeOf231
  v145 := Tryz.zeroValue231
  t167 := Tryz.underlying205
  a167 := Tryz.isAgg205
  z167 := Tryz.sizeOf205
  v167 := Tryz.zeroValue205
  t168 := Tryz.underlying208
  a168 := Tryz.isAgg208
  z168 := Tryz.sizeOf208
  v168 := Tryz.zeroValue208
  t171 := Tryz.underlying193
  a171 := Tryz.isAgg193
  z171 := Tryz.sizeOf193
  v171 := Tryz.zeroValue193
  t173 := Tryz.underlying196
  a173 := Tryz.isAgg196
  z173 := Tryz.sizeOf196
  v173 := Tryz.zeroValue196
  t175 := Tryz.underlying206
  a175 := Tryz.isAgg206
  z175 := Tryz.sizeOf206
  v175 := Tryz.zeroValue206
  t210 := Tryz.underlying224
  a210 := Tryz.isAgg224
  z210 := Tryz.sizeOf224
  v210 := Tryz.zeroValue224
  t212 := Tryz.underlying213
  a212 := Tryz.isAgg213
  z212 := Tryz.sizeOf213
  v212 := Tryz.zeroValue213
  t213 := Tryz.underlying215
  a213 := Tryz.isAgg215
  z213 := Tryz.sizeOf215
  t232 := Tryz.underlying232
  a232 := Tryz.isAgg232
  z232 := Tryz.sizeOf232
  v232 := Tryz.zeroValue232
  t233 := Tryz.underlying233
  a233 := Tryz.isAgg233
  z233 := Tryz.sizeOf233
  v233 := Tryz.zeroValue233
  g15 := by kernel_rfl
  g16 := by kernel_rfl
  g17 := by kernel_rfl
  g18 := by kernel_rfl
  g19 := by kernel_rfl
  t80 := Tryz.underlying91
  a80 := Tryz.isAgg91
  z80 := Tryz.sizeOf91
  v80 := Tryz.zeroValue91
  i0 := by kernel_rfl
  i2 := by kernel_rfl
  i3 := by kernel_rfl
  i4 := by kernel_rfl
  i5 := by kernel_rfl
  i9 := by kernel_rfl
  i20 := by kernel_rfl
  i21 := by kernel_rfl
  i37 := by kernel_rfl
  i46 := by kernel_rfl
  i51 := by kernel_rfl
  i53 := by kernel_rfl
  i75 := by kernel_rfl
  i80 := by kernel_rfl
  i85 := by kernel_rfl
  i127 := by kernel_rfl
  i143 := by kernel_rfl
  i145 := by kernel_rfl
  i167 := by kernel_rfl
  i168 := by kernel_rfl
  i171 := by kernel_rfl
  i173 := by kernel_rfl
  i175 := by kernel_rfl
  i210 := by kernel_rfl
  i212 := by kernel_rfl
  i232 := by kernel_rfl
  i233 := by kernel_rfl
  m15 := by kernel_rfl
  m16 := by kernel_rfl
  m17 := by kernel_rfl
  m18 := by kernel_rfl
  m19 := by kernel_rfl
  c0 := by kernel_rfl
  c2 := by kernel_rfl
  c3 := by kernel_rfl
  c4 := by kernel_rfl
  c5 := by kernel_rfl
  c9 := by kernel_rfl
  c20 := by kernel_rfl
  c21 := by kernel_rfl
  c37 := by kernel_rfl
  c46 := by kernel_rfl
  c51 := by kernel_rfl
  c53 := by kernel_rfl
  c75 := by kernel_rfl
  c80 := by kernel_rfl
  c85 := by kernel_rfl
  c127 := by kernel_rfl
  c143 := by kernel_rfl
  c145 := by kernel_rfl
  c167 := by kernel_rfl
  c168 := by kernel_rfl
  c171 := by kernel_rfl
  c173 := by kernel_rfl
  c175 := by kernel_rfl
  c210 := by kernel_rfl
  c212 := by kernel_rfl
  c213 := by kernel_rfl
  c232 := by kernel_rfl
  c233 := by kernel_rfl }

end Go.Proofs.YtkndjbmlkfpfoaaGreatDoor

/-
  The scanner's numbers: the number that a word is, if that is the one form of it.
-/
set_option linter.unusedSimpArgs false
set_option linter.unusedVariables false
namespace Go.Proofs.YtkndjbmlkfpfoaaGreatDoor
open Go.RowKit Go.Lib

theorem below_bytes (w : World) (e : TypeId) (t : ByteArray) : Below w.heap.size w (Lib.bytesWorld w e t) := Lib.bytesWorld_below w e t
theorem below_grow (w : World) (k : Nat) (os : Array Obj) : Below w.heap.size w (Sort.grow (w.drewN k) os) := by
  refine ⟨rfl, rfl, rfl, ?_, fun i hi => ?_⟩
  · show w.heap.size ≤ (w.heap ++ os).size
    rw [Array.size_append]; omega
  · show (w.heap ++ os)[i]? = w.heap[i]?
    rw [Array.getElem?_append_left hi]

/-- a variable that holds an error -/
def ErrAt (g : Nat) (w : World) : Prop := ∃ ev, w.cell? ⟨g, 0, none⟩ = some ev ∧ (ev = .nilIface ∨ ∃ te pe, ev = .iface te pe)
theorem ErrAt.below {g : Nat} {w w' : World} {B : Nat} (h : ErrAt g w) (hb : Below B w w') (hB : g < B) : ErrAt g w' := by
  obtain ⟨ev, h1, h2⟩ := h
  exact ⟨ev, (hb.cell (p := ⟨g, 0, none⟩) hB).trans h1, h2⟩
/-- the variable of the one error, as the shelf's contract asks it -/
def ErrS (w : World) : Prop := ∃ tp p ty lk, w.heap[1]? = some (.cells #[.iface tp p] ty lk)
theorem ErrS.below {w w' : World} {B : Nat} (h : ErrS w) (hb : Below B w w') (hB : 1 < B) : ErrS w' := by
  obtain ⟨tp, p, ty, lk, h⟩ := h
  exact ⟨tp, p, ty, lk, (hb.block _ hB).trans h⟩
theorem gErrS : Tryz.prog.globalNamed "strconv.ErrSyntax" = some 1 := by kernel_rfl
theorem ErrS.var {w : World} (h : ErrS w) : ∃ tp p, w.var? Tryz.prog "strconv.ErrSyntax" = some #[.iface tp p] := by
  obtain ⟨tp, p, ty, lk, h⟩ := h
  refine ⟨tp, p, ?_⟩
  unfold World.var?
  rw [gErrS]
  simp only [Option.bind_some, h]
/-- the table of the powers of ten -/
def Pow (w : World) : Prop := ∃ ty lk, w.heap[0]? = some (.cells (Lib.pow10Tab.map fun z => Value.int .u64 z).toArray ty lk)
theorem Pow.below {w w' : World} {B : Nat} (h : Pow w) (hb : Below B w w') (hB : 0 < B) : Pow w' := by
  obtain ⟨ty, lk, h⟩ := h
  exact ⟨ty, lk, (hb.block _ hB).trans h⟩
/-- all that the scanner asks of the library's variables -/
def Lw (w : World) : Prop := Tab w ∧ ErrS w ∧ ErrAt 2 w ∧ Pow w ∧ 4 < w.heap.size ∧ 1 < w.heap.size ∧ 2 < w.heap.size ∧ 0 < w.heap.size
theorem Lw.below {w w' : World} (h : Lw w) (hb : Below w.heap.size w w') : Lw w' := by
  obtain ⟨h1, h2, h3, h4, g1, g2, g3, g4⟩ := h
  have := hb.size
  exact ⟨h1.below hb g1, h2.below hb g2, h3.below hb g3, h4.below hb g4, by omega, by omega, by omega, by omega⟩

theorem fmt_in (n : Int) (h0 : -9223372036854775808 ≤ n) (h1 : n ≤ 9223372036854775807) (w : World) (hP : Pow w) :
    Calls Tryz.prog 97 #[.int .i64 n, .int .i64 10] w fun e w' => e = .returned (.string (ofL (Lib.itoa n))) ∧ Below w.heap.size w w' := by
  obtain ⟨ty, lk, hP⟩ := hP
  refine (Any.strconv_FormatInt_10 sh173 n h0 h1 w ?_).mono ?_
  · unfold Lib.TabIs World.var?
    rw [sh173.m17]
    show (match w.heap[0]? with | some (.cells cs _ _) => some cs | _ => none) = _
    rw [hP]
  · rintro e w' ⟨rfl, k, os, rfl⟩
    exact ⟨rfl, below_grow w k os⟩

/-- the number that a word is -/
def decN (t : ByteArray) : Option Int := match Lib.parseIntB 64 t.data.toList with
  | .ok v => if Lib.itoa v = t.data.toList then some v else none
  | _ => none

theorem lists_beq (x y : ByteArray) : (x.toList == y.toList) = decide (x.data.toList = y.data.toList) := by
  rw [ByteArray.toList_eq, ByteArray.toList_eq, Bool.eq_iff_iff, beq_iff_eq, decide_eq_true_eq]

set_option maxRecDepth 100000 in
set_option maxHeartbeats 2000000 in
theorem decimal_in (t : ByteArray) (ht : t.size ≤ 1000000000) (w : World) (hL : Lw w) :
    Calls Tryz.prog 84 #[.string t] w fun e w' => e = .returned (.tuple #[.int .i64 ((decN t).getD 0), .bool (decN t).isSome]) ∧ Below w.heap.size w w' := by
  obtain ⟨R, hR⟩ : ∃ R, decN t = R := ⟨_, rfl⟩
  rw [hR]
  unfold decN at hR
  rcases hc : Lib.parseIntB 64 t.data.toList with v | _ | _
  · have hb := Lib.parseIntB_bounds hc
    have h63 : (2 ^ (64 - 1) : Nat) = 9223372036854775808 := by decide
    rw [h63] at hb
    have hf := fun W h => hide (fmt_in v (by omega) (by omega) W h)
    have hp := hide (Any.strconv_ParseInt_10_at64_ok sh174 t (by omega) v hc w)
    rw [hc] at hR
    dsimp only at hR
    clear hb h63 hc
    by_cases he : Lib.itoa v = t.data.toList
    · rw [if_pos he] at hR
      subst hR
      have n1 : ((ofL (Lib.itoa v)).toList == t.toList) = true := by rw [lists_beq, ofL_list, decide_eq_true he]
      have n2 : ((ofL (Lib.itoa v)).toList != t.toList) = false := by rw [bne, n1]; rfl
      have HL := hide hL
      clear he hL
      obtain ⟨x, hx⟩ : ∃ x, ofL (Lib.itoa v) = x := ⟨_, rfl⟩
      rw [hx] at n1 n2 hf
      clear hx
      go_enter Tryz.func84, Tryz.ntmps84
      go_wp2_with fail
      refine (unhide hp).mono ?_
      rintro e W1 ⟨rfl, hW⟩
      have b1 : Below w.heap.size w W1 := by
        rcases hW with rfl | ⟨u, rfl⟩
        · exact Below.refl _ _
        · exact below_bytes _ _ _
      have hP1 := hide ((unhide HL).below b1).2.2.2.1
      have B1 := hide b1
      clear hW b1 hp
      go_wp2_with fail
      refine (unhide (hf W1 (unhide hP1))).mono ?_
      rintro e W2 ⟨rfl, b2⟩
      have B2 := hide ((unhide B1).trans (b2.mono (unhide B1).size))
      clear b2 hf hP1
      go_wp2
      go_ret2
      exact ⟨rfl, unhide B2⟩
    · rw [if_neg he] at hR
      subst hR
      have n1 : ((ofL (Lib.itoa v)).toList == t.toList) = false := by rw [lists_beq, ofL_list, decide_eq_false he]
      have n2 : ((ofL (Lib.itoa v)).toList != t.toList) = true := by rw [bne, n1]; rfl
      have HL := hide hL
      clear he hL
      obtain ⟨x, hx⟩ : ∃ x, ofL (Lib.itoa v) = x := ⟨_, rfl⟩
      rw [hx] at n1 n2 hf
      clear hx
      go_enter Tryz.func84, Tryz.ntmps84
      go_wp2_with fail
      refine (unhide hp).mono ?_
      rintro e W1 ⟨rfl, hW⟩
      have b1 : Below w.heap.size w W1 := by
        rcases hW with rfl | ⟨u, rfl⟩
        · exact Below.refl _ _
        · exact below_bytes _ _ _
      have hP1 := hide ((unhide HL).below b1).2.2.2.1
      have B1 := hide b1
      clear hW b1 hp
      go_wp2_with fail
      refine (unhide (hf W1 (unhide hP1))).mono ?_
      rintro e W2 ⟨rfl, b2⟩
      have B2 := hide ((unhide B1).trans (b2.mono (unhide B1).size))
      clear b2 hf hP1
      go_wp2
      go_ret2
      exact ⟨rfl, unhide B2⟩
  · obtain ⟨tp, pp, e1⟩ := hL.2.1.var
    have e2 := e1
    have hp := hide (Any.strconv_ParseInt_10_at64_syntax_var sh174 t (by omega) hc tp pp w e1)
    rw [hc] at hR
    subst hR
    clear hc e1 e2 hL
    go_enter Tryz.func84, Tryz.ntmps84
    go_wp2_with fail
    refine (unhide hp).mono ?_
    rintro e W1 ⟨N, rfl, _, _, b1⟩
    have B1 := hide b1
    clear b1 hp
    go_wp2
    go_ret2
    exact ⟨rfl, unhide B1⟩
  · obtain ⟨ev, e1, e2⟩ := hL.2.2.1
    have hp := hide (Any.strconv_ParseInt_10_at64_range sh174 t (by omega) hc ev w e1 e2)
    rw [hc] at hR
    subst hR
    clear hc e1 e2 hL
    go_enter Tryz.func84, Tryz.ntmps84
    go_wp2_with fail
    refine (unhide hp).mono ?_
    rintro e W1 ⟨N, rfl, _, _, b1⟩
    have B1 := hide b1
    clear b1 hp
    go_wp2
    go_ret2
    exact ⟨rfl, unhide B1⟩

end Go.Proofs.YtkndjbmlkfpfoaaGreatDoor
