/-
  The library's contract of strconv.Itoa, laid at this program's numbers.
-/
import Derived.Shelf.Strconv.Itoa4
import Derived.Test.YtkndjbmlkfpfoaaGreatDoorProg
import Derived.Test.YtkndjbmlkfpfoaaGreatDoorZWwToTA
import Derived.Test.YtkndjbmlkfpfoaaGreatDoorZSc5

namespace Go.Proofs.YtkndjbmlkfpfoaaGreatDoor
open Go.Shelf Go.RowKit

set_option maxRecDepth 100000

def sh171_ren : Go.Shelf.Ren := ⟨fun | 129 => 140 | 171 => 73 | 243 => 93 | 246 => 112 | 283 => 123 | 284 => 124 | 285 => 125 | 286 => 126 | 317 => 139 | 318 => 141 | 319 => 142 | 320 => 143 | 337 => 152 | 338 => 153 | n => n, fun | 0 => 0 | 2 => 2 | 3 => 3 | 4 => 4 | 5 => 5 | 9 => 9 | 20 => 20 | 37 => 38 | 46 => 198 | 51 => 214 | 53 => 179 | 171 => 193 | 173 => 196 | 212 => 213 | 213 => 215 | 232 => 232 | 233 => 233 | n => n, fun | 17 => 0 | 18 => 3 | 19 => 4 | n => n⟩
theorem sh171 : Go.Proofs.LaysM.n171 Tryz.prog sh171_ren := {
  mixed := by kernel_rfl
  f129 := Tryz.func140.trans (congrArg some (by kernel_rfl))
  f171 := Tryz.func73.trans (congrArg some (by kernel_rfl))
  f243 := Tryz.func93.trans (congrArg some (by kernel_rfl))
  f246 := Tryz.func112.trans (congrArg some (by kernel_rfl))
  f283 := Tryz.func123.trans (congrArg some (by kernel_rfl))
  f284 := Tryz.func124.trans (congrArg some (by kernel_rfl))
  f285 := Tryz.func125.trans (congrArg some (by kernel_rfl))
  f286 := Tryz.func126.trans (congrArg some (by kernel_rfl))
  f317 := Tryz.func139.trans (congrArg some (by kernel_rfl))
  f318 := Tryz.func141.trans (congrArg some (by kernel_rfl))
  f319 := Tryz.func142.trans (congrArg some (by kernel_rfl))
  f320 := Tryz.func143.trans (congrArg some (by kernel_rfl))
  f337 := Tryz.func152.trans (congrArg some (by kernel_rfl))
  f338 := Tryz.func153.trans (congrArg some (by kernel_rfl))
  t0 := Tryz.underlying0
  a0 := Tryz.isAgg0
  z0 := Tryz.sizeOf0
  v0 := Tryz.zeroValue0
  t2 := Tryz.underlying2
  a2 := Tryz.isAgg2
  z2 := Tryz.sizeOf2
  v2 := Tryz.zeroValue2
  t3 := Tryz.underlying3
  a3 := Tryz.isAgg3
  z3 := Tryz.sizeOf3
  v3 := Tryz.zeroValue3
  t4 := Tryz.underlying4
  a4 := Tryz.isAgg4
  z4 := Tryz.sizeOf4
  v4 := Tryz.zeroValue4
  t5 := Tryz.underlying5
  a5 := Tryz.isAgg5
  z5 := Tryz.sizeOf5
  v5 := Tryz.zeroValue5
  t9 := Tryz.underlying9
  a9 := Tryz.isAgg9
  z9 := Tryz.sizeOf9
  v9 := Tryz.zeroValue9
  t20 := Tryz.underlying20
  a20 := Tryz.isAgg20
  z20 := Tryz.sizeOf20
  v20 := Tryz.zeroValue20
  t37 := Tryz.underlying38
  a37 := Tryz.isAgg38
  z37 := Tryz.sizeOf38
  v37 := Tryz.zeroValue38
  t46 := Tryz.underlying198
  a46 := Tryz.isAgg198
  z46 := Tryz.sizeOf198
  v46 := Tryz.zeroValue198
  t51 := Tryz.underlying214
  a51 := Tryz.isAgg214
  z51 := Tryz.sizeOf214
  v51 := Tryz.zeroValue214
  t53 := Tryz.underlying179
  a53 := Tryz.isAgg179
  z53 := Tryz.sizeOf179
  v53 := Tryz.zeroValue179
  t171 := Tryz.underlying193
  a171 := Tryz.isAgg193
  z171 := Tryz.sizeOf193
  v171 := Tryz.zeroValue193
  t173 := Tryz.underlying196
  a173 := Tryz.isAgg196
  z173 := Tryz.sizeOf196
  v173 := Tryz.zeroValue196
  t212 := Tryz.underlying213
  a212 := Tryz.isAgg213
  z212 := Tryz.sizeOf213
  v212 := Tryz.zeroValue213
  t213 := Tryz.underlying215
  a213 := Tryz.isAgg215
  z213 := Tryz.sizeOf215
  t232 := Tryz.underlying232
  a232 := Tryz.isAgg232
  z232 := Tryz.sizeOf232
  v232 := Tryz.zeroValue232
  t233 := Tryz.underlying233
  a233 := Tryz.isAgg233
  z233 := Tryz.sizeOf233
  v233 := Tryz.zeroValue233
  g17 := by kernel_rfl
  g18 := by kernel_rfl
  g19 := by kernel_rfl
  i0 := by kernel_rfl
  i2 := by kernel_rfl
  i3 := by kernel_rfl
  i4 := by kernel_rfl
  i5 := by kernel_rfl
  i9 := by kernel_rfl
  i20 := by kernel_rfl
  i37 := by kernel_rfl
  i46 := by kernel_rfl
  i51 := by kernel_rfl
  i53 := by kernel_rfl
  i171 := by kernel_rfl
  i173 := by kernel_rfl
  i212 := by kernel_rfl
  i232 := by kernel_rfl
  i233 := by kernel_rfl
  m17 := by kernel_rfl
  m18 := by kernel_rfl
  m19 := by kernel_rfl }

end Go.Proofs.YtkndjbmlkfpfoaaGreatDoor

/-
  What script.numbers, named, when, quoted and dots answer.
-/
set_option linter.unusedSimpArgs false
set_option linter.unusedVariables false
namespace Go.Proofs.YtkndjbmlkfpfoaaGreatDoor
open Go.RowKit Go.Lib

/-- rows of numbers, of Dots -/
def enN (n : Int) : List Value := [.int .i64 n]
def enD (d : Int × Int) : List Value := [.int .i64 d.1, .int .i64 d.2]
def RNm (W : World) (v : Value) (l : List Int) : Prop := RC W v l.length (flat enN l)
def RDt (W : World) (v : Value) (l : List (Int × Int)) : Prop := RC W v l.length (flat enD l)
theorem RNm.at {W : World} {a : Option Addr} {n c : Nat} {l : List Int} (h : RNm W (.slice a n c) l) {i : Nat} {x : Int} (hi : l[i]? = some x) : ∃ b off, a = some ⟨b, off, none⟩ ∧ b < W.heap.size ∧ W.cell? ⟨b, off + i, none⟩ = some (.int .i64 x) := by
  rcases h with ⟨h0, _⟩ | ⟨b, off, cap, e, hn, hlt, hc⟩
  · have := (List.getElem?_eq_some_iff.1 hi).1; omega
  · simp at e
    exact ⟨b, off, e.1, hlt, hc i _ (by have := flat_get (enc := enN) (k := 1) (fun _ => rfl) l i 0 x hi (by omega); rw [Nat.mul_one, Nat.add_zero] at this; rw [this]; rfl)⟩
theorem RDt.at {W : World} {a : Option Addr} {n c : Nat} {l : List (Int × Int)} (h : RDt W (.slice a n c) l) {i : Nat} {x : Int × Int} (hi : l[i]? = some x) : ∃ b off, a = some ⟨b, off, none⟩ ∧ b < W.heap.size ∧ W.cell? ⟨b, off + i * 2, none⟩ = some (.int .i64 x.1) ∧ W.cell? ⟨b, off + i * 2 + 1, none⟩ = some (.int .i64 x.2) := by
  rcases h with ⟨h0, _⟩ | ⟨b, off, cap, e, hn, hlt, hc⟩
  · have := (List.getElem?_eq_some_iff.1 hi).1; omega
  · simp at e
    refine ⟨b, off, e.1, hlt, ?_, ?_⟩
    · exact hc _ _ ((flat_get (enc := enD) (k := 2) (fun _ => rfl) l i 0 x hi (by omega)).trans rfl)
    · rw [Nat.add_assoc]; exact hc _ _ ((flat_get (enc := enD) (k := 2) (fun _ => rfl) l i 1 x hi (by omega)).trans rfl)

theorem Itoa_in (n : Int) (h : in64 n) (w : World) (hL : Lw w) : Calls Tryz.prog 73 #[.int .i64 n] w fun e W => e = .returned (.string (ofL (itoa n))) ∧ Below w.heap.size w W := by
  obtain ⟨ty, lk, hP⟩ := hL.2.2.2.1
  refine (Any.strconv_Itoa sh171 n h.1 h.2 w ?_).mono ?_
  · unfold Lib.TabIs World.var?
    rw [sh171.m17]
    show (match w.heap[0]? with | some (.cells cs _ _) => some cs | _ => none) = _
    rw [hP]
  · rintro e w' ⟨rfl, k, os, rfl⟩
    exact ⟨rfl, below_grow w k os⟩

/-- what a call that makes a row of words answers -/
def MkT (w : World) (l : List (List UInt8)) (e : Ending) (W : World) : Prop := ∃ u, e = .returned u ∧ OT W w.heap.size u l ∧ Below w.heap.size w W

set_option maxRecDepth 100000 in
set_option maxHeartbeats 2000000 in
theorem numbers_in (l : List Int) (v : Value) (w : World) (h : RNm w v l) (hl : l.length ≤ 1000000) (hi : ∀ x ∈ l, in64 x) (hL : Lw w) :
    Calls Tryz.prog 34 #[v] w (MkT w (l.map itoa)) := by
  obtain ⟨a0, c0, rfl⟩ := h.form
  obtain ⟨L, hLn⟩ : ∃ L, l.length = L := ⟨_, rfl⟩
  have hat := fun i x hx => RNm.at h (i := i) (x := x) hx
  rw [hLn] at hl ⊢
  have HAT := hide hat
  have HLn := hide hLn
  have HI := hide hi
  have HL := hide hL
  clear hat hLn h hi hL
  go_enter Tryz.func34, Tryz.ntmps34
  go_wp2_with fail
  go_loopw [3, 5, 8] (fun v3 v5 v8 wr => ∃ (j c : Nat) (a : Option Addr), v8 = .int .i64 (j : Int) ∧ v3 = .slice a j c ∧ j ≤ L ∧ Hid (OT wr w.heap.size (.slice a j c) ((l.take j).map itoa) ∧ Below w.heap.size w wr)) (fun _ _ v8 _ => L - (RowKit.intOf v8).toNat)
  case atStart => exact ⟨0, 0, none, rfl, rfl, Nat.zero_le _, hide ⟨OT.nil _ _, Below.refl _ _⟩⟩
  case round =>
    obtain ⟨j, c, a, rfl, rfl, hj, H⟩ := hrel
    by_cases hjl : j < L
    · obtain ⟨x, hx⟩ : ∃ x, l[j]? = some x := ⟨_, List.getElem?_eq_getElem (by rw [unhide HLn]; exact hjl)⟩
      obtain ⟨b, off, rfl, hblt, hcell⟩ := unhide HAT j x hx
      have hc2 := cell_below hcell (unhide H).2
      have k1 : (j : Int) < (L : Int) := by omega
      have k2 : (0 : Int) ≤ (j : Int) := by omega
      have hit := hide (Itoa_in x (unhide HI x (List.mem_of_getElem? hx)) wr ((unhide HL).below (unhide H).2))
      have HX := hide hx
      clear hcell hx
      go_wp2_with fail
      refine (unhide hit).mono ?_
      rintro e W2 ⟨rfl, hb2⟩
      have hb3 := bnext (unhide H).2 hb2
      have ho3 := (unhide H).1.below hb2
      have hb4 := ballc hb3 (.cells #[.string (ofL (itoa x))] 9)
      have ho4 := ho3.below (ballc (Below.refl _ W2) (.cells #[.string (ofL (itoa x))] 9))
      have hbx := Bq.new W2 9 #[.string (ofL (itoa x))]
      obtain ⟨v', w', q1, q2, q3, q4⟩ := append_txt (W2.alloc (.cells #[.string (ofL (itoa x))] 9)) 96 w.heap.size (.slice a j c) ((l.take j).map itoa) (itoa x) W2.heap.size ho4 hbx hb4.size (by simp; omega)
      obtain ⟨a', c', e'⟩ := owns_form q2
      have e2 : (l.take j).map itoa ++ [itoa x] = (l.take (j + 1)).map itoa := by rw [List.take_add_one, unhide HX]; simp
      have e3 : ((l.take (j + 1)).map itoa).length = j + 1 := by simp; have := unhide HLn; omega
      rw [e2] at q2 e'
      rw [e3] at e'
      subst e'
      have HN := hide (show OT w' w.heap.size (.slice a' (j + 1) c') ((l.take (j + 1)).map itoa) ∧ Below w.heap.size w w' from ⟨q2, (Kp.of_grown (N := fun k => w.heap.size ≤ k) q3 (fun k hk => (World.ownsRow.lt ho4 k hk).1)).below hb4 (fun i hi => hi)⟩)
      have HA := hide q1
      clear q1 q2 q3 q4 e2 e3 hb3 ho3 hb4 ho4 hbx hb2 hit H HX
      go_wp2_with (at_builtin; refine wpList_append_eq rfl _ _ 96 96 rfl _ _ _ _ rfl rfl (unhide HA) ?_)
      go_roundw
      case rel => exact ⟨j + 1, c', a', by go_num, rfl, by omega, HN⟩
      case measure => simp [RowKit.intOf]; omega
    · obtain rfl : j = L := by omega
      have k1 : decide ((j : Int) < (j : Int)) = false := by simp
      have e1 : l.take j = l := List.take_of_length_le (by rw [unhide HLn]; exact Nat.le_refl _)
      rw [e1] at H
      go_wp2
      go_ret
      exact ⟨_, rfl, (unhide H).1, (unhide H).2⟩
end Go.Proofs.YtkndjbmlkfpfoaaGreatDoor
