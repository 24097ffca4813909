/-
  The scanner's quoted word.
-/
import Derived.Test.YtkndjbmlkfpfoaaGreatDoorZEsToSc
import Derived.Shelf.Strconv.Itoa4
import Derived.Shelf.Strconv.ParseIntPublic10
import Derived.Test.YtkndjbmlkfpfoaaGreatDoorProg
import Derived.Below
import Derived.Shelf.Strconv.ErrVarParseInt

set_option linter.unusedSimpArgs false
set_option linter.unusedVariables false
namespace Go.Proofs.YtkndjbmlkfpfoaaGreatDoor
open Go.RowKit Go.Lib

/-- a word as a value -/
def wV (k : Nat) (t : ByteArray) (n : Int) (at' line : Nat) : Value := .agg #[.int .i64 (k : Int), .string t, .int .i64 n, .int .i64 (at' : Int), .int .i64 (line : Int)]

/-- what a word is: kind, text, number, place; the byte behind it; the error -/
structure Wd where
  k : Nat
  t : ByteArray
  n : Int
  a : Nat
  nx : Nat
  e : Nat
def Wd.v (x : Wd) (line : Nat) : Value := wV x.k x.t x.n x.a line
def Wd.tup (x : Wd) : Value := .tuple #[x.v 0, .int .i64 (x.nx : Int), .int .i64 (x.e : Int)]

def qdW (s : ByteArray) (b : Nat) : Wd :=
  if (rdE s (b + 1)).2.2 = true ∧ ((rdE s (b + 1)).2.1 < s.size → isWe (by_ s (rdE s (b + 1)).2.1) = true)
  then ⟨2, ofL (rdE s (b + 1)).1, 0, b, (rdE s (b + 1)).2.1, 0⟩ else ⟨0, ⟨#[]⟩, 0, (rdE s (b + 1)).2.1, 0, 18⟩

set_option maxRecDepth 100000 in
set_option maxHeartbeats 4000000 in
theorem quotedWord_in (s : ByteArray) (hs : s.size ≤ 1000000000) (b : Nat) (hb : b < s.size) (w : World) :
    Calls Tryz.prog 58 #[.string s, .int .i64 (b : Int)] w fun e w' => e = .returned (qdW s b).tup ∧ Below w.heap.size w w' := by
  have hrd := fun W => hide (read_in s hs b hb W)
  have hbd := (rdA_bounds s _ (b + 1) [] (Nat.le_refl _) (by omega)).1
  rw [← rdA_zero] at hbd
  have e1 : (w.alloc (.cells #[.int .i64 0, .string ⟨#[]⟩, .int .i64 0, .int .i64 0, .int .i64 0] 73)).heap.size = w.heap.size + 1 := by simp
  have X0 := hide (Box5.new w (.int .i64 0) (.string ⟨#[]⟩) (.int .i64 0) (.int .i64 0) (.int .i64 0))
  have B0 := hide ((Below.refl w.heap.size w).alloc (Nat.le_refl _) (.cells #[.int .i64 0, .string ⟨#[]⟩, .int .i64 0, .int .i64 0, .int .i64 0] 73))
  obtain ⟨X, hX⟩ : ∃ X, qdW s b = X := ⟨_, rfl⟩
  rw [hX]
  unfold qdW at hX
  obtain ⟨A, hA⟩ : ∃ A, rdE s (b + 1) = A := ⟨_, rfl⟩
  rw [hA] at hrd hX hbd
  obtain ⟨x, n, ok⟩ := A
  clear hA
  dsimp only at hrd hX hbd
  have fin : ∀ V : World, Box5 V w.heap.size → Below w.heap.size w V → True := fun _ _ _ => trivial
  cases ok with
  | false =>
    rw [if_neg (by simp)] at hX
    have HX := hide hX
    clear hX fin
    go_enter Tryz.func58, Tryz.ntmps58
    go_wp2_with fail
    obtain ⟨W0, hW0⟩ : ∃ W0, w.alloc (.cells #[.int .i64 0, .string ⟨#[]⟩, .int .i64 0, .int .i64 0, .int .i64 0] 73) = W0 := ⟨_, rfl⟩
    rw [hW0] at e1 X0 B0 ⊢
    clear hW0
    refine (unhide (hrd W0)).mono ?_
    rintro e V ⟨rfl, bv⟩
    have X1 := (unhide X0).below bv (by omega)
    have B1 := hide ((unhide B0).trans (bv.mono (by omega)))
    obtain ⟨⟨v0, q0⟩, ⟨v1, q1⟩, ⟨v2, q2⟩, ⟨v3, q3⟩, ⟨v4, q4⟩, f0, f1, f2, f3, f4⟩ := X1.facts
    clear X1 X0 B0 bv hrd
    go_wp2
    refine bodyPost_ret (v := .tuple #[wV 0 ⟨#[]⟩ 0 n 0, .int .i64 0, .int .i64 18]) ?_ rfl ⟨by rw [← unhide HX]; rfl, ?_⟩
    · simp [results, Tryz.f58, go_sem, wV, *]
    · exact (((((unhide B1).setCell (Nat.le_refl _) _).setCell (Nat.le_refl _) _).setCell (Nat.le_refl _) _).setCell (Nat.le_refl _) _).setCell (Nat.le_refl _) _
  | true =>
    by_cases hlt : n < s.size
    · have gi := by_get s n hlt
      have hew := fun W => hide (endsWord_in (by_ s n) W)
      have k1 : (n : Int) < (s.size : Int) := by omega
      have k2 : (0 : Int) ≤ (n : Int) := by omega
      cases hwe : isWe (by_ s n) with
      | false =>
        rw [hwe] at hew
        rw [if_neg (by rw [hwe]; intro h; have := h.2 hlt; simp at this)] at hX
        have HX := hide hX
        clear hX fin hwe
        go_enter Tryz.func58, Tryz.ntmps58
        go_wp2_with fail
        obtain ⟨W0, hW0⟩ : ∃ W0, w.alloc (.cells #[.int .i64 0, .string ⟨#[]⟩, .int .i64 0, .int .i64 0, .int .i64 0] 73) = W0 := ⟨_, rfl⟩
        rw [hW0] at e1 X0 B0 ⊢
        clear hW0
        refine (unhide (hrd W0)).mono ?_
        rintro e V ⟨rfl, bv⟩
        have X1 := (unhide X0).below bv (by omega)
        have B1 := hide ((unhide B0).trans (bv.mono (by omega)))
        obtain ⟨⟨v0, q0⟩, ⟨v1, q1⟩, ⟨v2, q2⟩, ⟨v3, q3⟩, ⟨v4, q4⟩, f0, f1, f2, f3, f4⟩ := X1.facts
        clear X1 X0 B0 bv hrd
        go_wp2_with fail
        refine (unhide (hew _)).mono ?_
        rintro e V' ⟨rfl, rfl⟩
        go_wp2
        refine bodyPost_ret (v := .tuple #[wV 0 ⟨#[]⟩ 0 n 0, .int .i64 0, .int .i64 18]) ?_ rfl ⟨by rw [← unhide HX]; rfl, ?_⟩
        · simp [results, Tryz.f58, go_sem, wV, *]
        · exact (((((unhide B1).setCell (Nat.le_refl _) _).setCell (Nat.le_refl _) _).setCell (Nat.le_refl _) _).setCell (Nat.le_refl _) _).setCell (Nat.le_refl _) _
      | true =>
        rw [hwe] at hew
        rw [if_pos ⟨rfl, fun _ => hwe⟩] at hX
        have HX := hide hX
        clear hX fin hwe
        go_enter Tryz.func58, Tryz.ntmps58
        go_wp2_with fail
        obtain ⟨W0, hW0⟩ : ∃ W0, w.alloc (.cells #[.int .i64 0, .string ⟨#[]⟩, .int .i64 0, .int .i64 0, .int .i64 0] 73) = W0 := ⟨_, rfl⟩
        rw [hW0] at e1 X0 B0 ⊢
        clear hW0
        refine (unhide (hrd W0)).mono ?_
        rintro e V ⟨rfl, bv⟩
        have X1 := (unhide X0).below bv (by omega)
        have B1 := hide ((unhide B0).trans (bv.mono (by omega)))
        obtain ⟨⟨v0, q0⟩, ⟨v1, q1⟩, ⟨v2, q2⟩, ⟨v3, q3⟩, ⟨v4, q4⟩, f0, f1, f2, f3, f4⟩ := X1.facts
        clear X1 X0 B0 bv hrd
        go_wp2_with fail
        refine (unhide (hew _)).mono ?_
        rintro e V' ⟨rfl, rfl⟩
        go_wp2
        refine bodyPost_ret (v := .tuple #[wV 2 (ofL x) 0 b 0, .int .i64 n, .int .i64 0]) ?_ rfl ⟨by rw [← unhide HX]; rfl, ?_⟩
        · simp [results, Tryz.f58, go_sem, wV, *]
        · exact (((((unhide B1).setCell (Nat.le_refl _) _).setCell (Nat.le_refl _) _).setCell (Nat.le_refl _) _).setCell (Nat.le_refl _) _).setCell (Nat.le_refl _) _
    · have k1 : ¬ (n : Int) < (s.size : Int) := by omega
      rw [if_pos ⟨rfl, fun h => absurd h hlt⟩] at hX
      have HX := hide hX
      clear hX fin
      go_enter Tryz.func58, Tryz.ntmps58
      go_wp2_with fail
      obtain ⟨W0, hW0⟩ : ∃ W0, w.alloc (.cells #[.int .i64 0, .string ⟨#[]⟩, .int .i64 0, .int .i64 0, .int .i64 0] 73) = W0 := ⟨_, rfl⟩
      rw [hW0] at e1 X0 B0 ⊢
      clear hW0
      refine (unhide (hrd W0)).mono ?_
      rintro e V ⟨rfl, bv⟩
      have X1 := (unhide X0).below bv (by omega)
      have B1 := hide ((unhide B0).trans (bv.mono (by omega)))
      obtain ⟨⟨v0, q0⟩, ⟨v1, q1⟩, ⟨v2, q2⟩, ⟨v3, q3⟩, ⟨v4, q4⟩, f0, f1, f2, f3, f4⟩ := X1.facts
      clear X1 X0 B0 bv hrd
      go_wp2
      refine bodyPost_ret (v := .tuple #[wV 2 (ofL x) 0 b 0, .int .i64 n, .int .i64 0]) ?_ rfl ⟨by rw [← unhide HX]; rfl, ?_⟩
      · simp [results, Tryz.f58, go_sem, wV, *]
      · exact (((((unhide B1).setCell (Nat.le_refl _) _).setCell (Nat.le_refl _) _).setCell (Nat.le_refl _) _).setCell (Nat.le_refl _) _).setCell (Nat.le_refl _) _

end Go.Proofs.YtkndjbmlkfpfoaaGreatDoor

/-
  The scanner's numbers: does a word begin like one?
-/
set_option linter.unusedSimpArgs false
set_option linter.unusedVariables false
namespace Go.Proofs.YtkndjbmlkfpfoaaGreatDoor
open Go.RowKit Go.Lib

/-- where a word's digits begin -/
def dgA (t : ByteArray) : Nat := if 0 < t.size ∧ by_ t 0 = 45 then 1 else 0
/-- does a word have to be a number? -/
def bgN (t : ByteArray) : Bool := decide (dgA t < t.size ∧ 48 ≤ by_ t (dgA t) ∧ by_ t (dgA t) ≤ 57)

theorem trim_dash (t : ByteArray) : (⟨(Lib.trimPrefix t.data.toList [45]).toArray⟩ : ByteArray) = t.extract (dgA t) t.size := by
  have h1 := pre_one t 45
  have e : (t.extract (dgA t) t.size) = ofL (t.data.toList.drop (dgA t)) := (ofL_drop t (dgA t)).symm
  rw [e]
  unfold Lib.trimPrefix dgA
  rw [h1]
  by_cases h : 0 < t.size ∧ by_ t 0 = 45
  · rw [if_pos h, if_pos (by rw [decide_eq_true_eq]; exact h)]; rfl
  · rw [if_neg h, if_neg (by rw [decide_eq_true_eq]; exact h)]; simp [ofL]

set_option maxRecDepth 100000 in
set_option maxHeartbeats 1000000 in
theorem beginsNumber_in (t : ByteArray) (ht : t.size ≤ 1000000000) (w : World) :
    Calls Tryz.prog 83 #[.string t] w fun e w' => e = .returned (.bool (bgN t)) ∧ w = w' := by
  have hp := fun W => trimPrefix_q t ⟨#[45]⟩ W
  rw [show (⟨#[45]⟩ : ByteArray).data.toList = [45] from rfl, trim_dash] at hp
  have hp := fun W => hide (hp W)
  have hz := size_ext t (dgA t) t.size (Nat.le_refl _)
  obtain ⟨R, hR⟩ : ∃ R, bgN t = R := ⟨_, rfl⟩
  rw [hR]
  unfold bgN at hR
  obtain ⟨a, ha⟩ : ∃ a, dgA t = a := ⟨_, rfl⟩
  rw [ha] at hp hz hR
  obtain ⟨d, hd⟩ : ∃ d, t.extract a t.size = d := ⟨_, rfl⟩
  have hby : a < t.size → by_ d 0 = by_ t a := fun h => by rw [← hd, by_ext t a t.size 0 (Nat.le_refl _) (by omega)]; rfl
  rw [hd] at hp hz
  clear ha hd
  by_cases h0 : a < t.size
  · have hds : 0 < d.size := by omega
    have hgi := by_get d 0 hds
    rw [hby h0] at hgi
    have n1 : (d.toList == []) = false := by
      rw [beq_eq_false_iff_ne, ByteArray.toList_eq]
      intro e
      have := congrArg List.length e
      have h2 : d.data.toList.length = d.size := by rw [Array.length_toList]; rfl
      rw [h2, List.length_nil] at this
      omega
    have n2 : d.toList.isEmpty = false := by
      cases hl : d.toList with
      | nil => rw [hl] at n1; simp at n1
      | cons x l => rfl
    have n3 : (0 : Int) < (d.size : Int) := by omega
    by_cases c1 : 48 ≤ by_ t a
    · have j1 : (48 : Int) ≤ ((by_ t a : Nat) : Int) := by omega
      by_cases c2 : by_ t a ≤ 57
      · have j2 : ((by_ t a : Nat) : Int) ≤ 57 := by omega
        rw [decide_eq_true ⟨h0, c1, c2⟩] at hR
        subst hR
        clear hz hby h0 c1 c2
        go_enter Tryz.func83, Tryz.ntmps83
        go_wp2_with fail
        refine (unhide (hp _)).mono ?_
        rintro e w' ⟨rfl, rfl⟩
        go_wp2
        go_ret
        exact ⟨rfl, rfl⟩
      · have j2 : ¬ ((by_ t a : Nat) : Int) ≤ 57 := by omega
        rw [decide_eq_false (fun h => c2 h.2.2)] at hR
        subst hR
        clear hz hby h0 c1 c2
        go_enter Tryz.func83, Tryz.ntmps83
        go_wp2_with fail
        refine (unhide (hp _)).mono ?_
        rintro e w' ⟨rfl, rfl⟩
        go_wp2
        go_ret
        exact ⟨by show Ending.returned (.bool (decide (((by_ t a : Nat) : Int) ≤ 57))) = _; rw [decide_eq_false (by omega)], rfl⟩
    · have j1 : ¬ (48 : Int) ≤ ((by_ t a : Nat) : Int) := by omega
      rw [decide_eq_false (fun h => c1 h.2.1)] at hR
      subst hR
      clear hz hby h0 c1
      go_enter Tryz.func83, Tryz.ntmps83
      go_wp2_with fail
      refine (unhide (hp _)).mono ?_
      rintro e w' ⟨rfl, rfl⟩
      go_wp2
      go_ret
      exact ⟨rfl, rfl⟩
  · have hde : d = ⟨#[]⟩ := by
      have h2 : d.data.toList.length = d.size := by rw [Array.length_toList]; rfl
      rw [← ofL_of d, List.length_eq_zero_iff.1 (by omega : d.data.toList.length = 0)]; rfl
    subst hde
    rw [decide_eq_false (fun h => h0 h.1)] at hR
    subst hR
    clear hz hby h0
    go_enter Tryz.func83, Tryz.ntmps83
    go_wp2_with fail
    refine (unhide (hp _)).mono ?_
    rintro e w' ⟨rfl, rfl⟩
    go_wp2
    go_ret
    exact ⟨rfl, rfl⟩

end Go.Proofs.YtkndjbmlkfpfoaaGreatDoor

/-
  The library's contracts of strconv.FormatInt and ParseInt at base 10, laid at this program's numbers.
-/
namespace Go.Proofs.YtkndjbmlkfpfoaaGreatDoor
open Go.Shelf Go.RowKit

set_option maxRecDepth 100000

def sh173_ren : Go.Shelf.Ren := ⟨fun | 129 => 140 | 173 => 97 | 246 => 112 | 283 => 123 | 284 => 124 | 285 => 125 | 286 => 126 | 317 => 139 | 318 => 141 | 319 => 142 | 320 => 143 | 337 => 152 | 338 => 153 | n => n, fun | 0 => 0 | 2 => 2 | 3 => 3 | 4 => 4 | 5 => 5 | 9 => 9 | 20 => 20 | 37 => 38 | 46 => 198 | 51 => 214 | 53 => 179 | 171 => 193 | 173 => 196 | 212 => 213 | 213 => 215 | 232 => 232 | 233 => 233 | n => n, fun | 17 => 0 | 18 => 3 | 19 => 4 | n => n⟩
theorem sh173 : Go.Proofs.LaysM.n173 Tryz.prog sh173_ren := {
  mixed := by kernel_rfl
  f129 := Tryz.func140.trans (congrArg some (by kernel_rfl))
  f173 := Tryz.func97.trans (congrArg some (by kernel_rfl))
  f246 := Tryz.func112.trans (congrArg some (by kernel_rfl))
  f283 := Tryz.func123.trans (congrArg some (by kernel_rfl))
  f284 := Tryz.func124.trans (congrArg some (by kernel_rfl))
  f285 := Tryz.func125.trans (congrArg some (by kernel_rfl))
  f286 := Tryz.func126.trans (congrArg some (by kernel_rfl))
  f317 := Tryz.func139.trans (congrArg some (by kernel_rfl))
  f318 := Tryz.func141.trans (congrArg some (by kernel_rfl))
  f319 := Tryz.func142.trans (congrArg some (by kernel_rfl))
  f320 := Tryz.func143.trans (congrArg some (by kernel_rfl))
  f337 := Tryz.func152.trans (congrArg some (by kernel_rfl))
  f338 := Tryz.func153.trans (congrArg some (by kernel_rfl))
  t0 := Tryz.underlying0
  a0 := Tryz.isAgg0
  z0 := Tryz.sizeOf0
  v0 := Tryz.zeroValue0
  t2 := Tryz.underlying2
  a2 := Tryz.isAgg2
  z2 := Tryz.sizeOf2
  v2 := Tryz.zeroValue2
  t3 := Tryz.underlying3
  a3 := Tryz.isAgg3
  z3 := Tryz.sizeOf3
  v3 := Tryz.zeroValue3
  t4 := Tryz.underlying4
  a4 := Tryz.isAgg4
  z4 := Tryz.sizeOf4
  v4 := Tryz.zeroValue4
  t5 := Tryz.underlying5
  a5 := Tryz.isAgg5
  z5 := Tryz.sizeOf5
  v5 := Tryz.zeroValue5
  t9 := Tryz.underlying9
  a9 := Tryz.isAgg9
  z9 := Tryz.sizeOf9
  v9 := Tryz.zeroValue9
  t20 := Tryz.underlying20
  a20 := Tryz.isAgg20
  z20 := Tryz.sizeOf20
  v20 := Tryz.zeroValue20
  t37 := Tryz.underlying38
  a37 := Tryz.isAgg38
  z37 := Tryz.sizeOf38
  v37 := Tryz.zeroValue38
  t46 := Tryz.underlying198
  a46 := Tryz.isAgg198
  z46 := Tryz.sizeOf198
  v46 := Tryz.zeroValue198
  t51 := Tryz.underlying214
  a51 := Tryz.isAgg214
  z51 := Tryz.sizeOf214
  v51 := Tryz.zeroValue214
  t53 := Tryz.underlying179
  a53 := Tryz.isAgg179
  z53 := Tryz.sizeOf179
  v53 := Tryz.zeroValue179
  t171 := Tryz.underlying193
  a171 := Tryz.isAgg193
  z171 := Tryz.sizeOf193
  v171 := Tryz.zeroValue193
  t173 := Tryz.underlying196
  a173 := Tryz.isAgg196
  z173 := Tryz.sizeOf196
  v173 := Tryz.zeroValue196
  t212 := Tryz.underlying213
  a212 := Tryz.isAgg213
  z212 := Tryz.sizeOf213
  v212 := Tryz.zeroValue213
  t213 := Tryz.underlying215
  a213 := Tryz.isAgg215
  z213 := Tryz.sizeOf215
  t232 := Tryz.underlying232
  a232 := Tryz.isAgg232
  z232 := Tryz.sizeOf232
  v232 := Tryz.zeroValue232
  t233 := Tryz.underlying233
  a233 := Tryz.isAgg233
  z233 := Tryz.sizeOf233
  v233 := Tryz.zeroValue233
  g17 := by kernel_rfl
  g18 := by kernel_rfl
  g19 := by kernel_rfl
  i0 := by kernel_rfl
  i2 := by kernel_rfl
  i3 := by kernel_rfl
  i4 := by kernel_rfl
  i5 := by kernel_rfl
  i9 := by kernel_rfl
  i20 := by kernel_rfl
  i37 := by kernel_rfl
  i46 := by kernel_rfl
  i51 := by kernel_rfl
  i53 := by kernel_rfl
  i171 := by kernel_rfl
  i173 := by kernel_rfl
  i212 := by kernel_rfl
  i232 := by kernel_rfl
  i233 := by kernel_rfl
  m17 := by kernel_rfl
  m18 := by kernel_rfl
  m19 := by kernel_rfl }

def sh174_ren : Go.Shelf.Ren := ⟨fun | 129 => 140 | 171 => 73 | 174 => 103 | 205 => 150 | 243 => 93 | 245 => 117 | 246 => 112 | 247 => 116 | 279 => 132 | 280 => 133 | 281 => 134 | 282 => 135 | 283 => 123 | 284 => 124 | 285 => 125 | 286 => 126 | 287 => 131 | 316 => 149 | 317 => 139 | 318 => 141 | 319 => 142 | 320 => 143 | 321 => 147 | 322 => 148 | 337 => 152 | 338 => 153 | n => n, fun | 0 => 0 | 2 => 2 | 3 => 3 | 4 => 4 | 5 => 5 | 9 => 9 | 20 => 20 | 21 => 21 | 37 => 38 | 46 => 198 | 51 => 214 | 53 => 179 | 75 => 137 | 80 => 91 | 85 => 172 | 127 => 145 | 143 => 229 | 145 => 231 | 167 => 205 | 168 => 208 | 171 => 193 | 173 => 196 | 175 => 206 | 210 => 224 | 212 => 213 | 213 => 215 | 232 => 232 | 233 => 233 | n => n, fun | 15 => 1 | 16 => 2 | 17 => 0 | 18 => 3 | 19 => 4 | n => n⟩
theorem sh174 : Go.Proofs.LaysC.n174 Tryz.prog sh174_ren := {
  mixed := by kernel_rfl
  f129 := Tryz.func140.trans (congrArg some (by kernel_rfl))
  f171 := Tryz.func73.trans (congrArg some (by kernel_rfl))
  f174 := Tryz.func103.trans (congrArg some (by kernel_rfl))
  f205 := Tryz.func150.trans (congrArg some (by kernel_rfl))
  f243 := Tryz.func93.trans (congrArg some (by kernel_rfl))
  f245 := Tryz.func117.trans (congrArg some (by kernel_rfl))
  f246 := Tryz.func112.trans (congrArg some (by kernel_rfl))
  f247 := Tryz.func116.trans (congrArg some (by kernel_rfl))
  f279 := Tryz.func132.trans (congrArg some (by kernel_rfl))
  f280 := Tryz.func133.trans (congrArg some (by kernel_rfl))
  f281 := Tryz.func134.trans (congrArg some (by kernel_rfl))
  f282 := Tryz.func135.trans (congrArg some (by kernel_rfl))
  f283 := Tryz.func123.trans (congrArg some (by kernel_rfl))
  f284 := Tryz.func124.trans (congrArg some (by kernel_rfl))
  f285 := Tryz.func125.trans (congrArg some (by kernel_rfl))
  f286 := Tryz.func126.trans (congrArg some (by kernel_rfl))
  f287 := Tryz.func131.trans (congrArg some (by kernel_rfl))
  f316 := Tryz.func149.trans (congrArg some (by kernel_rfl))
  f317 := Tryz.func139.trans (congrArg some (by kernel_rfl))
  f318 := Tryz.func141.trans (congrArg some (by kernel_rfl))
  f319 := Tryz.func142.trans (congrArg some (by kernel_rfl))
  f320 := Tryz.func143.trans (congrArg some (by kernel_rfl))
  f321 := Tryz.func147.trans (congrArg some (by kernel_rfl))
  f322 := Tryz.func148.trans (congrArg some (by kernel_rfl))
  f337 := Tryz.func152.trans (congrArg some (by kernel_rfl))
  f338 := Tryz.func153.trans (congrArg some (by kernel_rfl))
  t0 := Tryz.underlying0
  a0 := Tryz.isAgg0
  z0 := Tryz.sizeOf0
  v0 := Tryz.zeroValue0
  t2 := Tryz.underlying2
  a2 := Tryz.isAgg2
  z2 := Tryz.sizeOf2
  v2 := Tryz.zeroValue2
  t3 := Tryz.underlying3
  a3 := Tryz.isAgg3
  z3 := Tryz.sizeOf3
  v3 := Tryz.zeroValue3
  t4 := Tryz.underlying4
  a4 := Tryz.isAgg4
  z4 := Tryz.sizeOf4
  v4 := Tryz.zeroValue4
  t5 := Tryz.underlying5
  a5 := Tryz.isAgg5
  z5 := Tryz.sizeOf5
  v5 := Tryz.zeroValue5
  t9 := Tryz.underlying9
  a9 := Tryz.isAgg9
  z9 := Tryz.sizeOf9
  v9 := Tryz.zeroValue9
  t20 := Tryz.underlying20
  a20 := Tryz.isAgg20
  z20 := Tryz.sizeOf20
  v20 := Tryz.zeroValue20
  t21 := Tryz.underlying21
  a21 := Tryz.isAgg21
  z21 := Tryz.sizeOf21
  v21 := Tryz.zeroValue21
  t37 := Tryz.underlying38
  a37 := Tryz.isAgg38
  z37 := Tryz.sizeOf38
  v37 := Tryz.zeroValue38
  t46 := Tryz.underlying198
  a46 := Tryz.isAgg198
  z46 := Tryz.sizeOf198
  v46 := Tryz.zeroValue198
  t51 := Tryz.underlying214
  a51 := Tryz.isAgg214
  z51 := Tryz.sizeOf214
  v51 := Tryz.zeroValue214
  t53 := Tryz.underlying179
  a53 := Tryz.isAgg179
  z53 := Tryz.sizeOf179
  v53 := Tryz.zeroValue179
  t75 := Tryz.underlying137
  a75 := Tryz.isAgg137
  z75 := Tryz.sizeOf137
  v75 := Tryz.zeroValue137
  t85 := Tryz.underlying172
  a85 := Tryz.isAgg172
  z85 := Tryz.sizeOf172
  v85 := Tryz.zeroValue172
  t127 := Tryz.underlying145
  a127 := Tryz.isAgg145
  z127 := Tryz.sizeOf145
  v127 := Tryz.zeroValue145
  t143 := Tryz.underlying229
  a143 := Tryz.isAgg229
  z143 := Tryz.sizeOf229
  v143 := Tryz.zeroValue229
  t145 := Tryz.underlying231
  a145 := Tryz.isAgg231
  z145 := Tryz.sizeOf231
  v145 := Tryz.zeroValue231
  t167 := Tryz.underlying205
  a167 := Tryz.isAgg205
  z167 := Tryz.sizeOf205
  v167 := Tryz.zeroValue205
  t168 := Tryz.underlying208
  a168 := Tryz.isAgg208
  z168 := Tryz.sizeOf208
  v168 := Tryz.zeroValue208
  t171 := Tryz.underlying193
  a171 := Tryz.isAgg193
  z171 := Tryz.sizeOf193
  v171 := Tryz.zeroValue193
  t173 := Tryz.underlying196
  a173 := Tryz.isAgg196
  z173 := Tryz.sizeOf196
  v173 := Tryz.zeroValue196
  t175 := Tryz.underlying206
  a175 := Tryz.isAgg206
  z175 := Tryz.sizeOf206
  v175 := Tryz.zeroValue206
  t210 := Tryz.underlying224
  a210 := Tryz.isAgg224
  z210 := Tryz.sizeOf224
  v210 := Tryz.zeroValue224
  t212 := Tryz.underlying213
  a212 := Tryz.isAgg213
  z212 := Tryz.sizeOf213
  v212 := Tryz.zeroValue213
  t213 := Tryz.underlying215
  a213 := Tryz.isAgg215
  z213 := Tryz.sizeOf215
  t232 := Tryz.underlying232
  a232 := Tryz.isAgg232
  z232 := Tryz.sizeOf232
  v232 := Tryz.zeroValue232
  t233 := Tryz.underlying233
  a233 := Tryz.isAgg233
  z233 := Tryz.sizeOf233
  v233 := Tryz.zeroValue233
  g15 := by kernel_rfl
  g16 := by kernel_rfl
  g17 := by kernel_rfl
  g18 := by kernel_rfl
  g19 := by kernel_rfl
  t80 := Tryz.underlying91
  a80 := Tryz.isAgg91
  z80 := Tryz.sizeOf91
  v80 := Tryz.zeroValue91
  i0 := by kernel_rfl
  i2 := by kernel_rfl
  i3 := by kernel_rfl
  i4 := by kernel_rfl
  i5 := by kernel_rfl
  i9 := by kernel_rfl
  i20 := by kernel_rfl
  i21 := by kernel_rfl
  i37 := by kernel_rfl
  i46 := by kernel_rfl
  i51 := by kernel_rfl
  i53 := by kernel_rfl
  i75 := by kernel_rfl
  i80 := by kernel_rfl
  i85 := by kernel_rfl
  i127 := by kernel_rfl
  i143 := by kernel_rfl
  i145 := by kernel_rfl
  i167 := by kernel_rfl
  i168 := by kernel_rfl
  i171 := by kernel_rfl
  i173 := by kernel_rfl
  i175 := by kernel_rfl
  i210 := by kernel_rfl
  i212 := by kernel_rfl
  i232 := by kernel_rfl
  i233 := by kernel_rfl
  m15 := by kernel_rfl
  m16 := by kernel_rfl
  m17 := by kernel_rfl
  m18 := by kernel_rfl
  m19 := by kernel_rfl
  c0 := by kernel_rfl
  c2 := by kernel_rfl
  c3 := by kernel_rfl
  c4 := by kernel_rfl
  c5 := by kernel_rfl
  c9 := by kernel_rfl
  c20 := by kernel_rfl
  c21 := by kernel_rfl
  c37 := by kernel_rfl
  c46 := by kernel_rfl
  c51 := by kernel_rfl
  c53 := by kernel_rfl
  c75 := by kernel_rfl
  c80 := by kernel_rfl
  c85 := by kernel_rfl
  c127 := by kernel_rfl
  c143 := by kernel_rfl
  c145 := by kernel_rfl
  c167 := by kernel_rfl
  c168 := by kernel_rfl
  c171 := by kernel_rfl
  c173 := by kernel_rfl
  c175 := by kernel_rfl
  c210 := by kernel_rfl
  c212 := by kernel_rfl
  c213 := by kernel_rfl
  c232 := by kernel_rfl
  c233 := by kernel_rfl }

end Go.Proofs.YtkndjbmlkfpfoaaGreatDoor

/-
  The scanner's numbers: the number that a word is, if that is the one form of it.
-/
set_option linter.unusedSimpArgs false
set_option linter.unusedVariables false
namespace Go.Proofs.YtkndjbmlkfpfoaaGreatDoor
open Go.RowKit Go.Lib

theorem below_bytes (w : World) (e : TypeId) (t : ByteArray) : Below w.heap.size w (Lib.bytesWorld w e t) := Lib.bytesWorld_below w e t
theorem below_grow (w : World) (k : Nat) (os : Array Obj) : Below w.heap.size w (Sort.grow (w.drewN k) os) := by
  refine ⟨rfl, rfl, rfl, ?_, fun i hi => ?_⟩
  · show w.heap.size ≤ (w.heap ++ os).size
    rw [Array.size_append]; omega
  · show (w.heap ++ os)[i]? = w.heap[i]?
    rw [Array.getElem?_append_left hi]

/-- a variable that holds an error -/
def ErrAt (g : Nat) (w : World) : Prop := ∃ ev, w.cell? ⟨g, 0, none⟩ = some ev ∧ (ev = .nilIface ∨ ∃ te pe, ev = .iface te pe)
theorem ErrAt.below {g : Nat} {w w' : World} {B : Nat} (h : ErrAt g w) (hb : Below B w w') (hB : g < B) : ErrAt g w' := by
  obtain ⟨ev, h1, h2⟩ := h
  exact ⟨ev, (hb.cell (p := ⟨g, 0, none⟩) hB).trans h1, h2⟩
/-- the variable of the one error, as the shelf's contract asks it -/
def ErrS (w : World) : Prop := ∃ tp p ty lk, w.heap[1]? = some (.cells #[.iface tp p] ty lk)
theorem ErrS.below {w w' : World} {B : Nat} (h : ErrS w) (hb : Below B w w') (hB : 1 < B) : ErrS w' := by
  obtain ⟨tp, p, ty, lk, h⟩ := h
  exact ⟨tp, p, ty, lk, (hb.block _ hB).trans h⟩
theorem gErrS : Tryz.prog.globalNamed "strconv.ErrSyntax" = some 1 := by kernel_rfl
theorem ErrS.var {w : World} (h : ErrS w) : ∃ tp p, w.var? Tryz.prog "strconv.ErrSyntax" = some #[.iface tp p] := by
  obtain ⟨tp, p, ty, lk, h⟩ := h
  refine ⟨tp, p, ?_⟩
  unfold World.var?
  rw [gErrS]
  simp only [Option.bind_some, h]
/-- the table of the powers of ten -/
def Pow (w : World) : Prop := ∃ ty lk, w.heap[0]? = some (.cells (Lib.pow10Tab.map fun z => Value.int .u64 z).toArray ty lk)
theorem Pow.below {w w' : World} {B : Nat} (h : Pow w) (hb : Below B w w') (hB : 0 < B) : Pow w' := by
  obtain ⟨ty, lk, h⟩ := h
  exact ⟨ty, lk, (hb.block _ hB).trans h⟩
/-- all that the scanner asks of the library's variables -/
def Lw (w : World) : Prop := Tab w ∧ ErrS w ∧ ErrAt 2 w ∧ Pow w ∧ 4 < w.heap.size ∧ 1 < w.heap.size ∧ 2 < w.heap.size ∧ 0 < w.heap.size
theorem Lw.below {w w' : World} (h : Lw w) (hb : Below w.heap.size w w') : Lw w' := by
  obtain ⟨h1, h2, h3, h4, g1, g2, g3, g4⟩ := h
  have := hb.size
  exact ⟨h1.below hb g1, h2.below hb g2, h3.below hb g3, h4.below hb g4, by omega, by omega, by omega, by omega⟩

theorem fmt_in (n : Int) (h0 : -9223372036854775808 ≤ n) (h1 : n ≤ 9223372036854775807) (w : World) (hP : Pow w) :
    Calls Tryz.prog 97 #[.int .i64 n, .int .i64 10] w fun e w' => e = .returned (.string (ofL (Lib.itoa n))) ∧ Below w.heap.size w w' := by
  obtain ⟨ty, lk, hP⟩ := hP
  refine (Any.strconv_FormatInt_10 sh173 n h0 h1 w ?_).mono ?_
  · unfold Lib.TabIs World.var?
    rw [sh173.m17]
    show (match w.heap[0]? with | some (.cells cs _ _) => some cs | _ => none) = _
    rw [hP]
  · rintro e w' ⟨rfl, k, os, rfl⟩
    exact ⟨rfl, below_grow w k os⟩

/-- the number that a word is -/
def decN (t : ByteArray) : Option Int := match Lib.parseIntB 64 t.data.toList with
  | .ok v => if Lib.itoa v = t.data.toList then some v else none
  | _ => none

theorem lists_beq (x y : ByteArray) : (x.toList == y.toList) = decide (x.data.toList = y.data.toList) := by
  rw [ByteArray.toList_eq, ByteArray.toList_eq, Bool.eq_iff_iff, beq_iff_eq, decide_eq_true_eq]

set_option maxRecDepth 100000 in
set_option maxHeartbeats 2000000 in
theorem decimal_in (t : ByteArray) (ht : t.size ≤ 1000000000) (w : World) (hL : Lw w) :
    Calls Tryz.prog 84 #[.string t] w fun e w' => e = .returned (.tuple #[.int .i64 ((decN t).getD 0), .bool (decN t).isSome]) ∧ Below w.heap.size w w' := by
  obtain ⟨R, hR⟩ : ∃ R, decN t = R := ⟨_, rfl⟩
  rw [hR]
  unfold decN at hR
  rcases hc : Lib.parseIntB 64 t.data.toList with v | _ | _
  · have hb := Lib.parseIntB_bounds hc
    have h63 : (2 ^ (64 - 1) : Nat) = 9223372036854775808 := by decide
    rw [h63] at hb
    have hf := fun W h => hide (fmt_in v (by omega) (by omega) W h)
    have hp := hide (Any.strconv_ParseInt_10_at64_ok sh174 t (by omega) v hc w)
    rw [hc] at hR
    dsimp only at hR
    clear hb h63 hc
    by_cases he : Lib.itoa v = t.data.toList
    · rw [if_pos he] at hR
      subst hR
      have n1 : ((ofL (Lib.itoa v)).toList == t.toList) = true := by rw [lists_beq, ofL_list, decide_eq_true he]
      have n2 : ((ofL (Lib.itoa v)).toList != t.toList) = false := by rw [bne, n1]; rfl
      have HL := hide hL
      clear he hL
      obtain ⟨x, hx⟩ : ∃ x, ofL (Lib.itoa v) = x := ⟨_, rfl⟩
      rw [hx] at n1 n2 hf
      clear hx
      go_enter Tryz.func84, Tryz.ntmps84
      go_wp2_with fail
      refine (unhide hp).mono ?_
      rintro e W1 ⟨rfl, hW⟩
      have b1 : Below w.heap.size w W1 := by
        rcases hW with rfl | ⟨u, rfl⟩
        · exact Below.refl _ _
        · exact below_bytes _ _ _
      have hP1 := hide ((unhide HL).below b1).2.2.2.1
      have B1 := hide b1
      clear hW b1 hp
      go_wp2_with fail
      refine (unhide (hf W1 (unhide hP1))).mono ?_
      rintro e W2 ⟨rfl, b2⟩
      have B2 := hide ((unhide B1).trans (b2.mono (unhide B1).size))
      clear b2 hf hP1
      go_wp2
      go_ret2
      exact ⟨rfl, unhide B2⟩
    · rw [if_neg he] at hR
      subst hR
      have n1 : ((ofL (Lib.itoa v)).toList == t.toList) = false := by rw [lists_beq, ofL_list, decide_eq_false he]
      have n2 : ((ofL (Lib.itoa v)).toList != t.toList) = true := by rw [bne, n1]; rfl
      have HL := hide hL
      clear he hL
      obtain ⟨x, hx⟩ : ∃ x, ofL (Lib.itoa v) = x := ⟨_, rfl⟩
      rw [hx] at n1 n2 hf
      clear hx
      go_enter Tryz.func84, Tryz.ntmps84
      go_wp2_with fail
      refine (unhide hp).mono ?_
      rintro e W1 ⟨rfl, hW⟩
      have b1 : Below w.heap.size w W1 := by
        rcases hW with rfl | ⟨u, rfl⟩
        · exact Below.refl _ _
        · exact below_bytes _ _ _
      have hP1 := hide ((unhide HL).below b1).2.2.2.1
      have B1 := hide b1
      clear hW b1 hp
      go_wp2_with fail
      refine (unhide (hf W1 (unhide hP1))).mono ?_
      rintro e W2 ⟨rfl, b2⟩
      have B2 := hide ((unhide B1).trans (b2.mono (unhide B1).size))
      clear b2 hf hP1
      go_wp2
      go_ret2
      exact ⟨rfl, unhide B2⟩
  · obtain ⟨tp, pp, e1⟩ := hL.2.1.var
    have e2 := e1
    have hp := hide (Any.strconv_ParseInt_10_at64_syntax_var sh174 t (by omega) hc tp pp w e1)
    rw [hc] at hR
    subst hR
    clear hc e1 e2 hL
    go_enter Tryz.func84, Tryz.ntmps84
    go_wp2_with fail
    refine (unhide hp).mono ?_
    rintro e W1 ⟨N, rfl, _, _, b1⟩
    have B1 := hide b1
    clear b1 hp
    go_wp2
    go_ret2
    exact ⟨rfl, unhide B1⟩
  · obtain ⟨ev, e1, e2⟩ := hL.2.2.1
    have hp := hide (Any.strconv_ParseInt_10_at64_range sh174 t (by omega) hc ev w e1 e2)
    rw [hc] at hR
    subst hR
    clear hc e1 e2 hL
    go_enter Tryz.func84, Tryz.ntmps84
    go_wp2_with fail
    refine (unhide hp).mono ?_
    rintro e W1 ⟨N, rfl, _, _, b1⟩
    have B1 := hide b1
    clear b1 hp
    go_wp2
    go_ret2
    exact ⟨rfl, unhide B1⟩

end Go.Proofs.YtkndjbmlkfpfoaaGreatDoor
