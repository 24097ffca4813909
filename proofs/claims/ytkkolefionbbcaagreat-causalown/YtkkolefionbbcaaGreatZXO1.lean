/-
  Operations: what each kind asks.
-/
import Derived.Test.YtkkolefionbbcaaGreatZO0
import Derived.Deep.RegionWith

set_option linter.unusedSimpArgs false
set_option linter.unusedVariables false
namespace Go.Proofs.YtkkolefionbbcaaGreat
open Go.RowKit Go.Lib

theorem Bx.same {W : World} {b : Nat} {t : TypeId} {vs : Array Value} (h : Bx W b t vs) (j : Nat) (v : Value) (hj : vs[j]? = some v) : W.setCell ⟨b, j, none⟩ v = W := by
  have e : W.heap[b]? = some (.cells vs t (0, 0)) := h
  have hb := h.lt
  have hs : vs.setIfInBounds j v = vs := by
    apply Array.ext
    · simp
    · intro i h1 h2
      rw [Array.getElem_setIfInBounds]
      split
      · rename_i hij
        subst hij
        rw [Array.getElem?_eq_getElem h2] at hj
        exact (Option.some.inj hj).symm
      · rfl
  have hh : (W.setCell ⟨b, j, none⟩ v).heap = W.heap := by
    apply Array.ext'
    apply List.ext_getElem?
    intro i
    by_cases hi : i = b
    · subst hi
      have h2 := h.set j v
      rw [hs] at h2
      have h3 : (W.setCell ⟨i, j, none⟩ v).heap[i]? = W.heap[i]? := Eq.trans h2 e.symm
      simpa using h3
    · have h3 := Below.heap_setCell W ⟨b, j, none⟩ v i hi
      simpa using h3
  cases W
  simp only [World.setCell] at hh ⊢
  simp_all

theorem cntO_in (t : ByteArray) (h : t.size ≤ 140737488355328) : 0 ≤ cntO t ∧ cntO t ≤ 140737488355328 := by
  have := allL_length t
  unfold cntO
  omega

set_option maxRecDepth 100000 in
theorem textHolds_in (it is rt rs : Int) (t : ByteArray) (w : World) (ht : t.size ≤ 140737488355328) :
    Calls Tryz.prog 141 #[.agg #[.int .i64 it, .int .i64 is, .int .i64 rt, .int .i64 rs, .string t]] w fun e W => e = .returned (.bool (textO t)) ∧ Below w.heap.size w W := by
  have HB := hide (fun W => badAt_in t ht W)
  have HC := hide (fun W => count_in t ht W)
  have HX := hide (Bx.new w 115 #[.int .i64 it, .int .i64 is, .int .i64 rt, .int .i64 rs, .string t])
  have B0 := hide (ballc (Below.refl w.heap.size w) (.cells #[.int .i64 it, .int .i64 is, .int .i64 rt, .int .i64 rs, .string t] 115))
  obtain ⟨R, hR⟩ : ∃ R, textO t = R := ⟨_, rfl⟩
  rw [hR]
  unfold textO at hR
  rw [show firstBad t (allL t) = badT t from rfl] at HB
  rw [show (((allL t).length : Nat) : Int) = cntO t from rfl] at HC
  generalize badT t = E at *
  generalize cntO t = C at *
  by_cases h1 : t.size = 0
  · have h1' : t = ByteArray.empty := by
      apply ByteArray.ext
      exact Array.eq_empty_of_size_eq_zero h1
    subst h1'
    obtain rfl : false = R := by rw [← hR]; rfl
    clear hR HB HC h1
    go_enter Tryz.func141, Tryz.ntmps141
    go_wp2
    go_ret
    exact ⟨rfl, unhide B0⟩
  · have h1' : (t.toList == ([] : List UInt8)) = false := by
      rw [beq_eq_false_iff_ne]
      intro e
      apply h1
      rw [ByteArray.toList_eq] at e
      have h9 := congrArg List.length e
      simpa using h9
    by_cases h2 : E < 0
    · obtain rfl : decide (C ≤ 1024) = R := by rw [← hR]; simp [h1, h2]
      clear hR
      go_enter Tryz.func141, Tryz.ntmps141
      go_wp2_with fail
      refine (unhide HB _).mono ?_
      rintro e W1 ⟨rfl, hb⟩
      have c4 := ((unhide HX).below hb).cell 4 _ rfl
      replace hb := hide (bnext (unhide B0) hb)
      go_wp2_with fail
      refine (unhide HC _).mono ?_
      rintro e W2 ⟨rfl, hb2⟩
      replace hb2 := hide (bnext (unhide hb) hb2)
      go_wp2
      go_ret
      exact ⟨rfl, unhide hb2⟩
    · obtain rfl : false = R := by rw [← hR]; simp [h2]
      clear hR
      go_enter Tryz.func141, Tryz.ntmps141
      go_wp2_with fail
      refine (unhide HB _).mono ?_
      rintro e W1 ⟨rfl, hb⟩
      replace hb := hide (bnext (unhide B0) hb)
      go_wp2
      go_ret
      exact ⟨rfl, unhide hb⟩

set_option maxRecDepth 100000 in
theorem joinHolds_in (n x : Int) (w : World) : Calls Tryz.prog 161 #[.agg #[.int .i64 n], .int .i64 x] w fun e W => e = .returned (.bool (isT n)) ∧ Below w.heap.size w W := by
  have H := hide (fun W => oSite_in n W)
  go_enter Tryz.func161, Tryz.ntmps161
  go_wp2_with (go_at_call 83; refine (unhide H _).mono ?_; rintro e W1 ⟨rfl, rfl⟩)
  go_ret
  exact ⟨rfl, ballc (Below.refl _ _) _⟩

set_option maxRecDepth 100000 in
theorem leaveHolds_in (x : Int) (w : World) : Calls Tryz.prog 166 #[.agg #[], .int .i64 x] w fun e W => e = .returned (.bool true) ∧ Below w.heap.size w W := by
  go_enter Tryz.func166, Tryz.ntmps166
  go_wp2
  go_ret
  exact ⟨rfl, ballc (Below.refl _ _) _⟩

set_option maxRecDepth 100000 in
theorem delHolds_in (v : Value) (g : List ((Int × Int) × Int)) (x : Int) (w : World) (h : RR w v g) (hin : ∀ r ∈ g, runIn r) (hl : g.length ≤ 140737488355328) :
    Calls Tryz.prog 156 #[.agg #[v], .int .i64 x] w fun e W => e = .returned (.bool (delO g)) ∧ Below w.heap.size w W := by
  obtain ⟨a, c, rfl⟩ := RC.form h
  have HX := hide (Bx.new w 117 #[.slice a g.length c])
  have B0 := hide (ballc (Below.refl w.heap.size w) (.cells #[.slice a g.length c] 117))
  have HC := fun (hg : g.length ≤ 1024) => hide (RCheck_in _ g _ (h.below (unhide B0)) hin (by omega))
  obtain ⟨R, hR⟩ : ∃ R, delO g = R := ⟨_, rfl⟩
  rw [hR]
  unfold delO at hR
  generalize chkR g = K at *
  generalize g.length = n at *
  clear h hin
  by_cases h1 : 1 ≤ n
  · have h1' : (1 : Int) ≤ (n : Int) := by omega
    by_cases h2 : n ≤ 1024
    · have h2' : (n : Int) ≤ 1024 := by omega
      replace HC := HC h2
      obtain rfl : decide (K = 0) = R := by rw [← hR]; simp [h1, h2]
      clear hR
      go_enter Tryz.func156, Tryz.ntmps156
      go_wp2_with fail
      refine (unhide HC).mono ?_
      rintro e W1 ⟨rfl, hb⟩
      replace hb := hide hb
      go_wp2
      go_ret
      exact ⟨rfl, bnext (unhide B0) (unhide hb)⟩
    · have h2' : ¬ (n : Int) ≤ 1024 := by omega
      obtain rfl : false = R := by rw [← hR]; simp [h2]
      clear hR HC
      go_enter Tryz.func156, Tryz.ntmps156
      go_wp2
      go_ret
      exact ⟨rfl, unhide B0⟩
  · have h1' : ¬ (1 : Int) ≤ (n : Int) := by omega
    obtain rfl : false = R := by rw [← hR]; simp [h1]
    clear hR HC
    go_enter Tryz.func156, Tryz.ntmps156
    go_wp2
    go_ret
    exact ⟨rfl, unhide B0⟩

set_option maxRecDepth 100000 in
theorem refHolds_in (it is rt rs : Int) (t : ByteArray) (w : World) (h1 : in64 rt) (h2 : in64 rs) :
    Calls Tryz.prog 144 #[.agg #[.int .i64 it, .int .i64 is, .int .i64 rt, .int .i64 rs, .string t]] w fun e W => e = .returned (.bool (refO it rt rs)) ∧ Below w.heap.size w W := by
  have HR := hide (fun W => oRun_in rt rs 1 W h1 h2 ⟨by omega, by omega⟩)
  obtain ⟨X, hX⟩ : ∃ X, (w.alloc (.cells #[.int .i64 it, .int .i64 is, .int .i64 rt, .int .i64 rs, .string t] 115)).alloc (.cells #[.int .i64 0, .int .i64 0] 39) = X := ⟨_, rfl⟩
  have HX : Bx X w.heap.size 115 #[.int .i64 it, .int .i64 is, .int .i64 rt, .int .i64 rs, .string t] := by rw [← hX]; exact (Bx.new w _ _).below (ballc (Below.refl _ _) _)
  have HY : Bx X (w.heap.size + 1) 39 #[.int .i64 0, .int .i64 0] := by
    rw [← hX]
    have := Bx.new (w.alloc (.cells #[.int .i64 it, .int .i64 is, .int .i64 rt, .int .i64 rs, .string t] 115)) 39 #[.int .i64 0, .int .i64 0]
    rw [show (w.alloc (.cells #[.int .i64 it, .int .i64 is, .int .i64 rt, .int .i64 rs, .string t] 115)).heap.size = w.heap.size + 1 by simp] at this
    exact this
  have B0 : Below w.heap.size w X := by rw [← hX]; exact ballc (ballc (Below.refl _ _) _) _
  have hq := fun W => eqI rt rs 0 0 W
  unfold refO
  clear h1 h2
  have x2 := HX.cell 2 _ rfl
  have x3 := HX.cell 3 _ rfl
  have x0 := HX.cell 0 _ rfl
  have y0 := HY.cell 0 _ rfl
  have y1 := HY.cell 1 _ rfl
  have xl := HX.lt
  have yl := HY.lt
  have f0 := HY.frozen 0
  have f1 := HY.frozen 1
  have s0 := HY.same 0 (.int .i64 0) rfl
  have s1 := HY.same 1 (.int .i64 0) rfl
  replace HX := hide HX
  replace B0 := hide B0
  clear HY
  cases hd : decide ((rt, rs) = (0, 0))
  · rw [hd] at hq
    cases hr : isR ((rt, rs), 1)
    · rw [hr] at HR
      clear hd hr
      go_enter Tryz.func144, Tryz.ntmps144
      go_wp2_with fail
      refine (unhide HR _).mono ?_
      rintro e W1 ⟨rfl, hb⟩
      replace hb := hide (bnext (unhide B0) hb)
      go_wp2
      go_ret
      exact ⟨by simp, unhide hb⟩
    · rw [hr] at HR
      clear hd hr
      go_enter Tryz.func144, Tryz.ntmps144
      go_wp2_with fail
      refine (unhide HR _).mono ?_
      rintro e W1 ⟨rfl, hb⟩
      have z2 := ((unhide HX).below hb).cell 2 _ rfl
      have z0 := ((unhide HX).below hb).cell 0 _ rfl
      replace hb := hide (bnext (unhide B0) hb)
      go_wp2
      go_ret
      exact ⟨by simp, unhide hb⟩
  · rw [hd] at hq
    clear hd HR
    go_enter Tryz.func144, Tryz.ntmps144
    go_wp2
    go_ret
    exact ⟨by simp, unhide B0⟩

end Go.Proofs.YtkkolefionbbcaaGreat

/-
  Operations: their parts; what a kind has alone.
-/
set_option linter.unusedSimpArgs false
set_option linter.unusedVariables false
namespace Go.Proofs.YtkkolefionbbcaaGreat
open Go.RowKit Go.Lib

def parV (it is rt rs : Int) (t : ByteArray) (n : Int) (site : Int) : Value := .agg #[.int .i64 it, .int .i64 is, .int .i64 rt, .int .i64 rs, .string t, .int .i64 n, .int .i64 site]

theorem sizeP : (Tryz.prog.info? 125).map (·.size) = some 7 := by kernel_rfl
theorem sizeO : (Tryz.prog.info? 42).map (·.size) = some 11 := by kernel_rfl

set_option maxRecDepth 100000 in
theorem partsOf_in (o : Opn) (vd : Value) (a : Option Addr) (n c : Nat) (w : World) :
    Calls Tryz.prog 84 #[opA o vd (.slice a n c)] w fun e W => e = .returned (parV o.it o.is o.rt o.rs o.text (n : Nat) o.site) ∧ Below w.heap.size w W := by
  obtain ⟨ds, dq, deps, kind, it, is, rt, rs, text, gone, site⟩ := o
  unfold opA parV
  simp only
  go_enter Tryz.func84, Tryz.ntmps84
  go_wp2
  have hq := Bx.new (w.alloc (.cells #[.int .i64 ds, .int .i64 dq, vd, .int .i64 kind, .int .i64 it, .int .i64 is, .int .i64 rt, .int .i64 rs, .string text, .slice a n c, .int .i64 site] 42)) 125 #[.int .i64 it, .int .i64 is, .int .i64 rt, .int .i64 rs, .string text, .int .i64 (n : Nat), .int .i64 site]
  rw [World.size_alloc] at hq
  refine bodyPost_ret (results_cell_row rfl _ _ (w.heap.size + 1) _ _ _ _ rfl hq Tryz.underlying125 rfl sizeP) rfl ?_
  exact ⟨rfl, ballc (ballc (Below.refl _ _) _) _⟩

theorem eqP (it is rt rs n s it' is' rt' rs' n' s' : Int) (t t' : ByteArray) (w : World) : (binOp .eql 125 (parV it is rt rs t n s) (parV it' is' rt' rs' t' n' s')).run Tryz.prog w = .ok (.bool (decide (it = it') && (decide (is = is') && (decide (rt = rt') && (decide (rs = rs') && (decide (t = t') && (decide (n = n') && decide (s = s')))))))) w := by
  unfold parV
  by_cases h1 : it = it'
  · by_cases h2 : is = is'
    · by_cases h3 : rt = rt'
      · by_cases h4 : rs = rs'
        · by_cases h5 : t = t'
          · by_cases h6 : n = n'
            · by_cases h7 : s = s'
              · subst h1 h2 h3 h4 h5 h6 h7; simp [go_sem]
              · subst h1 h2 h3 h4 h5 h6; simp [go_sem, h7]
            · subst h1 h2 h3 h4 h5; simp [go_sem, h6]
          · subst h1 h2 h3 h4
            have h5' : (t.toList == t'.toList) = false := by
              rw [beq_eq_false_iff_ne]
              intro e
              rw [ByteArray.toList_eq, ByteArray.toList_eq] at e
              exact h5 (ByteArray.ext (Array.toList_inj.1 e))
            simp [go_sem, h5, h5']
        · subst h1 h2 h3; simp [go_sem, h4]
      · subst h1 h2; simp [go_sem, h3]
    · subst h1; simp [go_sem, h2]
  · simp [go_sem, h1]

set_option maxRecDepth 100000 in
set_option maxHeartbeats 1000000 in
theorem delFill_in {w : World} {p : Nat} (a : Option Addr) (n c : Nat) (x0 x1 x2 x3 x4 x5 x6 x7 x8 x9 x10 : Value) (h : Bx w p 42 #[x0, x1, x2, x3, x4, x5, x6, x7, x8, x9, x10]) :
    Calls Tryz.prog 155 #[.agg #[.slice a n c], .pointer (some ⟨p, 0, none⟩)] w fun e W => e = .returned (.tuple #[]) ∧ Bx W p 42 #[x0, x1, x2, x3, x4, x5, x6, x7, x8, .slice a n c, x10] ∧ Kp (fun k => k = p) w W := by
  have hl := h.lt
  have HX := h.below (ballc (Below.refl _ w) (.cells #[.slice a n c] 117))
  have c9 := HX.cell 9 _ rfl
  have f9 := HX.frozen 9
  have HS := hide ((h.set 9 (.slice a n c)).below (ballc (Below.refl _ _) (.cells #[.slice a n c] 117)))
  have HP := hide ((Kp.set (N := fun k => k = p) w ⟨p, 9, none⟩ (.slice a n c) rfl).trans (M := fun _ => False) (Kp.of_below (ballc (Below.refl _ _) (.cells #[.slice a n c] 117))) (fun i h => h.elim))
  have B0 := hide (ballc (Below.refl w.heap.size w) (.cells #[.slice a n c] 117))
  clear h HX
  go_enter Tryz.func155, Tryz.ntmps155
  go_wp2
  go_end0
  exact ⟨rfl, by simpa using unhide HS, unhide HP⟩

set_option maxRecDepth 100000 in
set_option maxHeartbeats 1000000 in
theorem joinFill_in {w : World} {p : Nat} (n : Int) (x0 x1 x2 x3 x4 x5 x6 x7 x8 x9 x10 : Value) (h : Bx w p 42 #[x0, x1, x2, x3, x4, x5, x6, x7, x8, x9, x10]) :
    Calls Tryz.prog 160 #[.agg #[.int .i64 n], .pointer (some ⟨p, 0, none⟩)] w fun e W => e = .returned (.tuple #[]) ∧ Bx W p 42 #[x0, x1, x2, x3, x4, x5, x6, x7, x8, x9, .int .i64 n] ∧ Kp (fun k => k = p) w W := by
  have hl := h.lt
  have HX := h.below (ballc (Below.refl _ w) (.cells #[.int .i64 n] 119))
  have c9 := HX.cell 10 _ rfl
  have f9 := HX.frozen 10
  have HS := hide ((h.set 10 (.int .i64 n)).below (ballc (Below.refl _ _) (.cells #[.int .i64 n] 119)))
  have HP := hide ((Kp.set (N := fun k => k = p) w ⟨p, 10, none⟩ (.int .i64 n) rfl).trans (M := fun _ => False) (Kp.of_below (ballc (Below.refl _ _) (.cells #[.int .i64 n] 119))) (fun i h => h.elim))
  have B0 := hide (ballc (Below.refl w.heap.size w) (.cells #[.int .i64 n] 119))
  clear h HX
  go_enter Tryz.func160, Tryz.ntmps160
  go_wp2
  go_end0
  exact ⟨rfl, by simpa using unhide HS, unhide HP⟩

set_option maxRecDepth 100000 in
set_option maxHeartbeats 1000000 in
theorem leaveFill_in {w : World} {p : Nat}  (x0 x1 x2 x3 x4 x5 x6 x7 x8 x9 x10 : Value) (h : Bx w p 42 #[x0, x1, x2, x3, x4, x5, x6, x7, x8, x9, x10]) :
    Calls Tryz.prog 165 #[.agg #[], .pointer (some ⟨p, 0, none⟩)] w fun e W => e = .returned (.tuple #[]) ∧ Bx W p 42 #[x0, x1, x2, x3, x4, x5, x6, x7, x8, x9, x10] ∧ Kp (fun k => k = p) w W := by
  have HX := hide (h.below (ballc (Below.refl _ w) (.cells #[] 121)))
  have B0 := hide (ballc (Below.refl w.heap.size w) (.cells #[] 121))
  clear h
  go_enter Tryz.func165, Tryz.ntmps165
  go_wp2
  go_end0
  exact ⟨rfl, unhide HX, Kp.of_below (unhide B0)⟩

end Go.Proofs.YtkkolefionbbcaaGreat

/-
  Operations: an insertion's fill.
-/
set_option linter.unusedSimpArgs false
set_option linter.unusedVariables false
namespace Go.Proofs.YtkkolefionbbcaaGreat
open Go.RowKit Go.Lib

set_option maxRecDepth 100000 in
set_option maxHeartbeats 1000000 in
theorem insFill_in {w : World} {p : Nat} (it is rt rs : Int) (t : ByteArray) (x0 x1 x2 x3 x4 x5 x6 x7 x8 x9 x10 : Value) (h : Bx w p 42 #[x0, x1, x2, x3, x4, x5, x6, x7, x8, x9, x10]) :
    Calls Tryz.prog 136 #[.agg #[.int .i64 it, .int .i64 is, .int .i64 rt, .int .i64 rs, .string t], .pointer (some ⟨p, 0, none⟩)] w fun e W => e = .returned (.tuple #[]) ∧ Bx W p 42 #[x0, x1, x2, x3, .int .i64 it, .int .i64 is, .int .i64 rt, .int .i64 rs, .string t, x9, x10] ∧ Kp (fun k => k = p) w W := by
  have hl := h.lt
  have hne : p ≠ w.heap.size := by omega
  have c4 := h.cell 4 _ rfl
  have f4 := h.frozen 4
  have c5 := h.cell 5 _ rfl
  have f5 := h.frozen 5
  have c6 := h.cell 6 _ rfl
  have f6 := h.frozen 6
  have c7 := h.cell 7 _ rfl
  have f7 := h.frozen 7
  have c8 := h.cell 8 _ rfl
  have f8 := h.frozen 8
  have HX := hide h
  clear h
  go_enter Tryz.func136, Tryz.ntmps136
  go_wp2
  go_region
  all_goals
    go_wp2
    go_end0
    refine ⟨rfl, ?_, ?_⟩
    · have q := ((((((unhide HX).set 4 (.int .i64 it)).set 5 (.int .i64 is)).set 6 (.int .i64 rt)).set 7 (.int .i64 rs)).set 8 (.string t)).below (ballc (Below.refl _ _) (.cells #[.int .i64 it, .int .i64 is, .int .i64 rt, .int .i64 rs, .string t] 115)).drew
      simpa using q
    · have k1 := Kp.set (N := fun k => k = p) w ⟨p, 4, none⟩ (.int .i64 it) rfl
      have k2 := k1.trans (M := fun k => k = p) (Kp.set _ ⟨p, 5, none⟩ (.int .i64 is) rfl) (fun i h => .inl h)
      have k3 := k2.trans (M := fun k => k = p) (Kp.set _ ⟨p, 6, none⟩ (.int .i64 rt) rfl) (fun i h => .inl h)
      have k4 := k3.trans (M := fun k => k = p) (Kp.set _ ⟨p, 7, none⟩ (.int .i64 rs) rfl) (fun i h => .inl h)
      have k5 := k4.trans (M := fun k => k = p) (Kp.set _ ⟨p, 8, none⟩ (.string t) rfl) (fun i h => .inl h)
      exact k5.trans (M := fun _ => False) (Kp.of_below (ballc (Below.refl _ _) _).drew) (fun i h => h.elim)

end Go.Proofs.YtkkolefionbbcaaGreat

/-
  Which function a kind's method is.
-/
set_option linter.unusedSimpArgs false
set_option linter.unusedVariables false
namespace Go.Proofs.YtkkolefionbbcaaGreat
open Go.RowKit Go.Lib

theorem ins_meth {s0 s1 s2 s3 s4 : String} {t0 t1 t2 t3 t4 : TypeId} (h : Tryz.prog.underlying 96 = some (.interface #[(s0, t0), (s1, t1), (s2, t2), (s3, t3), (s4, t4)])) :
    (∀ v w, (method 301 115 v s0).run Tryz.prog w = .ok (136, v) w) ∧ (∀ v w, (method 301 115 v s1).run Tryz.prog w = .ok (137, v) w) ∧ (∀ v w, (method 301 115 v s2).run Tryz.prog w = .ok (138, v) w) ∧ (∀ v w, (method 301 115 v s3).run Tryz.prog w = .ok (139, v) w) ∧ (∀ v w, (method 301 115 v s4).run Tryz.prog w = .ok (140, v) w) := by
  have e := Tryz.underlying96.symm.trans h
  simp at e
  obtain ⟨⟨rfl, rfl⟩, ⟨rfl, rfl⟩, ⟨rfl, rfl⟩, ⟨rfl, rfl⟩, rfl, rfl⟩ := e
  refine ⟨fun v w => ?_, fun v w => ?_, fun v w => ?_, fun v w => ?_, fun v w => ?_⟩ <;> kernel_rfl
theorem del_meth {s0 s1 s2 s3 s4 : String} {t0 t1 t2 t3 t4 : TypeId} (h : Tryz.prog.underlying 96 = some (.interface #[(s0, t0), (s1, t1), (s2, t2), (s3, t3), (s4, t4)])) :
    (∀ v w, (method 301 117 v s0).run Tryz.prog w = .ok (155, v) w) ∧ (∀ v w, (method 301 117 v s1).run Tryz.prog w = .ok (156, v) w) ∧ (∀ v w, (method 301 117 v s2).run Tryz.prog w = .ok (157, v) w) ∧ (∀ v w, (method 301 117 v s3).run Tryz.prog w = .ok (158, v) w) ∧ (∀ v w, (method 301 117 v s4).run Tryz.prog w = .ok (159, v) w) := by
  have e := Tryz.underlying96.symm.trans h
  simp at e
  obtain ⟨⟨rfl, rfl⟩, ⟨rfl, rfl⟩, ⟨rfl, rfl⟩, ⟨rfl, rfl⟩, rfl, rfl⟩ := e
  refine ⟨fun v w => ?_, fun v w => ?_, fun v w => ?_, fun v w => ?_, fun v w => ?_⟩ <;> kernel_rfl
theorem joi_meth {s0 s1 s2 s3 s4 : String} {t0 t1 t2 t3 t4 : TypeId} (h : Tryz.prog.underlying 96 = some (.interface #[(s0, t0), (s1, t1), (s2, t2), (s3, t3), (s4, t4)])) :
    (∀ v w, (method 301 119 v s0).run Tryz.prog w = .ok (160, v) w) ∧ (∀ v w, (method 301 119 v s1).run Tryz.prog w = .ok (161, v) w) ∧ (∀ v w, (method 301 119 v s2).run Tryz.prog w = .ok (162, v) w) ∧ (∀ v w, (method 301 119 v s3).run Tryz.prog w = .ok (163, v) w) ∧ (∀ v w, (method 301 119 v s4).run Tryz.prog w = .ok (164, v) w) := by
  have e := Tryz.underlying96.symm.trans h
  simp at e
  obtain ⟨⟨rfl, rfl⟩, ⟨rfl, rfl⟩, ⟨rfl, rfl⟩, ⟨rfl, rfl⟩, rfl, rfl⟩ := e
  refine ⟨fun v w => ?_, fun v w => ?_, fun v w => ?_, fun v w => ?_, fun v w => ?_⟩ <;> kernel_rfl
theorem lea_meth {s0 s1 s2 s3 s4 : String} {t0 t1 t2 t3 t4 : TypeId} (h : Tryz.prog.underlying 96 = some (.interface #[(s0, t0), (s1, t1), (s2, t2), (s3, t3), (s4, t4)])) :
    (∀ v w, (method 301 121 v s0).run Tryz.prog w = .ok (165, v) w) ∧ (∀ v w, (method 301 121 v s1).run Tryz.prog w = .ok (166, v) w) ∧ (∀ v w, (method 301 121 v s2).run Tryz.prog w = .ok (167, v) w) ∧ (∀ v w, (method 301 121 v s3).run Tryz.prog w = .ok (168, v) w) ∧ (∀ v w, (method 301 121 v s4).run Tryz.prog w = .ok (169, v) w) := by
  have e := Tryz.underlying96.symm.trans h
  simp at e
  obtain ⟨⟨rfl, rfl⟩, ⟨rfl, rfl⟩, ⟨rfl, rfl⟩, ⟨rfl, rfl⟩, rfl, rfl⟩ := e
  refine ⟨fun v w => ?_, fun v w => ?_, fun v w => ?_, fun v w => ?_, fun v w => ?_⟩ <;> kernel_rfl

end Go.Proofs.YtkkolefionbbcaaGreat
