/-
  Operations: their parts; what a kind has alone.
-/
import Derived.Test.YtijjoikeceechaaGreatZXO1
import Derived.Deep.RegionWith

set_option linter.unusedSimpArgs false
set_option linter.unusedVariables false
namespace Go.Proofs.YtijjoikeceechaaGreat
open Go.RowKit Go.Lib

def parV (it is rt rs : Int) (t : ByteArray) (n : Int) (site : Int) : Value := .agg #[.int .i64 it, .int .i64 is, .int .i64 rt, .int .i64 rs, .string t, .int .i64 n, .int .i64 site]

theorem sizeP : (Tryz.prog.info? 114).map (·.size) = some 7 := by kernel_rfl
theorem sizeO : (Tryz.prog.info? 45).map (·.size) = some 11 := by kernel_rfl

set_option maxRecDepth 100000 in
theorem partsOf_in (o : Opn) (vd : Value) (a : Option Addr) (n c : Nat) (w : World) :
    Calls Tryz.prog 71 #[opA o vd (.slice a n c)] w fun e W => e = .returned (parV o.it o.is o.rt o.rs o.text (n : Nat) o.site) ∧ Below w.heap.size w W := by
  obtain ⟨ds, dq, deps, kind, it, is, rt, rs, text, gone, site⟩ := o
  unfold opA parV
  simp only
  go_enter Tryz.func71, Tryz.ntmps71
  go_wp2
  have hq := Bx.new (w.alloc (.cells #[.int .i64 ds, .int .i64 dq, vd, .int .i64 kind, .int .i64 it, .int .i64 is, .int .i64 rt, .int .i64 rs, .string text, .slice a n c, .int .i64 site] 45)) 114 #[.int .i64 it, .int .i64 is, .int .i64 rt, .int .i64 rs, .string text, .int .i64 (n : Nat), .int .i64 site]
  rw [World.size_alloc] at hq
  refine bodyPost_ret (results_cell_row rfl _ _ (w.heap.size + 1) _ _ _ _ rfl hq Tryz.underlying114 rfl sizeP) rfl ?_
  exact ⟨rfl, ballc (ballc (Below.refl _ _) _) _⟩

theorem eqP (it is rt rs n s it' is' rt' rs' n' s' : Int) (t t' : ByteArray) (w : World) : (binOp .eql 114 (parV it is rt rs t n s) (parV it' is' rt' rs' t' n' s')).run Tryz.prog w = .ok (.bool (decide (it = it') && (decide (is = is') && (decide (rt = rt') && (decide (rs = rs') && (decide (t = t') && (decide (n = n') && decide (s = s')))))))) w := by
  unfold parV
  by_cases h1 : it = it'
  · by_cases h2 : is = is'
    · by_cases h3 : rt = rt'
      · by_cases h4 : rs = rs'
        · by_cases h5 : t = t'
          · by_cases h6 : n = n'
            · by_cases h7 : s = s'
              · subst h1 h2 h3 h4 h5 h6 h7; simp [go_sem]
              · subst h1 h2 h3 h4 h5 h6; simp [go_sem, h7]
            · subst h1 h2 h3 h4 h5; simp [go_sem, h6]
          · subst h1 h2 h3 h4
            have h5' : (t.toList == t'.toList) = false := by
              rw [beq_eq_false_iff_ne]
              intro e
              rw [ByteArray.toList_eq, ByteArray.toList_eq] at e
              exact h5 (ByteArray.ext (Array.toList_inj.1 e))
            simp [go_sem, h5, h5']
        · subst h1 h2 h3; simp [go_sem, h4]
      · subst h1 h2; simp [go_sem, h3]
    · subst h1; simp [go_sem, h2]
  · simp [go_sem, h1]

set_option maxRecDepth 100000 in
set_option maxHeartbeats 1000000 in
theorem delFill_in {w : World} {p : Nat} (a : Option Addr) (n c : Nat) (x0 x1 x2 x3 x4 x5 x6 x7 x8 x9 x10 : Value) (h : Bx w p 45 #[x0, x1, x2, x3, x4, x5, x6, x7, x8, x9, x10]) :
    Calls Tryz.prog 121 #[.agg #[.slice a n c], .pointer (some ⟨p, 0, none⟩)] w fun e W => e = .returned (.tuple #[]) ∧ Bx W p 45 #[x0, x1, x2, x3, x4, x5, x6, x7, x8, .slice a n c, x10] ∧ Kp (fun k => k = p) w W := by
  have hl := h.lt
  have HX := h.below (ballc (Below.refl _ w) (.cells #[.slice a n c] 106))
  have c9 := HX.cell 9 _ rfl
  have f9 := HX.frozen 9
  have HS := hide ((h.set 9 (.slice a n c)).below (ballc (Below.refl _ _) (.cells #[.slice a n c] 106)))
  have HP := hide ((Kp.set (N := fun k => k = p) w ⟨p, 9, none⟩ (.slice a n c) rfl).trans (M := fun _ => False) (Kp.of_below (ballc (Below.refl _ _) (.cells #[.slice a n c] 106))) (fun i h => h.elim))
  have B0 := hide (ballc (Below.refl w.heap.size w) (.cells #[.slice a n c] 106))
  clear h HX
  go_enter Tryz.func121, Tryz.ntmps121
  go_wp2
  go_end0
  exact ⟨rfl, by simpa using unhide HS, unhide HP⟩

set_option maxRecDepth 100000 in
set_option maxHeartbeats 1000000 in
theorem joinFill_in {w : World} {p : Nat} (n : Int) (x0 x1 x2 x3 x4 x5 x6 x7 x8 x9 x10 : Value) (h : Bx w p 45 #[x0, x1, x2, x3, x4, x5, x6, x7, x8, x9, x10]) :
    Calls Tryz.prog 126 #[.agg #[.int .i64 n], .pointer (some ⟨p, 0, none⟩)] w fun e W => e = .returned (.tuple #[]) ∧ Bx W p 45 #[x0, x1, x2, x3, x4, x5, x6, x7, x8, x9, .int .i64 n] ∧ Kp (fun k => k = p) w W := by
  have hl := h.lt
  have HX := h.below (ballc (Below.refl _ w) (.cells #[.int .i64 n] 108))
  have c9 := HX.cell 10 _ rfl
  have f9 := HX.frozen 10
  have HS := hide ((h.set 10 (.int .i64 n)).below (ballc (Below.refl _ _) (.cells #[.int .i64 n] 108)))
  have HP := hide ((Kp.set (N := fun k => k = p) w ⟨p, 10, none⟩ (.int .i64 n) rfl).trans (M := fun _ => False) (Kp.of_below (ballc (Below.refl _ _) (.cells #[.int .i64 n] 108))) (fun i h => h.elim))
  have B0 := hide (ballc (Below.refl w.heap.size w) (.cells #[.int .i64 n] 108))
  clear h HX
  go_enter Tryz.func126, Tryz.ntmps126
  go_wp2
  go_end0
  exact ⟨rfl, by simpa using unhide HS, unhide HP⟩

set_option maxRecDepth 100000 in
set_option maxHeartbeats 1000000 in
theorem leaveFill_in {w : World} {p : Nat}  (x0 x1 x2 x3 x4 x5 x6 x7 x8 x9 x10 : Value) (h : Bx w p 45 #[x0, x1, x2, x3, x4, x5, x6, x7, x8, x9, x10]) :
    Calls Tryz.prog 131 #[.agg #[], .pointer (some ⟨p, 0, none⟩)] w fun e W => e = .returned (.tuple #[]) ∧ Bx W p 45 #[x0, x1, x2, x3, x4, x5, x6, x7, x8, x9, x10] ∧ Kp (fun k => k = p) w W := by
  have HX := hide (h.below (ballc (Below.refl _ w) (.cells #[] 110)))
  have B0 := hide (ballc (Below.refl w.heap.size w) (.cells #[] 110))
  clear h
  go_enter Tryz.func131, Tryz.ntmps131
  go_wp2
  go_end0
  exact ⟨rfl, unhide HX, Kp.of_below (unhide B0)⟩

end Go.Proofs.YtijjoikeceechaaGreat

/-
  Operations: an insertion's fill.
-/
set_option linter.unusedSimpArgs false
set_option linter.unusedVariables false
namespace Go.Proofs.YtijjoikeceechaaGreat
open Go.RowKit Go.Lib

set_option maxRecDepth 100000 in
set_option maxHeartbeats 1000000 in
theorem insFill_in {w : World} {p : Nat} (it is rt rs : Int) (t : ByteArray) (x0 x1 x2 x3 x4 x5 x6 x7 x8 x9 x10 : Value) (h : Bx w p 45 #[x0, x1, x2, x3, x4, x5, x6, x7, x8, x9, x10]) :
    Calls Tryz.prog 99 #[.agg #[.int .i64 it, .int .i64 is, .int .i64 rt, .int .i64 rs, .string t], .pointer (some ⟨p, 0, none⟩)] w fun e W => e = .returned (.tuple #[]) ∧ Bx W p 45 #[x0, x1, x2, x3, .int .i64 it, .int .i64 is, .int .i64 rt, .int .i64 rs, .string t, x9, x10] ∧ Kp (fun k => k = p) w W := by
  have hl := h.lt
  have hne : p ≠ w.heap.size := by omega
  have c4 := h.cell 4 _ rfl
  have f4 := h.frozen 4
  have c5 := h.cell 5 _ rfl
  have f5 := h.frozen 5
  have c6 := h.cell 6 _ rfl
  have f6 := h.frozen 6
  have c7 := h.cell 7 _ rfl
  have f7 := h.frozen 7
  have c8 := h.cell 8 _ rfl
  have f8 := h.frozen 8
  have HX := hide h
  clear h
  go_enter Tryz.func99, Tryz.ntmps99
  go_wp2
  go_region
  all_goals
    go_wp2
    go_end0
    refine ⟨rfl, ?_, ?_⟩
    · have q := ((((((unhide HX).set 4 (.int .i64 it)).set 5 (.int .i64 is)).set 6 (.int .i64 rt)).set 7 (.int .i64 rs)).set 8 (.string t)).below (ballc (Below.refl _ _) (.cells #[.int .i64 it, .int .i64 is, .int .i64 rt, .int .i64 rs, .string t] 104)).drew
      simpa using q
    · have k1 := Kp.set (N := fun k => k = p) w ⟨p, 4, none⟩ (.int .i64 it) rfl
      have k2 := k1.trans (M := fun k => k = p) (Kp.set _ ⟨p, 5, none⟩ (.int .i64 is) rfl) (fun i h => .inl h)
      have k3 := k2.trans (M := fun k => k = p) (Kp.set _ ⟨p, 6, none⟩ (.int .i64 rt) rfl) (fun i h => .inl h)
      have k4 := k3.trans (M := fun k => k = p) (Kp.set _ ⟨p, 7, none⟩ (.int .i64 rs) rfl) (fun i h => .inl h)
      have k5 := k4.trans (M := fun k => k = p) (Kp.set _ ⟨p, 8, none⟩ (.string t) rfl) (fun i h => .inl h)
      exact k5.trans (M := fun _ => False) (Kp.of_below (ballc (Below.refl _ _) _).drew) (fun i h => h.elim)

end Go.Proofs.YtijjoikeceechaaGreat
