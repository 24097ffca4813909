/-
  Operations: Check.
-/
import Derived.Test.YtkkolefionbbcaaGreatZO4
import Derived.Test.YtkkolefionbbcaaGreatZO2
set_option linter.unusedSimpArgs false
set_option linter.unusedVariables false
namespace Go.Proofs.YtkkolefionbbcaaGreat
open Go.RowKit Go.Lib

theorem cells_op {W : World} {b : Nat} {x0 x1 x2 x3 x4 x5 x6 x7 x8 x9 x10 : Value} (h : Bx W b 42 #[x0, x1, x2, x3, x4, x5, x6, x7, x8, x9, x10]) :
    W.cell? ⟨b, 0, none⟩ = some x0 ∧ W.cell? ⟨b, 1, none⟩ = some x1 ∧ W.cell? ⟨b, 2, none⟩ = some x2 ∧ W.cell? ⟨b, 3, none⟩ = some x3 ∧ W.cell? ⟨b, 4, none⟩ = some x4 ∧ W.cell? ⟨b, 5, none⟩ = some x5 ∧ W.cell? ⟨b, 6, none⟩ = some x6 ∧ W.cell? ⟨b, 7, none⟩ = some x7 ∧ W.cell? ⟨b, 8, none⟩ = some x8 ∧ W.cell? ⟨b, 9, none⟩ = some x9 ∧ W.cell? ⟨b, 10, none⟩ = some x10 :=
  ⟨h.cell 0 _ rfl, h.cell 1 _ rfl, h.cell 2 _ rfl, h.cell 3 _ rfl, h.cell 4 _ rfl, h.cell 5 _ rfl, h.cell 6 _ rfl, h.cell 7 _ rfl, h.cell 8 _ rfl, h.cell 9 _ rfl, h.cell 10 _ rfl⟩

set_option maxRecDepth 100000 in
set_option maxHeartbeats 1000000 in
theorem ins_check (ds dq it is rt rs site : Int) (text : ByteArray) (ad a : Option Addr) (nd cd n c : Nat) (Fo Al Ho : Bool) (w : World)
    (HF : ∀ W, Below w.heap.size w W → Calls Tryz.prog 63 #[.agg #[.int .i64 ds, .int .i64 dq], .slice ad nd cd] W fun e W' => e = .returned (.bool Fo) ∧ Below W.heap.size W W')
    (HA : ∀ W, Calls Tryz.prog 64 #[.agg #[.int .i64 ds, .int .i64 dq, .slice ad nd cd, .int .i64 1, .int .i64 it, .int .i64 is, .int .i64 rt, .int .i64 rs, .string text, .slice a n c, .int .i64 site], .iface 115 (.agg #[.int .i64 it, .int .i64 is, .int .i64 rt, .int .i64 rs, .string text])] W fun e W' => e = .returned (.bool Al) ∧ Below W.heap.size W W')
    (HH : ∀ W, Below w.heap.size w W → Calls Tryz.prog 137 #[.agg #[.int .i64 it, .int .i64 is, .int .i64 rt, .int .i64 rs, .string text], .int .i64 ds] W fun e W' => e = .returned (.bool Ho) ∧ Below W.heap.size W W') :
    Calls Tryz.prog 40 #[.agg #[.int .i64 ds, .int .i64 dq, .slice ad nd cd, .int .i64 1, .int .i64 it, .int .i64 is, .int .i64 rt, .int .i64 rs, .string text, .slice a n c, .int .i64 site]] w fun e W => e = .returned (.int .i64 (if (Fo && Al && Ho) = true then 0 else 10)) ∧ Below w.heap.size w W := by
  have hm := (ins_meth Tryz.underlying96).2.1
  have HK := hide (fun W => kindOf_in ⟨ds, dq, [], 1, it, is, rt, rs, text, [], site⟩ (.slice ad nd cd) a n c W)
  unfold opA kv insA at HK
  simp only [if_true] at HK
  obtain ⟨X, hX⟩ : ∃ X, w.alloc (.cells #[.int .i64 ds, .int .i64 dq, .slice ad nd cd, .int .i64 1, .int .i64 it, .int .i64 is, .int .i64 rt, .int .i64 rs, .string text, .slice a n c, .int .i64 site] 42) = X := ⟨_, rfl⟩
  have HX : Hid (Bx X w.heap.size 42 #[.int .i64 ds, .int .i64 dq, .slice ad nd cd, .int .i64 1, .int .i64 it, .int .i64 is, .int .i64 rt, .int .i64 rs, .string text, .slice a n c, .int .i64 site]) := by rw [← hX]; exact Bx.new w _ _
  have B0 : Hid (Below w.heap.size w X) := by rw [← hX]; exact ballc (Below.refl _ _) _
  have xs := cells_op (unhide HX)
  replace HF := hide HF
  replace HA := hide HA
  replace HH := hide HH
  go_enter Tryz.func40, Tryz.ntmps40
  go_wp2_with fail
  refine (unhide HK _).mono ?_
  rintro e W1 ⟨rfl, hb⟩
  replace HX := hide ((unhide HX).below hb)
  replace B0 := hide (bnext (unhide B0) hb)
  obtain ⟨x0, x1, x2, x3, x4, x5, x6, x7, x8, x9, x10⟩ := cells_op (unhide HX)
  clear hX hb xs HK
  go_wp2_with fail
  refine (unhide HF _ (unhide B0)).mono ?_
  rintro e W2 ⟨rfl, hb⟩
  replace HX := hide ((unhide HX).below hb)
  replace B0 := hide (bnext (unhide B0) hb)
  clear x0 x1 x2 x3 x4 x5 x6 x7 x8 x9 x10
  obtain ⟨x0, x1, x2, x3, x4, x5, x6, x7, x8, x9, x10⟩ := cells_op (unhide HX)
  clear hb HF
  cases Fo
  · go_wp2
    go_ret
    exact ⟨rfl, unhide B0⟩
  go_wp2_with fail
  refine (unhide HA _).mono ?_
  rintro e W3 ⟨rfl, hb⟩
  replace HX := hide ((unhide HX).below hb)
  replace B0 := hide (bnext (unhide B0) hb)
  clear x0 x1 x2 x3 x4 x5 x6 x7 x8 x9 x10
  obtain ⟨x0, x1, x2, x3, x4, x5, x6, x7, x8, x9, x10⟩ := cells_op (unhide HX)
  clear hb HA
  cases Al
  · go_wp2
    go_ret
    exact ⟨rfl, unhide B0⟩
  go_wp2_with fail
  refine (unhide HH _ (unhide B0)).mono ?_
  rintro e W4 ⟨rfl, hb⟩
  replace B0 := hide (bnext (unhide B0) hb)
  clear hb HH HX x0 x1 x2 x3 x4 x5 x6 x7 x8 x9 x10
  cases Ho
  · go_wp2
    go_ret
    exact ⟨rfl, unhide B0⟩
  · go_wp2
    go_ret
    exact ⟨rfl, unhide B0⟩

set_option maxRecDepth 100000 in
set_option maxHeartbeats 1000000 in
theorem del_check (ds dq it is rt rs site : Int) (text : ByteArray) (ad a : Option Addr) (nd cd n c : Nat) (Fo Al Ho : Bool) (w : World)
    (HF : ∀ W, Below w.heap.size w W → Calls Tryz.prog 63 #[.agg #[.int .i64 ds, .int .i64 dq], .slice ad nd cd] W fun e W' => e = .returned (.bool Fo) ∧ Below W.heap.size W W')
    (HA : ∀ W, Calls Tryz.prog 64 #[.agg #[.int .i64 ds, .int .i64 dq, .slice ad nd cd, .int .i64 2, .int .i64 it, .int .i64 is, .int .i64 rt, .int .i64 rs, .string text, .slice a n c, .int .i64 site], .iface 117 (.agg #[.slice a n c])] W fun e W' => e = .returned (.bool Al) ∧ Below W.heap.size W W')
    (HH : ∀ W, Below w.heap.size w W → Calls Tryz.prog 156 #[.agg #[.slice a n c], .int .i64 ds] W fun e W' => e = .returned (.bool Ho) ∧ Below W.heap.size W W') :
    Calls Tryz.prog 40 #[.agg #[.int .i64 ds, .int .i64 dq, .slice ad nd cd, .int .i64 2, .int .i64 it, .int .i64 is, .int .i64 rt, .int .i64 rs, .string text, .slice a n c, .int .i64 site]] w fun e W => e = .returned (.int .i64 (if (Fo && Al && Ho) = true then 0 else 10)) ∧ Below w.heap.size w W := by
  have hm := (del_meth Tryz.underlying96).2.1
  have HK := hide (fun W => kindOf_in ⟨ds, dq, [], 2, it, is, rt, rs, text, [], site⟩ (.slice ad nd cd) a n c W)
  unfold opA kv insA at HK
  simp only [show ¬ ((2 : Int) = 1) by decide, if_false, if_true] at HK
  obtain ⟨X, hX⟩ : ∃ X, w.alloc (.cells #[.int .i64 ds, .int .i64 dq, .slice ad nd cd, .int .i64 2, .int .i64 it, .int .i64 is, .int .i64 rt, .int .i64 rs, .string text, .slice a n c, .int .i64 site] 42) = X := ⟨_, rfl⟩
  have HX : Hid (Bx X w.heap.size 42 #[.int .i64 ds, .int .i64 dq, .slice ad nd cd, .int .i64 2, .int .i64 it, .int .i64 is, .int .i64 rt, .int .i64 rs, .string text, .slice a n c, .int .i64 site]) := by rw [← hX]; exact Bx.new w _ _
  have B0 : Hid (Below w.heap.size w X) := by rw [← hX]; exact ballc (Below.refl _ _) _
  have xs := cells_op (unhide HX)
  replace HF := hide HF
  replace HA := hide HA
  replace HH := hide HH
  go_enter Tryz.func40, Tryz.ntmps40
  go_wp2_with fail
  refine (unhide HK _).mono ?_
  rintro e W1 ⟨rfl, hb⟩
  replace HX := hide ((unhide HX).below hb)
  replace B0 := hide (bnext (unhide B0) hb)
  obtain ⟨x0, x1, x2, x3, x4, x5, x6, x7, x8, x9, x10⟩ := cells_op (unhide HX)
  clear hX hb xs HK
  go_wp2_with fail
  refine (unhide HF _ (unhide B0)).mono ?_
  rintro e W2 ⟨rfl, hb⟩
  replace HX := hide ((unhide HX).below hb)
  replace B0 := hide (bnext (unhide B0) hb)
  clear x0 x1 x2 x3 x4 x5 x6 x7 x8 x9 x10
  obtain ⟨x0, x1, x2, x3, x4, x5, x6, x7, x8, x9, x10⟩ := cells_op (unhide HX)
  clear hb HF
  cases Fo
  · go_wp2
    go_ret
    exact ⟨rfl, unhide B0⟩
  go_wp2_with fail
  refine (unhide HA _).mono ?_
  rintro e W3 ⟨rfl, hb⟩
  replace HX := hide ((unhide HX).below hb)
  replace B0 := hide (bnext (unhide B0) hb)
  clear x0 x1 x2 x3 x4 x5 x6 x7 x8 x9 x10
  obtain ⟨x0, x1, x2, x3, x4, x5, x6, x7, x8, x9, x10⟩ := cells_op (unhide HX)
  clear hb HA
  cases Al
  · go_wp2
    go_ret
    exact ⟨rfl, unhide B0⟩
  go_wp2_with fail
  refine (unhide HH _ (unhide B0)).mono ?_
  rintro e W4 ⟨rfl, hb⟩
  replace B0 := hide (bnext (unhide B0) hb)
  clear hb HH HX x0 x1 x2 x3 x4 x5 x6 x7 x8 x9 x10
  cases Ho
  · go_wp2
    go_ret
    exact ⟨rfl, unhide B0⟩
  · go_wp2
    go_ret
    exact ⟨rfl, unhide B0⟩

set_option maxRecDepth 100000 in
set_option maxHeartbeats 1000000 in
theorem join_check (ds dq it is rt rs site : Int) (text : ByteArray) (ad a : Option Addr) (nd cd n c : Nat) (Fo Al Ho : Bool) (w : World)
    (HF : ∀ W, Below w.heap.size w W → Calls Tryz.prog 63 #[.agg #[.int .i64 ds, .int .i64 dq], .slice ad nd cd] W fun e W' => e = .returned (.bool Fo) ∧ Below W.heap.size W W')
    (HA : ∀ W, Calls Tryz.prog 64 #[.agg #[.int .i64 ds, .int .i64 dq, .slice ad nd cd, .int .i64 3, .int .i64 it, .int .i64 is, .int .i64 rt, .int .i64 rs, .string text, .slice a n c, .int .i64 site], .iface 119 (.agg #[.int .i64 site])] W fun e W' => e = .returned (.bool Al) ∧ Below W.heap.size W W')
    (HH : ∀ W, Below w.heap.size w W → Calls Tryz.prog 161 #[.agg #[.int .i64 site], .int .i64 ds] W fun e W' => e = .returned (.bool Ho) ∧ Below W.heap.size W W') :
    Calls Tryz.prog 40 #[.agg #[.int .i64 ds, .int .i64 dq, .slice ad nd cd, .int .i64 3, .int .i64 it, .int .i64 is, .int .i64 rt, .int .i64 rs, .string text, .slice a n c, .int .i64 site]] w fun e W => e = .returned (.int .i64 (if (Fo && Al && Ho) = true then 0 else 10)) ∧ Below w.heap.size w W := by
  have hm := (joi_meth Tryz.underlying96).2.1
  have HK := hide (fun W => kindOf_in ⟨ds, dq, [], 3, it, is, rt, rs, text, [], site⟩ (.slice ad nd cd) a n c W)
  unfold opA kv insA at HK
  simp only [show ¬ ((3 : Int) = 1) by decide, show ¬ ((3 : Int) = 2) by decide, if_false, if_true] at HK
  obtain ⟨X, hX⟩ : ∃ X, w.alloc (.cells #[.int .i64 ds, .int .i64 dq, .slice ad nd cd, .int .i64 3, .int .i64 it, .int .i64 is, .int .i64 rt, .int .i64 rs, .string text, .slice a n c, .int .i64 site] 42) = X := ⟨_, rfl⟩
  have HX : Hid (Bx X w.heap.size 42 #[.int .i64 ds, .int .i64 dq, .slice ad nd cd, .int .i64 3, .int .i64 it, .int .i64 is, .int .i64 rt, .int .i64 rs, .string text, .slice a n c, .int .i64 site]) := by rw [← hX]; exact Bx.new w _ _
  have B0 : Hid (Below w.heap.size w X) := by rw [← hX]; exact ballc (Below.refl _ _) _
  have xs := cells_op (unhide HX)
  replace HF := hide HF
  replace HA := hide HA
  replace HH := hide HH
  go_enter Tryz.func40, Tryz.ntmps40
  go_wp2_with fail
  refine (unhide HK _).mono ?_
  rintro e W1 ⟨rfl, hb⟩
  replace HX := hide ((unhide HX).below hb)
  replace B0 := hide (bnext (unhide B0) hb)
  obtain ⟨x0, x1, x2, x3, x4, x5, x6, x7, x8, x9, x10⟩ := cells_op (unhide HX)
  clear hX hb xs HK
  go_wp2_with fail
  refine (unhide HF _ (unhide B0)).mono ?_
  rintro e W2 ⟨rfl, hb⟩
  replace HX := hide ((unhide HX).below hb)
  replace B0 := hide (bnext (unhide B0) hb)
  clear x0 x1 x2 x3 x4 x5 x6 x7 x8 x9 x10
  obtain ⟨x0, x1, x2, x3, x4, x5, x6, x7, x8, x9, x10⟩ := cells_op (unhide HX)
  clear hb HF
  cases Fo
  · go_wp2
    go_ret
    exact ⟨rfl, unhide B0⟩
  go_wp2_with fail
  refine (unhide HA _).mono ?_
  rintro e W3 ⟨rfl, hb⟩
  replace HX := hide ((unhide HX).below hb)
  replace B0 := hide (bnext (unhide B0) hb)
  clear x0 x1 x2 x3 x4 x5 x6 x7 x8 x9 x10
  obtain ⟨x0, x1, x2, x3, x4, x5, x6, x7, x8, x9, x10⟩ := cells_op (unhide HX)
  clear hb HA
  cases Al
  · go_wp2
    go_ret
    exact ⟨rfl, unhide B0⟩
  go_wp2_with fail
  refine (unhide HH _ (unhide B0)).mono ?_
  rintro e W4 ⟨rfl, hb⟩
  replace B0 := hide (bnext (unhide B0) hb)
  clear hb HH HX x0 x1 x2 x3 x4 x5 x6 x7 x8 x9 x10
  cases Ho
  · go_wp2
    go_ret
    exact ⟨rfl, unhide B0⟩
  · go_wp2
    go_ret
    exact ⟨rfl, unhide B0⟩

set_option maxRecDepth 100000 in
set_option maxHeartbeats 1000000 in
theorem leave_check (ds dq it is rt rs site : Int) (text : ByteArray) (ad a : Option Addr) (nd cd n c : Nat) (Fo Al Ho : Bool) (w : World)
    (HF : ∀ W, Below w.heap.size w W → Calls Tryz.prog 63 #[.agg #[.int .i64 ds, .int .i64 dq], .slice ad nd cd] W fun e W' => e = .returned (.bool Fo) ∧ Below W.heap.size W W')
    (HA : ∀ W, Calls Tryz.prog 64 #[.agg #[.int .i64 ds, .int .i64 dq, .slice ad nd cd, .int .i64 4, .int .i64 it, .int .i64 is, .int .i64 rt, .int .i64 rs, .string text, .slice a n c, .int .i64 site], .iface 121 (.agg #[])] W fun e W' => e = .returned (.bool Al) ∧ Below W.heap.size W W')
    (HH : ∀ W, Below w.heap.size w W → Calls Tryz.prog 166 #[.agg #[], .int .i64 ds] W fun e W' => e = .returned (.bool Ho) ∧ Below W.heap.size W W') :
    Calls Tryz.prog 40 #[.agg #[.int .i64 ds, .int .i64 dq, .slice ad nd cd, .int .i64 4, .int .i64 it, .int .i64 is, .int .i64 rt, .int .i64 rs, .string text, .slice a n c, .int .i64 site]] w fun e W => e = .returned (.int .i64 (if (Fo && Al && Ho) = true then 0 else 10)) ∧ Below w.heap.size w W := by
  have hm := (lea_meth Tryz.underlying96).2.1
  have HK := hide (fun W => kindOf_in ⟨ds, dq, [], 4, it, is, rt, rs, text, [], site⟩ (.slice ad nd cd) a n c W)
  unfold opA kv insA at HK
  simp only [show ¬ ((4 : Int) = 1) by decide, show ¬ ((4 : Int) = 2) by decide, show ¬ ((4 : Int) = 3) by decide, if_false, if_true] at HK
  obtain ⟨X, hX⟩ : ∃ X, w.alloc (.cells #[.int .i64 ds, .int .i64 dq, .slice ad nd cd, .int .i64 4, .int .i64 it, .int .i64 is, .int .i64 rt, .int .i64 rs, .string text, .slice a n c, .int .i64 site] 42) = X := ⟨_, rfl⟩
  have HX : Hid (Bx X w.heap.size 42 #[.int .i64 ds, .int .i64 dq, .slice ad nd cd, .int .i64 4, .int .i64 it, .int .i64 is, .int .i64 rt, .int .i64 rs, .string text, .slice a n c, .int .i64 site]) := by rw [← hX]; exact Bx.new w _ _
  have B0 : Hid (Below w.heap.size w X) := by rw [← hX]; exact ballc (Below.refl _ _) _
  have xs := cells_op (unhide HX)
  replace HF := hide HF
  replace HA := hide HA
  replace HH := hide HH
  go_enter Tryz.func40, Tryz.ntmps40
  go_wp2_with fail
  refine (unhide HK _).mono ?_
  rintro e W1 ⟨rfl, hb⟩
  replace HX := hide ((unhide HX).below hb)
  replace B0 := hide (bnext (unhide B0) hb)
  obtain ⟨x0, x1, x2, x3, x4, x5, x6, x7, x8, x9, x10⟩ := cells_op (unhide HX)
  clear hX hb xs HK
  go_wp2_with fail
  refine (unhide HF _ (unhide B0)).mono ?_
  rintro e W2 ⟨rfl, hb⟩
  replace HX := hide ((unhide HX).below hb)
  replace B0 := hide (bnext (unhide B0) hb)
  clear x0 x1 x2 x3 x4 x5 x6 x7 x8 x9 x10
  obtain ⟨x0, x1, x2, x3, x4, x5, x6, x7, x8, x9, x10⟩ := cells_op (unhide HX)
  clear hb HF
  cases Fo
  · go_wp2
    go_ret
    exact ⟨rfl, unhide B0⟩
  go_wp2_with fail
  refine (unhide HA _).mono ?_
  rintro e W3 ⟨rfl, hb⟩
  replace HX := hide ((unhide HX).below hb)
  replace B0 := hide (bnext (unhide B0) hb)
  clear x0 x1 x2 x3 x4 x5 x6 x7 x8 x9 x10
  obtain ⟨x0, x1, x2, x3, x4, x5, x6, x7, x8, x9, x10⟩ := cells_op (unhide HX)
  clear hb HA
  cases Al
  · go_wp2
    go_ret
    exact ⟨rfl, unhide B0⟩
  go_wp2_with fail
  refine (unhide HH _ (unhide B0)).mono ?_
  rintro e W4 ⟨rfl, hb⟩
  replace B0 := hide (bnext (unhide B0) hb)
  clear hb HH HX x0 x1 x2 x3 x4 x5 x6 x7 x8 x9 x10
  cases Ho
  · go_wp2
    go_ret
    exact ⟨rfl, unhide B0⟩
  · go_wp2
    go_ret
    exact ⟨rfl, unhide B0⟩

set_option maxRecDepth 100000 in
theorem none_check (ds dq kind it is rt rs site : Int) (text : ByteArray) (ad a : Option Addr) (nd cd n c : Nat) (w : World) (h1 : ¬ kind = 1) (h2 : ¬ kind = 2) (h3 : ¬ kind = 3) (h4 : ¬ kind = 4) :
    Calls Tryz.prog 40 #[.agg #[.int .i64 ds, .int .i64 dq, .slice ad nd cd, .int .i64 kind, .int .i64 it, .int .i64 is, .int .i64 rt, .int .i64 rs, .string text, .slice a n c, .int .i64 site]] w fun e W => e = .returned (.int .i64 10) ∧ Below w.heap.size w W := by
  have HK := hide (fun W => kindOf_in ⟨ds, dq, [], kind, it, is, rt, rs, text, [], site⟩ (.slice ad nd cd) a n c W)
  unfold opA kv insA at HK
  simp only [h1, h2, h3, h4, if_false] at HK
  have B0 := hide (ballc (Below.refl w.heap.size w) (.cells #[.int .i64 ds, .int .i64 dq, .slice ad nd cd, .int .i64 kind, .int .i64 it, .int .i64 is, .int .i64 rt, .int .i64 rs, .string text, .slice a n c, .int .i64 site] 42))
  clear h1 h2 h3 h4
  go_enter Tryz.func40, Tryz.ntmps40
  go_wp2_with fail
  refine (unhide HK _).mono ?_
  rintro e W1 ⟨rfl, hb⟩
  replace B0 := hide (bnext (unhide B0) hb)
  clear hb HK
  go_wp2
  go_ret
  exact ⟨rfl, unhide B0⟩

theorem text_empty (t : ByteArray) : decide (t = ⟨#[]⟩) = decide (t.size = 0) := by
  rw [Bool.eq_iff_iff, decide_eq_true_eq, decide_eq_true_eq]
  constructor
  · rintro rfl; rfl
  · intro h
    exact ByteArray.ext (Array.eq_empty_of_size_eq_zero h)
theorem len_zero {α : Type} (l : List α) : decide (((l.length : Nat) : Int) = 0) = decide (l.length = 0) := by
  rw [Bool.eq_iff_iff, decide_eq_true_eq, decide_eq_true_eq]
  omega

theorem OCheck_in (o : Opn) (vd vg : Value) (w : World) (hd : RI w vd o.deps) (hg : RR w vg o.gone) (hi : InO o) :
    Calls Tryz.prog 40 #[opA o vd vg] w fun e W => e = .returned (.int .i64 (chkO o)) ∧ Below w.heap.size w W := by
  obtain ⟨ad, cd, rfl⟩ := hd.form
  obtain ⟨a, c, rfl⟩ := RC.form hg
  have HF := fun (W : World) (hb : Below w.heap.size w W) => follows_in o.ds o.dq _ o.deps W (hd.below hb) hi.deps
  unfold chkO okO
  by_cases h1 : o.kind = 1
  · have e1 : kindO o = true := by unfold kindO; rw [h1]; rfl
    have e2 : aloneO o = (decide (((o.gone.length : Nat) : Int) = 0) && decide (o.site = 0)) := by unfold aloneO; rw [if_pos h1, len_zero]
    have e3 : holdO o = insO o.ds o.it o.is o.rt o.rs o.text := by unfold holdO; rw [if_pos h1]
    rw [e1, e2, e3, Bool.true_and]
    unfold opA
    rw [h1]
    exact ins_check o.ds o.dq o.it o.is o.rt o.rs o.site o.text ad a _ cd _ c _ _ _ w HF (fun W => insAlone_in _ _ _ _ _ _ _ _ _ _ _ _ _ W) (fun W hb => insHolds_in o.it o.is o.rt o.rs o.text o.ds W hi.text hi.it hi.is hi.rt hi.rs)
  by_cases h2 : o.kind = 2
  · have e1 : kindO o = true := by unfold kindO; rw [h2]; rfl
    have e2 : aloneO o = (decide (o.it = 0) && decide (o.is = 0) && decide (o.rt = 0) && decide (o.rs = 0) && decide (o.text = ⟨#[]⟩) && decide (o.site = 0)) := by unfold aloneO bareO; rw [if_neg h1, if_pos h2, text_empty]
    have e3 : holdO o = delO o.gone := by unfold holdO; rw [if_neg h1, if_pos h2]
    rw [e1, e2, e3, Bool.true_and]
    unfold opA
    rw [h2]
    exact del_check o.ds o.dq o.it o.is o.rt o.rs o.site o.text ad a _ cd _ c _ _ _ w HF (fun W => delAlone_in _ _ _ _ _ _ _ _ _ _ _ _ _ W) (fun W hb => delHolds_in _ o.gone o.ds W (RC.below hg hb) hi.gone hi.many)
  by_cases h3 : o.kind = 3
  · have e1 : kindO o = true := by unfold kindO; rw [h3]; rfl
    have e2 : aloneO o = (decide (o.it = 0) && decide (o.is = 0) && decide (o.rt = 0) && decide (o.rs = 0) && decide (o.text = ⟨#[]⟩) && decide (((o.gone.length : Nat) : Int) = 0)) := by unfold aloneO bareO; rw [if_neg h1, if_neg h2, if_pos h3, text_empty, len_zero]
    have e3 : holdO o = isT o.site := by unfold holdO; rw [if_neg h1, if_neg h2, if_pos h3]
    rw [e1, e2, e3, Bool.true_and]
    unfold opA
    rw [h3]
    exact join_check o.ds o.dq o.it o.is o.rt o.rs o.site o.text ad a _ cd _ c _ _ _ w HF (fun W => joinAlone_in _ _ _ _ _ _ _ _ _ _ _ _ _ W) (fun W hb => joinHolds_in o.site o.ds W)
  by_cases h4 : o.kind = 4
  · have e1 : kindO o = true := by unfold kindO; rw [h4]; rfl
    have e2 : aloneO o = (decide (o.it = 0) && decide (o.is = 0) && decide (o.rt = 0) && decide (o.rs = 0) && decide (o.text = ⟨#[]⟩) && decide (((o.gone.length : Nat) : Int) = 0) && decide (o.site = 0)) := by unfold aloneO bareO; rw [if_neg h1, if_neg h2, if_neg h3, text_empty, len_zero]
    have e3 : holdO o = true := by unfold holdO; rw [if_neg h1, if_neg h2, if_neg h3]
    rw [e1, e2, e3, Bool.true_and]
    unfold opA
    rw [h4]
    exact leave_check o.ds o.dq o.it o.is o.rt o.rs o.site o.text ad a _ cd _ c _ _ _ w HF (fun W => leaveAlone_in _ _ _ _ _ _ _ _ _ _ _ _ _ W) (fun W hb => leaveHolds_in o.ds W)
  have e1 : kindO o = false := by unfold kindO; simp; omega
  rw [e1]
  simp only [Bool.false_and, Bool.false_eq_true, if_false]
  exact none_check o.ds o.dq o.kind o.it o.is o.rt o.rs o.site o.text ad a _ cd _ c w h1 h2 h3 h4

end Go.Proofs.YtkkolefionbbcaaGreat
