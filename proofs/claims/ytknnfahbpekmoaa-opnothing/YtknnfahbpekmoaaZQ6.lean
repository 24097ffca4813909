/-
  Put, to a Writer that is none.
-/
import Derived.Test.YtknnfahbpekmoaaZQ4
set_option linter.unusedSimpArgs false
set_option linter.unusedVariables false
namespace Go.Proofs.Ytknnfahbpekmoaa
open Go.RowKit Go.Lib

set_option maxRecDepth 100000 in
theorem insPut_nil (it is rt rs : Int) (t : ByteArray) (w : World) :
    Calls Try.prog 66 #[.agg #[.int .i64 it, .int .i64 is, .int .i64 rt, .int .i64 rs, .string t], .pointer none] w fun r W => r = .returned (.tuple #[]) ∧ Below w.heap.size w W := by
  have HN := hide (fun w n => wNumber_nil w n)
  have HT := hide (fun w => wText_nil w t)
  have B0 := hide (ballc (Below.refl w.heap.size w) (.cells #[.int .i64 it, .int .i64 is, .int .i64 rt, .int .i64 rs, .string t] 82))
  go_enter Try.func66, Try.ntmps66
  go_wp2_with fail
  refine (unhide HN _ _).mono ?_
  rintro r W ⟨rfl, rfl⟩
  go_wp2_with fail
  refine (unhide HN _ _).mono ?_
  rintro r W ⟨rfl, rfl⟩
  go_wp2_with fail
  refine (unhide HN _ _).mono ?_
  rintro r W ⟨rfl, rfl⟩
  go_wp2_with fail
  refine (unhide HT _).mono ?_
  rintro r W ⟨rfl, rfl⟩
  go_wp2
  go_end0
  exact ⟨rfl, unhide B0⟩

set_option maxRecDepth 100000 in
theorem joinPut_nil (n : Int) (w : World) :
    Calls Try.prog 98 #[.agg #[.int .i64 n], .pointer none] w fun r W => r = .returned (.tuple #[]) ∧ Below w.heap.size w W := by
  have HN := hide (fun w n => wNumber_nil w n)
  have B0 := hide (ballc (Below.refl w.heap.size w) (.cells #[.int .i64 n] 86))
  go_enter Try.func98, Try.ntmps98
  go_wp2_with fail
  refine (unhide HN _ _).mono ?_
  rintro r W ⟨rfl, rfl⟩
  go_wp2
  go_end0
  exact ⟨rfl, unhide B0⟩

set_option maxRecDepth 100000 in
theorem leavePut_nil (w : World) :
    Calls Try.prog 103 #[.agg #[], .pointer none] w fun r W => r = .returned (.tuple #[]) ∧ Below w.heap.size w W := by
  have B0 := hide (ballc (Below.refl w.heap.size w) (.cells #[] 88))
  go_enter Try.func103, Try.ntmps103
  go_wp2
  go_end0
  exact ⟨rfl, unhide B0⟩

set_option maxRecDepth 100000 in
set_option maxHeartbeats 1000000 in
theorem delPut_nil (u : Value) (g : List ((Int × Int) × Int)) (w : World) (hu : RR w u g) (hg : g.length ≤ 1024) :
    Calls Try.prog 92 #[.agg #[u], .pointer none] w fun r W => r = .returned (.tuple #[]) ∧ Below w.heap.size w W := by
  have HN := hide (fun w n => wNumber_nil w n)
  obtain ⟨a, c, rfl⟩ := RC.form hu
  obtain ⟨X, hX⟩ : ∃ X, w.alloc (.cells #[.slice a g.length c] 84) = X := ⟨_, rfl⟩
  have HX : Bx X w.heap.size 84 #[.slice a g.length c] := by rw [← hX]; exact Bx.new w _ _
  have bX : Hid (Below w.heap.size w X) := by rw [← hX]; exact ballc (Below.refl _ _) _
  have HU : Hid (RR X (.slice a g.length c) g) := RC.below hu (unhide bX)
  obtain ⟨n, hn⟩ : ∃ n, g.length = n := ⟨_, rfl⟩
  rw [hn] at HX HU hg hX ⊢
  have x0 := HX.cell 0 _ rfl
  have xl := HX.lt
  have Hn := hide hn
  clear hu hn HX
  go_enter Try.func92, Try.ntmps92
  go_wp2_with fail
  refine (unhide HN _ _).mono ?_
  rintro r W ⟨rfl, rfl⟩
  go_wp2
  clear x0 xl hX
  go_loopw [14] (fun iv wr => ∃ (i : Nat), iv = .int .i64 (i : Nat) ∧ i ≤ n ∧ Hid (Below w.heap.size w wr) ∧ Hid (RR wr (.slice a n c) g)) (fun iv _ => n - (Lib.intOf iv).toNat)
  case atStart => exact ⟨0, rfl, by omega, bX, HU⟩
  case round =>
    clear bX HU
    obtain ⟨i, rfl, hin, B0, HU⟩ := hrel
    by_cases hlt : i < n
    · have hlt' : (i : Int) < (n : Int) := by omega
      obtain ⟨x, hx⟩ : ∃ x, g[i]? = some x := ⟨_, List.getElem?_eq_getElem (by have := unhide Hn; omega)⟩
      obtain ⟨b, off, rfl, hb, q0, q1, q2⟩ := RR.at (unhide HU) hx
      obtain ⟨⟨y0, y1⟩, y2⟩ := x
      simp only at q0 q1 q2
      have bY := ballc (Below.refl wr.heap.size wr) (.cells #[.int .i64 y0, .int .i64 y1, .int .i64 y2] 67)
      have HU2 := hide (RC.below (unhide HU) bY)
      have B2 := hide (bnext (unhide B0) bY)
      clear bY hx
      go_wp2_with fail
      refine (unhide HN _ _).mono ?_
      rintro r W ⟨rfl, rfl⟩
      go_wp2_with fail
      refine (unhide HN _ _).mono ?_
      rintro r W ⟨rfl, rfl⟩
      go_wp2_with fail
      refine (unhide HN _ _).mono ?_
      rintro r W ⟨rfl, rfl⟩
      go_wp2
      go_roundw
      case measure => show n - ((i : Int) + 1).toNat < n - ((i : Nat) : Int).toNat; omega
      case rel => exact ⟨i + 1, by go_num, by omega, B2, HU2⟩
    · have hlt' : ¬ (i : Int) < (n : Int) := by omega
      go_wp2
      go_end0
      exact ⟨rfl, unhide B0⟩

set_option maxRecDepth 100000 in
set_option maxHeartbeats 1000000 in
theorem vPut_nil (u : Value) (l : List (Int × Int)) (w : World) (hu : RI w u l) (hl : l.length ≤ 140737488355328) :
    Calls Try.prog 21 #[.pointer none, u] w fun r W => r = .returned (.tuple #[]) ∧ Below w.heap.size w W := by
  have HN := hide (fun w n => wNumber_nil w n)
  have HR := hide (read_in u l w hu hl)
  obtain ⟨a, c, rfl⟩ := hu.form
  clear hu
  generalize sy l = s at *
  have HV := hide (fun W => vector_in s W)
  have hvl := vec_len s
  obtain ⟨d, hd⟩ : ∃ d, vec s = d := ⟨_, rfl⟩
  rw [hd] at HV hvl
  clear hd
  obtain ⟨n, hn⟩ : ∃ n, d.length = n := ⟨_, rfl⟩
  have Hn := hide hn
  rw [hn] at hvl
  go_enter Try.func21, Try.ntmps21
  go_wp2_with fail
  refine (unhide HR).mono ?_
  rintro r W1 ⟨rfl, hb1⟩
  replace hb1 := hide hb1
  go_wp2_with fail
  refine (unhide HV _).mono ?_
  rintro r W2 ⟨dv, rfl, ho, hb2⟩
  obtain ⟨ad, cd, hdv⟩ := ho.form
  rw [hn] at hdv
  subst hdv
  have B0 := hide (bnext (unhide hb1) hb2)
  have HD : Hid (RI W2 (.slice ad n cd) d) := ho.row
  clear hn ho hb1 hb2 HR HV
  go_wp2_with fail
  refine (unhide HN _ _).mono ?_
  rintro r W ⟨rfl, rfl⟩
  go_wp2
  go_loopw [16] (fun iv wr => ∃ (i : Nat), iv = .int .i64 (i : Nat) ∧ i ≤ n ∧ Hid (Below w.heap.size w wr) ∧ Hid (RI wr (.slice ad n cd) d)) (fun iv _ => n - (Lib.intOf iv).toNat)
  case atStart => exact ⟨0, rfl, by omega, B0, HD⟩
  case round =>
    clear B0 HD
    obtain ⟨i, rfl, hin, B0, HU⟩ := hrel
    by_cases hlt : i < n
    · have hlt' : (i : Int) < (n : Int) := by omega
      obtain ⟨x, hx⟩ : ∃ x, d[i]? = some x := ⟨_, List.getElem?_eq_getElem (by have := unhide Hn; omega)⟩
      obtain ⟨b, off, rfl, hb, q0, q1⟩ := RI.at (unhide HU) hx
      obtain ⟨y0, y1⟩ := x
      simp only at q0 q1
      have bY := ballc (Below.refl wr.heap.size wr) (.cells #[.int .i64 y0, .int .i64 y1] 23)
      have HU2 := hide ((unhide HU).below bY)
      have B2 := hide (bnext (unhide B0) bY)
      clear bY hx
      go_wp2_with fail
      refine (unhide HN _ _).mono ?_
      rintro r W ⟨rfl, rfl⟩
      go_wp2_with fail
      refine (unhide HN _ _).mono ?_
      rintro r W ⟨rfl, rfl⟩
      go_wp2
      go_roundw
      case measure => show n - ((i : Int) + 1).toNat < n - ((i : Nat) : Int).toNat; omega
      case rel => exact ⟨i + 1, by go_num, by omega, B2, HU2⟩
    · have hlt' : ¬ (i : Int) < (n : Int) := by omega
      go_wp2
      go_end0
      exact ⟨rfl, unhide B0⟩

theorem kPut_nil {vg : Value} (o : Opn) (ho : okO o = true) (w : World) (hg : RR w vg o.gone) :
    Calls Try.prog (kPut o) #[kR o vg, .pointer none] w fun r W => r = .returned (.tuple #[]) ∧ Below w.heap.size w W := by
  have hh := okO_hold ho
  unfold kPut kR
  by_cases h1 : o.kind = 1
  · simp only [h1, if_true]
    exact insPut_nil o.it o.is o.rt o.rs o.text w
  by_cases h2 : o.kind = 2
  · rw [if_neg h1, if_neg h1, if_pos h2, if_pos h2]
    unfold holdO at hh
    rw [if_neg h1, if_pos h2] at hh
    unfold delO at hh
    simp at hh
    exact delPut_nil vg o.gone w hg (by omega)
  by_cases h3 : o.kind = 3
  · rw [if_neg h1, if_neg h1, if_neg h2, if_neg h2, if_pos h3, if_pos h3]
    exact joinPut_nil o.site w
  · rw [if_neg h1, if_neg h1, if_neg h2, if_neg h2, if_neg h3, if_neg h3]
    exact leavePut_nil w

set_option maxRecDepth 100000 in
set_option maxHeartbeats 1000000 in
theorem OPut_nil (o : Opn) (vd vg : Value) (w : World) (hi : InO o) (hd : RI w vd o.deps) (hg : RR w vg o.gone) :
    Calls Try.prog 8 #[.pointer none, opA o vd vg] w fun r W => r = .returned (.tuple #[]) ∧ Below w.heap.size w W := by
  obtain ⟨X, hX⟩ : ∃ X, w.alloc (.cells #[.int .i64 o.ds, .int .i64 o.dq, vd, .int .i64 o.kind, .int .i64 o.it, .int .i64 o.is, .int .i64 o.rt, .int .i64 o.rs, .string o.text, vg, .int .i64 o.site] 30) = X := ⟨_, rfl⟩
  have HX : Bx X w.heap.size 30 #[.int .i64 o.ds, .int .i64 o.dq, vd, .int .i64 o.kind, .int .i64 o.it, .int .i64 o.is, .int .i64 o.rt, .int .i64 o.rs, .string o.text, vg, .int .i64 o.site] := by rw [← hX]; exact Bx.new w _ _
  have bX : Below w.heap.size w X := by rw [← hX]; exact ballc (Below.refl _ _) _
  have HC := hide (OCheck_in o vd vg X (hd.below bX) (RC.below hg bX) hi)
  have HD : Hid (RI X vd o.deps) := hd.below bX
  have HG : Hid (RR X vg o.gone) := RC.below hg bX
  have HN := hide (fun w n => wNumber_nil w n)
  have hdl := hi.deps
  obtain ⟨ad, cd, rfl⟩ := hd.form
  obtain ⟨a, c, rfl⟩ := RC.form hg
  obtain ⟨x0, x1, x2, x3, x4, x5, x6, x7, x8, x9, x10⟩ := cells_op HX
  have xl := HX.lt
  replace HX := hide HX
  have B0 := hide bX
  clear hd hg hi bX
  unfold chkO at *
  by_cases hok : okO o = true
  · rw [if_pos hok] at HC
    have hm := (k_meth Try.underlying54 o).1
    have he := (k_enter o).1
    have HK := hide (fun W => (kindOf_in o (.slice ad o.deps.length cd) a o.gone.length c W))
    rw [kv_ok hok] at HK
    have HP := hide (fun W hg => kPut_nil (vg := .slice a o.gone.length c) o hok W hg)
    unfold opA at HC HK ⊢
    generalize kT o = T at *
    generalize kR o (.slice a o.gone.length c) = R at *
    generalize kPut o = F at *
    clear hok
    go_enter Try.func8, Try.ntmps8
    go_wp2_with fail
    refine (unhide HC).mono ?_
    rintro r W1 ⟨rfl, hb⟩
    replace HX := hide ((unhide HX).below hb)
    replace HD := hide ((unhide HD).below hb)
    replace HG := hide (RC.below (unhide HG) hb)
    replace B0 := hide (bnext (unhide B0) hb)
    clear hb HC hX x0 x1 x2 x3 x4 x5 x6 x7 x8 x9 x10 xl
    obtain ⟨x0, x1, x2, x3, x4, x5, x6, x7, x8, x9, x10⟩ := cells_op (unhide HX)
    go_wp2_with fail
    refine (unhide HN _ _).mono ?_
    rintro r W ⟨rfl, rfl⟩
    go_wp2_with fail
    refine (unhide HN _ _).mono ?_
    rintro r W ⟨rfl, rfl⟩
    go_wp2_with fail
    refine (unhide HN _ _).mono ?_
    rintro r W ⟨rfl, rfl⟩
    have HV := hide (vPut_nil _ o.deps W1 (unhide HD) hdl)
    go_wp2_with fail
    refine (unhide HV).mono ?_
    rintro r W2 ⟨rfl, hb⟩
    replace HX := hide ((unhide HX).below hb)
    replace HG := hide (RC.below (unhide HG) hb)
    replace B0 := hide (bnext (unhide B0) hb)
    clear hb HV x0 x1 x2 x3 x4 x5 x6 x7 x8 x9 x10
    obtain ⟨x0, x1, x2, x3, x4, x5, x6, x7, x8, x9, x10⟩ := cells_op (unhide HX)
    go_wp2_with fail
    refine (unhide HK _).mono ?_
    rintro r W3 ⟨rfl, hb⟩
    replace HG := hide (RC.below (unhide HG) hb)
    replace B0 := hide (bnext (unhide B0) hb)
    clear hb HK
    have HQ := hide (unhide HP W3 (unhide HG))
    go_wp2_with fail
    refine (unhide HQ).mono ?_
    rintro r W4 ⟨rfl, hb⟩
    replace B0 := hide (bnext (unhide B0) hb)
    clear hb HQ
    go_wp2
    go_end0
    exact ⟨rfl, unhide B0⟩
  · rw [if_neg hok] at HC
    unfold opA at HC ⊢
    go_enter Try.func8, Try.ntmps8
    go_wp2_with fail
    refine (unhide HC).mono ?_
    rintro r W1 ⟨rfl, hb⟩
    replace B0 := hide (bnext (unhide B0) hb)
    go_wp2
    first | go_end0 | refine bodyPost_ret (results_none rfl _ _ _) rfl ?_
    exact ⟨rfl, unhide B0⟩

end Go.Proofs.Ytknnfahbpekmoaa
