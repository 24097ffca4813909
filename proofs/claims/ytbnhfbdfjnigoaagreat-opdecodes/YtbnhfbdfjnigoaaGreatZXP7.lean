/-
  Operations: Last, Encode, Decode.
-/
import Derived.Test.YtbnhfbdfjnigoaaGreatZXP5
import Derived.Test.YtbnhfbdfjnigoaaGreatZXReg

set_option linter.unusedSimpArgs false
set_option linter.unusedVariables false
namespace Go.Proofs.YtbnhfbdfjnigoaaGreat
open Go.RowKit Go.Lib

set_option maxRecDepth 100000 in
set_option maxHeartbeats 1000000 in
theorem insLast_in (it is rt rs : Int) (t : ByteArray) (w : World) (ht : t.size ≤ 140737488355328) :
    Calls Tryz.prog 88 #[.agg #[.int .i64 it, .int .i64 is, .int .i64 rt, .int .i64 rs, .string t]] w fun e W => e = .returned (.int .i64 (wrap64 (wrap64 (it + cntO t) - 1))) ∧ Below w.heap.size w W := by
  have HC := hide (fun W => count_in t ht W)
  rw [show (((allL t).length : Nat) : Int) = cntO t from rfl] at HC
  have HL := hide (fun W => lastTime_in it is (cntO t) W)
  obtain ⟨X, hX⟩ : ∃ X, w.alloc (.cells #[.int .i64 it, .int .i64 is, .int .i64 rt, .int .i64 rs, .string t] 99) = X := ⟨_, rfl⟩
  have HX : Hid (Bx X w.heap.size 99 #[.int .i64 it, .int .i64 is, .int .i64 rt, .int .i64 rs, .string t]) := by rw [← hX]; exact Bx.new w _ _
  have B0 : Hid (Below w.heap.size w X) := by rw [← hX]; exact ballc (Below.refl _ _) _
  obtain ⟨E, hE⟩ : ∃ E, wrap64 (wrap64 (it + cntO t) - 1) = E := ⟨_, rfl⟩
  rw [hE] at HL ⊢
  clear hE ht
  generalize cntO t = C at *
  go_enter Tryz.func88, Tryz.ntmps88
  go_wp2
  refine wp_region_any (by kernel_rfl) ?_
  change wpAny _ _ _ _ _ _ _ (World.drew _)
  refine region_invG 9 (fun j => if j = 6 then 2 else 3 + j) ((0, (.agg #[.int .i64 it, .int .i64 is, .int .i64 rt, .int .i64 rs, .string t])) :: (1, (.pointer (some ⟨w.heap.size, 0, none⟩))) :: [])
    (fun W => Below X.heap.size X W)
    (valsOf [isV (.pointer (some ⟨w.heap.size, 0, none⟩)), isV (.agg #[.int .i64 it, .int .i64 is]), isV (.pointer (some ⟨w.heap.size, 4, none⟩)), isV (.string t), isV (.int .i64 C), isV (.int .i64 E), isV (.int .i64 E)])
    (fun w w' => Below w.heap.size w w') ?fit (fun w1 w2 h hG => h.trans (hG.mono h.size)) (valsOf_stable ?stable) (fun _ => true) [] ?gs ?gv ?steps ?fin _ _ ?sz rfl ?base ?start
  case fit => kernel_rfl
  case sz => rfl
  case gs => kernel_rfl
  case gv => intro p hp w v hv; cases hp
  case base => intro p hp; repeat (first | (rcases List.mem_cons.1 hp with rfl | hp; · rfl) | cases hp)
  case stable => exact Stables.all (by repeat (first | exact .nil | refine .same ?_))
  case start => exact (Below.refl _ _).drew
  case steps =>
    refine .cons (fun ρ wz hρ hJ hb hd => by
      refine Eq.mpr (if_neg (by decide)) ?_
      have dd0 : ρ (.tmp 1) = (.pointer (some ⟨w.heap.size, 0, none⟩)) := hb (1, _) (List.mem_of_getElem? (i := 1) rfl)
      exact step_val (v := (.pointer (some ⟨w.heap.size, 0, none⟩))) (w' := wz) (by simp [go_sem, execOp, dd0, hρ.const]) ⟨Below.refl _ _, rfl⟩) ?_
    refine .cons (fun ρ wz hρ hJ hb hd => by
      refine Eq.mpr (if_neg (by decide)) ?_
      have dd0 : ρ (.tmp 3) = (.pointer (some ⟨w.heap.size, 0, none⟩)) := hd 0 _ rfl rfl
      have q := (unhide HX).below hJ
      have x0 := q.cell 0 _ rfl
      have x1 := q.cell 1 _ rfl
      have x2 := q.cell 2 _ rfl
      have x3 := q.cell 3 _ rfl
      have x4 := q.cell 4 _ rfl
      exact step_val (v := (.agg #[.int .i64 it, .int .i64 is])) (w' := wz) (by simp [go_sem, execOp, dd0, x0, x1, x2, x3, x4]) ⟨Below.refl _ _, rfl⟩) ?_
    refine .cons (fun ρ wz hρ hJ hb hd => by
      refine Eq.mpr (if_neg (by decide)) ?_
      have dd0 : ρ (.tmp 1) = (.pointer (some ⟨w.heap.size, 0, none⟩)) := hb (1, _) (List.mem_of_getElem? (i := 1) rfl)
      exact step_val (v := (.pointer (some ⟨w.heap.size, 4, none⟩))) (w' := wz) (by simp [go_sem, execOp, dd0, hρ.const]) ⟨Below.refl _ _, rfl⟩) ?_
    refine .cons (fun ρ wz hρ hJ hb hd => by
      refine Eq.mpr (if_neg (by decide)) ?_
      have dd0 : ρ (.tmp 5) = (.pointer (some ⟨w.heap.size, 4, none⟩)) := hd 0 _ rfl rfl
      have q := (unhide HX).below hJ
      have x0 := q.cell 0 _ rfl
      have x1 := q.cell 1 _ rfl
      have x2 := q.cell 2 _ rfl
      have x3 := q.cell 3 _ rfl
      have x4 := q.cell 4 _ rfl
      exact step_val (v := (.string t)) (w' := wz) (by simp [go_sem, execOp, dd0, x0, x1, x2, x3, x4]) ⟨Below.refl _ _, rfl⟩) ?_
    refine .cons (fun ρ wz hρ hJ hb hd => by
      refine Eq.mpr (if_neg (by decide)) ?_
      have dd0 : ρ (.tmp 6) = (.string t) := hd 0 _ rfl rfl
      refine step_func 93 _ _ #[.string t] hρ rfl (enters_of Tryz.func93 (by kernel_rfl) rfl) (by simp [dd0]) ?_
      refine (unhide HC wz).mono ?_
      rintro r W' ⟨rfl, hb2⟩
      exact ⟨_, rfl, hb2, rfl⟩) ?_
    refine .cons (fun ρ wz hρ hJ hb hd => by
      refine Eq.mpr (if_neg (by decide)) ?_
      have dd0 : ρ (.tmp 4) = (.agg #[.int .i64 it, .int .i64 is]) := hd 0 _ rfl rfl
      have dd1 : ρ (.tmp 7) = (.int .i64 C) := hd 1 _ rfl rfl
      refine step_func 95 _ _ #[.agg #[.int .i64 it, .int .i64 is], .int .i64 C] hρ rfl (enters_of Tryz.func95 (by kernel_rfl) rfl) (by simp [dd0, dd1]) ?_
      refine (unhide HL wz).mono ?_
      rintro r W' ⟨rfl, hb2⟩
      exact ⟨_, rfl, hb2, rfl⟩) ?_
    refine .cons (fun ρ wz hρ hJ hb hd => by
      refine Eq.mpr (if_neg (by decide)) ?_
      have dd0 : ρ (.tmp 8) = (.int .i64 E) := hd 0 _ rfl rfl
      exact step_assign (.tmp 8) rfl ⟨Below.refl _ _, dd0⟩) (.nil _)
  case fin =>
    intro aQ WQ hsz2 hds hb hJ hv
    obtain rfl := frame_of (((0, (.agg #[.int .i64 it, .int .i64 is, .int .i64 rt, .int .i64 rs, .string t])) :: (1, (.pointer (some ⟨w.heap.size, 0, none⟩))) :: []) ++ ((3, (.pointer (some ⟨w.heap.size, 0, none⟩))) :: (4, (.agg #[.int .i64 it, .int .i64 is])) :: (5, (.pointer (some ⟨w.heap.size, 4, none⟩))) :: (6, (.string t)) :: (7, (.int .i64 C)) :: (8, (.int .i64 E)) :: (2, (.int .i64 E)) :: [])) ((.agg #[.int .i64 it, .int .i64 is, .int .i64 rt, .int .i64 rs, .string t]) :: (.pointer (some ⟨w.heap.size, 0, none⟩)) :: (.int .i64 E) :: (.pointer (some ⟨w.heap.size, 0, none⟩)) :: (.agg #[.int .i64 it, .int .i64 is]) :: (.pointer (some ⟨w.heap.size, 4, none⟩)) :: (.string t) :: (.int .i64 C) :: (.int .i64 E) :: []) hsz2 hds (fun p hp => by
      rcases List.mem_append.1 hp with h | h
      · exact hb p h
      · simp only [List.mem_cons, List.not_mem_nil, or_false] at h
        rcases h with rfl | rfl | rfl | rfl | rfl | rfl | rfl
        · exact hv 0 (by decide)
        · exact hv 1 (by decide)
        · exact hv 2 (by decide)
        · exact hv 3 (by decide)
        · exact hv 4 (by decide)
        · exact hv 5 (by decide)
        · exact hv 6 (by decide)) rfl
    clear hb hds hsz2 hv
    go_wp2
    go_ret
    exact ⟨rfl, bnext (unhide B0) hJ⟩

/-- the latest of runs -/
def lastG (g : List ((Int × Int) × Int)) : Int := g.foldl (fun m r => max m (r.1.1 + r.2 - 1)) 0
theorem lastG_step {l : List ((Int × Int) × Int)} {i : Nat} {x : (Int × Int) × Int} (h : l[i]? = some x) : lastG (l.take (i + 1)) = max (lastG (l.take i)) (x.1.1 + x.2 - 1) := by
  unfold lastG
  rw [List.take_add_one, h]
  simp

theorem chkA_all : ∀ (l done : List ((Int × Int) × Int)), chkA done l = 0 → ∀ r ∈ l, isR r = true
  | [], _, _ => fun r hr => by cases hr
  | q :: l, done, h => by
    rw [chkA] at h
    by_cases hq : isR q = false
    · rw [if_pos hq] at h; cases h
    · rw [if_neg hq] at h
      have hq' : isR q = true := by simpa using hq
      split at h
      · cases h
      · split at h
        · cases h
        · intro r hr
          rcases List.mem_cons.1 hr with rfl | hr
          · exact hq'
          · exact chkA_all l _ h r hr
theorem isR_in {r : (Int × Int) × Int} (h : isR r = true) : 1 ≤ r.1.1 ∧ 1 ≤ r.2 ∧ r.1.1 + r.2 - 1 ≤ 2147483647 := by
  unfold isR isI at h
  simp at h
  omega

set_option maxRecDepth 100000 in
set_option maxHeartbeats 1000000 in
theorem delLast_in (v : Value) (g : List ((Int × Int) × Int)) (w : World) (h : RR w v g) (hok : delO g = true) :
    Calls Tryz.prog 114 #[.agg #[v]] w fun e W => e = .returned (.int .i64 (lastG g)) ∧ Below w.heap.size w W := by
  have hg : g.length ≤ 1024 ∧ ∀ r ∈ g, isR r = true := by
    unfold delO at hok
    simp at hok
    exact ⟨by omega, chkA_all g [] hok.2⟩
  obtain ⟨a, c, rfl⟩ := RC.form h
  obtain ⟨X, hX⟩ : ∃ X, w.alloc (.cells #[.slice a g.length c] 101) = X := ⟨_, rfl⟩
  have HX : Bx X w.heap.size 101 #[.slice a g.length c] := by rw [← hX]; exact Bx.new w _ _
  have B0 : Hid (Below w.heap.size w X) := by rw [← hX]; exact ballc (Below.refl _ _) _
  have HU : Hid (RR X (.slice a g.length c) g) := RC.below h (unhide B0)
  obtain ⟨n, hn⟩ : ∃ n, g.length = n := ⟨_, rfl⟩
  rw [hn] at HX HU hX ⊢
  have Hn := hide hn
  have Hg := hide hg.2
  have hn2 : n ≤ 1024 := by have := hg.1; omega
  have x0 := HX.cell 0 _ rfl
  have xl := HX.lt
  clear h hok hg hn HX
  go_enter Tryz.func114, Tryz.ntmps114
  go_wp2
  clear x0 xl
  go_loopw [3, 9] (fun lv iv wr => ∃ (i : Nat), lv = .int .i64 (lastG (g.take i)) ∧ iv = .int .i64 (i : Nat) ∧ i ≤ n ∧ 0 ≤ lastG (g.take i) ∧ lastG (g.take i) ≤ 2147483647 ∧ Hid (Below w.heap.size w wr) ∧ Hid (RR wr (.slice a n c) g)) (fun _ iv _ => n - (Lib.intOf iv).toNat)
  case atStart => exact ⟨0, rfl, rfl, by omega, by simp [lastG], by simp [lastG], B0, HU⟩
  case round =>
    clear B0 HU
    obtain ⟨i, rfl, rfl, hin, l0, l1, B0, HU⟩ := hrel
    by_cases hlt : i < n
    · have hlt' : (i : Int) < (n : Int) := by omega
      obtain ⟨x, hx⟩ : ∃ x, g[i]? = some x := ⟨_, List.getElem?_eq_getElem (by have := unhide Hn; omega)⟩
      obtain ⟨r1, r2, r3⟩ := isR_in (unhide Hg x (List.mem_of_getElem? hx))
      obtain ⟨b, off, rfl, hb, q0, q1, q2⟩ := RR.at (unhide HU) hx
      have Hst := hide (lastG_step hx)
      generalize lastG (g.take i) = M at *
      obtain ⟨⟨y0, y1⟩, y2⟩ := x
      simp only at q0 q1 q2 r1 r2 r3 Hst
      have e1 : wrap64 (y0 + y2) = y0 + y2 := IntWalk.wrap64_in _ (by omega)
      have e2 : wrap64 (y0 + y2 - 1) = y0 + y2 - 1 := IntWalk.wrap64_in _ (by omega)
      have HL := hide (fun W => lastTime_in y0 y1 y2 W)
      rw [e1, e2] at HL
      generalize y0 + y2 - 1 = L at *
      obtain ⟨Y, hY⟩ : ∃ Y, wr.alloc (.cells #[.int .i64 y0, .int .i64 y1, .int .i64 y2] 58) = Y := ⟨_, rfl⟩
      have BD : Bx Y wr.heap.size 58 #[.int .i64 y0, .int .i64 y1, .int .i64 y2] := by rw [← hY]; exact Bx.new _ _ _
      have bY : Below wr.heap.size wr Y := by rw [← hY]; exact ballc (Below.refl _ _) _
      replace HU := hide (RC.below (unhide HU) bY)
      replace B0 := hide (bnext (unhide B0) bY)
      have d0 := BD.cell 0 _ rfl
      have d1 := BD.cell 1 _ rfl
      have d2 := BD.cell 2 _ rfl
      have dl := BD.lt
      have e0 := BD.frozen 0
      have e1 := BD.frozen 1
      have e2 := BD.frozen 2
      have g0 := BD.same 0 _ rfl
      have g1 := BD.same 1 _ rfl
      have g2 := BD.same 2 _ rfl
      clear BD bY hx
      go_wp2_with fail
      refine (unhide HL _).mono ?_
      rintro r W3 ⟨rfl, hb3⟩
      replace HU := hide (RC.below (unhide HU) hb3)
      replace B0 := hide (bnext (unhide B0) hb3)
      clear HL hb3 d0 d1 d2 dl e0 e1 e2 g0 g1 g2 hY q0 q1 q2
      have hmax : max M L = if M < L then L else M := by split <;> omega
      go_wp2
      go_roundw
      case measure => show n - ((i : Int) + 1).toNat < n - ((i : Nat) : Int).toNat; omega
      case rel =>
        refine ⟨i + 1, ?_, by go_num, by omega, by rw [unhide Hst]; omega, by rw [unhide Hst]; omega, B0, HU⟩
        rw [unhide Hst, hmax]
    · have hlt' : ¬ (i : Int) < (n : Int) := by omega
      obtain rfl : i = n := by omega
      have hg2 : Hid (g.take i = g) := by exact List.take_of_length_le (by have := unhide Hn; omega)
      rw [unhide hg2] at l0 l1 ⊢
      go_wp2
      go_ret
      exact ⟨rfl, unhide B0⟩

set_option maxRecDepth 100000 in
theorem joinLast_in (n : Int) (w : World) : Calls Tryz.prog 120 #[.agg #[.int .i64 n]] w fun e W => e = .returned (.int .i64 0) ∧ Below w.heap.size w W := by
  go_enter Tryz.func120, Tryz.ntmps120
  go_wp2
  go_ret
  exact ⟨rfl, ballc (Below.refl _ _) _⟩
set_option maxRecDepth 100000 in
theorem leaveLast_in (w : World) : Calls Tryz.prog 125 #[.agg #[]] w fun e W => e = .returned (.int .i64 0) ∧ Below w.heap.size w W := by
  go_enter Tryz.func125, Tryz.ntmps125
  go_wp2
  go_ret
  exact ⟨rfl, ballc (Below.refl _ _) _⟩

end Go.Proofs.YtbnhfbdfjnigoaaGreat

/-
  Operations: Last, Encode, Decode, whole.
-/
set_option linter.unusedSimpArgs false
set_option linter.unusedVariables false
namespace Go.Proofs.YtbnhfbdfjnigoaaGreat
open Go.RowKit Go.Lib

def lastK (o : Opn) : Int := if o.kind = 1 then o.it + cntO o.text - 1 else if o.kind = 2 then lastG o.gone else 0
def lastO (o : Opn) : Int := if okO o = true then lastK o else 0

theorem kLast_in {vg : Value} (o : Opn) (ho : okO o = true) (hi : InO o) (w : World) (hg : RR w vg o.gone) :
    Calls Tryz.prog (kLast o) #[kR o vg] w fun e W => e = .returned (.int .i64 (lastK o)) ∧ Below w.heap.size w W := by
  have hh := okO_hold ho
  unfold kLast kR lastK
  by_cases h1 : o.kind = 1
  · simp only [h1, if_true]
    unfold holdO at hh
    rw [if_pos h1] at hh
    unfold insO at hh
    simp at hh
    have h2 := isR_in hh.1.2
    simp only at h2
    have h3 := insLast_in o.it o.is o.rt o.rs o.text w hi.text
    rw [show wrap64 (o.it + cntO o.text) = o.it + cntO o.text from IntWalk.wrap64_in _ (by omega), show wrap64 (o.it + cntO o.text - 1) = o.it + cntO o.text - 1 from IntWalk.wrap64_in _ (by omega)] at h3
    exact h3
  by_cases h2 : o.kind = 2
  · rw [if_neg h1, if_neg h1, if_neg h1, if_pos h2, if_pos h2, if_pos h2]
    unfold holdO at hh
    rw [if_neg h1, if_pos h2] at hh
    exact delLast_in vg o.gone w hg hh
  by_cases h3 : o.kind = 3
  · rw [if_neg h1, if_neg h1, if_neg h1, if_neg h2, if_neg h2, if_neg h2, if_pos h3, if_pos h3]
    exact joinLast_in _ w
  · rw [if_neg h1, if_neg h1, if_neg h1, if_neg h2, if_neg h2, if_neg h2, if_neg h3, if_neg h3]
    exact leaveLast_in w

set_option maxRecDepth 100000 in
set_option maxHeartbeats 1000000 in
theorem OLast_in (o : Opn) (vd vg : Value) (w : World) (hd : RI w vd o.deps) (hg : RR w vg o.gone) (hi : InO o) :
    Calls Tryz.prog 20 #[opA o vd vg] w fun e W => e = .returned (.int .i64 (lastO o)) ∧ Below w.heap.size w W := by
  obtain ⟨X, hX⟩ : ∃ X, w.alloc (.cells #[.int .i64 o.ds, .int .i64 o.dq, vd, .int .i64 o.kind, .int .i64 o.it, .int .i64 o.is, .int .i64 o.rt, .int .i64 o.rs, .string o.text, vg, .int .i64 o.site] 32) = X := ⟨_, rfl⟩
  have HX : Bx X w.heap.size 32 #[.int .i64 o.ds, .int .i64 o.dq, vd, .int .i64 o.kind, .int .i64 o.it, .int .i64 o.is, .int .i64 o.rt, .int .i64 o.rs, .string o.text, vg, .int .i64 o.site] := by rw [← hX]; exact Bx.new w _ _
  have bX : Below w.heap.size w X := by rw [← hX]; exact ballc (Below.refl _ _) _
  have HC := hide (OCheck_in o vd vg X (hd.below bX) (RC.below hg bX) hi)
  have HG : Hid (RR X vg o.gone) := RC.below hg bX
  have HI := hide hi
  obtain ⟨ad, cd, rfl⟩ := hd.form
  obtain ⟨a, c, rfl⟩ := RC.form hg
  obtain ⟨x0, x1, x2, x3, x4, x5, x6, x7, x8, x9, x10⟩ := cells_op HX
  have xl := HX.lt
  replace HX := hide HX
  have B0 := hide bX
  clear hd hg hi bX
  unfold lastO chkO at *
  by_cases hok : okO o = true
  · rw [if_pos hok] at HC ⊢
    have hm := (k_meth Tryz.underlying81 o).2
    have he := (k_enter o).2
    have HK := hide (fun W => (kindOf_in o (.slice ad o.deps.length cd) a o.gone.length c W))
    rw [kv_ok hok] at HK
    have HL := hide (fun W hg => kLast_in (vg := .slice a o.gone.length c) o hok (unhide HI) W hg)
    unfold opA at HC HK ⊢
    generalize lastK o = E at *
    generalize kT o = T at *
    generalize kR o (.slice a o.gone.length c) = R at *
    generalize kLast o = F at *
    clear hok
    go_enter Tryz.func20, Tryz.ntmps20
    go_wp2_with fail
    refine (unhide HC).mono ?_
    rintro r W1 ⟨rfl, hb⟩
    replace HX := hide ((unhide HX).below hb)
    replace HG := hide (RC.below (unhide HG) hb)
    replace B0 := hide (bnext (unhide B0) hb)
    clear hb HC hX x0 x1 x2 x3 x4 x5 x6 x7 x8 x9 x10 xl
    obtain ⟨x0, x1, x2, x3, x4, x5, x6, x7, x8, x9, x10⟩ := cells_op (unhide HX)
    go_wp2_with fail
    refine (unhide HK _).mono ?_
    rintro r W2 ⟨rfl, hb⟩
    replace HG := hide (RC.below (unhide HG) hb)
    replace B0 := hide (bnext (unhide B0) hb)
    clear hb HK
    have HN := hide (unhide HL W2 (unhide HG))
    go_wp2_with fail
    refine (unhide HN).mono ?_
    rintro r W3 ⟨rfl, hb⟩
    replace B0 := hide (bnext (unhide B0) hb)
    clear hb HN
    go_wp2
    go_ret
    exact ⟨rfl, unhide B0⟩
  · rw [if_neg hok] at HC ⊢
    unfold opA at HC ⊢
    go_enter Tryz.func20, Tryz.ntmps20
    go_wp2_with fail
    refine (unhide HC).mono ?_
    rintro r W1 ⟨rfl, hb⟩
    replace B0 := hide (bnext (unhide B0) hb)
    go_wp2
    go_ret
    exact ⟨rfl, unhide B0⟩

theorem owns_base {W : World} {B B' E k n : Nat} {v : Value} {C : List Value} (h : W.ownsRow B E k v n C) (hb : B' ≤ B) : W.ownsRow B' E k v n C := by
  obtain ⟨h1, h2⟩ := h
  refine ⟨h1, ?_⟩
  rcases h2 with h2 | ⟨g, cap, cur, h3, h4, h5⟩
  · exact .inl h2
  · exact .inr ⟨g, cap, cur, h3, by omega, h5⟩

set_option maxRecDepth 100000 in
theorem rReadL_in (w : World) (v : Value) (l : List Nat) (h : RC w v l.length (bC l)) (hb : ∀ b ∈ l, b < 256) (hl : l.length ≤ 140737488355328) :
    Calls Tryz.prog 9 #[v] w fun r W => ∃ p v', r = .returned (.pointer (some ⟨p, 0, none⟩)) ∧ Rd W p v' l 0 ∧ Below w.heap.size w W ∧ w.heap.size ≤ p ∧ (∀ k, v'.ownBlock = some k → w.heap.size ≤ k ∧ k < W.heap.size) := by
  have HC := hide (bClone_in w v l h hl)
  have Hb := hide hb
  obtain ⟨a, c, rfl⟩ := h.form
  clear h hb
  go_enter Tryz.func9, Tryz.ntmps9
  go_wp2_with fail
  refine (unhide HC).mono ?_
  rintro r W ⟨v', rfl, hown, hB⟩
  replace hown := hide hown
  replace hB := hide hB
  obtain ⟨a', c', rfl⟩ := owns_form (unhide hown)
  go_wp2
  go_ret
  have o := unhide hown
  refine ⟨_, _, rfl, ⟨Bx.new _ _ _, RC.of_owns (o.alloc _), fun e => ?_, unhide Hb, hl⟩, ballc (unhide hB) _, (unhide hB).size, fun k hk => ⟨(o.lt k hk).1, by have := (o.lt k hk).2; simp; omega⟩⟩
  have := (o.lt _ e).2
  omega

/-- the bytes of an operation -/
def encL (o : Opn) : List Nat := if okO o = true then (putO ([], 0) o).1 else []
theorem Wr.new (W : World) : Wr (W.alloc (.cells #[.slice none 0 0, .int .i64 0] 76)) W.heap.size (.slice none 0 0) [] 0 := ⟨Bx.new _ _ _, World.ownsRow_nil _ _ _ _⟩

set_option maxRecDepth 100000 in
set_option maxHeartbeats 1000000 in
theorem OEncode_in (o : Opn) (vd vg : Value) (w : World) (hd : RI w vd o.deps) (hg : RR w vg o.gone) (hi : InO o) (ht : o.text.size ≤ 1000000) :
    Calls Tryz.prog 17 #[opA o vd vg] w fun e W => ∃ v', e = .returned (.tuple #[v', .int .i64 (chkO o)]) ∧ W.ownsRow w.heap.size 5 1 v' (encL o).length (bC (encL o)) ∧ Below w.heap.size w W := by
  obtain ⟨X, hX⟩ : ∃ X, w.alloc (.cells #[.int .i64 o.ds, .int .i64 o.dq, vd, .int .i64 o.kind, .int .i64 o.it, .int .i64 o.is, .int .i64 o.rt, .int .i64 o.rs, .string o.text, vg, .int .i64 o.site] 32) = X := ⟨_, rfl⟩
  have HX : Bx X w.heap.size 32 #[.int .i64 o.ds, .int .i64 o.dq, vd, .int .i64 o.kind, .int .i64 o.it, .int .i64 o.is, .int .i64 o.rt, .int .i64 o.rs, .string o.text, vg, .int .i64 o.site] := by rw [← hX]; exact Bx.new w _ _
  have bX : Below w.heap.size w X := by rw [← hX]; exact ballc (Below.refl _ _) _
  have HC := hide (OCheck_in o vd vg X (hd.below bX) (RC.below hg bX) hi)
  have HD : Hid (RI X vd o.deps) := hd.below bX
  have HG : Hid (RR X vg o.gone) := RC.below hg bX
  have HI := hide hi
  have Ht := hide ht
  obtain ⟨x0, x1, x2, x3, x4, x5, x6, x7, x8, x9, x10⟩ := cells_op HX
  have xl := HX.lt
  replace HX := hide HX
  have B0 := hide bX
  have ndl : ∀ k, rb vd o.deps.length k → k < w.heap.size := fun k hk => RC.rlt hd k hk
  have ngl : ∀ k, rb vg o.gone.length k → k < w.heap.size := fun k hk => RC.rlt hg k hk
  obtain ⟨ad, cd, rfl⟩ := hd.form
  obtain ⟨a, c, rfl⟩ := RC.form hg
  replace ndl := hide ndl
  replace ngl := hide ngl
  clear hd hg hi bX ht
  unfold encL chkO at *
  by_cases hok : okO o = true
  · rw [if_pos hok] at HC ⊢
    rw [if_pos hok]
    unfold opA at HC ⊢
    have hlen := putO_len ([], 0) o
    have ht2 := unhide Ht
    obtain ⟨PO, hPO⟩ : ∃ P, putO ([], 0) o = P := ⟨_, rfl⟩
    rw [hPO] at hlen ⊢
    replace hPO := hide hPO
    simp only [List.length_nil] at hlen
    clear hok
    go_enter Tryz.func17, Tryz.ntmps17
    go_wp2_with fail
    refine (unhide HC).mono ?_
    rintro r W1 ⟨rfl, hb⟩
    obtain ⟨Y, hY⟩ : ∃ Y, W1.alloc (.cells #[.slice none 0 0, .int .i64 0] 76) = Y := ⟨_, rfl⟩
    have hw : Wr Y W1.heap.size (.slice none 0 0) [] 0 := by rw [← hY]; exact Wr.new W1
    have bY : Below W1.heap.size W1 Y := by rw [← hY]; exact ballc (Below.refl _ _) _
    replace HX := hide (((unhide HX).below hb).below bY)
    replace HD := hide ((unhide HD).below (bnext hb bY))
    replace HG := hide (RC.below (unhide HG) (bnext hb bY))
    replace B0 := hide (bnext (unhide B0) (bnext hb bY))
    have hs1 : w.heap.size < W1.heap.size := by have := hb.size; omega
    have hap : ∀ k, k < w.heap.size → ¬ wOwn W1.heap.size (.slice none 0 0) k ∧ k < Y.heap.size := fun k hk => ⟨fun e => (by
      rcases e with e | e
      · omega
      · cases e), by have := bY.size; omega⟩
    have HP := hide (OPut_in (st := ([], 0)) o (unhide HI) hw (unhide HD) (unhide HG) (unhide Ht) (by simp) (fun k hk => hap k (unhide ndl k hk)) (fun k hk => hap k (unhide ngl k hk)))
    rw [unhide hPO] at HP
    unfold opA at HP
    clear hb HC hX x0 x1 x2 x3 x4 x5 x6 x7 x8 x9 x10 xl bY hw hap
    obtain ⟨x0, x1, x2, x3, x4, x5, x6, x7, x8, x9, x10⟩ := cells_op (unhide HX)
    go_wp2_with fail
    refine (unhide HP).mono ?_
    rintro r W2 ⟨rfl, v2, hw, hk, ho⟩
    have HN := hide (wData_in hw (by omega))
    replace B0 := hide (hk.below (unhide B0) (fun i e => by
      rcases e with e | e
      · omega
      · cases e))
    clear hw hk ho HP
    go_wp2_with fail
    refine (unhide HN).mono ?_
    rintro r W3 ⟨v3, rfl, ho3, hb3⟩
    obtain ⟨a3, c3, rfl⟩ := owns_form ho3
    have HO := hide (owns_base ho3 (unhide B0).size)
    replace B0 := hide (bnext (unhide B0) hb3)
    clear ho3 hb3 HN
    go_wp2
    refine bodyPost_ret (results_tmp2 rfl _ _ _) rfl ?_
    exact ⟨_, rfl, unhide HO, unhide B0⟩
  · rw [if_neg hok] at HC ⊢
    rw [if_neg hok]
    unfold opA at HC ⊢
    go_enter Tryz.func17, Tryz.ntmps17
    go_wp2_with fail
    refine (unhide HC).mono ?_
    rintro r W1 ⟨rfl, hb⟩
    replace B0 := hide (bnext (unhide B0) hb)
    go_wp2
    refine bodyPost_ret (results_tmp2 rfl _ _ _) rfl ?_
    exact ⟨_, rfl, World.ownsRow_nil _ _ _ _, unhide B0⟩

/-- the operation of bytes, or the error -/
def decO (l : List Nat) : Opn × Int := if (takeO (l, 0)).1.2 ≠ 0 then (zO, (takeO (l, 0)).1.2) else if rEnd (takeO (l, 0)).2.1 (takeO (l, 0)).2.2 ≠ 0 then (zO, rEnd (takeO (l, 0)).2.1 (takeO (l, 0)).2.2) else ((takeO (l, 0)).1.1, 0)

set_option maxRecDepth 100000 in
set_option maxHeartbeats 2000000 in
theorem ODecode_in (w : World) (v : Value) (l : List Nat) (h : RC w v l.length (bC l)) (hb : ∀ b ∈ l, b < 256) (hl : l.length ≤ 140737488355328) :
    Calls Tryz.prog 5 #[v] w fun r W => ∃ vd vg, r = .returned (.tuple #[opA (decO l).1 vd vg, .int .i64 (decO l).2]) ∧ OwD W w.heap.size vd (decO l).1.deps ∧ OwR W w.heap.size vg (decO l).1.gone ∧ (∀ k, vd.ownBlock = some k → vg.ownBlock ≠ some k) ∧ Below w.heap.size w W := by
  obtain ⟨X, hX⟩ : ∃ X, w.alloc (.cells #[.int .i64 0, .int .i64 0, .slice none 0 0, .int .i64 0, .int .i64 0, .int .i64 0, .int .i64 0, .int .i64 0, .string ⟨#[]⟩, .slice none 0 0, .int .i64 0] 32) = X := ⟨_, rfl⟩
  have HX : Bx X w.heap.size 32 #[.int .i64 0, .int .i64 0, .slice none 0 0, .int .i64 0, .int .i64 0, .int .i64 0, .int .i64 0, .int .i64 0, .string ⟨#[]⟩, .slice none 0 0, .int .i64 0] := by rw [← hX]; exact Bx.new w _ _
  have bX : Below w.heap.size w X := by rw [← hX]; exact ballc (Below.refl _ _) _
  have HR := hide (rReadL_in X v l (RC.below h bX) hb hl)
  have hXs : w.heap.size < X.heap.size := HX.lt
  replace HX := hide HX
  have B0 := hide bX
  obtain ⟨av, cv, rfl⟩ := RC.form h
  clear h hb bX
  obtain ⟨TT, hTT⟩ : ∃ T, takeO (l, 0) = T := ⟨_, rfl⟩
  obtain ⟨⟨o, er⟩, s'⟩ := TT
  obtain ⟨EE, hEE⟩ : ∃ E, rEnd s'.1 s'.2 = E := ⟨_, rfl⟩
  obtain ⟨DD, hDD⟩ : ∃ D, decO l = D := ⟨_, rfl⟩
  have hw1 : Hid (er ≠ 0 → DD = (zO, er)) := fun h => by rw [← hDD]; unfold decO; rw [hTT]; simp only; rw [if_pos h]
  have hw2 : Hid (er = 0 → EE ≠ 0 → DD = (zO, EE)) := fun h h2 => by rw [← hDD]; unfold decO; rw [hTT]; simp only; rw [if_neg (by simpa using h), hEE, if_pos h2]
  have hw3 : Hid (er = 0 → EE = 0 → DD = (o, 0)) := fun h h2 => by rw [← hDD]; unfold decO; rw [hTT]; simp only; rw [if_neg (by simpa using h), hEE, if_neg (by simpa using h2)]
  rw [hDD]
  replace hTT := hide hTT
  replace hEE := hide hEE
  clear hDD
  go_enter Tryz.func5, Tryz.ntmps5
  go_wp2_with fail
  refine (unhide HR).mono ?_
  rintro r W1 ⟨p, v1, rfl, hr, hb1, hp1, hv1⟩
  have HT := hide (OTake_in (st := (l, 0)) hr (fun k hk => (hv1 k hk).2))
  rw [unhide hTT] at HT
  simp only at HT
  replace HX := hide ((unhide HX).below hb1)
  have hb1' := hide hb1
  clear hr hX HR hb1
  go_wp2_with fail
  refine (unhide HT).mono ?_
  rintro r W2 ⟨vd, vg, rfl, ho, hg, hne, v2, hr2, hk2, hv2⟩
  have hBk : Below X.heap.size X W2 := hk2.below (unhide hb1') (fun i e => by omega)
  have hXW : X.heap.size ≤ W2.heap.size := hBk.size
  replace HX := hide ((unhide HX).kp hk2 (by omega))
  replace B0 := hide (bnext (unhide B0) hBk)
  have hoB : Hid (∀ k, vd.ownBlock = some k → X.heap.size ≤ k) := fun k hk => by have := (ho.lt k hk).1; have := (unhide hb1').size; omega
  have hgB : Hid (∀ k, vg.ownBlock = some k → X.heap.size ≤ k) := fun k hk => by have := (hg.lt k hk).1; have := (unhide hb1').size; omega
  have HO : Hid (OwD W2 X.heap.size vd o.deps) := OwD.base ho (unhide hb1').size
  have HG : Hid (OwR W2 X.heap.size vg o.gone) := OwR.base hg (unhide hb1').size
  obtain ⟨ad, cd, rfl⟩ := OwD.form ho
  obtain ⟨ag, cg, rfl⟩ := OwR.form hg
  have Hne := hide hne
  have HR2 := hide hr2
  clear ho hg hne hr2 hk2 hBk HT hb1' hv1 hv2
  unfold opA
  obtain ⟨Y, hY⟩ : ∃ Y, W2.alloc (.cells #[.int .i64 o.ds, .int .i64 o.dq, .slice ad o.deps.length cd, .int .i64 o.kind, .int .i64 o.it, .int .i64 o.is, .int .i64 o.rt, .int .i64 o.rs, .string o.text, .slice ag o.gone.length cg, .int .i64 o.site] 32) = Y := ⟨_, rfl⟩
  have bY : Below W2.heap.size W2 Y := by rw [← hY]; exact ballc (Below.refl _ _) _
  have HY : Hid (Bx Y W2.heap.size 32 #[.int .i64 o.ds, .int .i64 o.dq, .slice ad o.deps.length cd, .int .i64 o.kind, .int .i64 o.it, .int .i64 o.is, .int .i64 o.rt, .int .i64 o.rs, .string o.text, .slice ag o.gone.length cg, .int .i64 o.site]) := by rw [← hY]; exact Bx.new W2 _ _
  replace HX := hide ((unhide HX).below bY)
  replace B0 := hide (bnext (unhide B0) bY)
  replace HR2 := hide ((unhide HR2).below bY)
  replace HO := hide (owns_kp (N := fun _ => False) (unhide HO) (Kp.of_below bY) (fun _ _ e => e))
  replace HG := hide (owns_kp (N := fun _ => False) (unhide HG) (Kp.of_below bY) (fun _ _ e => e))
  have HE := hide (rEnd_in (unhide HR2))
  clear bY
  rw [unhide hEE] at HE
  by_cases he : er = 0
  · subst he
    go_wp2_with fail
    refine (unhide HE).mono ?_
    rintro r W3 ⟨rfl, rfl⟩
    by_cases hE0 : EE = 0
    · subst hE0
      obtain ⟨x0, x1, x2, x3, x4, x5, x6, x7, x8, x9, x10⟩ := cells_op (unhide HY)
      obtain ⟨c0, c1, c2, c3, c4, c5, c6, c7, c8, c9, c10⟩ := cells_op (unhide HX)
      have f0 := (unhide HX).frozen 0
      have f1 := (unhide HX).frozen 1
      have f2 := (unhide HX).frozen 2
      have f3 := (unhide HX).frozen 3
      have f4 := (unhide HX).frozen 4
      have f5 := (unhide HX).frozen 5
      have f6 := (unhide HX).frozen 6
      have f7 := (unhide HX).frozen 7
      have f8 := (unhide HX).frozen 8
      have f9 := (unhide HX).frozen 9
      have f10 := (unhide HX).frozen 10
      have RA := hide (Bx.set11 (x0 := .int .i64 o.ds) (x1 := .int .i64 o.dq) (x2 := .slice ad o.deps.length cd) (x3 := .int .i64 o.kind) (x4 := .int .i64 o.it) (x5 := .int .i64 o.is) (x6 := .int .i64 o.rt) (x7 := .int .i64 o.rs) (x8 := .string o.text) (x9 := .slice ag o.gone.length cg) (x10 := .int .i64 o.site) (unhide HX))
      have KA := hide (Kp.set11 Y w.heap.size (.int .i64 o.ds) (.int .i64 o.dq) (.slice ad o.deps.length cd) (.int .i64 o.kind) (.int .i64 o.it) (.int .i64 o.is) (.int .i64 o.rt) (.int .i64 o.rs) (.string o.text) (.slice ag o.gone.length cg) (.int .i64 o.site))
      replace HO := hide (owns_kp (unhide HO) (unhide KA) (fun i hi e => by have := unhide hoB i hi; omega))
      replace HG := hide (owns_kp (unhide HG) (unhide KA) (fun i hi e => by have := unhide hgB i hi; omega))
      replace B0 := hide ((unhide KA).below (unhide B0) (fun i e => by omega))
      go_wp2
      obtain ⟨d0, d1, d2, d3, d4, d5, d6, d7, d8, d9, d10⟩ := cells_op (unhide RA)
      refine bodyPost_ret (v := .tuple #[.agg #[.int .i64 o.ds, .int .i64 o.dq, .slice ad o.deps.length cd, .int .i64 o.kind, .int .i64 o.it, .int .i64 o.is, .int .i64 o.rt, .int .i64 o.rs, .string o.text, .slice ag o.gone.length cg, .int .i64 o.site], .int .i64 0]) ?_ rfl ?_
      · rw [results_cell_tmp rfl]
        generalize World.setCell _ ⟨w.heap.size, 10, none⟩ (.int .i64 o.site) = WF at *
        simp [go_sem, d0, d1, d2, d3, d4, d5, d6, d7, d8, d9, d10]
      · obtain rfl := unhide hw3 (by trivial) (by trivial)
        exact ⟨_, _, rfl, OwD.base (unhide HO) (by omega), OwR.base (unhide HG) (by omega), unhide Hne, unhide B0⟩
    · have hb : (EE == 0) = false := by simpa using hE0
      obtain ⟨c0, c1, c2, c3, c4, c5, c6, c7, c8, c9, c10⟩ := cells_op (unhide HX)
      have s0 : Y.setCell ⟨w.heap.size, 0, none⟩ (.int .i64 0) = Y := (unhide HX).same 0 _ rfl
      have f0 := (unhide HX).frozen 0
      have s1 : Y.setCell ⟨w.heap.size, 1, none⟩ (.int .i64 0) = Y := (unhide HX).same 1 _ rfl
      have f1 := (unhide HX).frozen 1
      have s2 : Y.setCell ⟨w.heap.size, 2, none⟩ (.slice none 0 0) = Y := (unhide HX).same 2 _ rfl
      have f2 := (unhide HX).frozen 2
      have s3 : Y.setCell ⟨w.heap.size, 3, none⟩ (.int .i64 0) = Y := (unhide HX).same 3 _ rfl
      have f3 := (unhide HX).frozen 3
      have s4 : Y.setCell ⟨w.heap.size, 4, none⟩ (.int .i64 0) = Y := (unhide HX).same 4 _ rfl
      have f4 := (unhide HX).frozen 4
      have s5 : Y.setCell ⟨w.heap.size, 5, none⟩ (.int .i64 0) = Y := (unhide HX).same 5 _ rfl
      have f5 := (unhide HX).frozen 5
      have s6 : Y.setCell ⟨w.heap.size, 6, none⟩ (.int .i64 0) = Y := (unhide HX).same 6 _ rfl
      have f6 := (unhide HX).frozen 6
      have s7 : Y.setCell ⟨w.heap.size, 7, none⟩ (.int .i64 0) = Y := (unhide HX).same 7 _ rfl
      have f7 := (unhide HX).frozen 7
      have s8 : Y.setCell ⟨w.heap.size, 8, none⟩ (.string ⟨#[]⟩) = Y := (unhide HX).same 8 _ rfl
      have f8 := (unhide HX).frozen 8
      have s9 : Y.setCell ⟨w.heap.size, 9, none⟩ (.slice none 0 0) = Y := (unhide HX).same 9 _ rfl
      have f9 := (unhide HX).frozen 9
      have s10 : Y.setCell ⟨w.heap.size, 10, none⟩ (.int .i64 0) = Y := (unhide HX).same 10 _ rfl
      have f10 := (unhide HX).frozen 10
      go_wp2
      refine bodyPost_ret (v := .tuple #[.agg #[.int .i64 0, .int .i64 0, .slice none 0 0, .int .i64 0, .int .i64 0, .int .i64 0, .int .i64 0, .int .i64 0, .string ⟨#[]⟩, .slice none 0 0, .int .i64 0], .int .i64 EE]) ?_ rfl ?_
      · rw [results_cell_tmp rfl]
        simp [go_sem, c0, c1, c2, c3, c4, c5, c6, c7, c8, c9, c10]
      · obtain rfl := unhide hw2 (by trivial) hE0
        exact ⟨.slice none 0 0, .slice none 0 0, rfl, World.ownsRow_nil _ _ _ _, World.ownsRow_nil _ _ _ _, fun k hk => (by cases hk), unhide B0⟩
  · have hb : (er == 0) = false := by simpa using he
    obtain ⟨c0, c1, c2, c3, c4, c5, c6, c7, c8, c9, c10⟩ := cells_op (unhide HX)
    have s0 : Y.setCell ⟨w.heap.size, 0, none⟩ (.int .i64 0) = Y := (unhide HX).same 0 _ rfl
    have f0 := (unhide HX).frozen 0
    have s1 : Y.setCell ⟨w.heap.size, 1, none⟩ (.int .i64 0) = Y := (unhide HX).same 1 _ rfl
    have f1 := (unhide HX).frozen 1
    have s2 : Y.setCell ⟨w.heap.size, 2, none⟩ (.slice none 0 0) = Y := (unhide HX).same 2 _ rfl
    have f2 := (unhide HX).frozen 2
    have s3 : Y.setCell ⟨w.heap.size, 3, none⟩ (.int .i64 0) = Y := (unhide HX).same 3 _ rfl
    have f3 := (unhide HX).frozen 3
    have s4 : Y.setCell ⟨w.heap.size, 4, none⟩ (.int .i64 0) = Y := (unhide HX).same 4 _ rfl
    have f4 := (unhide HX).frozen 4
    have s5 : Y.setCell ⟨w.heap.size, 5, none⟩ (.int .i64 0) = Y := (unhide HX).same 5 _ rfl
    have f5 := (unhide HX).frozen 5
    have s6 : Y.setCell ⟨w.heap.size, 6, none⟩ (.int .i64 0) = Y := (unhide HX).same 6 _ rfl
    have f6 := (unhide HX).frozen 6
    have s7 : Y.setCell ⟨w.heap.size, 7, none⟩ (.int .i64 0) = Y := (unhide HX).same 7 _ rfl
    have f7 := (unhide HX).frozen 7
    have s8 : Y.setCell ⟨w.heap.size, 8, none⟩ (.string ⟨#[]⟩) = Y := (unhide HX).same 8 _ rfl
    have f8 := (unhide HX).frozen 8
    have s9 : Y.setCell ⟨w.heap.size, 9, none⟩ (.slice none 0 0) = Y := (unhide HX).same 9 _ rfl
    have f9 := (unhide HX).frozen 9
    have s10 : Y.setCell ⟨w.heap.size, 10, none⟩ (.int .i64 0) = Y := (unhide HX).same 10 _ rfl
    have f10 := (unhide HX).frozen 10
    go_wp2
    refine bodyPost_ret (v := .tuple #[.agg #[.int .i64 0, .int .i64 0, .slice none 0 0, .int .i64 0, .int .i64 0, .int .i64 0, .int .i64 0, .int .i64 0, .string ⟨#[]⟩, .slice none 0 0, .int .i64 0], .int .i64 er]) ?_ rfl ?_
    · rw [results_cell_tmp rfl]
      simp [go_sem, c0, c1, c2, c3, c4, c5, c6, c7, c8, c9, c10]
    · obtain rfl := unhide hw1 he
      exact ⟨.slice none 0 0, .slice none 0 0, rfl, World.ownsRow_nil _ _ _ _, World.ownsRow_nil _ _ _ _, fun k hk => (by cases hk), unhide B0⟩

end Go.Proofs.YtbnhfbdfjnigoaaGreat
