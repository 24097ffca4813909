/-
  Add and Cut once more: of the blocks that were there, only the log's variable and the row of its operations are written.
-/
import Derived.Test.YtijjoikeceechaaGreatZXLR6
import Derived.Deep.CutRange
import Derived.Test.YtijjoikeceechaaGreatZQW
import Derived.Deep.RegionHeld3

set_option linter.unusedSimpArgs false
set_option linter.unusedVariables false
namespace Go.Proofs.YtijjoikeceechaaGreat
open Go.RowKit Go.Lib

/-- rows of Dots and of runs are as they were -/
def TF (W W' : World) : Prop := ∀ i t cur, Bx W i t cur → (t = 28 ∨ t = 81) → Bx W' i t cur
theorem TF.below {W W' : World} (hb : Below W.heap.size W W') : TF W W' := fun i t cur hx _ => hx.below hb
theorem TF.trans {a b c : World} (h : TF a b) (k : TF b c) : TF a c := fun i t cur hx ht => k i t cur (h i t cur hx ht) ht
theorem TF.go {N : Nat → Prop} {W W8 W' : World} (h : TF W W8) (k : Kp N W8 W') (hn : ∀ i, N i → W.heap.size ≤ i) : TF W W' := fun i t cur hx ht => (h i t cur hx ht).kp k (fun e => by have := hn i e; have := hx.lt; omega)
theorem TF.log {W W' : World} {b B n : Nat} {vo : Value} {cs : Array Value} {C : List Value} (k : Kp (fun i => i = b ∨ vo.ownBlock = some i) W W') (hb : Bx W b 51 cs) (ho : W.ownsRow B 45 11 vo n C) : TF W W' := fun i t cur hx ht => hx.kp k (fun e => by
  rcases e with rfl | e
  · rcases ht with rfl | rfl
    · exact ne_types hx hb (by decide)
    · exact ne_types hx hb (by decide)
  · obtain ⟨c, fz, hc⟩ := ownsRow_kind ho i e
    rcases ht with rfl | rfl
    · exact ne_types hx hc (by decide)
    · exact ne_types hx hc (by decide))
def AddF (P : Nat → Prop) (w : World) (b : Nat) (base hv : List (Int × Int)) (os : List Opn) (o : Opn) (e : Ending) (W : World) : Prop := AddA P w b base hv os o e W ∧ TF w W
def CutF (P : Nat → Prop) (w : World) (b : Nat) (base hv : List (Int × Int)) (os : List Opn) (l : List (Int × Int)) (e : Ending) (W : World) : Prop := CutA P w b base hv os l e W ∧ TF w W

set_option maxRecDepth 100000 in
set_option maxHeartbeats 16000000 in
theorem LAddF_in {P : Nat → Prop} {w : World} {b : Nat} {base hv : List (Int × Int)} {os : List Opn} (hL : LL P w b base hv os) (hP : ∀ i, P i → i < w.heap.size) (hn0 : os.length ≤ 1000000) (o : Opn) (ad ag : Option Addr) (cd cg : Nat) (hd : RI w (.slice ad o.deps.length cd) o.deps) (hg : RR w (.slice ag o.gone.length cg) o.gone) (hi : InO o) (h1 : o.deps.length ≤ 1000000) (h2 : o.gone.length ≤ 1000000) (h3 : o.text.size ≤ 1000000) :
    Calls Tryz.prog 21 #[.pointer (some ⟨b, 0, none⟩), .agg #[.int .i64 o.ds, .int .i64 o.dq, .slice ad o.deps.length cd, .int .i64 o.kind, .int .i64 o.it, .int .i64 o.is, .int .i64 o.rt, .int .i64 o.rs, .string o.text, .slice ag o.gone.length cg, .int .i64 o.site]] w (AddF P w b base hv os o) := by
  have hL0 := hL
  obtain ⟨vb, vh, vo, ops, h, rfl⟩ := hL
  rw [List.length_map] at hn0
  have hn := hn0
  obtain ⟨av, cv, rfl⟩ := OwD.form h.rh
  obtain ⟨avb, cvb, rfl⟩ := OwD.form h.rb
  obtain ⟨X, hX⟩ : ∃ X, w.alloc (.cells #[.int .i64 o.ds, .int .i64 o.dq, .slice ad o.deps.length cd, .int .i64 o.kind, .int .i64 o.it, .int .i64 o.is, .int .i64 o.rt, .int .i64 o.rs, .string o.text, .slice ag o.gone.length cg, .int .i64 o.site] 45) = X := ⟨_, rfl⟩
  have x1 : Bx X w.heap.size 45 #[.int .i64 o.ds, .int .i64 o.dq, .slice ad o.deps.length cd, .int .i64 o.kind, .int .i64 o.it, .int .i64 o.is, .int .i64 o.rt, .int .i64 o.rs, .string o.text, .slice ag o.gone.length cg, .int .i64 o.site] := by rw [← hX]; exact Bx.new w _ _
  have bX : Below w.heap.size w X := by rw [← hX]; exact ballc (Below.refl _ _) _
  have HC := hide (OCheck_in o (.slice ad o.deps.length cd) (.slice ag o.gone.length cg) X (hd.below bX) (RC.below hg bX) hi)
  unfold opA at HC
  have HX := hide x1
  have B0 := hide bX
  have Hh := hide h
  have Hd0 := hide (hd.below bX)
  have Hg0 := hide (RC.below hg bX)
  obtain ⟨p0, p1, p2, p3, p4, p5, p6, p7, p8, p9, p10⟩ := cells_op x1
  have xl := x1.lt
  have c1 := (h.below bX).box.cell 1 _ rfl
  have bl := (h.below bX).box.lt
  have hblt : b < w.heap.size := h.box.lt
  -- nothing is changed
  have HF : Hid (∀ W, Below w.heap.size w W → addE hv o ≠ 0 → AddF P w b base hv (ops.map Prod.fst) o (.returned (.int .i64 (addE hv o))) W) := fun W hb he => ⟨⟨rfl, by rw [if_neg he, if_neg he]; exact (hL0.below hb).mono (fun i hi => .inl hi), Kp.of_below hb⟩, TF.below hb⟩
  clear hL0 hd hg x1 bX h
  by_cases hok : okO o = true
  rotate_left
  · have hc : chkO o = 10 := by unfold chkO; rw [if_neg hok]
    have HE := hide (addE_bad (hv := hv) hok)
    rw [hc] at HC
    clear hok hc
    go_enter Tryz.func21, Tryz.ntmps21
    go_wp2_with fail
    refine (unhide HC).mono ?_
    rintro r W1 ⟨rfl, hb1⟩
    have HB := hide (bnext (unhide B0) hb1)
    clear hb1
    go_wp2
    go_ret
    have := unhide HF _ (unhide HB) (by rw [unhide HE]; decide)
    rw [unhide HE] at this
    exact this
  have hc : chkO o = 0 := by unfold chkO; rw [if_pos hok]
  have Hok := hide hok
  rw [hc] at HC
  clear hok hc
  have HCo := hide (fun (W : World) (hb : Hid (Below X.heap.size X W)) => Covers_in _ _ hv o.deps W (((unhide Hh).below (unhide B0)).below (unhide hb)).rh.row ((unhide Hd0).below (unhide hb)) (by have := (unhide Hh).lh; omega) (by omega))
  have HVa := hide (fun (W : World) (hb : Hid (Below X.heap.size X W)) => Add_in _ hv o.ds o.dq W (((unhide Hh).below (unhide B0)).below (unhide hb)).rh.row (by have := (unhide Hh).lh; omega) (by have := hi.dq; unfold in64 at this; omega))
  go_enter Tryz.func21, Tryz.ntmps21
  go_wp2_with fail
  refine (unhide HC).mono ?_
  rintro r W1 ⟨rfl, hb1⟩
  clear HC p0 p1 p2 p3 p4 p5 p6 p7 p8 p9 p10 c1 hX
  have HX1 := hide ((unhide HX).below hb1)
  obtain ⟨p0, p1, p2, p3, p4, p5, p6, p7, p8, p9, p10⟩ := cells_op (unhide HX1)
  have c1 := (((unhide Hh).below (unhide B0)).below hb1).box.cell 1 _ rfl
  have HB1 := hide hb1
  have hb1' : Hid (Below X.heap.size X W1.drew) := hb1.drew
  clear hb1
  cases hcv : cov (sy hv) (sy o.deps)
  · rw [hcv] at HCo
    have HE := hide (addE_cov (unhide Hok) hcv)
    clear hcv
    go_wp2_with fail
    go_region_held3 (fun w' => w'.cell? ⟨b, 1, none⟩ = some (.slice av hv.length cv) ∧ w'.cell? ⟨w.heap.size, 2, none⟩ = some (.slice ad o.deps.length cd) ∧ Hid (Below X.heap.size X w'))
      (first
        | (exact ⟨c1, p2, hb1'⟩)
        | (go_split_ands
           exact ⟨cell_below (by assumption) hb, cell_below (by assumption) hb, hide (bnext (unhide (by assumption)) hb)⟩)
        | go_keep)
      (first
        | (go_split_ands; go_at_call 44; refine (unhide HCo _ (by assumption)).mono ?_; rintro e w' ⟨rfl, hb⟩))
    go_split_ands
    have HB := hide (bnext (unhide B0) (unhide (by assumption : Hid (Below X.heap.size X _))))
    go_wp2
    go_ret
    have := unhide HF _ (unhide HB) (by rw [unhide HE]; decide)
    rw [unhide HE] at this
    exact this
  rw [hcv] at HCo
  have HE := hide (addE_ok (unhide Hok) hcv)
  clear hcv
  go_wp2_with fail
  go_region_held3 (fun w' => w'.cell? ⟨b, 1, none⟩ = some (.slice av hv.length cv) ∧ w'.cell? ⟨w.heap.size, 2, none⟩ = some (.slice ad o.deps.length cd) ∧ Hid (Below X.heap.size X w'))
    (first
      | (exact ⟨c1, p2, hb1'⟩)
      | (go_split_ands
         exact ⟨cell_below (by assumption) hb, cell_below (by assumption) hb, hide (bnext (unhide (by assumption)) hb)⟩)
      | go_keep)
    (first
      | (go_split_ands; go_at_call 44; refine (unhide HCo _ (by assumption)).mono ?_; rintro e W2 ⟨rfl, hb⟩))
  have HB2 : Hid (Below X.heap.size X W2) := by go_split_ands; assumption
  clear HCo c1 p0 p1 p2 p3 p4 p5 p6 p7 p8 p9 p10 HX1 HB1 hb1' hb
  have HX2 := hide ((unhide HX).below (unhide HB2))
  obtain ⟨p0, p1, p2, p3, p4, p5, p6, p7, p8, p9, p10⟩ := cells_op (unhide HX2)
  have c1 := (((unhide Hh).below (unhide B0)).below (unhide HB2)).box.cell 1 _ rfl
  have hb2' : Hid (Below X.heap.size X W2.drew) := (unhide HB2).drew
  obtain ⟨⟨hv2, er⟩, hAV⟩ : ∃ A, addV hv (o.ds, o.dq) = A := ⟨_, rfl⟩
  have hvl : hv2.length ≤ 17 := by have := addV_len hv (o.ds, o.dq); rw [hAV] at this; exact this
  rw [hAV] at HVa HE
  simp only at HVa HE
  have HAV := hide hAV
  clear hAV
  go_wp2_with fail
  go_region_held3 (fun w' => w'.cell? ⟨b, 1, none⟩ = some (.slice av hv.length cv) ∧ w'.cell? ⟨w.heap.size, 0, none⟩ = some (.int .i64 o.ds) ∧ w'.cell? ⟨w.heap.size, 1, none⟩ = some (.int .i64 o.dq) ∧ Hid (Below X.heap.size X w'))
    (first
      | (exact ⟨c1, p0, p1, hb2'⟩)
      | (go_split_ands
         exact ⟨cell_below (by assumption) hb, cell_below (by assumption) hb, cell_below (by assumption) hb, hide (bnext (unhide (by assumption)) hb)⟩)
      | go_keep)
    (first
      | (go_split_ands; go_at_call 45; refine (unhide HVa _ (by assumption)).mono ?_; rintro e W3 ⟨v3, rfl, ho3, hb⟩; obtain ⟨a3, c3, hv3⟩ := OwD.form ho3; subst hv3; replace ho3 := hide ho3))
  have HB3 : Hid (Below X.heap.size X W3) := by go_split_ands; assumption
  have hz2 := (unhide hb2').size
  clear HVa c1 p0 p1 p2 p3 p4 p5 p6 p7 p8 p9 p10 HX2 HB2 hb2' hb
  by_cases her : er = 0
  rotate_left
  · have her' : (er == 0) = false := by simpa using her
    have HB := hide (bnext (unhide B0) (unhide HB3))
    go_wp2
    go_ret
    have := unhide HF _ (unhide HB) (by rw [unhide HE]; exact her)
    rw [unhide HE] at this
    exact this
  subst her
  have h3' := ((unhide Hh).below (unhide B0)).below (unhide HB3)
  have HX3 := (unhide HX).below (unhide HB3)
  have w1 := h3'.box.cell 1 _ rfl
  have wf := h3'.box.frozen 1
  have wl := h3'.box.lt
  obtain ⟨Z, hZ⟩ : ∃ Z, W3.setCell ⟨b, 1, none⟩ (.slice a3 hv2.length c3) = Z := ⟨_, rfl⟩
  have kZ : Kp (fun i => i = b) W3 Z := by rw [← hZ]; exact Kp.set _ _ _ rfl
  obtain ⟨avo, cvo, hvo⟩ := owns_form h3'.ro
  have hbv : vo.ownBlock ≠ some b := own_ne_box h3'.ro h3'.box (by decide)
  have Hbv := hide hbv
  have Hbx : Hid (Bx Z b 51 #[.slice avb base.length cvb, .slice a3 hv2.length c3, vo]) := by rw [← hZ]; have := h3'.box.set 1 (.slice a3 hv2.length c3); exact hide (by simpa using this)
  have Hro : Hid (Z.ownsRow 0 45 11 vo ops.length (flat encO ops)) := owns_kp h3'.ro kZ (fun i hi e => hbv (by rw [hi, e]))
  have hne0 : ∀ (v : Value) (l : List (Int × Int)), RI W3 v l → rb v l.length b → False := fun v l hr hrb => row_ne_box (k := 2) (fun j x hx => encI_int hx) hr (flat_len encI_lenT l) h3'.box ⟨_, _, _, rfl⟩ ⟨_, _, _, rfl⟩ ⟨_, _, _, hvo⟩ hrb
  have hne1 : ∀ (v : Value) (l : List ((Int × Int) × Int)), RR W3 v l → rb v l.length b → False := fun v l hr hrb => row_ne_box (k := 3) (fun j x hx => encR_int hx) hr (flat_len encR_lenT l) h3'.box ⟨_, _, _, rfl⟩ ⟨_, _, _, rfl⟩ ⟨_, _, _, hvo⟩ hrb
  have d3 := (unhide Hd0).below (unhide HB3)
  have g3 := RC.below (unhide Hg0) (unhide HB3)
  replace Hd0 := hide (RC.kpn d3 kZ (fun i hi e => by subst e; exact hne0 _ _ d3 hi))
  replace Hg0 := hide (RC.kpn g3 kZ (fun i hi e => by subst e; exact hne1 _ _ g3 hi))
  have Hbz := hide (show b < Z.heap.size from Nat.lt_of_lt_of_le wl kZ.size)
  have Hvl := hide (fun i (hi : vo.ownBlock = some i) => ((unhide Hro).lt i hi).2)
  have C1 := hide (fun (W : World) (k : Kp (fun k => vo.ownBlock = some k) Z W) => ((unhide Hbx).kp k (unhide Hbv)).cell 2 _ rfl)
  have HXZ := HX3.kp kZ (by omega)
  have hvo0 : ∀ i, vo.ownBlock = some i → i < w.heap.size := fun i hi => ((unhide Hh).ro.lt i hi).2
  have C2 := hide (fun (W : World) (k : Kp (fun k => k = b ∨ vo.ownBlock = some k) Z W) => cells_op (HXZ.kp k (fun e => e.elim (fun e => by omega) (fun e => by have := hvo0 _ e; omega))))
  have J0 : Hid (AdJ Z b o (.slice avb base.length cvb) (.slice a3 hv2.length c3) vo ops (fun _ => false) Z.drew) := ⟨Kp.of_below (Below.refl _ _).drew, fun _ => Kp.of_below (Below.refl _ _).drew, fun _ _ => (Below.refl _ _).drew, fun e => Bool.noConfusion e, fun e => Bool.noConfusion e⟩
  have H3 := hide h3'
  have KZ := hide kZ
  clear hne0 hne1 d3 g3 HX3 HXZ h3' hbv
  go_wp2
  refine wp_region_any (by kernel_rfl) ?_
  change wpAny _ _ _ _ _ _ _ (World.drew _)
  refine region_ss 51 (fun j => if j = 11 then 100 else 40 + j) ((0, (Value.pointer (some { block := b, off := 0 }))) :: (3, (Value.pointer (some { block := w.heap.size, off := 0 }))) :: []) (AdJ Z b o (.slice avb base.length cvb) (.slice a3 hv2.length c3) vo ops) (valsOf [isV (Value.pointer (some { block := b, off := 0 })), isV (Value.pointer (some { block := b, off := 0 })), isV (Value.pointer (some { block := b, off := 0 })), isV (Value.pointer (some { block := b, off := 2 })), isV vo, isV (.agg #[.int .i64 o.ds, .int .i64 o.dq, .slice ad o.deps.length cd, .int .i64 o.kind, .int .i64 o.it, .int .i64 o.is, .int .i64 o.rt, .int .i64 o.rs, .string o.text, .slice ag o.gone.length cg, .int .i64 o.site]), (AdV6 Z o), (AdV7 Z o), (AdV8 Z o vo ops), isV (Value.pointer (some { block := b, off := 0 })), isV (Value.pointer (some { block := b, off := 2 })), (fun _ _ => True)]) (fun i w1 w2 => Kp (fun k => (i = 8 ∧ vo.ownBlock = some k) ∨ (i = 11 ∧ k = b)) w1 w2) [] ?fit ?stable ?none ?steps ?fin _ _ ?sz rfl ?base (unhide J0)
  case fit => kernel_rfl
  case sz => rfl
  case base => intro p hp; repeat (first | (rcases List.mem_cons.1 hp with rfl | hp; · rfl) | cases hp)
  case none =>
    intro j o' ho hdn w1 v
    have hj : j < 12 := (Array.getElem?_eq_some_iff.1 ho).1
    obtain rfl | rfl | rfl | rfl | rfl | rfl | rfl | rfl | rfl | rfl | rfl | rfl : j = 0 ∨ j = 1 ∨ j = 2 ∨ j = 3 ∨ j = 4 ∨ j = 5 ∨ j = 6 ∨ j = 7 ∨ j = 8 ∨ j = 9 ∨ j = 10 ∨ j = 11 := by omega
    all_goals first | exact trivial | (exfalso; have e := Option.some.inj ho; rw [← e] at hdn; cases hdn)
  case stable =>
    intro j i f w1 w2 v hfj hfi hJ hv hG
    have hnz : ∀ k, ((i = 8 ∧ vo.ownBlock = some k) ∨ (i = 11 ∧ k = b)) → ¬ Z.heap.size ≤ k := fun k hk h => by
      rcases hk with ⟨_, hk⟩ | ⟨_, hk⟩
      · have := unhide Hvl k hk; omega
      · have := unhide Hbz; omega
    rcases Nat.lt_or_ge j 12 with hj | hj
    · obtain rfl | rfl | rfl | rfl | rfl | rfl | rfl | rfl | rfl | rfl | rfl | rfl : j = 0 ∨ j = 1 ∨ j = 2 ∨ j = 3 ∨ j = 4 ∨ j = 5 ∨ j = 6 ∨ j = 7 ∨ j = 8 ∨ j = 9 ∨ j = 10 ∨ j = 11 := by omega
      · exact hv
      · exact hv
      · exact hv
      · exact hv
      · exact hv
      · exact hv
      · obtain ⟨a1, c1, a2, c2, q1, q2⟩ := hv
        exact ⟨a1, c1, a2, c2, q1.kp hG hnz, q2⟩
      · obtain ⟨a1, c1, a2, c2, nb, q1, q2, q3, q4⟩ := hv
        exact ⟨a1, c1, a2, c2, nb, q1.kp hG hnz, q2, q3, q4.kp hG (fun e => hnz _ e q3)⟩
      · obtain ⟨a1, c1, a2, c2, q1, q2, q3⟩ := hv
        refine ⟨a1, c1, a2, c2, q1.kp hG hnz, owns_kp q2 hG (fun k hk e => ?_), q3⟩
        rcases e with ⟨e, _⟩ | ⟨_, e⟩
        · rw [e] at hfi; rw [hfi] at hfj; cases hfj
        · rcases q3 with q3 | ⟨k', q3, hk'⟩
          · exact unhide Hbv (by rw [← q3, hk, e])
          · rw [q3] at hk; simp at hk; have := unhide Hbz; omega
      · exact hv
      · exact hv
      · exact trivial
    · unfold valsOf
      rw [List.getD_eq_getElem?_getD, List.getElem?_eq_none (by simpa using hj)]
      exact trivial
  case steps =>
    refine .cons (fun f ρ wz hf hfe hρ hJ hb hd => by
      refine StepU.ok (by decide) ?_
      have d0 : ρ (.tmp 0) = (Value.pointer (some { block := b, off := 0 })) := hb (0, _) (List.mem_of_getElem? (i := 0) rfl)
      exact step_move (.tmp 0) rfl ⟨Kp.refl _ _, hJ.nop 0 (by decide) (by decide), d0⟩) ?_
    refine .cons (fun f ρ wz hf hfe hρ hJ hb hd => by
      refine StepU.ok (by decide) ?_
      have d0 : ρ (.tmp 0) = (Value.pointer (some { block := b, off := 0 })) := hb (0, _) (List.mem_of_getElem? (i := 0) rfl)
      exact step_move (.tmp 0) rfl ⟨Kp.refl _ _, hJ.nop 1 (by decide) (by decide), d0⟩) ?_
    refine .cons (fun f ρ wz hf hfe hρ hJ hb hd => by
      refine StepU.ok (by decide) ?_
      have d0 : ρ (.tmp 41) = (Value.pointer (some { block := b, off := 0 })) := hd 0 _ rfl rfl
      exact step_val (v := (Value.pointer (some { block := b, off := 0 }))) (w' := wz) (by simp [go_sem, execOp, d0]) ⟨Kp.refl _ _, hJ.nop 2 (by decide) (by decide), rfl⟩) ?_
    refine .cons (fun f ρ wz hf hfe hρ hJ hb hd => by
      refine StepU.ok (by decide) ?_
      have d0 : ρ (.tmp 42) = (Value.pointer (some { block := b, off := 0 })) := hd 0 _ rfl rfl
      exact step_val (v := (Value.pointer (some { block := b, off := 2 }))) (w' := wz) (by simp [go_sem, execOp, d0]) ⟨Kp.refl _ _, hJ.nop 3 (by decide) (by decide), rfl⟩) ?_
    refine .cons (fun f ρ wz hf hfe hρ hJ hb hd => by
      refine StepU.ok (by decide) ?_
      have d0 : ρ (.tmp 43) = (Value.pointer (some { block := b, off := 2 })) := hd 0 _ rfl rfl
      have x0 := unhide C1 _ (hJ.k0 (hf 11 (.inr (by decide +kernel))))
      exact step_val (v := vo) (w' := wz) (by simp [go_sem, execOp, d0, x0]) ⟨Kp.refl _ _, hJ.nop 4 (by decide) (by decide), rfl⟩) ?_
    refine .cons (fun f ρ wz hf hfe hρ hJ hb hd => by
      refine StepU.ok (by decide) ?_
      have d0 : ρ (.tmp 3) = (Value.pointer (some { block := w.heap.size, off := 0 })) := hb (3, _) (List.mem_of_getElem? (i := 1) rfl)
      obtain ⟨x0, x1, x2, x3, x4, x5, x6, x7, x8, x9, x10⟩ := unhide C2 _ hJ.kz
      exact step_val (v := (.agg #[.int .i64 o.ds, .int .i64 o.dq, .slice ad o.deps.length cd, .int .i64 o.kind, .int .i64 o.it, .int .i64 o.is, .int .i64 o.rt, .int .i64 o.rs, .string o.text, .slice ag o.gone.length cg, .int .i64 o.site])) (w' := wz) (by simp [go_sem, execOp, d0, x0, x1, x2, x3, x4, x5, x6, x7, x8, x9, x10]) ⟨Kp.refl _ _, hJ.nop 5 (by decide) (by decide), rfl⟩) ?_
    refine .cons (fun f ρ wz hf hfe hρ hJ hb hd => by
      refine StepU.ok (by decide) ?_
      have d0 : ρ (.tmp 45) = (.agg #[.int .i64 o.ds, .int .i64 o.dq, .slice ad o.deps.length cd, .int .i64 o.kind, .int .i64 o.it, .int .i64 o.is, .int .i64 o.rt, .int .i64 o.rs, .string o.text, .slice ag o.gone.length cg, .int .i64 o.site]) := hd 0 _ rfl rfl
      refine step_func 41 _ _ #[.agg #[.int .i64 o.ds, .int .i64 o.dq, .slice ad o.deps.length cd, .int .i64 o.kind, .int .i64 o.it, .int .i64 o.is, .int .i64 o.rt, .int .i64 o.rs, .string o.text, .slice ag o.gone.length cg, .int .i64 o.site]] hρ rfl (enters_of Tryz.func41 (by kernel_rfl) rfl) (by simp [d0]) ?_
      have hbz := hJ.bz (hf 8 (.inr (by decide +kernel))) (hf 11 (.inr (by decide +kernel)))
      refine (clone_in o ad ag cd cg wz ((unhide Hd0).below hbz) (RC.below (unhide Hg0) hbz) h1 h2 h3).mono ?_
      rintro r W' ⟨vd', vg', rfl, ho, hg', hb2⟩
      obtain ⟨a1, c1, rfl⟩ := OwD.form ho
      obtain ⟨a2, c2, rfl⟩ := OwR.form hg'
      exact ⟨_, rfl, Kp.of_below hb2, (hJ.below hb2).nop 6 (by decide) (by decide), a1, c1, a2, c2, ⟨ho.b0, hg'.b0, fun k hk => Nat.le_trans hbz.size (ho.lt k hk).1, fun k hk => Nat.le_trans hbz.size (hg'.lt k hk).1, h1, h2, h3⟩, rfl⟩) ?_
    refine .cons (fun f ρ wz hf hfe hρ hJ hb hd => by
      refine StepU.ok (by decide) ?_
      obtain ⟨a1, c1, a2, c2, hoe, d0⟩ : AdV6 Z o wz (ρ (.tmp 46)) := hd 0 _ rfl rfl
      have al := ballc (Below.refl wz.heap.size wz) (.cells #[.int .i64 o.ds, .int .i64 o.dq, .slice a1 o.deps.length c1, .int .i64 o.kind, .int .i64 o.it, .int .i64 o.is, .int .i64 o.rt, .int .i64 o.rs, .string o.text, .slice a2 o.gone.length c2, .int .i64 o.site] 45)
      unfold opA at d0
      exact step_val (v := .slice (some ⟨wz.heap.size, 0, none⟩) 1 1) (w' := wz.alloc (.cells #[.int .i64 o.ds, .int .i64 o.dq, .slice a1 o.deps.length c1, .int .i64 o.kind, .int .i64 o.it, .int .i64 o.is, .int .i64 o.rt, .int .i64 o.rs, .string o.text, .slice a2 o.gone.length c2, .int .i64 o.site] 45)) (by simp [go_sem, execOp, d0]) ⟨Kp.of_below al, (hJ.below al).nop 7 (by decide) (by decide), a1, c1, a2, c2, wz.heap.size, hoe.below al, rfl, hJ.kz.size, Bx.new _ _ _⟩) ?_
    refine .cons (fun f ρ wz hf hfe hρ hJ hb hd => by
      refine StepU.ok (by decide) ?_
      have d0 : ρ (.tmp 44) = vo := hd 0 _ rfl rfl
      obtain ⟨a1, c1, a2, c2, nb, hoe, d1, hnb, hbx⟩ : AdV7 Z o wz (ρ (.tmp 47)) := hd 1 _ rfl rfl
      have hbz := hJ.bz (hf 8 (.inl rfl)) (hf 11 (.inr (by decide +kernel)))
      obtain ⟨v', w', hr, hown, hgr, hat⟩ := append_op wz 33 0 vo ops (o, Value.slice a1 o.deps.length c1, Value.slice a2 o.gone.length c2) nb (owns_kp (N := fun _ => False) (unhide Hro) (Kp.of_below hbz) (fun _ _ x => x)) hbx hoe.one (Nat.zero_le _) hn
      have kk := Kp.of_grown (N := fun k => vo.ownBlock = some k) hgr (fun k hk => hk)
      refine step_val (v := v') (w' := w') (run_appendO (.tmp 44) (.tmp 47) 33 rfl d0 d1 hr) ⟨kk.wk (fun i hi => .inl ⟨rfl, hi⟩), hJ.app kk (hf 11 (.inr (by decide +kernel))), a1, c1, a2, c2, hoe.kp kk (fun i hi h => by have := unhide Hvl i hi; omega), hown, ?_⟩
      rcases hat with hat | hat
      · exact .inl hat
      · exact .inr ⟨_, hat, hJ.kz.size⟩) ?_
    refine .cons (fun f ρ wz hf hfe hρ hJ hb hd => by
      refine StepU.ok (by decide) ?_
      have d0 : ρ (.tmp 40) = (Value.pointer (some { block := b, off := 0 })) := hd 0 _ rfl rfl
      exact step_val (v := (Value.pointer (some { block := b, off := 0 }))) (w' := wz) (by simp [go_sem, execOp, d0]) ⟨Kp.refl _ _, hJ.nop 9 (by decide) (by decide), rfl⟩) ?_
    refine .cons (fun f ρ wz hf hfe hρ hJ hb hd => by
      refine StepU.ok (by decide) ?_
      have d0 : ρ (.tmp 49) = (Value.pointer (some { block := b, off := 0 })) := hd 0 _ rfl rfl
      exact step_val (v := (Value.pointer (some { block := b, off := 2 }))) (w' := wz) (by simp [go_sem, execOp, d0]) ⟨Kp.refl _ _, hJ.nop 10 (by decide) (by decide), rfl⟩) ?_
    refine .cons (fun f ρ wz hf hfe hρ hJ hb hd => by
      have d0 : ρ (.tmp 50) = (Value.pointer (some { block := b, off := 2 })) := hd 0 _ rfl rfl
      obtain ⟨a1, c1, a2, c2, hoe, hown, hat⟩ : AdV8 Z o vo ops wz (ρ (.tmp 48)) := hd 1 _ rfl rfl
      obtain ⟨av', cv', hv⟩ := owns_form hown
      rw [hv] at hown hat
      have bx := hJ.box (unhide Hbx) (unhide Hbv) (hf 11 (.inl rfl))
      have x0 := bx.cell 2 _ rfl
      have x1 := bx.frozen 2
      have x2 := bx.lt
      have k := Kp.set (N := fun i => i = b) wz ⟨b, 2, none⟩ (.slice av' (ops ++ [(o, Value.slice a1 o.deps.length c1, Value.slice a2 o.gone.length c2)]).length cv') rfl
      refine StepU.st _ (.tmp 50) (.tmp 48) rfl rfl (w' := wz.setCell ⟨b, 2, none⟩ (.slice av' (ops ++ [(o, Value.slice a1 o.deps.length c1, Value.slice a2 o.gone.length c2)]).length cv')) (by rw [d0, hv]; simp [go_sem, x0, x1, x2]) ⟨k.wk (fun i hi => .inr ⟨rfl, hi⟩), hJ.st k (hfe 1 _ rfl rfl) ?_, trivial⟩
      have hb2 := bx.set 2 (.slice av' (ops ++ [(o, Value.slice a1 o.deps.length c1, Value.slice a2 o.gone.length c2)]).length cv')
      refine ⟨_, a1, c1, a2, c2, by simpa using hb2, hoe.kp k (fun i hi h => by have := unhide Hbz; omega), owns_kp hown k (fun i hi e => ?_), hat⟩
      rcases hat with hat | ⟨q, hat, hq⟩
      · exact unhide Hbv (by rw [← hat, hi, e])
      · rw [hat] at hi; simp at hi; have := unhide Hbz; omega) ?_
    exact .nil _
  case fin =>
    intro a W5 hsz2 hds hb hJ hv
    obtain ⟨f, hf, hJ⟩ := hJ
    have hF := hide (hJ.fin (hf 11 (by decide)))
    have hK := hide hJ.kz
    obtain ⟨u, rfl⟩ : ∃ u : Nat → Value, a = ⟨#[u 0, u 1, u 2, u 3, u 4, u 5, u 6, u 7, u 8, u 9, u 10, u 11, u 12, u 13, u 14, u 15, u 16, u 17, u 18, u 19, u 20, u 21, u 22, u 23, u 24, u 25, u 26, u 27, u 28, u 29, u 30, u 31, u 32, u 33, u 34, u 35, u 36, u 37, u 38, u 39, u 40, u 41, u 42, u 43, u 44, u 45, u 46, u 47, u 48, u 49, u 50], []⟩ := ⟨fun k => a.eval (.tmp k), frame_fn 51 hsz2 hds⟩
    clear hJ hb hv hf hds hsz2
    go_wp2
    go_ret
    obtain ⟨v, a1, c1, a2, c2, q1, q2, q3, q4⟩ := unhide hF
    have h3w := unhide H3
    have k35 : Kp (fun k => k = b ∨ vo.ownBlock = some k) W3 W5 := ((unhide KZ).wk (fun i e => .inl e)).trans (unhide hK) (fun i e => .inl e)
    have KW : Kp (fun k => k = b ∨ vo.ownBlock = some k) w W5 := (Kp.of_below (bnext (unhide B0) (unhide HB3))).trans k35 (fun i e => .inl e)
    have tD : ∀ {B n : Nat} {v : Value} {C : List Value}, W3.ownsRow B 28 2 v n C → ∀ i, v.ownBlock = some i → ¬ (i = b ∨ vo.ownBlock = some i) := fun hr i hi e => by
      rcases e with e | e
      · exact own_ne_box hr h3w.box (by decide) (by rw [hi, e])
      · exact own_ne_own hr h3w.ro (by decide) i hi e
    have tR : ∀ {B n : Nat} {v : Value} {C : List Value}, W3.ownsRow B 81 3 v n C → ∀ i, v.ownBlock = some i → ¬ (i = b ∨ vo.ownBlock = some i) := fun hr i hi e => by
      rcases e with e | e
      · exact own_ne_box hr h3w.box (by decide) (by rw [hi, e])
      · exact own_ne_own hr h3w.ro (by decide) i hi e
    have hzz : w.heap.size ≤ Z.heap.size := by have := (unhide B0).size; have := (unhide HB3).size; have := (unhide KZ).size; omega
    refine ⟨⟨by rw [unhide HE]; rfl, ?_, KW.wk (fun i e => ?_)⟩, (TF.below (bnext (unhide B0) (unhide HB3))).trans (TF.log k35 h3w.box h3w.ro)⟩
    · rw [if_pos (unhide HE), if_pos (unhide HE), unhide HAV]
      refine ⟨_, _, v, ops ++ [(o, Value.slice a1 o.deps.length c1, Value.slice a2 o.gone.length c2)], ⟨q1, owns_kp h3w.rb k35 (tD h3w.rb), owns_kp (unhide ho3).b0 k35 (tD (unhide ho3)), q3, fun e he => ?_, .inl h3w.pb, fun k hk => .inl (h3w.pvb k hk), fun k hk => .inr ?_, fun k hk => ?_, h3w.lb, by simp only; omega⟩, by simp⟩
      · rcases List.mem_append.1 he with he | he
        · have oe := h3w.re e he
          exact ⟨owns_kp oe.d k35 (tD oe.d), owns_kp oe.g k35 (tR oe.g), fun k hk => .inl (oe.pd k hk), fun k hk => .inl (oe.pg k hk), oe.s1, oe.s2, oe.s3⟩
        · simp only [List.mem_singleton] at he
          subst he
          exact q2.mono (fun i hi => .inr (by omega))
      · have := ((unhide ho3).lt k hk).1
        have := (unhide B0).size
        omega
      · rcases q4 with q4 | ⟨k', q4, hk'⟩
        · exact .inl (h3w.pvo k (by rw [← q4]; exact hk))
        · rw [q4] at hk
          simp at hk
          exact .inr (by omega)
    · rcases e with e | e
      · rw [e]; exact h3w.pb
      · exact h3w.pvo i e

end Go.Proofs.YtijjoikeceechaaGreat

/-
  Cut once more.
-/
set_option linter.unusedSimpArgs false
set_option linter.unusedVariables false
namespace Go.Proofs.YtijjoikeceechaaGreat
open Go.RowKit Go.Lib

set_option maxRecDepth 100000 in
set_option maxHeartbeats 16000000 in
theorem CutF_in {P : Nat → Prop} {w : World} {b : Nat} {base hv : List (Int × Int)} {os : List Opn} (hL : LL P w b base hv os) (hP : ∀ i, P i → i < w.heap.size) (hn0 : os.length ≤ 1000000) (v : Value) (l : List (Int × Int)) (hr : RI w v l) (hl : l.length ≤ 1000000) (hap : ∀ k, rb v l.length k → ¬ P k) :
    Calls Tryz.prog 23 #[.pointer (some ⟨b, 0, none⟩), v] w (CutF P w b base hv os l) := by
  have hL0 := hL
  obtain ⟨vb, vh, vo, ops, h, rfl⟩ := hL
  rw [List.length_map] at hn0
  obtain ⟨av, cv, rfl⟩ := hr.form
  obtain ⟨ah, ch, rfl⟩ := OwD.form h.rh
  obtain ⟨ab, cb, rfl⟩ := OwD.form h.rb
  have HF : Hid (∀ W, Below w.heap.size w W → cutE hv l ≠ 0 → CutF P w b base hv (ops.map Prod.fst) l (.returned (.tuple #[.slice none 0 0, .int .i64 (cutE hv l)])) W) := fun W hb he => ⟨⟨_, w.heap.size, rfl, Nat.le_refl _, hb.size, by rw [if_neg he]; exact RL.nil _ _, by rw [if_neg he, if_neg he]; exact (hL0.below hb).mono (fun i hi => .inl hi), Kp.of_below hb⟩, TF.below hb⟩
  have HC := hide (Check_in _ l w hr (by omega))
  have Hh := hide h
  have Hr := hide hr
  have Hap := hide hap
  have c1 := h.box.cell 1 _ rfl
  have bl := h.box.lt
  clear hL0 h hr hap
  by_cases hck : chk l = 0
  rotate_left
  · have HE := hide (cutE_chk (hv := hv) hck)
    obtain ⟨k, hk⟩ : ∃ k, chk l = k := ⟨_, rfl⟩
    rw [hk] at HC HE hck
    have hck' : (k == 0) = false := by simpa using hck
    clear hk
    go_enter Tryz.func23, Tryz.ntmps23
    go_wp2_with fail
    refine (unhide HC).mono ?_
    rintro r W1 ⟨rfl, hb1⟩
    go_wp2
    refine bodyPost_ret (results_tmp2 rfl _ _ _) rfl ?_
    have := unhide HF _ hb1 (by rw [unhide HE]; exact hck)
    rw [unhide HE] at this
    exact this
  have Hck := hide hck
  rw [hck] at HC
  clear hck
  have HCo := hide (fun (W : World) (hb : Below w.heap.size w W) => Covers_in _ _ hv l W ((unhide Hh).below hb).rh.row ((unhide Hr).below hb) (by have := (unhide Hh).lh; omega) (by omega))
  go_enter Tryz.func23, Tryz.ntmps23
  go_wp2_with fail
  refine (unhide HC).mono ?_
  rintro r W1 ⟨rfl, hb1⟩
  have H1 := hide (unhide HCo W1 hb1)
  replace c1 := ((unhide Hh).below hb1).box.cell 1 _ rfl
  have B1 := hide hb1
  clear hb1 HC HCo
  cases hcv : cov (sy hv) (sy l)
  · rw [hcv] at H1
    have HE := hide (cutE_cov (unhide Hck) hcv)
    clear hcv
    go_wp2_with fail
    refine (unhide H1).mono ?_
    rintro r W2 ⟨rfl, hb2⟩
    go_wp2
    refine bodyPost_ret (results_tmp2 rfl _ _ _) rfl ?_
    have := unhide HF _ (bnext (unhide B1) hb2) (by rw [unhide HE]; decide)
    rw [unhide HE] at this
    exact this
  rw [hcv] at H1
  have HE := hide (cutE_ok (unhide Hck) hcv)
  clear hcv HF
  go_wp2_with fail
  refine (unhide H1).mono ?_
  rintro r W2 ⟨rfl, hb2⟩
  have B2 := hide (bnext (unhide B1) hb2)
  have HP1 := hide (part_in ((unhide Hh).below (unhide B2)) _ l true ((unhide Hr).below (unhide B2)) hl hn0)
  clear H1 B1 hb2 c1
  go_wp2_with fail
  refine (unhide HP1).mono ?_
  rintro r W3 ⟨v3, rfl, ho3, hb3⟩
  obtain ⟨gone, hgone⟩ : ∃ g, prt l true ops = g := ⟨_, rfl⟩
  rw [hgone] at ho3
  have hgm : Hid (∀ e ∈ gone, e ∈ ops) := fun e he => prt_mem (by rw [hgone]; exact he)
  have hgl : gone.length ≤ 1000000 := by have := prt_len l true ops; rw [hgone] at this; omega
  have Hgone := hide hgone
  obtain ⟨a3, c3, rfl⟩ := owns_form ho3
  have B3 := hide (bnext (unhide B2) hb3)
  have R0 : Hid (CuR w gone (.slice a3 gone.length c3) 0 W3) := ⟨[], rfl, by simp, fun e he => (by cases he), by rw [List.nil_append, List.drop_zero]; exact own_base ho3 (unhide B2).size⟩
  clear ho3 hb3 HP1 hgone
  go_wp2
  go_loopw [29] (fun iv wr => ∃ (i : Nat), iv = .int .i64 (i : Nat) ∧ i ≤ gone.length ∧ Hid (CuR w gone (.slice a3 gone.length c3) i wr) ∧ Hid (Below w.heap.size w wr)) (fun iv _ => gone.length - (Lib.intOf iv).toNat)
  case atStart => exact ⟨0, rfl, by omega, R0, B3⟩
  case round =>
    clear R0 B3 B2
    obtain ⟨i, rfl, hi, HR, HB⟩ := hrel
    by_cases hlt : i < gone.length
    · have hlt' : (i : Int) < (gone.length : Int) := by omega
      obtain ⟨e, hx⟩ : ∃ e, gone[i]? = some e := ⟨_, List.getElem?_eq_getElem hlt⟩
      obtain ⟨cl, hcl, hcm, hce, hown⟩ := unhide HR
      have hdr : gone.drop i = e :: gone.drop (i + 1) := by
        rw [List.drop_eq_getElem_cons hlt]
        congr 1
        exact Option.some.inj ((List.getElem?_eq_getElem hlt).symm.trans hx)
      have hix : (cl ++ gone.drop i)[i]? = some e := by rw [List.getElem?_append_right (by omega), hcl, Nat.sub_self, hdr]; rfl
      have hln : (cl ++ gone.drop i).length = gone.length := by rw [List.length_append, hcl, List.length_drop]; omega
      obtain ⟨g, rfl, hgl2, hcell⟩ := own_at11 hown hln hix
      have oe := ((unhide Hh).re e (unhide hgm e (List.mem_of_getElem? hx))).below (unhide HB)
      obtain ⟨a1, c1, h1⟩ := OwD.form oe.d
      obtain ⟨a2, c2, h2⟩ := OwR.form oe.g
      obtain ⟨o, ud, ug⟩ := e
      simp only at h1 h2
      subst h1 h2
      have q0 := hcell 0 _ rfl
      have q1 := hcell 1 _ rfl
      have q2 := hcell 2 _ rfl
      have q3 := hcell 3 _ rfl
      have q4 := hcell 4 _ rfl
      have q5 := hcell 5 _ rfl
      have q6 := hcell 6 _ rfl
      have q7 := hcell 7 _ rfl
      have q8 := hcell 8 _ rfl
      have q9 := hcell 9 _ rfl
      have q10 := hcell 10 _ rfl
      rw [Nat.add_zero] at q0
      obtain ⟨Y, hY⟩ : ∃ Y, wr.alloc (.cells #[.int .i64 o.ds, .int .i64 o.dq, .slice a1 o.deps.length c1, .int .i64 o.kind, .int .i64 o.it, .int .i64 o.is, .int .i64 o.rt, .int .i64 o.rs, .string o.text, .slice a2 o.gone.length c2, .int .i64 o.site] 45) = Y := ⟨_, rfl⟩
      have bY : Below wr.heap.size wr Y := by rw [← hY]; exact ballc (Below.refl _ _) _
      have xY := Bx.new wr 45 #[.int .i64 o.ds, .int .i64 o.dq, .slice a1 o.deps.length c1, .int .i64 o.kind, .int .i64 o.it, .int .i64 o.is, .int .i64 o.rt, .int .i64 o.rs, .string o.text, .slice a2 o.gone.length c2, .int .i64 o.site]
      rw [hY] at xY
      have HCl := hide (clone_in o a1 a2 c1 c2 Y (oe.d.row.below bY) (RC.below oe.g.row bY) oe.s1 oe.s2 oe.s3)
      have Hoe := hide oe
      have HX := hide (show cl.length = i ∧ cl.map Prod.fst = (gone.take i).map Prod.fst ∧ (∀ e ∈ cl, OE (fun k => w.heap.size ≤ k) Y e) ∧ Y.ownsRow w.heap.size 45 11 (.slice (some ⟨g, 0, none⟩) gone.length c3) gone.length (flat encO (cl ++ gone.drop i)) from ⟨hcl, hcm, fun e he => (hce e he).below bY, owns_kp (N := fun _ => False) hown (Kp.of_below bY) (fun _ _ x => x)⟩)
      have BY := hide (bnext (unhide HB) bY)
      have hix' := hide hix
      have Hdr := hide hdr
      have Hln := hide hln
      have Hx := hide hx
      have hwY := bY.size
      obtain ⟨z0, z1, z2, z3, z4, z5, z6, z7, z8, z9, z10⟩ := cells_op xY
      have yl := xY.lt
      clear hcl hcm hce hown oe bY xY hix hdr hln hcell HR HB hx
      go_wp2_with fail
      refine (unhide HCl).mono ?_
      rintro r W5 ⟨vd', vg', rfl, hod, hog, hb5⟩
      obtain ⟨ad, cd, rfl⟩ := OwD.form hod
      obtain ⟨ag, cg, rfl⟩ := OwR.form hog
      unfold opA
      obtain ⟨hcl, hcm, hce, hown⟩ := unhide HX
      have hown5 := owns_kp (N := fun _ => False) hown (Kp.of_below hb5) (fun _ _ x => x)
      have hce5 := fun e he => (hce e he).below hb5
      have hix5 := unhide hix'
      obtain ⟨g', hg', hgl5, hcell5⟩ := own_at11 hown5 (unhide Hln) hix5
      simp only [Option.some.injEq, Addr.mk.injEq, and_true] at hg'
      subst hg'
      have fz := fun j => hown5.frozenAt j
      have r0 := hcell5 0 _ rfl
      have r1 := hcell5 1 _ rfl
      have r2 := hcell5 2 _ rfl
      have r3 := hcell5 3 _ rfl
      have r4 := hcell5 4 _ rfl
      have r5 := hcell5 5 _ rfl
      have r6 := hcell5 6 _ rfl
      have r7 := hcell5 7 _ rfl
      have r8 := hcell5 8 _ rfl
      have r9 := hcell5 9 _ rfl
      have r10 := hcell5 10 _ rfl
      rw [Nat.add_zero] at r0
      have f0 := fz (i * 11)
      have f1 := fz (i * 11 + 1)
      have f2 := fz (i * 11 + 2)
      have f3 := fz (i * 11 + 3)
      have f4 := fz (i * 11 + 4)
      have f5 := fz (i * 11 + 5)
      have f6 := fz (i * 11 + 6)
      have f7 := fz (i * 11 + 7)
      have f8 := fz (i * 11 + 8)
      have f9 := fz (i * 11 + 9)
      have f10 := fz (i * 11 + 10)
      -- the element, stored
      obtain ⟨k1, k2⟩ := own_sets (encO (o, Value.slice ad o.deps.length cd, Value.slice ag o.gone.length cg)) (i * 11) hown5
      have hA : (flat encO cl).length = i * 11 := by rw [flat_len encO_len, hcl]
      have hsp : lsets (flat encO (cl ++ gone.drop i)) (i * 11) (encO (o, Value.slice ad o.deps.length cd, Value.slice ag o.gone.length cg)) = flat encO ((cl ++ [(o, Value.slice ad o.deps.length cd, Value.slice ag o.gone.length cg)]) ++ gone.drop (i + 1)) := by
        rw [unhide Hdr, flat_append, flat_cons, ← hA, lsets_mid _ _ _ _ (by rw [encO_len, encO_len]), flat_append, flat_append]
        simp [flat]
      rw [hsp] at k1
      obtain ⟨ZZ, hZZ⟩ : ∃ Z, sets W5 g (i * 11) (encO (o, Value.slice ad o.deps.length cd, Value.slice ag o.gone.length cg)) = Z := ⟨_, rfl⟩
      rw [hZZ] at k1 k2
      have kz := k2
      have hgw : w.heap.size ≤ g := (hown5.lt g rfl).1
      have hoeS := unhide Hoe
      have hodl := hod.lt
      have hogl := hog.lt
      have hYg : g < Y.heap.size := (hown.lt g rfl).2
      have R2 : Hid (CuR w gone (.slice (some ⟨g, 0, none⟩) gone.length c3) (i + 1) ZZ) := by
        refine ⟨cl ++ [(o, Value.slice ad o.deps.length cd, Value.slice ag o.gone.length cg)], by simp [hcl], ?_, fun e he => ?_, k1⟩
        · rw [List.take_add_one, unhide Hx]
          simp [hcm]
        · rcases List.mem_append.1 he with he | he
          · have q := hce5 e he
            exact ⟨owns_kp q.d kz (fun k hk e2 => own_ne_own q.d hown5 (by decide) k hk (by rw [e2]; rfl)), owns_kp q.g kz (fun k hk e2 => own_ne_own q.g hown5 (by decide) k hk (by rw [e2]; rfl)), q.pd, q.pg, q.s1, q.s2, q.s3⟩
          · simp only [List.mem_singleton] at he
            subst he
            exact ⟨own_base (owns_kp hod kz (fun k hk e2 => by have := (hodl k hk).1; omega)) (Nat.zero_le _), own_base (owns_kp hog kz (fun k hk e2 => by have := (hogl k hk).1; omega)) (Nat.zero_le _), fun k hk => by have := (hodl k hk).1; have := (unhide BY).size; omega, fun k hk => by have := (hogl k hk).1; have := (unhide BY).size; omega, hoeS.s1, hoeS.s2, hoeS.s3⟩
      have B2 := hide (kz.below (bnext (unhide BY) hb5) (fun k hk => by omega))
      have HZ := hide hZZ
      have n5 : g < W5.heap.size := hgl5
      clear hcl hcm hce hown hown5 hce5 hix5 hcell5 fz k1 k2 kz hod hog hb5 HCl HX hoeS hodl hogl hsp hA hY z0 z1 z2 z3 z4 z5 z6 z7 z8 z9 z10 q0 q1 q2 q3 q4 q5 q6 q7 q8 q9 q10 hZZ
      go_wp2
      go_roundw
      case measure => show gone.length - ((i : Int) + 1).toNat < gone.length - ((i : Nat) : Int).toNat; omega
      case rel => exact ⟨i + 1, by go_num, by omega, by rw [← unhide HZ] at R2; exact R2, by rw [← unhide HZ] at B2; exact B2⟩
    · have hlt' : ¬ (i : Int) < (gone.length : Int) := by omega
      obtain rfl : i = gone.length := by omega
      have h4 := (unhide Hh).below (unhide HB)
      have HP2 := hide (part_in h4 _ l false ((unhide Hr).below (unhide HB)) hl hn0)
      clear h4
      go_wp2_with fail
      refine (unhide HP2).mono ?_
      rintro r W6 ⟨v6, rfl, ho6, hb6⟩
      have h6 := (unhide Hh).below (bnext (unhide HB) hb6)
      have HK := hide (keep_in h6 v6 (prt l false ops) (RC.of_owns ho6) (prt_len l false ops) (fun e he => prt_mem he))
      obtain ⟨left, hleft⟩ : ∃ x, prt l false ops = x := ⟨_, rfl⟩
      rw [hleft] at HK ho6
      have Hleft := hide hleft
      obtain ⟨a6, c6, rfl⟩ := owns_form ho6
      have B6 := hide hb6
      have h6w : Hid (∀ i, vo.ownBlock = some i → P i) := h6.pvo
      have pb : Hid (P b) := h6.pb
      clear HP2 ho6 hb6 h6 hleft
      go_wp2_with fail
      refine (unhide HK).mono ?_
      rintro r W7 ⟨rfl, ⟨v7, h7, hv7⟩, k7⟩
      have hr7 : RI W7 (.slice av l.length cv) l := RC.kpn ((unhide Hr).below (bnext (unhide HB) (unhide B6))) k7 (fun i hi e => unhide Hap i hi (e.elim (fun e => by rw [e]; exact unhide pb) (fun e => unhide h6w i e)))
      have HM := hide (Merge_in _ _ base l W7 h7.rb.row hr7 (by have := h7.lb; omega) (by omega))
      have c0 := h7.box.cell 0 _ rfl
      have l0 := h7.box.lt
      have H7 := hide h7
      have K7 := hide k7
      clear HK h7 k7 hr7
      go_wp2_with fail
      refine (unhide HM).mono ?_
      rintro r W8 ⟨v8, rfl, ho8, hb8⟩
      obtain ⟨a8, c8, rfl⟩ := OwD.form ho8
      have h8 := (unhide H7).below hb8
      have d0 := h8.box.cell 0 _ rfl
      have f0 := h8.box.frozen 0
      have l8 := h8.box.lt
      have H8 := hide h8
      have O8 := hide ho8
      have B8 := hide hb8
      clear HM h8 ho8 hb8 c0
      go_wp2
      refine bodyPost_ret (results_tmp2 rfl _ _ _) rfl ?_
      have k9 := Kp.set (N := fun i => i = b) W8 ⟨b, 0, none⟩ (.slice a8 (vec (mrg (sy base) (sy l))).length c8) rfl
      have kk : Kp (fun i => i = b ∨ vo.ownBlock = some i) wr (W8.setCell ⟨b, 0, none⟩ (.slice a8 (vec (mrg (sy base) (sy l))).length c8)) := (((Kp.of_below (unhide B6)).trans (unhide K7) (fun i e => .inl e)).trans (Kp.of_below (N := fun _ => False) (unhide B8)) (fun i e => .inl e.elim)).trans k9 (fun i e => .inl (.inl e))
      have kP : ∀ i, (i = b ∨ vo.ownBlock = some i) → P i := fun i e => e.elim (fun e => by rw [e]; exact unhide pb) (fun e => unhide h6w i e)
      obtain ⟨cl, hcl, hcm, hce, hown⟩ := unhide HR
      rw [List.drop_length, List.append_nil] at hown
      rw [List.take_length] at hcm
      have hz7 := (unhide B6).size
      have hz8 := (unhide K7).size
      refine ⟨⟨_, wr.heap.size, by rw [unhide HE]; rfl, (unhide HB).size, kk.size, ?_, ?_, ((Kp.of_below (N := fun _ => False) (unhide HB)).wk (fun i e => e.elim)).trans kk (fun i e => .inl (kP i e))⟩, (TF.below (unhide HB)).trans (TF.log kk ((unhide Hh).below (unhide HB)).box ((unhide Hh).below (unhide HB)).ro)⟩
      · rw [if_pos (unhide HE)]
        refine ⟨cl, ?_, fun e he => ((hce e he).lt).kp kk (fun i hi h => ?_), fun k hk => ?_, ?_⟩
        · rw [hcl]
          exact own_base (owns_kp hown kk (fun i hi e => by have := hP i (kP i e); have := (hown.lt i hi).1; omega)) (Nat.zero_le _)
        · have := hP i (kP i hi); omega
        · exact hown.lt k hk
        · rw [hcm, ← unhide Hgone, prt_fst]
      · rw [if_pos (unhide HE), if_pos (unhide HE)]
        refine ⟨_, _, _, left, (unhide H8).setBase (P' := fun i => P i ∨ wr.heap.size ≤ i) (unhide O8).b0 (fun i hi => .inl hi) (fun k hk => .inr (by have := ((unhide O8).lt k hk).1; omega)) (by have := vec_len (mrg (sy base) (sy l)); omega), ?_⟩
        rw [← unhide Hleft, prt_fst]

end Go.Proofs.YtijjoikeceechaaGreat

/-
  What a step has done, told once more with the rows that are as they were.
-/
set_option linter.unusedSimpArgs false
set_option linter.unusedVariables false
namespace Go.Proofs.YtijjoikeceechaaGreat
open Go.RowKit Go.Lib

structure TSF (w W W8 : World) (P P' R : Nat → Prop) (K b : Nat) (x : Value) (B H : List (Int × Int)) (O : List Opn) : Prop where
  ll : LL P' W8 b B H O
  ln : LN (fun i => R i ∨ K ≤ i) W8 x B O
  kp : Kp P W W8
  pp : ∀ i, P' i → (P i ∨ W.heap.size ≤ i) ∧ i < K
  rr : ∀ i, R i → i < W.heap.size ∧ ¬ P i
  k0 : W.heap.size ≤ K
  k1 : K ≤ W8.heap.size
  tf : TF W W8
theorem TSF.ts {w W W8 : World} {P P' R : Nat → Prop} {K b : Nat} {x : Value} {B H : List (Int × Int)} {O : List Opn} (h : TSF w W W8 P P' R K b x B H O) : TS w W W8 P P' R K b x B H O := ⟨h.ll, h.ln, h.kp, h.pp, h.rr, h.k0, h.k1⟩
def StB (W : World) (P R : Nat → Prop) (b : Nat) (B H : List (Int × Int)) (O : List Opn) (e : Ending) (W' : World) : Prop := StA W P R b B H O e W' ∧ TF W W'
theorem TSF.fin {w W W8 W' : World} {P P' R : Nat → Prop} {K b gv bz : Nat} {x : Value} {B H : List (Int × Int)} {O : List Opn} (h : TSF w W W8 P P' R K b x B H O) (k : Kp (fun i => i = gv ∨ i = bz) W8 W') (h1 : W.heap.size ≤ gv ∧ gv < K ∧ ¬ P' gv) (h2 : W.heap.size ≤ bz ∧ bz < K ∧ ¬ P' bz) : StB W P R b B H O (.returned (.tuple #[x, .bool true])) W' :=
  ⟨h.ts.fin k h1 h2, h.tf.go k (fun i e => by rcases e with rfl | rfl; exact h1.1; exact h2.1)⟩

end Go.Proofs.YtijjoikeceechaaGreat

/-
  The law's step: add.
-/
set_option linter.unusedSimpArgs false
set_option linter.unusedVariables false
namespace Go.Proofs.YtijjoikeceechaaGreat
open Go.RowKit Go.Lib

set_option maxRecDepth 100000 in
set_option maxHeartbeats 16000000 in
theorem stepF_add {w W : World} {P R : Nat → Prop} {b : Nat} {B H : List (Int × Int)} {O : List Opn} (h : LL P W b B H O) (hP : ∀ i, P i → w.heap.size ≤ i ∧ i < W.heap.size) (hw : Below w.heap.size w W) (x : Value) (hx : LN R W x B O) (hR : ∀ i, R i → i < W.heap.size ∧ ¬ P i) (hRw : ∀ i, i < w.heap.size → R i) (hST : ST B H O) (hn : O.length ≤ 200) (s : Stp) (hs : StW w s) (h1 : s.op.deps.length ≤ 60000) (h2 : s.op.gone.length ≤ 60000) (h3 : s.op.text.size ≤ 60000) (h4 : s.vec.length ≤ 60000) (hk : s.kind = 1) :
    Calls Tryz.prog 11 #[.pointer (some ⟨b, 0, none⟩), x, stA s] W (StB W P R b (doB s B H) (doH s H) (doO s H O)) := by
  obtain ⟨kind, o, vl, vd, vg, vv⟩ := s
  obtain ⟨⟨⟨ad, cd, hd⟩, ⟨ag, cg, hg⟩, ⟨av, cv, hvv⟩⟩, rd, rg, rv, inn, kin⟩ := hs
  simp only at hd hg hvv rd rg rv inn kin h1 h2 h3 h4 hk
  subst hd hg hvv
  subst hk
  unfold doB doH doO stA
  simp only [if_true]
  obtain ⟨EE, hEE⟩ : ∃ x, addE H o = x := ⟨_, rfl⟩
  obtain ⟨H', hH'⟩ : ∃ x, (if EE = 0 then (addV H (o.ds, o.dq)).1 else H) = x := ⟨_, rfl⟩
  obtain ⟨O', hO'⟩ : ∃ x, (if EE = 0 then O ++ [o] else O) = x := ⟨_, rfl⟩
  rw [hEE, hH', hO']
  replace hEE := hide hEE
  replace hH' := hide hH'
  replace hO' := hide hO'
  have hx0 := hx
  obtain ⟨ab, cb, vo, rfl, hB, qB, hO⟩ := hx
  obtain ⟨ao, co, rfl⟩ := rn_form hO
  have lB := ck_len hST.nb
  have zw := hw.size
  obtain ⟨X, hX⟩ : ∃ X, W.alloc (.cells #[.slice ab B.length cb, .slice ao O.length co] 35) = X := ⟨_, rfl⟩
  obtain ⟨Y, hY⟩ : ∃ Y, X.alloc (.cells #[.int .i64 1, .int .i64 o.ds, .int .i64 o.dq, .slice ad o.deps.length cd, .int .i64 o.kind, .int .i64 o.it, .int .i64 o.is, .int .i64 o.rt, .int .i64 o.rs, .string o.text, .slice ag o.gone.length cg, .int .i64 o.site, .slice av vl.length cv] 47) = Y := ⟨_, rfl⟩
  obtain ⟨Z, hZ⟩ : ∃ Z, Y.alloc (.cells #[.slice none 0 0, .slice none 0 0] 35) = Z := ⟨_, rfl⟩
  have bX : Below W.heap.size W X := by rw [← hX]; exact ballc (Below.refl _ _) _
  have bY : Below X.heap.size X Y := by rw [← hY]; exact ballc (Below.refl _ _) _
  have bZ : Below Y.heap.size Y Z := by rw [← hZ]; exact ballc (Below.refl _ _) _
  have xX : Bx X W.heap.size 35 #[.slice ab B.length cb, .slice ao O.length co] := by rw [← hX]; exact Bx.new W _ _
  have yY : Bx Y X.heap.size 47 #[.int .i64 1, .int .i64 o.ds, .int .i64 o.dq, .slice ad o.deps.length cd, .int .i64 o.kind, .int .i64 o.it, .int .i64 o.is, .int .i64 o.rt, .int .i64 o.rs, .string o.text, .slice ag o.gone.length cg, .int .i64 o.site, .slice av vl.length cv] := by rw [← hY]; exact Bx.new X _ _
  have zZ : Bx Z Y.heap.size 35 #[.slice none 0 0, .slice none 0 0] := by rw [← hZ]; exact Bx.new Y _ _
  have wX : W.heap.size < X.heap.size := xX.lt
  have XY : X.heap.size < Y.heap.size := yY.lt
  have YZ : Y.heap.size < Z.heap.size := zZ.lt
  have bW := bnext (bnext bX bY) bZ
  have yZ := yY.below bZ
  obtain ⟨a1, c1, W1, gv, cm, W2, hap1, hap2, hm, b1, b2⟩ := mark_row Z av cv vl ((rv.below hw).below bW) (by omega)
  have sf2 : SF W2 W.heap.size X.heap.size Y.heap.size Z.heap.size (.slice ab B.length cb) (.slice ao O.length co) #[.int .i64 1, .int .i64 o.ds, .int .i64 o.dq, .slice ad o.deps.length cd, .int .i64 o.kind, .int .i64 o.it, .int .i64 o.is, .int .i64 o.rt, .int .i64 o.rs, .string o.text, .slice ag o.gone.length cg, .int .i64 o.site, .slice av vl.length cv] vl gv cm := ⟨((xX.below bY).below bZ).below b2, yZ.below b2, zZ.below b2, hm⟩
  have mcap := hm.cap
  have mlo := hm.lo
  have hsl := fun W n => sl_toVt W (some ⟨gv, 0, none⟩) n cm vl.length (by omega)
  have bW2 := bnext bW b2
  have z2 := b2.size
  have k12 := yZ.cell 12 _ rfl
  have kl := yZ.lt
  have j0 := sf2.y.cell 0 _ rfl
  have j12 := sf2.y.cell 12 _ rfl
  have jl := sf2.y.lt
  replace hap1 := hide hap1
  replace hap2 := hide hap2
  have hH : rvec B O = H := hST.rvec
  have hdW := (rd.below hw).below bW2
  have hgW := RC.below (RC.below rg hw) bW2
  have fit := inn.fit (by omega) (by omega) (by omega)
  have HTw := hide (twin_in o ad ag cd cg W2 hdW hgW (by omega) (by omega))
  have j1 := sf2.y.cell 1 _ rfl
  have j2 := sf2.y.cell 2 _ rfl
  have j3 := sf2.y.cell 3 _ rfl
  have j4 := sf2.y.cell 4 _ rfl
  have j5 := sf2.y.cell 5 _ rfl
  have j6 := sf2.y.cell 6 _ rfl
  have j7 := sf2.y.cell 7 _ rfl
  have j8 := sf2.y.cell 8 _ rfl
  have j9 := sf2.y.cell 9 _ rfl
  have j10 := sf2.y.cell 10 _ rfl
  have j11 := sf2.y.cell 11 _ rfl
  have RV := hide rv
  have RD := hide rd
  have RG := hide rg
  have HL := hide h
  have HX0 := hide hx0
  have HW := hide hw
  have BW2 := hide bW2
  have SF2 := hide sf2
  have QD : Hid (∀ k, rb (.slice ad o.deps.length cd) o.deps.length k → R k) := hide (fun k hk => hRw k (rb_lt rd hk))
  have QG : Hid (∀ k, rb (.slice ag o.gone.length cg) o.gone.length k → R k) := hide (fun k hk => hRw k (rb_lt rg hk))
  have HHR := hide hR
  have HHP := hide hP
  clear h hx0 hB qB hO hR hRw hST hP rv rd rg inn kin bX bY bZ xX yY zZ bW yZ hm b1 b2 sf2 bW2 hw hdW hgW
  go_enter Tryz.func11, Tryz.ntmps11
  go_upto_region 9 with (at_builtin; first | (have H1 := hap1; clear hap1; refine wpList_append_eq rfl _ _ 23 rfl _ _ _ _ rfl rfl (unhide H1) ?_; clear H1) | (have H2 := hap2; clear hap2; refine wpList_append_eq rfl _ _ 23 rfl _ _ _ _ rfl rfl (unhide H2) ?_; clear H2))
  go_wp2_with fail
  refine (unhide HTw).mono ?_
  rintro r W3 ⟨gd, ct, gg, cq, rfl, tw3, hb3⟩
  have z3 := hb3.size
  have SF3 := hide ((unhide SF2).below hb3)
  have B3 := hide (bnext (unhide BW2) hb3)
  obtain ⟨tlo, thi⟩ : (W2.heap.size ≤ gd ∧ gd < W3.heap.size) ∧ (W2.heap.size ≤ gg ∧ gg < W3.heap.size) := ⟨tw3.d.lt gd rfl, tw3.g.lt gg rfl⟩
  obtain ⟨U, hU⟩ : ∃ U, W3.alloc (.cells #[.int .i64 0, .int .i64 0, .slice none 0 0, .int .i64 0, .int .i64 0, .int .i64 0, .int .i64 0, .int .i64 0, .string ⟨#[]⟩, .slice none 0 0, .int .i64 0] 45) = U := ⟨_, rfl⟩
  have bU : Below W3.heap.size W3 U := by rw [← hU]; exact ballc (Below.refl _ _) _
  have xU : Bx U W3.heap.size 45 #[.int .i64 0, .int .i64 0, .slice none 0 0, .int .i64 0, .int .i64 0, .int .i64 0, .int .i64 0, .int .i64 0, .string ⟨#[]⟩, .slice none 0 0, .int .i64 0] := by rw [← hU]; exact Bx.new W3 _ _
  obtain ⟨u0, u1, u2, u3, u4, u5, u6, u7, u8, u9, u10⟩ := cells_op xU
  have uf0 := xU.frozen 0
  have uf1 := xU.frozen 1
  have uf2 := xU.frozen 2
  have uf3 := xU.frozen 3
  have uf4 := xU.frozen 4
  have uf5 := xU.frozen 5
  have uf6 := xU.frozen 6
  have uf7 := xU.frozen 7
  have uf8 := xU.frozen 8
  have uf9 := xU.frozen 9
  have uf10 := xU.frozen 10
  have ul := xU.lt
  obtain ⟨W4, hW4⟩ : ∃ V, (((((((((((U.setCell ⟨W3.heap.size, 0, none⟩ (.int .i64 o.ds)).setCell ⟨W3.heap.size, 1, none⟩ (.int .i64 o.dq)).setCell ⟨W3.heap.size, 2, none⟩ (.slice (some ⟨gd, 0, none⟩) o.deps.length ct)).setCell ⟨W3.heap.size, 3, none⟩ (.int .i64 o.kind)).setCell ⟨W3.heap.size, 4, none⟩ (.int .i64 o.it)).setCell ⟨W3.heap.size, 5, none⟩ (.int .i64 o.is)).setCell ⟨W3.heap.size, 6, none⟩ (.int .i64 o.rt)).setCell ⟨W3.heap.size, 7, none⟩ (.int .i64 o.rs)).setCell ⟨W3.heap.size, 8, none⟩ (.string o.text)).setCell ⟨W3.heap.size, 9, none⟩ (.slice (some ⟨gg, 0, none⟩) o.gone.length cq)).setCell ⟨W3.heap.size, 10, none⟩ (.int .i64 o.site)) = V := ⟨_, rfl⟩
  have t4 : Bx W4 W3.heap.size 45 #[.int .i64 o.ds, .int .i64 o.dq, .slice (some ⟨gd, 0, none⟩) o.deps.length ct, .int .i64 o.kind, .int .i64 o.it, .int .i64 o.is, .int .i64 o.rt, .int .i64 o.rs, .string o.text, .slice (some ⟨gg, 0, none⟩) o.gone.length cq, .int .i64 o.site] := by rw [← hW4]; exact Bx.set11 xU
  have k4 : Kp (fun k => k = W3.heap.size) U W4 := by rw [← hW4]; exact Kp.set11 U W3.heap.size (.int .i64 o.ds) (.int .i64 o.dq) (.slice (some ⟨gd, 0, none⟩) o.deps.length ct) (.int .i64 o.kind) (.int .i64 o.it) (.int .i64 o.is) (.int .i64 o.rt) (.int .i64 o.rs) (.string o.text) (.slice (some ⟨gg, 0, none⟩) o.gone.length cq) (.int .i64 o.site)
  have b34 : Below W3.heap.size W3 W4 := k4.below bU (fun i e => by omega)
  have z4 := b34.size
  have tw4 := tw3.below b34
  have SF4 := hide ((unhide SF3).below b34)
  have B4 := hide (bnext (unhide B3) b34)
  have HA := hide (LAddF_in ((unhide HL).below (unhide B4)) (fun i hi => by have := (unhide HHP i hi).2; have := (unhide B4).size; omega) (by omega) o (some ⟨gd, 0, none⟩) (some ⟨gg, 0, none⟩) ct cq tw4.ri tw4.rr fit (by omega) (by omega) (by omega))
  unfold AddF AddA at HA
  rw [unhide hEE, unhide hH', unhide hO'] at HA
  obtain ⟨v0, v1, v2, v3, v4, v5, v6, v7, v8, v9, v10⟩ := cells_op t4
  have vl4 := t4.lt
  have T4 := hide t4
  have TW4 := hide tw4
  clear HTw hb3 tw3 bU xU t4 tw4 k4 b34 j0 j1 j2 j3 j4 j5 j6 j7 j8 j9 j10 j11 j12 k12
  go_wp2_with fail
  refine (unhide HA).mono ?_
  rintro r W5 ⟨⟨rfl, hl5, k5⟩, tf5⟩
  replace tf5 := hide tf5
  have z5 := k5.size
  have z04 := (unhide B4).size
  have nP : ∀ i, W.heap.size ≤ i → ¬ P i := fun i hi p => by have := (unhide HHP i p).2; omega
  have SF5 := hide ((unhide SF4).kp k5 (nP _ (by omega)) (nP _ (by omega)) (nP _ (by omega)) (nP _ (by omega)))
  have T5 := hide ((unhide T4).kp k5 (nP _ (by omega)))
  have TW5 : Hid (Tw W5 W2.heap.size o.deps o.gone gd ct gg cq) := hide ⟨owns_kp (unhide TW4).d k5 (fun i hi => by simp [Value.ownBlock] at hi; subst hi; exact nP _ (by omega)), owns_kp (unhide TW4).g k5 (fun i hi => by simp [Value.ownBlock] at hi; subst hi; exact nP _ (by omega))⟩
  have HX5 := hide (((unhide HX0).below (unhide B4)).kp k5 (fun i p q => (unhide HHR i q).2 p))
  have L5 := hide hl5.lt
  have K5 : Hid (Kp P W W5) := hide ((Kp.of_below (unhide B4)).trans k5 (fun i p => .inl p))
  have BW5 := hide ((unhide K5).below (unhide HW) (fun i p => (unhide HHP i p).1))
  obtain ⟨ab5, cb5, vo5, e5, hB5, qB5, hO5⟩ := unhide HX5
  simp only [Value.agg.injEq, Array.mk.injEq, List.cons.injEq, Value.slice.injEq, true_and, and_true] at e5
  obtain ⟨⟨rfl, rfl⟩, rfl⟩ := e5
  have HRA := hide (refAdd_in ab cb _ B H O o ad ag cd cg W5 hB5 hO5 (fun i q => by have := (unhide HHR i q).1; omega) hH (by omega) (by omega) ((unhide RD).below (unhide BW5)) (RC.below (unhide RG) (unhide BW5)) fit (by omega) (by omega) (by omega) (unhide QD) (unhide QG))
  have c0 := (unhide SF5).x.cell 0 _ rfl
  have c1 := (unhide SF5).x.cell 1 _ rfl
  have cl := (unhide SF5).x.lt
  have j1 := (unhide SF5).y.cell 1 _ rfl
  have j2 := (unhide SF5).y.cell 2 _ rfl
  have j3 := (unhide SF5).y.cell 3 _ rfl
  have j4 := (unhide SF5).y.cell 4 _ rfl
  have j5 := (unhide SF5).y.cell 5 _ rfl
  have j6 := (unhide SF5).y.cell 6 _ rfl
  have j7 := (unhide SF5).y.cell 7 _ rfl
  have j8 := (unhide SF5).y.cell 8 _ rfl
  have j9 := (unhide SF5).y.cell 9 _ rfl
  have j10 := (unhide SF5).y.cell 10 _ rfl
  have j11 := (unhide SF5).y.cell 11 _ rfl
  have jl5 := (unhide SF5).y.lt
  rw [unhide hEE, unhide hO'] at HRA
  clear HA hl5 k5 hB5 hO5 hU hW4 u0 u1 u2 u3 u4 u5 u6 u7 u8 u9 u10 uf0 uf1 uf2 uf3 uf4 uf5 uf6 uf7 uf8 uf9 uf10 ul v0 v1 v2 v3 v4 v5 v6 v7 v8 v9 v10 vl4
  go_wp2_with fail
  refine (unhide HRA).mono ?_
  rintro r W6 ⟨vo6, rfl, hn6, hb6⟩
  obtain ⟨ao6, co6, rfl⟩ := rn_form hn6
  have z6 := hb6.size
  have sf6 := (unhide SF5).below hb6
  have d0 := sf6.x.cell 0 _ rfl
  have d1 := sf6.x.cell 1 _ rfl
  have df0 := sf6.x.frozen 0
  have df1 := sf6.x.frozen 1
  have dl := sf6.x.lt
  obtain ⟨W7, hW7⟩ : ∃ V, ((W6.setCell ⟨W.heap.size, 0, none⟩ (.slice ab B.length cb)).setCell ⟨W.heap.size, 1, none⟩ (.slice ao6 O'.length co6)) = V := ⟨_, rfl⟩
  have k7 : Kp (fun k => k = W.heap.size) W6 W7 := by rw [← hW7]; exact kp2 W6 W.heap.size _ _
  have sf7 : SF W7 W.heap.size X.heap.size Y.heap.size Z.heap.size (.slice ab B.length cb) (.slice ao6 O'.length co6) #[.int .i64 1, .int .i64 o.ds, .int .i64 o.dq, .slice ad o.deps.length cd, .int .i64 o.kind, .int .i64 o.it, .int .i64 o.is, .int .i64 o.rt, .int .i64 o.rs, .string o.text, .slice ag o.gone.length cg, .int .i64 o.site, .slice av vl.length cv] vl gv cm := by rw [← hW7]; exact sf6.setx _ _ (by omega) (by omega) (by omega)
  have t7 := ((unhide T5).below hb6).kp k7 (by omega)
  have tw6 := (unhide TW5).below hb6
  have tw7 : Tw W7 W2.heap.size o.deps o.gone gd ct gg cq := ⟨owns_kp tw6.d k7 (fun i hi e => by simp [Value.ownBlock] at hi; omega), owns_kp tw6.g k7 (fun i hi e => by simp [Value.ownBlock] at hi; omega)⟩
  have BW7 := hide (k7.below (bnext (unhide BW5) hb6) (fun i e => by omega))
  have HSp := hide (spoil_in o ad ag cd cg W2.heap.size gd ct gg cq W7 tw7 ((unhide RD).below (unhide BW7)) (RC.below (unhide RG) (unhide BW7)) (by omega) (by omega))
  have K7 : Hid (Kp P W W7) := hide (((unhide K5).trans (Kp.of_below (N := fun _ => False) hb6) (fun i e => e.elim)).trans k7 (fun i e => .inr (by omega)))
  have L7 : Hid (LL (fun i => (P i ∨ W4.heap.size ≤ i) ∧ i < W5.heap.size) W7 b B H' O') := hide (((unhide L5).below hb6).kp k7 (fun i e p => by subst e; rcases p.1 with p | p; exact nP _ (Nat.le_refl _) p; omega))
  have N7 : Hid (LN (fun i => R i ∨ W5.heap.size ≤ i) W7 (.agg #[.slice ab B.length cb, .slice ao6 O'.length co6]) B O') := by
    obtain ⟨ab9, cb9, vo9, e9, hB9, qB9, _⟩ := (unhide HX5).below hb6
    simp only [Value.agg.injEq, Array.mk.injEq, List.cons.injEq, Value.slice.injEq, true_and, and_true] at e9
    obtain ⟨⟨rfl, rfl⟩, _⟩ := e9
    have ln6 : LN (fun i => R i ∨ W5.heap.size ≤ i) W6 (.agg #[.slice ab B.length cb, .slice ao6 O'.length co6]) B O' := ⟨ab, cb, _, rfl, hB9, fun k hk => .inl (qB9 k hk), hn6⟩
    exact hide (ln6.kp k7 (fun i e q => by subst e; rcases q with q | q; exact absurd (unhide HHR _ q).1 (by omega); omega))
  obtain ⟨q0, q1, q2, q3, q4, q5, q6, q7, q8, q9, q10⟩ := cells_op t7
  have ql := t7.lt
  have i1 := sf7.y.cell 1 _ rfl
  have i2 := sf7.y.cell 2 _ rfl
  have i3 := sf7.y.cell 3 _ rfl
  have i4 := sf7.y.cell 4 _ rfl
  have i5 := sf7.y.cell 5 _ rfl
  have i6 := sf7.y.cell 6 _ rfl
  have i7 := sf7.y.cell 7 _ rfl
  have i8 := sf7.y.cell 8 _ rfl
  have i9 := sf7.y.cell 9 _ rfl
  have i10 := sf7.y.cell 10 _ rfl
  have i11 := sf7.y.cell 11 _ rfl
  have il := sf7.y.lt
  have SF7 := hide sf7
  clear HRA hn6 sf6 t7 tw6 tw7 sf7 c0 c1 cl j1 j2 j3 j4 j5 j6 j7 j8 j9 j10 j11 jl5 K5 L5 T4 T5 TW4 TW5 SF2 SF3 SF4 SF5 HX0 HX5 BW5
  go_wp2_with fail
  refine (unhide HSp).mono ?_
  rintro r W8 ⟨rfl, k8⟩
  have z7 := k7.size
  have z8 := k8.size
  have TF8 := hide (((((TF.below (unhide B4)).trans (unhide tf5)).go (Kp.of_below (N := fun _ => False) hb6) (fun i e => e.elim)).go k7 (fun i e => by omega)).go k8 (fun i e => by omega))
  have SF8 := hide ((unhide SF7).kp k8 (by omega) (by omega) (by omega) (by omega))
  have T8 : Hid (TSF w W W8 P (fun i => (P i ∨ W4.heap.size ≤ i) ∧ i < W5.heap.size) R W5.heap.size b (.agg #[.slice ab B.length cb, .slice ao6 O'.length co6]) B H' O') := by
    refine hide ⟨(unhide L7).kp k8 (fun i e p => ?_), (unhide N7).kp k8 (fun i e q => ?_), (unhide K7).trans k8 (fun i e => .inr (by omega)), fun i p => ⟨p.1.imp id (fun p => by omega), p.2⟩, unhide HHR, by omega, by omega, unhide TF8⟩
    · rcases p.1 with p | p
      · exact nP i (by omega) p
      · omega
    · rcases q with q | q
      · have := (unhide HHR i q).1; omega
      · omega
  have HG : Hid ((W.heap.size ≤ gv ∧ gv < W5.heap.size ∧ ¬ ((P gv ∨ W4.heap.size ≤ gv) ∧ gv < W5.heap.size)) ∧ (W.heap.size ≤ Y.heap.size ∧ Y.heap.size < W5.heap.size ∧ ¬ ((P Y.heap.size ∨ W4.heap.size ≤ Y.heap.size) ∧ Y.heap.size < W5.heap.size))) := hide ⟨⟨by omega, by omega, fun p => by rcases p.1 with p | p; exact nP _ (by omega) p; omega⟩, by omega, by omega, fun p => by rcases p.1 with p | p; exact nP _ (by omega) p; omega⟩
  have BW := k8.below (unhide BW7) (fun i e => by omega)
  clear HSp k8 k7 SF7 K7 L7 N7 hb6 q0 q1 q2 q3 q4 q5 q6 q7 q8 q9 q10 ql i1 i2 i3 i4 i5 i6 i7 i8 i9 i10 i11 il d0 d1 df0 df1 dl hW7
  have HVs := hide (vectors_in vl vl _ _ W8 (unhide SF8).m.ri ((unhide RV).below BW) (by omega) (by omega))
  rw [decide_eq_true rfl] at HVs
  have e12 := (unhide SF8).y.cell 12 _ rfl
  have el := (unhide SF8).y.lt
  clear BW
  go_wp2_with fail
  refine (unhide HVs).mono ?_
  rintro r W9 ⟨rfl, nd9, hW9⟩
  have hb9 : Below W8.heap.size W8 W9 := by rw [hW9]; exact bdrew (Below.refl _ _) _
  have S9 := hide ((unhide SF8).below hb9)
  have B9 := hide hb9
  have f12 := (unhide S9).y.cell 12 _ rfl
  have fl := (unhide S9).y.lt
  obtain ⟨m0, m1⟩ := (unhide S9).m.md
  have ml := (unhide S9).m.lo.2
  have XM : Hid (OwX W9 28 2 (.slice (some ⟨gv, 0, none⟩) (vl.length + 1) cm) (vl.length + 1)) := hide (OwX.of (unhide S9).m)
  have G9 : Hid (Kp (fun i => i = gv) W9 W9 ∧ SS W9 W9) := hide ⟨Kp.refl _ _, SS.refl _⟩
  have i1 : (vl.length : Int) < (vl.length : Int) + 1 := by omega
  clear HVs hW9 hb9 e12 el
  go_wp2
  clear f12 fl m0 m1 ml i1
  obtain ⟨LV, hLV⟩ : ∃ L, vl.length = L := ⟨_, rfl⟩
  rw [hLV] at XM h4 ⊢
  replace hLV := hide hLV
  go_loopw [20] (fun iv wr => ∃ i : Nat, iv = .int .i64 (i : Nat) ∧ i ≤ LV + 1 ∧ Hid (Kp (fun i => i = gv) W9 wr ∧ SS W9 wr)) (fun iv _ => LV + 1 - (RowKit.intOf iv).toNat)
  case atStart => exact ⟨0, rfl, by omega, G9⟩
  case round =>
    clear G9
    obtain ⟨i, rfl, hi, G9⟩ := hrel
    by_cases hlt : i < LV + 1
    · have hlt' : (i : Int) < (LV : Int) + 1 := by omega
      obtain ⟨g, hge, l0, fz, cc, _⟩ := ((unhide XM).ss (unhide G9).2).at (by omega)
      simp only [Option.some.injEq, Addr.mk.injEq, and_true] at hge
      subst hge
      obtain ⟨y0, d0⟩ := cc (i * 2) (by omega)
      obtain ⟨y1, d1⟩ := cc (i * 2 + 1) (by omega)
      have f0 := fz (i * 2)
      have f1 := fz (i * 2 + 1)
      have G10 : Hid (Kp (fun i => i = gv) W9 ((wr.setCell ⟨gv, i * 2, none⟩ (.int .i64 1)).setCell ⟨gv, i * 2 + 1, none⟩ (.int .i64 1)) ∧ SS W9 ((wr.setCell ⟨gv, i * 2, none⟩ (.int .i64 1)).setCell ⟨gv, i * 2 + 1, none⟩ (.int .i64 1))) :=
        hide ⟨((unhide G9).1.trans (Kp.set (N := fun k => k = gv) _ _ _ rfl) (fun i e => .inl e)).trans (Kp.set (N := fun k => k = gv) _ _ _ rfl) (fun i e => .inl e), ((unhide G9).2.trans (SS.set _ _ _ _)).trans (SS.set _ _ _ _)⟩
      clear G9 fz cc
      go_wp2
      go_roundw
      case rel => exact ⟨i + 1, by go_num, by omega, G10⟩
      case measure => simp [RowKit.intOf]; omega
    · have hlt' : ¬ (i : Int) < (LV : Int) + 1 := by omega
      have xr := (unhide S9).x.kp (unhide G9).1 (by omega)
      have zr := (unhide S9).z.kp (unhide G9).1 (by omega)
      have c0 := xr.cell 0 _ rfl
      have c1 := xr.cell 1 _ rfl
      have cl := xr.lt
      have d0 := zr.cell 0 _ rfl
      have d1 := zr.cell 1 _ rfl
      have f0 := zr.frozen 0
      have f1 := zr.frozen 1
      have dl := zr.lt
      have z2 := hide (box2 zr (.slice ab B.length cb) (.slice ao6 O'.length co6))
      have kf : Hid (Kp (fun i => i = gv ∨ i = Y.heap.size) W8 ((wr.setCell ⟨Y.heap.size, 0, none⟩ (.slice ab B.length cb)).setCell ⟨Y.heap.size, 1, none⟩ (.slice ao6 O'.length co6))) := hide (((Kp.of_below (unhide B9)).trans (unhide G9).1 (fun i e => .inl (.inl e))).trans (kp2 wr Y.heap.size (.slice ab B.length cb) (.slice ao6 O'.length co6)) (fun i e => .inl (.inr e)))
      clear xr zr G9 XM
      go_wp2
      refine bodyPost_ret (results_ct rfl _ _ (Y.heap.size) _ _ _ _ rfl (unhide z2) Tryz.underlying35 rfl sizeLg) rfl ?_
      exact TSF.fin (unhide T8) (unhide kf) (unhide HG).1 (unhide HG).2

end Go.Proofs.YtijjoikeceechaaGreat

/-
  The law's step: cut.
-/
set_option linter.unusedSimpArgs false
set_option linter.unusedVariables false
namespace Go.Proofs.YtijjoikeceechaaGreat
open Go.RowKit Go.Lib

set_option maxRecDepth 100000 in
set_option maxHeartbeats 16000000 in
theorem stepF_cut {w W : World} {P R : Nat → Prop} {b : Nat} {B H : List (Int × Int)} {O : List Opn} (h : LL P W b B H O) (hP : ∀ i, P i → w.heap.size ≤ i ∧ i < W.heap.size) (hw : Below w.heap.size w W) (x : Value) (hx : LN R W x B O) (hR : ∀ i, R i → i < W.heap.size ∧ ¬ P i) (hRw : ∀ i, i < w.heap.size → R i) (hST : ST B H O) (hn : O.length ≤ 200) (s : Stp) (hs : StW w s) (h1 : s.op.deps.length ≤ 60000) (h2 : s.op.gone.length ≤ 60000) (h3 : s.op.text.size ≤ 60000) (h4 : s.vec.length ≤ 60000) (hk : s.kind = 3) :
    Calls Tryz.prog 11 #[.pointer (some ⟨b, 0, none⟩), x, stA s] W (StB W P R b (doB s B H) (doH s H) (doO s H O)) := by
  obtain ⟨kind, o, vl, vd, vg, vv⟩ := s
  obtain ⟨⟨⟨ad, cd, hd⟩, ⟨ag, cg, hg⟩, ⟨av, cv, hvv⟩⟩, rd, rg, rv, inn, kin⟩ := hs
  simp only at hd hg hvv rd rg rv inn kin h1 h2 h3 h4 hk
  subst hd hg hvv
  subst hk
  have n31 : ¬ (3 : Int) = 1 := by decide
  unfold doB doH doO stA
  simp only [if_neg n31, if_true]
  obtain ⟨EE, hEE⟩ : ∃ x, cutE H vl = x := ⟨_, rfl⟩
  obtain ⟨B', hB'⟩ : ∃ x, (if EE = 0 then vec (mrg (sy B) (sy vl)) else B) = x := ⟨_, rfl⟩
  obtain ⟨O', hO'⟩ : ∃ x, (if EE = 0 then prL vl false O else O) = x := ⟨_, rfl⟩
  obtain ⟨X', hX'⟩ : ∃ x, (if EE = 0 then prL vl true O else []) = x := ⟨_, rfl⟩
  have lX' : X'.length ≤ 200 := by
    rw [← hX']
    split
    · exact Nat.le_trans (List.length_filter_le _ _) hn
    · simp
  rw [hEE, hB', hO']
  replace hEE := hide hEE
  replace hB' := hide hB'
  replace hO' := hide hO'
  replace hX' := hide hX'
  clear n31
  have hx0 := hx
  obtain ⟨ab, cb, vo, rfl, hB, qB, hO⟩ := hx
  obtain ⟨ao, co, rfl⟩ := rn_form hO
  have lB := ck_len hST.nb
  have zw := hw.size
  obtain ⟨X, hX⟩ : ∃ X, W.alloc (.cells #[.slice ab B.length cb, .slice ao O.length co] 35) = X := ⟨_, rfl⟩
  obtain ⟨Y, hY⟩ : ∃ Y, X.alloc (.cells #[.int .i64 3, .int .i64 o.ds, .int .i64 o.dq, .slice ad o.deps.length cd, .int .i64 o.kind, .int .i64 o.it, .int .i64 o.is, .int .i64 o.rt, .int .i64 o.rs, .string o.text, .slice ag o.gone.length cg, .int .i64 o.site, .slice av vl.length cv] 47) = Y := ⟨_, rfl⟩
  obtain ⟨Z, hZ⟩ : ∃ Z, Y.alloc (.cells #[.slice none 0 0, .slice none 0 0] 35) = Z := ⟨_, rfl⟩
  have bX : Below W.heap.size W X := by rw [← hX]; exact ballc (Below.refl _ _) _
  have bY : Below X.heap.size X Y := by rw [← hY]; exact ballc (Below.refl _ _) _
  have bZ : Below Y.heap.size Y Z := by rw [← hZ]; exact ballc (Below.refl _ _) _
  have xX : Bx X W.heap.size 35 #[.slice ab B.length cb, .slice ao O.length co] := by rw [← hX]; exact Bx.new W _ _
  have yY : Bx Y X.heap.size 47 #[.int .i64 3, .int .i64 o.ds, .int .i64 o.dq, .slice ad o.deps.length cd, .int .i64 o.kind, .int .i64 o.it, .int .i64 o.is, .int .i64 o.rt, .int .i64 o.rs, .string o.text, .slice ag o.gone.length cg, .int .i64 o.site, .slice av vl.length cv] := by rw [← hY]; exact Bx.new X _ _
  have zZ : Bx Z Y.heap.size 35 #[.slice none 0 0, .slice none 0 0] := by rw [← hZ]; exact Bx.new Y _ _
  have wX : W.heap.size < X.heap.size := xX.lt
  have XY : X.heap.size < Y.heap.size := yY.lt
  have YZ : Y.heap.size < Z.heap.size := zZ.lt
  have bW := bnext (bnext bX bY) bZ
  have yZ := yY.below bZ
  obtain ⟨a1, c1, W1, gv, cm, W2, hap1, hap2, hm, b1, b2⟩ := mark_row Z av cv vl ((rv.below hw).below bW) (by omega)
  have sf2 : SF W2 W.heap.size X.heap.size Y.heap.size Z.heap.size (.slice ab B.length cb) (.slice ao O.length co) #[.int .i64 3, .int .i64 o.ds, .int .i64 o.dq, .slice ad o.deps.length cd, .int .i64 o.kind, .int .i64 o.it, .int .i64 o.is, .int .i64 o.rt, .int .i64 o.rs, .string o.text, .slice ag o.gone.length cg, .int .i64 o.site, .slice av vl.length cv] vl gv cm := ⟨((xX.below bY).below bZ).below b2, yZ.below b2, zZ.below b2, hm⟩
  have mcap := hm.cap
  have mlo := hm.lo
  have hsl := fun W n => sl_toVt W (some ⟨gv, 0, none⟩) n cm vl.length (by omega)
  have bW2 := bnext bW b2
  have z2 := b2.size
  have k12 := yZ.cell 12 _ rfl
  have kl := yZ.lt
  have j0 := sf2.y.cell 0 _ rfl
  have j12 := sf2.y.cell 12 _ rfl
  have jl := sf2.y.lt
  replace hap1 := hide hap1
  replace hap2 := hide hap2
  have hH : rvec B O = H := hST.rvec
  have nP : ∀ i, W.heap.size ≤ i → ¬ P i := fun i hi p => by have := (hP i p).2; omega
  have HC := hide (CutF_in (h.below bW2) (fun i hi => by have := (hP i hi).2; have := bW2.size; omega) (by omega) (.slice (some ⟨gv, 0, none⟩) vl.length cm) vl sf2.m.ri (by omega) (fun k hk p => by have := hk.2; simp [Value.ownBlock] at this; subst this; exact nP _ (by omega) p))
  unfold CutF CutA at HC
  rw [unhide hEE, unhide hB', unhide hO', unhide hX'] at HC
  have RV := hide rv
  have HX0 := hide (hx0.below bW2)
  have HW := hide hw
  have BW2 := hide bW2
  have SF2 := hide sf2
  have HHR := hide hR
  have HHP := hide hP
  clear h hx0 hB qB hO hR hRw hST hP rv rd rg inn kin bX bY bZ xX yY zZ bW yZ hm b1 b2 sf2 bW2 hw
  go_enter Tryz.func11, Tryz.ntmps11
  go_upto_region 23 with (at_builtin; first | (have H1 := hap1; clear hap1; refine wpList_append_eq rfl _ _ 23 rfl _ _ _ _ rfl rfl (unhide H1) ?_; clear H1) | (have H2 := hap2; clear hap2; refine wpList_append_eq rfl _ _ 23 rfl _ _ _ _ rfl rfl (unhide H2) ?_; clear H2))
  go_wp2_with fail
  refine (unhide HC).mono ?_
  rintro r W3 ⟨⟨vg3, M, rfl, hM1, hM2, hr3, hl3, k3⟩, tf3⟩
  have tf4 := hide ((TF.below (unhide BW2)).trans tf3)
  clear tf3
  obtain ⟨ag3, cg3, rfl⟩ := rl_form hr3
  have z3 := k3.size
  have z02 := (unhide BW2).size
  have SF3 := hide ((unhide SF2).kp k3 (nP _ (by omega)) (nP _ (by omega)) (nP _ (by omega)) (nP _ (by omega)))
  have HX3 := hide ((unhide HX0).kp k3 (fun i p q => (unhide HHR i q).2 p))
  have L3 := hide hl3.lt
  have R3 := hide hr3
  have K3 : Hid (Kp P W W3) := hide ((Kp.of_below (unhide BW2)).trans k3 (fun i p => .inl p))
  have BW3 := hide ((unhide K3).below (unhide HW) (fun i p => (unhide HHP i p).1))
  have HRC := hide (refCut_in (.agg #[.slice ab B.length cb, .slice ao O.length co]) _ B H vl O W3 (unhide HX3) (fun i q => by have := (unhide HHR i q).1; omega) hH (by omega) (by omega) ((unhide RV).below (unhide BW3)) (by omega))
  rw [unhide hEE, unhide hB', unhide hO', unhide hX'] at HRC
  have c0 := (unhide SF3).x.cell 0 _ rfl
  have c1 := (unhide SF3).x.cell 1 _ rfl
  have cl := (unhide SF3).x.lt
  have j12' := (unhide SF3).y.cell 12 _ rfl
  have jl3 := (unhide SF3).y.lt
  clear HC hr3 hl3 k3 j0 j12 k12 kl jl
  go_wp2_with fail
  refine (unhide HRC).mono ?_
  rintro r W4 ⟨x4, vg4, rfl, hn4, hr4, hb4⟩
  have N4 := hide hn4
  obtain ⟨ab4, cb4, vo4, rfl, _, _, ho4⟩ := hn4
  obtain ⟨ao4, co4, rfl⟩ := rn_form ho4
  obtain ⟨ag4, cg4, rfl⟩ := rn_form hr4
  have z4 := hb4.size
  have sf4 := (unhide SF3).below hb4
  have d0 := sf4.x.cell 0 _ rfl
  have d1 := sf4.x.cell 1 _ rfl
  have df0 := sf4.x.frozen 0
  have df1 := sf4.x.frozen 1
  have dl := sf4.x.lt
  obtain ⟨W5, hW5⟩ : ∃ V, ((W4.setCell ⟨W.heap.size, 0, none⟩ (.slice ab4 B'.length cb4)).setCell ⟨W.heap.size, 1, none⟩ (.slice ao4 O'.length co4)) = V := ⟨_, rfl⟩
  have k5 : Kp (fun k => k = W.heap.size) W4 W5 := by rw [← hW5]; exact kp2 W4 W.heap.size _ _
  have z5 := k5.size
  have sf5 : SF W5 W.heap.size X.heap.size Y.heap.size Z.heap.size (.slice ab4 B'.length cb4) (.slice ao4 O'.length co4) #[.int .i64 3, .int .i64 o.ds, .int .i64 o.dq, .slice ad o.deps.length cd, .int .i64 o.kind, .int .i64 o.it, .int .i64 o.is, .int .i64 o.rt, .int .i64 o.rs, .string o.text, .slice ag o.gone.length cg, .int .i64 o.site, .slice av vl.length cv] vl gv cm := by rw [← hW5]; exact sf4.setx _ _ (by omega) (by omega) (by omega)
  have SF5 := hide sf5
  have nR : ∀ i, W.heap.size ≤ i → ¬ R i := fun i hi q => by have := (unhide HHR i q).1; omega
  have tf5 := hide (((unhide tf4).go (Kp.of_below (N := fun _ => False) hb4) (fun i e => e.elim)).go k5 (fun i e => by omega))
  have R5 := hide (((unhide R3).below hb4).kp k5 (fun i e p => by have := p.1; omega))
  have G5 := hide (hr4.kp k5 (fun i e q => by subst e; rcases q with q | q; exact nR _ (Nat.le_refl _) q; omega))
  have N5 := hide ((unhide N4).kp k5 (fun i e q => by subst e; rcases q with q | q; exact nR _ (Nat.le_refl _) q; omega))
  have L5 : Hid (LL (fun i => (P i ∨ M ≤ i) ∧ i < W3.heap.size) W5 b B' H O') := hide (((unhide L3).below hb4).kp k5 (fun i e p => by subst e; rcases p.1 with p | p; exact nP _ (Nat.le_refl _) p; omega))
  have K5 : Hid (Kp P W W5) := hide (((unhide K3).trans (Kp.of_below (N := fun _ => False) hb4) (fun i e => e.elim)).trans k5 (fun i e => .inr (by omega)))
  have HOp := hide (ops2_in _ _ X' (unhide R5).rn (unhide G5) (by omega))
  clear HRC hr4 ho4 sf4 sf5 c0 c1 cl j12' jl3 N4 K3 L3 R3 SF2 SF3 HX0 HX3 BW3 k5 hb4
  go_wp2_with fail
  refine (unhide HOp).mono ?_
  rintro r W6 ⟨rfl, hb6⟩
  have z6 := hb6.size
  have tf6 := hide ((unhide tf5).go (Kp.of_below (N := fun _ => False) hb6) (fun i e => e.elim))
  have HWi := hide (wipe_in _ X' ((unhide R5).below hb6) (by omega))
  have SF6 := hide ((unhide SF5).below hb6)
  have N6 := hide ((unhide N5).below hb6)
  have L6 := hide ((unhide L5).below hb6)
  have K6 : Hid (Kp P W W6) := hide ((unhide K5).trans (Kp.of_below (N := fun _ => False) hb6) (fun i e => e.elim))
  clear HOp hb6 SF5 N5 L5 K5 R5 G5 d0 d1 df0 df1 dl hW5
  go_wp2_with fail
  refine (unhide HWi).mono ?_
  rintro r W8 ⟨rfl, k8⟩
  have z8 := k8.size
  have SF8 := hide ((unhide SF6).kp k8 (by omega) (by omega) (by omega) (by omega))
  have T8 : Hid (TSF w W W8 P (fun i => (P i ∨ M ≤ i) ∧ i < W3.heap.size) R W3.heap.size b (.agg #[.slice ab4 B'.length cb4, .slice ao4 O'.length co4]) B' H O') := by
    refine hide ⟨(unhide L6).kp k8 (fun i e p => ?_), (unhide N6).kp k8 (fun i e q => ?_), (unhide K6).trans k8 (fun i e => .inr (by have := e.1; omega)), fun i p => ⟨p.1.imp id (fun p => by omega), p.2⟩, unhide HHR, by omega, by omega, (unhide tf6).go k8 (fun i e => by have := e.1; omega)⟩
    · rcases p.1 with p | p
      · exact nP i (by have := e.1; omega) p
      · have := e.2; omega
    · rcases q with q | q
      · exact nR i (by have := e.1; omega) q
      · have := e.2; omega
  have HG : Hid ((W.heap.size ≤ gv ∧ gv < W3.heap.size ∧ ¬ ((P gv ∨ M ≤ gv) ∧ gv < W3.heap.size)) ∧ (W.heap.size ≤ Y.heap.size ∧ Y.heap.size < W3.heap.size ∧ ¬ ((P Y.heap.size ∨ M ≤ Y.heap.size) ∧ Y.heap.size < W3.heap.size))) := hide ⟨⟨by omega, by omega, fun p => by rcases p.1 with p | p; exact nP _ (by omega) p; omega⟩, by omega, by omega, fun p => by rcases p.1 with p | p; exact nP _ (by omega) p; omega⟩
  have BW := ((unhide T8).kp).below (unhide HW) (fun i p => (unhide HHP i p).1)
  clear HWi k8 SF6 N6 L6 K6
  have HVs := hide (vectors_in vl vl _ _ W8 (unhide SF8).m.ri ((unhide RV).below BW) (by omega) (by omega))
  rw [decide_eq_true rfl] at HVs
  have e12 := (unhide SF8).y.cell 12 _ rfl
  have el := (unhide SF8).y.lt
  clear BW
  go_wp2_with fail
  refine (unhide HVs).mono ?_
  rintro r W9 ⟨rfl, nd9, hW9⟩
  have hb9 : Below W8.heap.size W8 W9 := by rw [hW9]; exact bdrew (Below.refl _ _) _
  have S9 := hide ((unhide SF8).below hb9)
  have B9 := hide hb9
  have f12 := (unhide S9).y.cell 12 _ rfl
  have fl := (unhide S9).y.lt
  obtain ⟨m0, m1⟩ := (unhide S9).m.md
  have ml := (unhide S9).m.lo.2
  have XM : Hid (OwX W9 28 2 (.slice (some ⟨gv, 0, none⟩) (vl.length + 1) cm) (vl.length + 1)) := hide (OwX.of (unhide S9).m)
  have G9 : Hid (Kp (fun i => i = gv) W9 W9 ∧ SS W9 W9) := hide ⟨Kp.refl _ _, SS.refl _⟩
  have i1 : (vl.length : Int) < (vl.length : Int) + 1 := by omega
  clear HVs hW9 hb9 e12 el
  go_wp2
  clear f12 fl m0 m1 ml i1
  obtain ⟨LV, hLV⟩ : ∃ L, vl.length = L := ⟨_, rfl⟩
  rw [hLV] at XM h4 ⊢
  replace hLV := hide hLV
  go_loopw [20] (fun iv wr => ∃ i : Nat, iv = .int .i64 (i : Nat) ∧ i ≤ LV + 1 ∧ Hid (Kp (fun i => i = gv) W9 wr ∧ SS W9 wr)) (fun iv _ => LV + 1 - (RowKit.intOf iv).toNat)
  case atStart => exact ⟨0, rfl, by omega, G9⟩
  case round =>
    clear G9
    obtain ⟨i, rfl, hi, G9⟩ := hrel
    by_cases hlt : i < LV + 1
    · have hlt' : (i : Int) < (LV : Int) + 1 := by omega
      obtain ⟨g, hge, l0, fz, cc, _⟩ := ((unhide XM).ss (unhide G9).2).at (by omega)
      simp only [Option.some.injEq, Addr.mk.injEq, and_true] at hge
      subst hge
      obtain ⟨y0, d0⟩ := cc (i * 2) (by omega)
      obtain ⟨y1, d1⟩ := cc (i * 2 + 1) (by omega)
      have f0 := fz (i * 2)
      have f1 := fz (i * 2 + 1)
      have G10 : Hid (Kp (fun i => i = gv) W9 ((wr.setCell ⟨gv, i * 2, none⟩ (.int .i64 1)).setCell ⟨gv, i * 2 + 1, none⟩ (.int .i64 1)) ∧ SS W9 ((wr.setCell ⟨gv, i * 2, none⟩ (.int .i64 1)).setCell ⟨gv, i * 2 + 1, none⟩ (.int .i64 1))) :=
        hide ⟨((unhide G9).1.trans (Kp.set (N := fun k => k = gv) _ _ _ rfl) (fun i e => .inl e)).trans (Kp.set (N := fun k => k = gv) _ _ _ rfl) (fun i e => .inl e), ((unhide G9).2.trans (SS.set _ _ _ _)).trans (SS.set _ _ _ _)⟩
      clear G9 fz cc
      go_wp2
      go_roundw
      case rel => exact ⟨i + 1, by go_num, by omega, G10⟩
      case measure => simp [RowKit.intOf]; omega
    · have hlt' : ¬ (i : Int) < (LV : Int) + 1 := by omega
      have xr := (unhide S9).x.kp (unhide G9).1 (by omega)
      have zr := (unhide S9).z.kp (unhide G9).1 (by omega)
      have c0 := xr.cell 0 _ rfl
      have c1 := xr.cell 1 _ rfl
      have cl := xr.lt
      have d0 := zr.cell 0 _ rfl
      have d1 := zr.cell 1 _ rfl
      have f0 := zr.frozen 0
      have f1 := zr.frozen 1
      have dl := zr.lt
      have z2 := hide (box2 zr (.slice ab4 B'.length cb4) (.slice ao4 O'.length co4))
      have kf : Hid (Kp (fun i => i = gv ∨ i = Y.heap.size) W8 ((wr.setCell ⟨Y.heap.size, 0, none⟩ (.slice ab4 B'.length cb4)).setCell ⟨Y.heap.size, 1, none⟩ (.slice ao4 O'.length co4))) := hide (((Kp.of_below (unhide B9)).trans (unhide G9).1 (fun i e => .inl (.inl e))).trans (kp2 wr Y.heap.size (.slice ab4 B'.length cb4) (.slice ao4 O'.length co4)) (fun i e => .inl (.inr e)))
      clear xr zr G9 XM
      go_wp2
      refine bodyPost_ret (results_ct rfl _ _ (Y.heap.size) _ _ _ _ rfl (unhide z2) Tryz.underlying35 rfl sizeLg) rfl ?_
      exact TSF.fin (unhide T8) (unhide kf) (unhide HG).1 (unhide HG).2

end Go.Proofs.YtijjoikeceechaaGreat

/-
  The law's step: else.
-/
set_option linter.unusedSimpArgs false
set_option linter.unusedVariables false
namespace Go.Proofs.YtijjoikeceechaaGreat
open Go.RowKit Go.Lib

set_option maxRecDepth 100000 in
set_option maxHeartbeats 16000000 in
theorem stepF_else {w W : World} {P R : Nat → Prop} {b : Nat} {B H : List (Int × Int)} {O : List Opn} (h : LL P W b B H O) (hP : ∀ i, P i → w.heap.size ≤ i ∧ i < W.heap.size) (hw : Below w.heap.size w W) (x : Value) (hx : LN R W x B O) (hR : ∀ i, R i → i < W.heap.size ∧ ¬ P i) (hRw : ∀ i, i < w.heap.size → R i) (hST : ST B H O) (hn : O.length ≤ 200) (s : Stp) (hs : StW w s) (h1 : s.op.deps.length ≤ 60000) (h2 : s.op.gone.length ≤ 60000) (h3 : s.op.text.size ≤ 60000) (h4 : s.vec.length ≤ 60000) (hk : s.kind ≠ 1 ∧ s.kind ≠ 2 ∧ s.kind ≠ 3) :
    Calls Tryz.prog 11 #[.pointer (some ⟨b, 0, none⟩), x, stA s] W (StB W P R b (doB s B H) (doH s H) (doO s H O)) := by
  obtain ⟨kind, o, vl, vd, vg, vv⟩ := s
  obtain ⟨⟨⟨ad, cd, hd⟩, ⟨ag, cg, hg⟩, ⟨av, cv, hvv⟩⟩, rd, rg, rv, inn, kin⟩ := hs
  simp only at hd hg hvv rd rg rv inn kin h1 h2 h3 h4 hk
  subst hd hg hvv
  unfold doB doH doO stA
  simp only [if_neg hk.1, if_neg hk.2.2]
  have hk1 : (kind == 1) = false := by simpa using hk.1
  have hk2 : (kind == 2) = false := by simpa using hk.2.1
  have hk3 : (kind == 3) = false := by simpa using hk.2.2
  have hx0 := hx
  obtain ⟨ab, cb, vo, rfl, hB, qB, hO⟩ := hx
  obtain ⟨ao, co, rfl⟩ := rn_form hO
  have lB := ck_len hST.nb
  have zw := hw.size
  obtain ⟨X, hX⟩ : ∃ X, W.alloc (.cells #[.slice ab B.length cb, .slice ao O.length co] 35) = X := ⟨_, rfl⟩
  obtain ⟨Y, hY⟩ : ∃ Y, X.alloc (.cells #[.int .i64 kind, .int .i64 o.ds, .int .i64 o.dq, .slice ad o.deps.length cd, .int .i64 o.kind, .int .i64 o.it, .int .i64 o.is, .int .i64 o.rt, .int .i64 o.rs, .string o.text, .slice ag o.gone.length cg, .int .i64 o.site, .slice av vl.length cv] 47) = Y := ⟨_, rfl⟩
  obtain ⟨Z, hZ⟩ : ∃ Z, Y.alloc (.cells #[.slice none 0 0, .slice none 0 0] 35) = Z := ⟨_, rfl⟩
  have bX : Below W.heap.size W X := by rw [← hX]; exact ballc (Below.refl _ _) _
  have bY : Below X.heap.size X Y := by rw [← hY]; exact ballc (Below.refl _ _) _
  have bZ : Below Y.heap.size Y Z := by rw [← hZ]; exact ballc (Below.refl _ _) _
  have xX : Bx X W.heap.size 35 #[.slice ab B.length cb, .slice ao O.length co] := by rw [← hX]; exact Bx.new W _ _
  have yY : Bx Y X.heap.size 47 #[.int .i64 kind, .int .i64 o.ds, .int .i64 o.dq, .slice ad o.deps.length cd, .int .i64 o.kind, .int .i64 o.it, .int .i64 o.is, .int .i64 o.rt, .int .i64 o.rs, .string o.text, .slice ag o.gone.length cg, .int .i64 o.site, .slice av vl.length cv] := by rw [← hY]; exact Bx.new X _ _
  have zZ : Bx Z Y.heap.size 35 #[.slice none 0 0, .slice none 0 0] := by rw [← hZ]; exact Bx.new Y _ _
  have wX : W.heap.size < X.heap.size := xX.lt
  have XY : X.heap.size < Y.heap.size := yY.lt
  have YZ : Y.heap.size < Z.heap.size := zZ.lt
  have bW := bnext (bnext bX bY) bZ
  have yZ := yY.below bZ
  obtain ⟨a1, c1, W1, gv, cm, W2, hap1, hap2, hm, b1, b2⟩ := mark_row Z av cv vl ((rv.below hw).below bW) (by omega)
  have sf2 : SF W2 W.heap.size X.heap.size Y.heap.size Z.heap.size (.slice ab B.length cb) (.slice ao O.length co) #[.int .i64 kind, .int .i64 o.ds, .int .i64 o.dq, .slice ad o.deps.length cd, .int .i64 o.kind, .int .i64 o.it, .int .i64 o.is, .int .i64 o.rt, .int .i64 o.rs, .string o.text, .slice ag o.gone.length cg, .int .i64 o.site, .slice av vl.length cv] vl gv cm := ⟨((xX.below bY).below bZ).below b2, yZ.below b2, zZ.below b2, hm⟩
  have mcap := hm.cap
  have mlo := hm.lo
  have hsl := fun W n => sl_toVt W (some ⟨gv, 0, none⟩) n cm vl.length (by omega)
  have bW2 := bnext bW b2
  have z2 := b2.size
  have k12 := yZ.cell 12 _ rfl
  have kl := yZ.lt
  have j0 := sf2.y.cell 0 _ rfl
  have j12 := sf2.y.cell 12 _ rfl
  have jl := sf2.y.lt
  replace hap1 := hide hap1
  replace hap2 := hide hap2
  have T2 : Hid (TSF w W W2 P P R W2.heap.size b (.agg #[.slice ab B.length cb, .slice ao O.length co]) B H O) := hide ⟨h.below bW2, (hx0.below bW2).mono (fun i _ q => .inl q), Kp.of_below bW2, fun i p => ⟨.inl p, by have := (hP i p).2; omega⟩, hR, bW2.size, Nat.le_refl _, TF.below bW2⟩
  have HG : Hid ((W.heap.size ≤ gv ∧ gv < W2.heap.size ∧ ¬ P gv) ∧ (W.heap.size ≤ Y.heap.size ∧ Y.heap.size < W2.heap.size ∧ ¬ P Y.heap.size)) := hide ⟨⟨by omega, mlo.2, fun p => by have := (hP _ p).2; omega⟩, by omega, by omega, fun p => by have := (hP _ p).2; omega⟩
  have RV := hide rv
  have BW := bnext hw bW2
  have SF2 := hide sf2
  clear h hx0 hB qB hO hR hRw hST hP rd rg inn kin bX bY bZ xX yY zZ bW yZ hm b1 b2 sf2 bW2 hw hk
  go_enter Tryz.func11, Tryz.ntmps11
  have HVs := hide (vectors_in vl vl _ _ W2 (unhide SF2).m.ri ((unhide RV).below BW) (by omega) (by omega))
  rw [decide_eq_true rfl] at HVs
  have e12 := (unhide SF2).y.cell 12 _ rfl
  have el := (unhide SF2).y.lt
  clear BW rv
  go_wp2_with (at_builtin; first | (have H1 := hap1; clear hap1; refine wpList_append_eq rfl _ _ 23 rfl _ _ _ _ rfl rfl (unhide H1) ?_; clear H1) | (have H2 := hap2; clear hap2; refine wpList_append_eq rfl _ _ 23 rfl _ _ _ _ rfl rfl (unhide H2) ?_; clear H2))
  refine (unhide HVs).mono ?_
  rintro r W9 ⟨rfl, nd9, hW9⟩
  have hb9 : Below W2.heap.size W2 W9 := by rw [hW9]; exact bdrew (Below.refl _ _) _
  have S9 := hide ((unhide SF2).below hb9)
  have B9 := hide hb9
  have f12 := (unhide S9).y.cell 12 _ rfl
  have fl := (unhide S9).y.lt
  obtain ⟨m0, m1⟩ := (unhide S9).m.md
  have ml := (unhide S9).m.lo.2
  have XM : Hid (OwX W9 28 2 (.slice (some ⟨gv, 0, none⟩) (vl.length + 1) cm) (vl.length + 1)) := hide (OwX.of (unhide S9).m)
  have G9 : Hid (Kp (fun i => i = gv) W9 W9 ∧ SS W9 W9) := hide ⟨Kp.refl _ _, SS.refl _⟩
  have i1 : (vl.length : Int) < (vl.length : Int) + 1 := by omega
  clear HVs hW9 hb9 e12 el
  go_wp2
  clear f12 fl m0 m1 ml i1
  obtain ⟨LV, hLV⟩ : ∃ L, vl.length = L := ⟨_, rfl⟩
  rw [hLV] at XM h4 ⊢
  replace hLV := hide hLV
  go_loopw [20] (fun iv wr => ∃ i : Nat, iv = .int .i64 (i : Nat) ∧ i ≤ LV + 1 ∧ Hid (Kp (fun i => i = gv) W9 wr ∧ SS W9 wr)) (fun iv _ => LV + 1 - (RowKit.intOf iv).toNat)
  case atStart => exact ⟨0, rfl, by omega, G9⟩
  case round =>
    clear G9
    obtain ⟨i, rfl, hi, G9⟩ := hrel
    by_cases hlt : i < LV + 1
    · have hlt' : (i : Int) < (LV : Int) + 1 := by omega
      obtain ⟨g, hge, l0, fz, cc, _⟩ := ((unhide XM).ss (unhide G9).2).at (by omega)
      simp only [Option.some.injEq, Addr.mk.injEq, and_true] at hge
      subst hge
      obtain ⟨y0, d0⟩ := cc (i * 2) (by omega)
      obtain ⟨y1, d1⟩ := cc (i * 2 + 1) (by omega)
      have f0 := fz (i * 2)
      have f1 := fz (i * 2 + 1)
      have G10 : Hid (Kp (fun i => i = gv) W9 ((wr.setCell ⟨gv, i * 2, none⟩ (.int .i64 1)).setCell ⟨gv, i * 2 + 1, none⟩ (.int .i64 1)) ∧ SS W9 ((wr.setCell ⟨gv, i * 2, none⟩ (.int .i64 1)).setCell ⟨gv, i * 2 + 1, none⟩ (.int .i64 1))) :=
        hide ⟨((unhide G9).1.trans (Kp.set (N := fun k => k = gv) _ _ _ rfl) (fun i e => .inl e)).trans (Kp.set (N := fun k => k = gv) _ _ _ rfl) (fun i e => .inl e), ((unhide G9).2.trans (SS.set _ _ _ _)).trans (SS.set _ _ _ _)⟩
      clear G9 fz cc
      go_wp2
      go_roundw
      case rel => exact ⟨i + 1, by go_num, by omega, G10⟩
      case measure => simp [RowKit.intOf]; omega
    · have hlt' : ¬ (i : Int) < (LV : Int) + 1 := by omega
      have xr := (unhide S9).x.kp (unhide G9).1 (by omega)
      have zr := (unhide S9).z.kp (unhide G9).1 (by omega)
      have c0 := xr.cell 0 _ rfl
      have c1 := xr.cell 1 _ rfl
      have cl := xr.lt
      have d0 := zr.cell 0 _ rfl
      have d1 := zr.cell 1 _ rfl
      have f0 := zr.frozen 0
      have f1 := zr.frozen 1
      have dl := zr.lt
      have z2 := hide (box2 zr (.slice ab B.length cb) (.slice ao O.length co))
      have kf : Hid (Kp (fun i => i = gv ∨ i = Y.heap.size) W2 ((wr.setCell ⟨Y.heap.size, 0, none⟩ (.slice ab B.length cb)).setCell ⟨Y.heap.size, 1, none⟩ (.slice ao O.length co))) := hide (((Kp.of_below (unhide B9)).trans (unhide G9).1 (fun i e => .inl (.inl e))).trans (kp2 wr Y.heap.size (.slice ab B.length cb) (.slice ao O.length co)) (fun i e => .inl (.inr e)))
      clear xr zr G9 XM
      go_wp2
      refine bodyPost_ret (results_ct rfl _ _ (Y.heap.size) _ _ _ _ rfl (unhide z2) Tryz.underlying35 rfl sizeLg) rfl ?_
      exact TSF.fin (unhide T2) (unhide kf) (unhide HG).1 (unhide HG).2

end Go.Proofs.YtijjoikeceechaaGreat

/-
  The law's step: beyond.
-/
set_option linter.unusedSimpArgs false
set_option linter.unusedVariables false
namespace Go.Proofs.YtijjoikeceechaaGreat
open Go.RowKit Go.Lib

set_option maxRecDepth 100000 in
set_option maxHeartbeats 16000000 in
theorem stepF_beyond {w W : World} {P R : Nat → Prop} {b : Nat} {B H : List (Int × Int)} {O : List Opn} (h : LL P W b B H O) (hP : ∀ i, P i → w.heap.size ≤ i ∧ i < W.heap.size) (hw : Below w.heap.size w W) (x : Value) (hx : LN R W x B O) (hR : ∀ i, R i → i < W.heap.size ∧ ¬ P i) (hRw : ∀ i, i < w.heap.size → R i) (hST : ST B H O) (hn : O.length ≤ 200) (s : Stp) (hs : StW w s) (h1 : s.op.deps.length ≤ 60000) (h2 : s.op.gone.length ≤ 60000) (h3 : s.op.text.size ≤ 60000) (h4 : s.vec.length ≤ 60000) (hk : s.kind = 2) :
    Calls Tryz.prog 11 #[.pointer (some ⟨b, 0, none⟩), x, stA s] W (StB W P R b (doB s B H) (doH s H) (doO s H O)) := by
  obtain ⟨kind, o, vl, vd, vg, vv⟩ := s
  obtain ⟨⟨⟨ad, cd, hd⟩, ⟨ag, cg, hg⟩, ⟨av, cv, hvv⟩⟩, rd, rg, rv, inn, kin⟩ := hs
  simp only at hd hg hvv rd rg rv inn kin h1 h2 h3 h4 hk
  subst hd hg hvv
  subst hk
  have n21 : ¬ (2 : Int) = 1 := by decide
  have n23 : ¬ (2 : Int) = 3 := by decide
  unfold doB doH doO stA
  simp only [if_neg n21, if_neg n23]
  clear n21 n23
  have hx0 := hx
  obtain ⟨ab, cb, vo, rfl, hB, qB, hO⟩ := hx
  obtain ⟨ao, co, rfl⟩ := rn_form hO
  have lB := ck_len hST.nb
  have zw := hw.size
  obtain ⟨X, hX⟩ : ∃ X, W.alloc (.cells #[.slice ab B.length cb, .slice ao O.length co] 35) = X := ⟨_, rfl⟩
  obtain ⟨Y, hY⟩ : ∃ Y, X.alloc (.cells #[.int .i64 2, .int .i64 o.ds, .int .i64 o.dq, .slice ad o.deps.length cd, .int .i64 o.kind, .int .i64 o.it, .int .i64 o.is, .int .i64 o.rt, .int .i64 o.rs, .string o.text, .slice ag o.gone.length cg, .int .i64 o.site, .slice av vl.length cv] 47) = Y := ⟨_, rfl⟩
  obtain ⟨Z, hZ⟩ : ∃ Z, Y.alloc (.cells #[.slice none 0 0, .slice none 0 0] 35) = Z := ⟨_, rfl⟩
  have bX : Below W.heap.size W X := by rw [← hX]; exact ballc (Below.refl _ _) _
  have bY : Below X.heap.size X Y := by rw [← hY]; exact ballc (Below.refl _ _) _
  have bZ : Below Y.heap.size Y Z := by rw [← hZ]; exact ballc (Below.refl _ _) _
  have xX : Bx X W.heap.size 35 #[.slice ab B.length cb, .slice ao O.length co] := by rw [← hX]; exact Bx.new W _ _
  have yY : Bx Y X.heap.size 47 #[.int .i64 2, .int .i64 o.ds, .int .i64 o.dq, .slice ad o.deps.length cd, .int .i64 o.kind, .int .i64 o.it, .int .i64 o.is, .int .i64 o.rt, .int .i64 o.rs, .string o.text, .slice ag o.gone.length cg, .int .i64 o.site, .slice av vl.length cv] := by rw [← hY]; exact Bx.new X _ _
  have zZ : Bx Z Y.heap.size 35 #[.slice none 0 0, .slice none 0 0] := by rw [← hZ]; exact Bx.new Y _ _
  have wX : W.heap.size < X.heap.size := xX.lt
  have XY : X.heap.size < Y.heap.size := yY.lt
  have YZ : Y.heap.size < Z.heap.size := zZ.lt
  have bW := bnext (bnext bX bY) bZ
  have yZ := yY.below bZ
  obtain ⟨a1, c1, W1, gv, cm, W2, hap1, hap2, hm, b1, b2⟩ := mark_row Z av cv vl ((rv.below hw).below bW) (by omega)
  have sf2 : SF W2 W.heap.size X.heap.size Y.heap.size Z.heap.size (.slice ab B.length cb) (.slice ao O.length co) #[.int .i64 2, .int .i64 o.ds, .int .i64 o.dq, .slice ad o.deps.length cd, .int .i64 o.kind, .int .i64 o.it, .int .i64 o.is, .int .i64 o.rt, .int .i64 o.rs, .string o.text, .slice ag o.gone.length cg, .int .i64 o.site, .slice av vl.length cv] vl gv cm := ⟨((xX.below bY).below bZ).below b2, yZ.below b2, zZ.below b2, hm⟩
  have mcap := hm.cap
  have mlo := hm.lo
  have hsl := fun W n => sl_toVt W (some ⟨gv, 0, none⟩) n cm vl.length (by omega)
  have bW2 := bnext bW b2
  have z2 := b2.size
  have k12 := yZ.cell 12 _ rfl
  have kl := yZ.lt
  have j0 := sf2.y.cell 0 _ rfl
  have j12 := sf2.y.cell 12 _ rfl
  have jl := sf2.y.lt
  replace hap1 := hide hap1
  replace hap2 := hide hap2
  have nP : ∀ i, W.heap.size ≤ i → ¬ P i := fun i hi p => by have := (hP i p).2; omega
  have hbl := bynd_len vl O
  have HB := hide (refBeyond_in ab B.length cb _ _ O vl W2 ((RN.below hO bW2)) ((rv.below hw).below bW2) (by omega) (by omega))
  obtain ⟨BY, hBY⟩ : ∃ x, bynd vl O = x := ⟨_, rfl⟩
  rw [hBY] at HB hbl
  replace hBY := hide hBY
  have RV := hide rv
  have HL := hide h
  have HX0 := hide (hx0.below bW2)
  have HW := hide hw
  have BW2 := hide bW2
  have SF2 := hide sf2
  have HHR := hide hR
  have HHP := hide hP
  have HO2 := hide (RN.below hO bW2)
  have x0 := sf2.x.cell 0 _ rfl
  have x1 := sf2.x.cell 1 _ rfl
  have xl := sf2.x.lt
  clear h hx0 hB qB hO hR hRw hST hP rv rd rg inn kin bX bY bZ xX yY zZ bW yZ hm b1 b2 sf2 bW2 hw
  go_enter Tryz.func11, Tryz.ntmps11
  go_upto_region 14 with (at_builtin; first | (have H1 := hap1; clear hap1; refine wpList_append_eq rfl _ _ 23 rfl _ _ _ _ rfl rfl (unhide H1) ?_; clear H1) | (have H2 := hap2; clear hap2; refine wpList_append_eq rfl _ _ 23 rfl _ _ _ _ rfl rfl (unhide H2) ?_; clear H2))
  go_wp2_with fail
  refine (unhide HB).mono ?_
  rintro r W3 ⟨v3, rfl, hn3, hb3⟩
  obtain ⟨a3, c3, rfl⟩ := rn_form hn3
  have z3 := hb3.size
  have z02 := (unhide BW2).size
  have B3 := hide (bnext (unhide BW2) hb3)
  have N3 := hide hn3
  have SF3 := hide ((unhide SF2).below hb3)
  have HO3 := hide ((unhide HO2).below hb3)
  have HX3 := hide ((unhide HX0).below hb3)
  have HBe := hide (Beyond_in ((unhide HL).below (unhide B3)) (by omega) _ vl (unhide SF3).m.ri (by omega))
  rw [unhide hBY] at HBe
  clear HB hn3 hb3 x0 x1 xl j0 j12 k12 kl jl
  go_wp2_with fail
  refine (unhide HBe).mono ?_
  rintro r W4 ⟨rfl, hit, hb4⟩
  have z4 := hb4.size
  have B4 := hide (bnext (unhide B3) hb4)
  have I4 := hide hit
  have N4 := hide ((unhide N3).below hb4)
  have SF4 := hide ((unhide SF3).below hb4)
  have HO4 := hide ((unhide HO3).below hb4)
  have HX4 := hide ((unhide HX3).below hb4)
  have BW4 := hide (bnext (unhide HW) (unhide B4))
  have HLa := hide (fun (V : World) (hb : Below W4.heap.size W4 V) => KLacks_in (w := w) (W := V) (b := b) (base := B) (hv := H) (os := O) ⟨P, ((unhide HL).below (unhide B4)).below hb, fun i p => ⟨(unhide HHP i p).1, by have := (unhide HHP i p).2; have := hb.size; omega⟩, bnext (unhide BW4) hb⟩ (by omega) (some ⟨gv, 0, none⟩) vl.length cm vl ((unhide SF4).m.ri.below hb) (by omega))
  have HLr := hide (fun (V : World) (hb : Below W4.heap.size W4 V) => refLacks_in ab B.length cb _ _ O vl V ((unhide HO4).below hb) (((unhide RV).below (unhide BW4)).below hb) (by omega) (by omega))
  have HVs : Hid (∀ (V : World) (hb : Below W4.heap.size W4 V), Calls Tryz.prog 10 #[.slice (some ⟨gv, 0, none⟩) vl.length cm, .slice av vl.length cv] V fun e V' => e = .returned (.bool true) ∧ Below V.heap.size V V') := hide (fun V hb => by
    refine (vectors_in vl vl _ _ V ((unhide SF4).m.ri.below hb) (((unhide RV).below (unhide BW4)).below hb) (by omega) (by omega)).mono ?_
    rintro e V' ⟨rfl, n, rfl⟩
    exact ⟨by rw [decide_eq_true rfl], bdrew (Below.refl _ _) _⟩)
  rw [unhide hBY] at HLa HLr
  have hneq : ∀ (n : Nat) W, (binOp .neq 55 (.func (.func 40) #[] #[.pointer (some ⟨n, 0, none⟩)]) .nilFunc).run Tryz.prog W = .ok (.bool true) W := fun n W => run_neq_func_nil W _ _ _ _ Tryz.underlying55
  have x0 := (unhide SF4).x.cell 0 _ rfl
  have x1 := (unhide SF4).x.cell 1 _ rfl
  have xl := (unhide SF4).x.lt
  have y12 := (unhide SF4).y.cell 12 _ rfl
  obtain ⟨m0, m1⟩ := (unhide SF4).m.md
  have ml := (unhide SF4).m.lo.2
  have hne := BelowOf.ne W4
  have mixed : Tryz.prog.follows .mixedOrders = true := by kernel_rfl
  have k0 : ∀ p : BelowOf W4, p.w.cell? ⟨W.heap.size, 0, none⟩ = some (.slice ab B.length cb) := fun p => cell_below x0 p.h
  have k1 : ∀ p : BelowOf W4, p.w.cell? ⟨W.heap.size, 1, none⟩ = some (.slice ao O.length co) := fun p => cell_below x1 p.h
  have k2 : ∀ p : BelowOf W4, p.w.cell? ⟨X.heap.size, 12, none⟩ = some (.slice av vl.length cv) := fun p => cell_below y12 p.h
  have k3 : ∀ p : BelowOf W4, p.w.cell? ⟨gv, vl.length * 2 + 1, none⟩ = some (.int .i64 77) := fun p => cell_below m1 p.h
  have i1 : (vl.length : Int) < (vl.length : Int) + 1 := by omega
  unfold itV at *
  clear HBe hit hb4 SF2 SF3 HO2 HO3 N3 x0 x1 y12 m0 m1 hBY
  go_wp2_with fail
  refine wp_region_quiet_below mixed (by kernel_rfl) ?_
  repeat (any_goals (first | go_big_quiet_step ((first | (go_at_call 22; exact below_of (unhide HLa _ (BelowOf.h _))) | (go_at_call 33; exact below_of (unhide HLr _ (BelowOf.h _))) | (go_at_call 10; exact below_of (unhide HVs _ (BelowOf.h _))))) | quiet_step ((first | (go_at_call 22; exact below_of (unhide HLa _ (BelowOf.h _))) | (go_at_call 33; exact below_of (unhide HLr _ (BelowOf.h _))) | (go_at_call 10; exact below_of (unhide HVs _ (BelowOf.h _)))))))
  all_goals (refine wpQuiet_nil ?_; intro _ hw'; obtain ⟨p, hw''⟩ := hw'; subst hw'')
  have hb5 := p.h
  generalize p.w = W5 at hb5 ⊢
  have z5 := hb5.size
  have S9 := hide ((unhide SF4).below hb5)
  have XM : Hid (OwX W5 28 2 (.slice (some ⟨gv, 0, none⟩) (vl.length + 1) cm) (vl.length + 1)) := hide (OwX.of (unhide S9).m)
  have G9 : Hid (Kp (fun i => i = gv) W5 W5 ∧ SS W5 W5) := hide ⟨Kp.refl _ _, SS.refl _⟩
  have I5 : Hid (IT (fun i => P i ∨ W3.heap.size ≤ i) W5 W3.heap.size BY) := by
    obtain ⟨v, ops, hit, e⟩ := unhide I4
    exact hide ⟨v, ops, hit.below hb5, e⟩
  have N5 := hide ((unhide N4).below hb5)
  have T5 : Hid (TSF w W W5 P P R W2.heap.size b (.agg #[.slice ab B.length cb, .slice ao O.length co]) B H O) := hide ⟨((unhide HL).below (unhide B4)).below hb5, ((unhide HX4).below hb5).mono (fun i _ q => .inl q), Kp.of_below (bnext (unhide B4) hb5), fun i p => ⟨.inl p, by have := (unhide HHP i p).2; omega⟩, unhide HHR, by omega, by omega, TF.below (bnext (unhide B4) hb5)⟩
  clear HLa HLr HVs hne k0 k1 k2 k3 SF4 I4 N4 HX0 HX3 HX4 HO4 B3 B4 BW4 HL xl
  go_wp2
  clear i1
  obtain ⟨LV, hLV⟩ : ∃ L, vl.length = L := ⟨_, rfl⟩
  rw [hLV] at XM h4 ⊢
  replace hLV := hide hLV
  go_loopw [16] (fun iv wr => ∃ i : Nat, iv = .int .i64 (i : Nat) ∧ i ≤ LV + 1 ∧ Hid (Kp (fun i => i = gv) W5 wr ∧ SS W5 wr)) (fun iv _ => LV + 1 - (RowKit.intOf iv).toNat)
  case atStart => exact ⟨0, rfl, by omega, G9⟩
  case round =>
    clear G9
    obtain ⟨i, rfl, hi, G9⟩ := hrel
    by_cases hlt : i < LV + 1
    · have hlt' : (i : Int) < (LV : Int) + 1 := by omega
      obtain ⟨g, hge, l0, fz, cc, _⟩ := ((unhide XM).ss (unhide G9).2).at (by omega)
      simp only [Option.some.injEq, Addr.mk.injEq, and_true] at hge
      subst hge
      obtain ⟨y0, d0⟩ := cc (i * 2) (by omega)
      obtain ⟨y1, d1⟩ := cc (i * 2 + 1) (by omega)
      have f0 := fz (i * 2)
      have f1 := fz (i * 2 + 1)
      have G10 : Hid (Kp (fun i => i = gv) W5 ((wr.setCell ⟨gv, i * 2, none⟩ (.int .i64 1)).setCell ⟨gv, i * 2 + 1, none⟩ (.int .i64 1)) ∧ SS W5 ((wr.setCell ⟨gv, i * 2, none⟩ (.int .i64 1)).setCell ⟨gv, i * 2 + 1, none⟩ (.int .i64 1))) :=
        hide ⟨((unhide G9).1.trans (Kp.set (N := fun k => k = gv) _ _ _ rfl) (fun i e => .inl e)).trans (Kp.set (N := fun k => k = gv) _ _ _ rfl) (fun i e => .inl e), ((unhide G9).2.trans (SS.set _ _ _ _)).trans (SS.set _ _ _ _)⟩
      clear G9 fz cc
      go_wp2
      go_roundw
      case rel => exact ⟨i + 1, by go_num, by omega, G10⟩
      case measure => simp [RowKit.intOf]; omega
    · have hlt' : ¬ (i : Int) < (LV : Int) + 1 := by omega
      have xr := hide ((unhide S9).x.kp (unhide G9).1 (by omega))
      have zr := hide ((unhide S9).z.kp (unhide G9).1 (by omega))
      have c0 := (unhide xr).cell 0 _ rfl
      have c1 := (unhide xr).cell 1 _ rfl
      have cl := (unhide xr).lt
      have IR : Hid (IT (fun i => P i ∨ W3.heap.size ≤ i) wr W3.heap.size BY) := by
        obtain ⟨v, ops, hit, e⟩ := unhide I5
        exact hide ⟨v, ops, hit.kp (unhide G9).1 (fun i e p => by subst e; rcases p with p | p; exact nP _ (by omega) p; omega), e⟩
      have nR : ∀ i, W.heap.size ≤ i → ¬ R i := fun i hi q => by have := (unhide HHR i q).1; omega
      have NR := hide ((unhide N5).kp (unhide G9).1 (fun i e q => by subst e; rcases q with q | q; exact nR _ (by omega) q; omega))
      have HRe := hide (fun (V : World) (hb : Below wr.heap.size wr V) => Krest_in (W := V) (nb := W3.heap.size) (os := BY) (IT.lt (by obtain ⟨v, ops, hit, e⟩ := unhide IR; exact ⟨v, ops, hit.below hb, e⟩)) 201 (by omega))
      unfold itV at HRe
      clear XM I5 N5
      go_wp2_with fail
      go_region_with (first
        | (go_at_call 20; refine (unhide HRe _ (Below.refl _ _).drew).mono ?_; rintro r W6 ⟨a6, c6, rfl, hr6, hb6⟩; have P6 := hide (bnext (Below.refl wr.heap.size wr).drew hb6); have HOp := hide (ops2_in _ _ BY hr6.rn ((unhide NR).below (unhide P6)) (by omega)); have xq := ((unhide xr).below (unhide P6)); have m0 := xq.cell 0 _ rfl; have m1 := xq.cell 1 _ rfl; have ml6 := xq.lt; clear xq hr6 hb6)
        | (go_at_call 19; refine (unhide HOp).mono ?_; rintro r W7 ⟨rfl, hb7⟩; have P7 := hide (bnext (unhide P6) hb7); have xq := ((unhide xr).below (unhide P7)); have n0 := xq.cell 0 _ rfl; have n1 := xq.cell 1 _ rfl; have nl := xq.lt; have zq := ((unhide zr).below (unhide P7)); have o0 := zq.cell 0 _ rfl; have o1 := zq.cell 1 _ rfl; have of0 := zq.frozen 0; have of1 := zq.frozen 1; have ol := zq.lt; clear xq zq hb7 HOp))
      all_goals (
        have z2 := hide (box2 ((unhide zr).below (unhide P7)) (.slice ab B.length cb) (.slice ao O.length co))
        have kf : Hid (Kp (fun i => i = gv ∨ i = Y.heap.size) W5 ((W7.setCell ⟨Y.heap.size, 0, none⟩ (.slice ab B.length cb)).setCell ⟨Y.heap.size, 1, none⟩ (.slice ao O.length co))) := hide ((((unhide G9).1.wk (fun i e => .inl e)).trans (Kp.of_below (N := fun _ => False) (unhide P7)) (fun i e => e.elim)).trans (kp2 W7 Y.heap.size _ _) (fun i e => .inl (.inr e)))
        have h1 : W.heap.size ≤ gv ∧ gv < W2.heap.size ∧ ¬ P gv := ⟨by omega, mlo.2, nP _ (by omega)⟩
        have h2 : W.heap.size ≤ Y.heap.size ∧ Y.heap.size < W2.heap.size ∧ ¬ P Y.heap.size := ⟨by omega, by omega, nP _ (by omega)⟩
        go_wp2
        refine bodyPost_ret (results_ct rfl _ _ (Y.heap.size) _ _ _ _ rfl (unhide z2) Tryz.underlying35 rfl sizeLg) rfl ?_
        exact TSF.fin (unhide T5) (unhide kf) h1 h2)

end Go.Proofs.YtijjoikeceechaaGreat

/-
  A step, with the rows that are as they were; an iterator that lives meanwhile.
-/
set_option linter.unusedSimpArgs false
set_option linter.unusedVariables false
namespace Go.Proofs.YtijjoikeceechaaGreat
open Go.RowKit Go.Lib

theorem stepF_in {w W : World} {P R : Nat → Prop} {b : Nat} {B H : List (Int × Int)} {O : List Opn} (h : LL P W b B H O) (hP : ∀ i, P i → w.heap.size ≤ i ∧ i < W.heap.size) (hw : Below w.heap.size w W) (x : Value) (hx : LN R W x B O) (hR : ∀ i, R i → i < W.heap.size ∧ ¬ P i) (hRw : ∀ i, i < w.heap.size → R i) (hST : ST B H O) (hn : O.length ≤ 200) (s : Stp) (hs : StW w s) (h1 : s.op.deps.length ≤ 60000) (h2 : s.op.gone.length ≤ 60000) (h3 : s.op.text.size ≤ 60000) (h4 : s.vec.length ≤ 60000) :
    Calls Tryz.prog 11 #[.pointer (some ⟨b, 0, none⟩), x, stA s] W (StB W P R b (doB s B H) (doH s H) (doO s H O)) := by
  by_cases k1 : s.kind = 1
  · exact stepF_add h hP hw x hx hR hRw hST hn s hs h1 h2 h3 h4 k1
  by_cases k2 : s.kind = 2
  · exact stepF_beyond h hP hw x hx hR hRw hST hn s hs h1 h2 h3 h4 k2
  by_cases k3 : s.kind = 3
  · exact stepF_cut h hP hw x hx hR hRw hST hn s hs h1 h2 h3 h4 k3
  · exact stepF_else h hP hw x hx hR hRw hST hn s hs h1 h2 h3 h4 ⟨k1, k2, k3⟩

theorem owns_tf {W W' : World} {B E k n : Nat} {v : Value} {C : List Value} (h : W.ownsRow B E k v n C) (tf : TF W W') (he : E = 28 ∨ E = 81) : W'.ownsRow B E k v n C := by
  obtain ⟨h1, h2 | ⟨g, cap, cur, e, hb, hg, hc⟩⟩ := h
  · exact ⟨h1, .inl h2⟩
  · exact ⟨h1, .inr ⟨g, cap, cur, e, hb, tf g E cur hg he, hc⟩⟩
theorem OE.tf {D : Nat → Prop} {W W' : World} {e : Opn × Value × Value} (h : OE D W e) (tf : TF W W') : OE D W' e := ⟨owns_tf h.d tf (.inl rfl), owns_tf h.g tf (.inr rfl), h.pd, h.pg, h.s1, h.s2, h.s3⟩
theorem ITR.tf {D N : Nat → Prop} {W W' : World} {nb : Nat} {v : Value} {ops : List (Opn × Value × Value)} (h : ITR D W nb v ops) (k : Kp N W W') (tf : TF W W') (h1 : ¬ N nb) (h2 : ∀ i, v.ownBlock = some i → ¬ N i) : ITR D W' nb v ops :=
  ⟨h.box.kp k h1, owns_kp h.row k h2, fun e he => (h.re e he).tf tf, h.pn, h.pv, h.len⟩

/-- what a walk through an iterator has in memory: what is wanted, the iterator itself; all of it in blocks of which Z holds -/
structure BS (Z D : Nat → Prop) (W : World) (k3 k7 k8 nb : Nat) (want v : Value) (stop : Int) (BY : List Opn) (ops : List (Opn × Value × Value)) : Prop where
  b3 : Bx W k3 33 #[want]
  b7 : Bx W k7 55 #[itV nb]
  b8 : Bx W k8 3 #[.int .i64 stop]
  wn : RN Z W want BY
  it : ITR D W nb v ops
  z3 : Z k3
  z7 : Z k7
  z8 : Z k8
  zn : Z nb
  zv : ∀ i, v.ownBlock = some i → Z i
  eq : ops.map Prod.fst = BY
theorem BS.kp {Z D N : Nat → Prop} {W W' : World} {k3 k7 k8 nb : Nat} {want v : Value} {stop : Int} {BY : List Opn} {ops : List (Opn × Value × Value)} (h : BS Z D W k3 k7 k8 nb want v stop BY ops) (k : Kp N W W') (tf : TF W W') (hn : ∀ i, N i → ¬ Z i) : BS Z D W' k3 k7 k8 nb want v stop BY ops :=
  ⟨h.b3.kp k (fun e => hn _ e h.z3), h.b7.kp k (fun e => hn _ e h.z7), h.b8.kp k (fun e => hn _ e h.z8), h.wn.kp k hn, h.it.tf k tf (fun e => hn _ e h.zn) (fun i hi e => hn i e (h.zv i hi)), h.z3, h.z7, h.z8, h.zn, h.zv, h.eq⟩
theorem BS.below {Z D : Nat → Prop} {W W' : World} {k3 k7 k8 nb : Nat} {want v : Value} {stop : Int} {BY : List Opn} {ops : List (Opn × Value × Value)} (h : BS Z D W k3 k7 k8 nb want v stop BY ops) (hb : Below W.heap.size W W') : BS Z D W' k3 k7 k8 nb want v stop BY ops := h.kp (N := fun _ => False) (Kp.of_below hb) (TF.below hb) (fun _ e => e.elim)
/-- a variable of another type is written -/
theorem TF.box {W : World} {b j : Nat} {t : TypeId} {cs : Array Value} (x : Value) (hb : Bx W b t cs) (h1 : t ≠ 28) (h2 : t ≠ 81) : TF W (W.setCell ⟨b, j, none⟩ x) := fun i t' cur hx ht => hx.kp (Kp.set (N := fun k => k = b) W ⟨b, j, none⟩ x rfl) (fun e => by
  subst e
  rcases ht with rfl | rfl
  · exact ne_types hx hb (fun e => h1 e.symm)
  · exact ne_types hx hb (fun e => h2 e.symm))

end Go.Proofs.YtijjoikeceechaaGreat

/-
  The inner of two walks through an iterator.
-/
set_option linter.unusedSimpArgs false
set_option linter.unusedVariables false
namespace Go.Proofs.YtijjoikeceechaaGreat
open Go.RowKit Go.Lib

theorem set_same1 {W : World} {b t : Nat} {v : Value} (h : Bx W b t #[v]) : W.setCell ⟨b, 0, none⟩ v = W := by
  have hb := h.lt
  have he : W.heap.modify b (fun o => match o with | .cells c elem frozen => .cells (if (none : Option Nat).isSome then c else c.setIfInBounds 0 v) elem frozen | o => o) = W.heap := by
    apply Array.ext
    · simp
    · intro i h1 h2
      rw [Array.getElem_modify]
      split
      · rename_i e
        subst e
        have : W.heap[b] = .cells #[v] t (0, 0) := by
          have := h
          unfold Bx at this
          rw [Array.getElem?_eq_getElem hb] at this
          simpa using this
        rw [this]
        simp
      · rfl
  cases W
  unfold World.setCell
  congr 1

/-- while the inner walk goes on: so many were seen -/
structure JI (W0 : World) (k1 k11 n : Nat) (W : World) : Prop where
  kp : Kp (fun i => i = k1 ∨ i = k11) W0 W
  tf : TF W0 W
  b1 : Bx W k1 4 #[.bool true]
  bn : Bx W k11 3 #[.int .i64 (n : Nat)]
theorem JI.below {W0 W W' : World} {k1 k11 n : Nat} (h : JI W0 k1 k11 n W) (hb : Below W.heap.size W W') : JI W0 k1 k11 n W' :=
  ⟨h.kp.trans (Kp.of_below (N := fun _ => False) hb) (fun i e => e.elim), h.tf.trans (TF.below hb), h.b1.below hb, h.bn.below hb⟩

/-- what the inner one answers -/
def IA (W0 : World) (k1 k11 n : Nat) (stop : Int) (e : Ending) (W' : World) : Prop := ∃ b, e = .returned (.bool b) ∧ JI W0 k1 k11 (n + 1) W' ∧ (b = false → ((n : Int) + 1) = stop)
set_option maxRecDepth 100000 in
set_option maxHeartbeats 8000000 in
theorem inner1_in {Z D : Nat → Prop} {W0 Wc W1 : World} {k1 k11 k3 k7 k8 nb n : Nat} {want v : Value} {stop : Int} {BY : List Opn} {ops : List (Opn × Value × Value)} (bs : BS Z D W0 k3 k7 k8 nb want v stop BY ops) (h : JI W0 k1 k11 n Wc) (hz1 : ¬ Z k1) (hz2 : ¬ Z k11) (hne : k1 ≠ k11) (hb : Below Wc.heap.size Wc W1) (o : Opn) (ho : BY[n]? = some o) (a1 a2 : Option Addr) (c1 c2 : Nat) (hd : OwD W1 Wc.heap.size (.slice a1 o.deps.length c1) o.deps) (hg : OwR W1 Wc.heap.size (.slice a2 o.gone.length c2) o.gone) (l1 : o.deps.length ≤ 1000000) (l2 : o.gone.length ≤ 1000000) (hl : BY.length ≤ 1000000) :
    Calls Tryz.prog 18 #[opA o (.slice a1 o.deps.length c1) (.slice a2 o.gone.length c2), .pointer (some ⟨k1, 0, none⟩), .pointer (some ⟨k11, 0, none⟩), .pointer (some ⟨k3, 0, none⟩), .pointer (some ⟨k8, 0, none⟩)] W1 (IA W0 k1 k11 n stop) := by
  have bs1 := (bs.kp h.kp h.tf (fun i e z => by rcases e with rfl | rfl; exact hz1 z; exact hz2 z)).below hb
  obtain ⟨X, hX⟩ : ∃ X, W1.alloc (.cells #[.int .i64 o.ds, .int .i64 o.dq, .slice a1 o.deps.length c1, .int .i64 o.kind, .int .i64 o.it, .int .i64 o.is, .int .i64 o.rt, .int .i64 o.rs, .string o.text, .slice a2 o.gone.length c2, .int .i64 o.site] 45) = X := ⟨_, rfl⟩
  have bX : Below W1.heap.size W1 X := by rw [← hX]; exact ballc (Below.refl _ _) _
  have xX : Bx X W1.heap.size 45 #[.int .i64 o.ds, .int .i64 o.dq, .slice a1 o.deps.length c1, .int .i64 o.kind, .int .i64 o.it, .int .i64 o.is, .int .i64 o.rt, .int .i64 o.rs, .string o.text, .slice a2 o.gone.length c2, .int .i64 o.site] := by rw [← hX]; exact Bx.new W1 _ _
  have bsX := bs1.below bX
  obtain ⟨aw, nw, cw, b0, off, ad, cd, ag, cg, hwv, hnw, haw, hb0, hc, rd, rg, _, _⟩ := rn_at bsX.wn ho
  subst hwv hnw haw
  have hn : n < BY.length := (List.getElem?_eq_some_iff.1 ho).1
  have hn' : (n : Int) < (BY.length : Int) := by omega
  have HSm := hide (fun (V : World) (hb : Hid (Below X.heap.size X V)) => lsame_in o _ _ _ _ V ((hd.row.below bX).below (unhide hb)) (RC.below (RC.below (RC.of_owns hg) bX) (unhide hb)) (rd.below (unhide hb)) (RC.below rg (unhide hb)) l1 l2)
  unfold opA at HSm ⊢
  obtain ⟨p0, p1, p2, p3, p4, p5, p6, p7, p8, p9, p10⟩ := cells_op xX
  have q0 := hc 0 _ rfl
  have q1 := hc 1 _ rfl
  have q2 := hc 2 _ rfl
  have q3 := hc 3 _ rfl
  have q4 := hc 4 _ rfl
  have q5 := hc 5 _ rfl
  have q6 := hc 6 _ rfl
  have q7 := hc 7 _ rfl
  have q8 := hc 8 _ rfl
  have q9 := hc 9 _ rfl
  have q10 := hc 10 _ rfl
  simp only [Nat.add_zero] at q0 q1 q2 q3 q4 q5 q6 q7 q8 q9 q10
  have b1X := (h.b1.below hb).below bX
  have bnX := (h.bn.below hb).below bX
  have s1 := b1X.cell 0 _ rfl
  have s2 := bnX.cell 0 _ rfl
  have s3 := bsX.b3.cell 0 _ rfl
  have f1 := b1X.frozen 0
  have B1X := hide b1X
  have BNX := hide bnX
  have hbX : Hid (Below X.heap.size X X.drew) := hide (Below.refl _ _).drew
  have hJX := hide ((h.below hb).below bX)
  have B8X := hide bsX.b8
  have z8 := bsX.z8
  clear bs bs1 bsX h hd hg hc rd rg b1X bnX bX xX hb
  go_enter Tryz.func18, Tryz.ntmps18
  go_wp2_with fail
  go_region_held3 (fun w' => w'.cell? ⟨k1, 0, none⟩ = some (.bool true) ∧ w'.cell? ⟨k11, 0, none⟩ = some (.int .i64 (n : Nat)) ∧ w'.cell? ⟨k3, 0, none⟩ = some (.slice (some ⟨b0, off, none⟩) BY.length cw) ∧ w'.cell? ⟨W1.heap.size, 0, none⟩ = some (.int .i64 o.ds) ∧ w'.cell? ⟨W1.heap.size, 1, none⟩ = some (.int .i64 o.dq) ∧ w'.cell? ⟨W1.heap.size, 2, none⟩ = some (.slice a1 o.deps.length c1) ∧ w'.cell? ⟨W1.heap.size, 3, none⟩ = some (.int .i64 o.kind) ∧ w'.cell? ⟨W1.heap.size, 4, none⟩ = some (.int .i64 o.it) ∧ w'.cell? ⟨W1.heap.size, 5, none⟩ = some (.int .i64 o.is) ∧ w'.cell? ⟨W1.heap.size, 6, none⟩ = some (.int .i64 o.rt) ∧ w'.cell? ⟨W1.heap.size, 7, none⟩ = some (.int .i64 o.rs) ∧ w'.cell? ⟨W1.heap.size, 8, none⟩ = some (.string o.text) ∧ w'.cell? ⟨W1.heap.size, 9, none⟩ = some (.slice a2 o.gone.length c2) ∧ w'.cell? ⟨W1.heap.size, 10, none⟩ = some (.int .i64 o.site) ∧ w'.cell? ⟨b0, off + n * 11, none⟩ = some (.int .i64 o.ds) ∧ w'.cell? ⟨b0, off + n * 11 + 1, none⟩ = some (.int .i64 o.dq) ∧ w'.cell? ⟨b0, off + n * 11 + 2, none⟩ = some (.slice ad o.deps.length cd) ∧ w'.cell? ⟨b0, off + n * 11 + 3, none⟩ = some (.int .i64 o.kind) ∧ w'.cell? ⟨b0, off + n * 11 + 4, none⟩ = some (.int .i64 o.it) ∧ w'.cell? ⟨b0, off + n * 11 + 5, none⟩ = some (.int .i64 o.is) ∧ w'.cell? ⟨b0, off + n * 11 + 6, none⟩ = some (.int .i64 o.rt) ∧ w'.cell? ⟨b0, off + n * 11 + 7, none⟩ = some (.int .i64 o.rs) ∧ w'.cell? ⟨b0, off + n * 11 + 8, none⟩ = some (.string o.text) ∧ w'.cell? ⟨b0, off + n * 11 + 9, none⟩ = some (.slice ag o.gone.length cg) ∧ w'.cell? ⟨b0, off + n * 11 + 10, none⟩ = some (.int .i64 o.site) ∧ w'.frozen? ⟨k1, 0, none⟩ = false ∧ Hid (Below X.heap.size X w'))
    (first
      | (exact ⟨s1, s2, s3, p0, p1, p2, p3, p4, p5, p6, p7, p8, p9, p10, q0, q1, q2, q3, q4, q5, q6, q7, q8, q9, q10, f1, hbX⟩)
      | (go_split_ands
         exact ⟨cell_below (by assumption) hb, cell_below (by assumption) hb, cell_below (by assumption) hb, cell_below (by assumption) hb, cell_below (by assumption) hb, cell_below (by assumption) hb, cell_below (by assumption) hb, cell_below (by assumption) hb, cell_below (by assumption) hb, cell_below (by assumption) hb, cell_below (by assumption) hb, cell_below (by assumption) hb, cell_below (by assumption) hb, cell_below (by assumption) hb, cell_below (by assumption) hb, cell_below (by assumption) hb, cell_below (by assumption) hb, cell_below (by assumption) hb, cell_below (by assumption) hb, cell_below (by assumption) hb, cell_below (by assumption) hb, cell_below (by assumption) hb, cell_below (by assumption) hb, cell_below (by assumption) hb, cell_below (by assumption) hb, (by have hq := ((unhide B1X).below (unhide (by assumption : Hid (Below X.heap.size X _)))).below hb; exact hq.frozen 0), hide (bnext (unhide (by assumption)) hb)⟩)
      | (go_split_ands
         rw [set_same1 ((unhide B1X).below (unhide (by assumption : Hid (Below X.heap.size X _))))]
         exact ⟨by assumption, by assumption, by assumption, by assumption, by assumption, by assumption, by assumption, by assumption, by assumption, by assumption, by assumption, by assumption, by assumption, by assumption, by assumption, by assumption, by assumption, by assumption, by assumption, by assumption, by assumption, by assumption, by assumption, by assumption, by assumption, by assumption, by assumption⟩)
      | go_keep)
    (first
      | (go_split_ands; go_at_call 17; refine (unhide HSm _ (by assumption)).mono ?_; rintro e W3 ⟨rfl, hb⟩))
  have hB3 := bnext (Below.refl X.heap.size X).drew hb
  have b1' := (unhide B1X).below hB3
  have bn' := (unhide BNX).below hB3
  have b8' := (unhide B8X).below hB3
  rw [set_same1 b1']
  have J3 := (unhide hJX).below hB3
  have t1 := b1'.cell 0 _ rfl
  have t1l := b1'.lt
  have t2 := bn'.cell 0 _ rfl
  have t2f := bn'.frozen 0
  have t2l := bn'.lt
  obtain ⟨W4, hW4⟩ : ∃ V, W3.setCell ⟨k11, 0, none⟩ (.int .i64 ((n : Int) + 1)) = V := ⟨_, rfl⟩
  have k4 : Kp (fun i => i = k11) W3 W4 := by rw [← hW4]; exact Kp.set _ _ _ rfl
  have bn4 : Bx W4 k11 3 #[.int .i64 ((n : Int) + 1)] := by rw [← hW4]; simpa using bn'.set 0 (.int .i64 ((n : Int) + 1))
  have tf4 : TF W3 W4 := by rw [← hW4]; exact TF.box _ bn' (by decide) (by decide)
  have b14 := b1'.kp k4 hne
  have b84 := b8'.kp k4 (fun e => hz2 (by rw [← e]; exact z8))
  have e5 : ((n + 1 : Nat) : Int) = (n : Int) + 1 := by omega
  have bn5 : Bx W4 k11 3 #[.int .i64 ((n + 1 : Nat) : Int)] := by rw [e5]; exact bn4
  have J4 : Hid (JI W0 k1 k11 (n + 1) W4) := hide ⟨J3.kp.trans k4 (fun i e => .inl (.inr e)), J3.tf.trans tf4, b14, bn5⟩
  have u1 := b14.cell 0 _ rfl
  have u1l := b14.lt
  have u2 := bn4.cell 0 _ rfl
  have u2l := bn4.lt
  have u8 := b84.cell 0 _ rfl
  have u8l := b84.lt
  clear b1' bn' b8' J3 k4 bn4 bn5 e5 tf4 b14 b84 hB3 hb HSm s1 s2 s3 p0 p1 p2 p3 p4 p5 p6 p7 p8 p9 p10 q0 q1 q2 q3 q4 q5 q6 q7 q8 q9 q10 f1 hbX hJX
  by_cases hs : (n : Int) + 1 = stop
  · subst hs
    go_wp2
    go_ret
    exact ⟨false, rfl, unhide J4, fun _ => rfl⟩
  · have hs' : ((n : Int) + 1 == stop) = false := by simpa using hs
    have hs2 : ((n : Int) + 1 != stop) = true := by simpa using hs
    clear hs
    go_wp2
    go_ret
    exact ⟨true, rfl, unhide J4, fun h => by cases h⟩

end Go.Proofs.YtijjoikeceechaaGreat

/-
  The outer of two walks through an iterator: what it has in memory.
-/
set_option linter.unusedSimpArgs false
set_option linter.unusedVariables false
namespace Go.Proofs.YtijjoikeceechaaGreat
open Go.RowKit Go.Lib

/-- the inner walk, whole -/
theorem inner_in {Z D : Nat → Prop} {W0 : World} {k1 k11 k3 k7 k8 nb : Nat} {want v : Value} {stop : Int} {BY : List Opn} {ops : List (Opn × Value × Value)} (bs : BS Z D W0 k3 k7 k8 nb want v stop BY ops) (h0 : JI W0 k1 k11 0 W0) (hz1 : ¬ Z k1) (hz2 : ¬ Z k11) (hne : k1 ≠ k11) (hl : BY.length ≤ 1000000) :
    Calls Tryz.prog 40 #[.func (.func 18) #[] #[.pointer (some ⟨k1, 0, none⟩), .pointer (some ⟨k11, 0, none⟩), .pointer (some ⟨k3, 0, none⟩), .pointer (some ⟨k8, 0, none⟩)], .pointer (some ⟨nb, 0, none⟩)] W0 fun e W' => e = .returned (.tuple #[]) ∧ ∃ n : Nat, JI W0 k1 k11 n W' ∧ (n = BY.length ∨ (n : Int) = stop) := by
  have hnz : ∀ i, (i = k1 ∨ i = k11) → ¬ Z i := fun i e z => by rcases e with rfl | rfl; exact hz1 z; exact hz2 z
  refine (byd_clo 18 _ D nb v ops (fun pre W => JI W0 k1 k11 pre.length W) (fun pre W => JI W0 k1 k11 pre.length W ∧ (pre.length : Int) = stop) W0 (enters_of Tryz.func18 (by kernel_rfl) rfl) (fun pre W1 W2 h hb => h.below hb) (fun pre W1 h => bs.it.tf h.kp h.tf (fun e => hnz _ e bs.zn) (fun i hi e => hnz i e (bs.zv i hi)))
    (fun pre o rest Wc W1 a1 c1 a2 c2 hp h hb hd hg s1 s2 s3 => ?_) h0).mono ?_
  · have ho : BY[pre.length]? = some o := by rw [← bs.eq, ← hp]; simp
    refine (inner1_in bs h hz1 hz2 hne hb o ho a1 a2 c1 c2 hd hg s1 s2 hl).mono ?_
    rintro e W' ⟨x, rfl, hj, hx⟩
    have hlen : (pre ++ [o]).length = pre.length + 1 := by simp
    refine ⟨x, rfl, ?_⟩
    cases x with
    | true => simp only [if_true]; rw [hlen]; exact hj
    | false =>
      simp only [Bool.false_eq_true, if_false]
      rw [hlen]
      exact ⟨hj, by have := hx rfl; push_cast; omega⟩
  · rintro e W' ⟨rfl, (h | ⟨pre, rest, hp, h, hs⟩)⟩
    · exact ⟨rfl, _, h, .inl (by rw [bs.eq])⟩
    · exact ⟨rfl, _, h, .inr hs⟩

structure JO (w : World) (Z D : Nat → Prop) (b k1 k2 k3 k4 k5 k6 k7 k8 nb : Nat) (want more v : Value) (stop : Int) (BY : List Opn) (ops : List (Opn × Value × Value)) (n : Nat) (W : World) : Prop where
  gs : ∃ P R x0 x1 B H O, GS w W b k6 P R x0 x1 B H O ∧ O.length ≤ 40 + min n 20 ∧ (∀ i, Z i → ¬ P i ∧ i ≠ k6) ∧ ¬ P k1 ∧ ¬ R k1 ∧ ¬ P k2 ∧ ¬ R k2
  b1 : Bx W k1 4 #[.bool true]
  b2 : Bx W k2 3 #[.int .i64 (n : Nat)]
  b4 : Bx W k4 24 #[more]
  b5 : Bx W k5 29 #[.pointer (some ⟨b, 0, none⟩)]
  z4 : Z k4
  z5 : Z k5
  bs : BS Z D W k3 k7 k8 nb want v stop BY ops
  zz : ∀ i, Z i → i < W.heap.size ∧ i ≠ k1 ∧ i ≠ k2
  k12 : k1 ≠ k2
  k16 : k1 ≠ k6
  k26 : k2 ≠ k6
variable {w W W' : World} {Z D : Nat → Prop} {b k1 k2 k3 k4 k5 k6 k7 k8 nb : Nat} {want more v : Value} {stop : Int} {BY : List Opn} {ops : List (Opn × Value × Value)} {n : Nat}
theorem JO.below (h : JO w Z D b k1 k2 k3 k4 k5 k6 k7 k8 nb want more v stop BY ops n W) (hb : Below W.heap.size W W') : JO w Z D b k1 k2 k3 k4 k5 k6 k7 k8 nb want more v stop BY ops n W' := by
  obtain ⟨P, R, x0, x1, B, H, O, g, r⟩ := h.gs
  exact ⟨⟨P, R, x0, x1, B, H, O, g.below hb, r⟩, h.b1.below hb, h.b2.below hb, h.b4.below hb, h.b5.below hb, h.z4, h.z5, h.bs.below hb, fun i z => ⟨by have := (h.zz i z).1; have := hb.size; omega, (h.zz i z).2⟩, h.k12, h.k16, h.k26⟩
theorem GS.lo {b bx : Nat} {P R : Nat → Prop} {x0 x1 : Value} {B H : List (Int × Int)} {O : List Opn} (g : GS w W b bx P R x0 x1 B H O) {k : Nat} (h : ¬ R k) : w.heap.size ≤ k := by
  rcases Nat.lt_or_ge k w.heap.size with e | e
  · exact absurd (g.rw' k e) h
  · exact e
/-- one more was seen -/
theorem JO.put2 (h : JO w Z D b k1 k2 k3 k4 k5 k6 k7 k8 nb want more v stop BY ops n W) (hW : W.setCell ⟨k2, 0, none⟩ (.int .i64 ((n : Int) + 1)) = W') : JO w Z D b k1 k2 k3 k4 k5 k6 k7 k8 nb want more v stop BY ops (n + 1) W' := by
  obtain ⟨P, R, x0, x1, B, H, O, g, ho, hz, p1, r1, p2, r2⟩ := h.gs
  have k : Kp (fun i => i = k2) W W' := by rw [← hW]; exact Kp.set _ _ _ rfl
  have tf : TF W W' := by rw [← hW]; exact TF.box _ h.b2 (by decide) (by decide)
  have e5 : ((n + 1 : Nat) : Int) = (n : Int) + 1 := by omega
  have b2' : Bx W' k2 3 #[.int .i64 ((n + 1 : Nat) : Int)] := by rw [e5, ← hW]; simpa using h.b2.set 0 (.int .i64 ((n : Int) + 1))
  refine ⟨⟨P, R, x0, x1, B, H, O, g.kp k (fun i e => by subst e; exact ⟨g.lo r2, p2, r2, h.k26⟩), by omega, hz, p1, r1, p2, r2⟩, h.b1.kp k h.k12, b2', h.b4.kp k (h.zz _ h.z4).2.2, h.b5.kp k (h.zz _ h.z5).2.2, h.z4, h.z5, h.bs.kp k tf (fun i e z => (h.zz i z).2.2 e), fun i z => ⟨by have := (h.zz i z).1; have := k.size; omega, (h.zz i z).2⟩, h.k12, h.k16, h.k26⟩
/-- the inner walk was made -/
theorem JO.inner {W0 : World} {k11 m : Nat} (h : JO w Z D b k1 k2 k3 k4 k5 k6 k7 k8 nb want more v stop BY ops n W) (hb : Below W.heap.size W W0) (hk : W.heap.size ≤ k11) (j : JI W0 k1 k11 m W') : JO w Z D b k1 k2 k3 k4 k5 k6 k7 k8 nb want more v stop BY ops n W' := by
  obtain ⟨P, R, x0, x1, B, H, O, g, ho, hz, p1, r1, p2, r2⟩ := h.gs
  have h0 := h.below hb
  have l2 := h.b2.lt
  have lx := g.bx'.lt
  refine ⟨⟨P, R, x0, x1, B, H, O, (g.below hb).kp j.kp (fun i e => ?_), ho, hz, p1, r1, p2, r2⟩, j.b1, h0.b2.kp j.kp (fun e => ?_), h0.b4.kp j.kp (fun e => ?_), h0.b5.kp j.kp (fun e => ?_), h.z4, h.z5, h0.bs.kp j.kp j.tf (fun i e z => ?_), fun i z => ⟨by have := (h0.zz i z).1; have := j.kp.size; omega, (h.zz i z).2⟩, h.k12, h.k16, h.k26⟩
  · rcases e with rfl | rfl
    · exact ⟨g.lo r1, p1, r1, h.k16⟩
    · exact ⟨by have := g.bel.size; omega, fun p => by have := (g.pp _ p).2; omega, fun p => by have := (g.rr _ p).1; omega, by omega⟩
  · rcases e with e | e
    · exact h.k12 e.symm
    · omega
  · rcases e with e | e
    · exact (h.zz _ h.z4).2.1 e
    · have := (h.zz _ h.z4).1; omega
  · rcases e with e | e
    · exact (h.zz _ h.z5).2.1 e
    · have := (h.zz _ h.z5).1; omega
  · rcases e with e | e
    · exact (h.zz _ z).2.1 e
    · have := (h.zz _ z).1; omega
/-- a step -/
theorem JO.step_in (h : JO w Z D b k1 k2 k3 k4 k5 k6 k7 k8 nb want more v stop BY ops n W) (x0 x1 : Value) (hx : Bx W k6 35 #[x0, x1]) (hn : n < 20) (s : Stp) (hs : StW w s) (h1 : s.op.deps.length ≤ 60000) (h2 : s.op.gone.length ≤ 60000) (h3 : s.op.text.size ≤ 60000) (h4 : s.vec.length ≤ 60000) {V : World} (hV : Below W.heap.size W V) :
    Calls Tryz.prog 11 #[.pointer (some ⟨b, 0, none⟩), .agg #[x0, x1], stA s] V fun e W' => ∃ a l c a' l' c', e = .returned (.tuple #[.agg #[.slice a l c, .slice a' l' c'], .bool true]) ∧ Bx W' k6 35 #[x0, x1] ∧ Bx ((W'.setCell ⟨k6, 0, none⟩ (.slice a l c)).setCell ⟨k6, 1, none⟩ (.slice a' l' c')) k1 4 #[.bool true] ∧ Bx W' k1 4 #[.bool true] ∧ ∀ F, ((W'.setCell ⟨k6, 0, none⟩ (.slice a l c)).setCell ⟨k6, 1, none⟩ (.slice a' l' c')) = F → ∃ P R x0 x1 B H O, GS w F b k6 P R x0 x1 B H O ∧ O.length ≤ 40 + min (n + 1) 20 ∧ (∀ i, Z i → ¬ P i ∧ i ≠ k6) ∧ ¬ P k1 ∧ ¬ R k1 ∧ ¬ P k2 ∧ ¬ R k2 ∧ (∀ m, m = n → JO w Z D b k1 k2 k3 k4 k5 k6 k7 k8 nb want more v stop BY ops (n + 1) ((F.setCell ⟨k2, 0, none⟩ (.int .i64 ((n : Int) + 1)))) ∧ Bx F k2 3 #[.int .i64 (n : Nat)]) := by
  obtain ⟨P, R, u0, u1, B, H, O, g, ho, hz, p1, r1, p2, r2⟩ := h.gs
  have e : W.heap[k6]? = some (.cells #[x0, x1] 35 (0, 0)) := hx
  have e' : W.heap[k6]? = some (.cells #[u0, u1] 35 (0, 0)) := g.bx'
  rw [e] at e'
  simp only [Option.some.injEq, Obj.cells.injEq, Array.mk.injEq, List.cons.injEq, and_true] at e'
  obtain ⟨rfl, rfl⟩ := e'
  have gV := g.below hV
  have hd := do_len s H O
  refine (stepF_in gV.ll gV.pp gV.bel _ gV.ln gV.rr gV.rw' gV.st (by omega) s hs h1 h2 h3 h4).mono ?_
  rintro r W7 ⟨⟨x7, P7, rfl, l7, q7, n7, k7⟩, tf7⟩
  obtain ⟨a, c, a', c', rfl⟩ := n7.cells
  have kF : Kp (fun _ => False) W7 W7 := Kp.refl _ _
  obtain ⟨gn, bF⟩ := GS.round g hV l7 q7 n7 k7 (g.st.do s) kF (fun i e => e.elim)
  have zV := hV.size
  have z7 := k7.size
  have kb : Kp (fun i => P i ∨ i = k6) W ((W7.setCell ⟨k6, 0, none⟩ (.slice a (doB s B H).length c)).setCell ⟨k6, 1, none⟩ (.slice a' (doO s H O).length c')) := (((Kp.of_below hV).trans k7 (fun i p => .inl (.inl p))).trans (kp2 W7 k6 _ _) (fun i e => .inl (.inr e)))
  have tb : TF W ((W7.setCell ⟨k6, 0, none⟩ (.slice a (doB s B H).length c)).setCell ⟨k6, 1, none⟩ (.slice a' (doO s H O).length c')) := ((TF.below hV).trans tf7).trans ((TF.box _ bF (by decide) (by decide)).trans (TF.box _ (bF.set 0 _) (by decide) (by decide)))
  have hP7 : ∀ i, i < W.heap.size → ¬ P i → ¬ P7 i := fun i hi hp p => by
    rcases (q7 i p).1 with p | p
    · exact hp p
    · omega
  have l1 := h.b1.lt
  have l2 := h.b2.lt
  have kk1 : Kp P W W7 := (Kp.of_below hV).trans k7 (fun i p => .inl p)
  refine ⟨a, _, c, a', _, c', rfl, bF, h.b1.kp kb (fun e => by rcases e with e | e; exact p1 e; exact h.k16 e), h.b1.kp kk1 p1, ?_⟩
  intro F hF
  rw [hF] at gn kb tb
  have zF := kb.size
  have hz' : ∀ i, Z i → ¬ P7 i ∧ i ≠ k6 := fun i z => ⟨hP7 i (h.zz i z).1 (hz i z).1, (hz i z).2⟩
  have nP1 := hP7 _ l1 p1
  have nP2 := hP7 _ l2 p2
  have nR : ∀ k, k < W.heap.size → ¬ R k → ¬ ((R k ∨ (W.heap.size ≤ k ∧ ¬ P7 k)) ∧ k < W7.heap.size) := fun k hk hr q => by
    rcases q.1 with q | q
    · exact hr q
    · omega
  have hkz : ∀ i, (P i ∨ i = k6) → ¬ Z i := fun i e z => by rcases e with e | e; exact (hz i z).1 e; exact (hz i z).2 e
  have b2F := h.b2.kp kb (fun e => by rcases e with e | e; exact p2 e; exact h.k26 e)
  have hn1 : (doO s H O).length ≤ 40 + min (n + 1) 20 := by omega
  refine ⟨P7, _, _, _, _, _, _, gn, hn1, hz', nP1, nR _ l1 r1, nP2, nR _ l2 r2, fun m hm => ⟨?_, b2F⟩⟩
  have kz : Kp (fun i => i = k2) F (F.setCell ⟨k2, 0, none⟩ (.int .i64 ((n : Int) + 1))) := Kp.set _ _ _ rfl
  have tz : TF F (F.setCell ⟨k2, 0, none⟩ (.int .i64 ((n : Int) + 1))) := TF.box _ b2F (by decide) (by decide)
  have e5 : ((n + 1 : Nat) : Int) = (n : Int) + 1 := by omega
  have b2' : Bx (F.setCell ⟨k2, 0, none⟩ (.int .i64 ((n : Int) + 1))) k2 3 #[.int .i64 ((n + 1 : Nat) : Int)] := by rw [e5]; simpa using b2F.set 0 (.int .i64 ((n : Int) + 1))
  exact ⟨⟨P7, _, _, _, _, _, _, gn.kp kz (fun i e => by subst e; exact ⟨g.lo r2, nP2, nR _ l2 r2, h.k26⟩), hn1, hz', nP1, nR _ l1 r1, nP2, nR _ l2 r2⟩, (h.b1.kp kb (fun e => by rcases e with e | e; exact p1 e; exact h.k16 e)).kp kz h.k12, b2', (h.b4.kp kb (fun e => hkz _ e h.z4)).kp kz (h.zz _ h.z4).2.2, (h.b5.kp kb (fun e => hkz _ e h.z5)).kp kz (h.zz _ h.z5).2.2, h.z4, h.z5, (h.bs.kp kb tb hkz).kp kz tz (fun i e z => (h.zz i z).2.2 e), fun i z => ⟨by have := (h.zz i z).1; have := kz.size; omega, (h.zz i z).2⟩, h.k12, h.k16, h.k26⟩

end Go.Proofs.YtijjoikeceechaaGreat

/-
  LogBeyonds: the script ahead of the walk, and what the walk begins with.
-/
set_option linter.unusedSimpArgs false
set_option linter.unusedVariables false
namespace Go.Proofs.YtijjoikeceechaaGreat
open Go.RowKit Go.Lib

set_option maxRecDepth 100000 in
set_option maxHeartbeats 2000000 in
theorem BeyondF_in {P : Nat → Prop} {w : World} {b : Nat} {base hv : List (Int × Int)} {os : List Opn} (hL : LL P w b base hv os) (hn0 : os.length ≤ 1000000) (v : Value) (l : List (Int × Int)) (hr : RI w v l) (hl : l.length ≤ 1000000) :
    Calls Tryz.prog 15 #[.pointer (some ⟨b, 0, none⟩), v] w fun e W => e = .returned (itV w.heap.size) ∧ (∃ u ops, ITR (fun i => P i ∨ w.heap.size ≤ i) W w.heap.size u ops ∧ ops.map Prod.fst = bynd l os ∧ ∀ k, u.ownBlock = some k → w.heap.size ≤ k) ∧ Below w.heap.size w W := by
  obtain ⟨vb, vh, vo, ops, h, rfl⟩ := hL
  rw [List.length_map] at hn0
  obtain ⟨X, hX⟩ : ∃ X, w.alloc (.cells #[.slice none 0 0] 33) = X := ⟨_, rfl⟩
  have x1 : Bx X w.heap.size 33 #[.slice none 0 0] := by rw [← hX]; exact Bx.new w _ _
  have bX : Below w.heap.size w X := by rw [← hX]; exact ballc (Below.refl _ _) _
  have hmf := makeF
  have HC := hide (Check_in v l X (hr.below bX) (by omega))
  obtain ⟨av, cv, rfl⟩ := hr.form
  have HX := hide x1
  have B0 := hide bX
  have Hh := hide h
  have Hr := hide hr
  have xl := x1.lt
  clear x1 bX h hr
  unfold itV
  by_cases hk : chk l = 0
  · rw [hk] at HC
    have HE := hide (show bynd l (ops.map Prod.fst) = prL l false (ops.map Prod.fst) from if_pos hk)
    clear hk
    go_enter Tryz.func15, Tryz.ntmps15
    go_wp2_with fail
    refine (unhide HC).mono ?_
    rintro r W1 ⟨rfl, hb1⟩
    have hb01 := bnext (unhide B0) hb1
    have HP := hide (part_in ((unhide Hh).below hb01) _ l false ((unhide Hr).below hb01) hl hn0)
    replace HX := hide ((unhide HX).below hb1)
    have B1 := hide hb01
    clear HC hb1 hX hb01
    go_wp2_with fail
    refine (unhide HP).mono ?_
    rintro r W2 ⟨v2, rfl, ho2, hb2⟩
    have x2 := (unhide HX).below hb2
    have c0 := x2.cell 0 _ rfl
    have f0 := x2.frozen 0
    have l0 := x2.lt
    obtain ⟨a2, c2, rfl⟩ := owns_form ho2
    have HX2 := hide x2
    have HO2 := hide ho2
    have B2 := hide (bnext (unhide B1) hb2)
    have hz1 := (unhide B1).size
    clear HP x2 ho2 hb2 HX
    go_wp2
    go_ret
    have k := Kp.set (N := fun i => i = w.heap.size) W2 ⟨w.heap.size, 0, none⟩ (.slice a2 (prt l false ops).length c2) rfl
    refine ⟨rfl, ⟨.slice a2 (prt l false ops).length c2, prt l false ops, ⟨?_, ?_, fun e he => ?_, .inr (Nat.le_refl _), fun k hk => .inr ?_, ?_⟩, ?_, fun k hk => by have := ((unhide HO2).lt k hk).1; omega⟩, k.below (unhide B2) (fun i e => by omega)⟩
    · have := (unhide HX2).set 0 (.slice a2 (prt l false ops).length c2)
      simpa using this
    · exact own_base (owns_kp (unhide HO2) k (fun i hi e => own_ne_box (unhide HO2) (unhide HX2) (by decide) (by rw [hi, e]))) (Nat.zero_le _)
    · have oe := ((unhide Hh).re e (prt_mem he)).below (unhide B2)
      exact ⟨owns_kp oe.d k (fun i hi e => own_ne_box oe.d (unhide HX2) (by decide) (by rw [hi, e])), owns_kp oe.g k (fun i hi e => own_ne_box oe.g (unhide HX2) (by decide) (by rw [hi, e])), fun k hk => .inl (oe.pd k hk), fun k hk => .inl (oe.pg k hk), oe.s1, oe.s2, oe.s3⟩
    · have := ((unhide HO2).lt k hk).1; omega
    · have := prt_len l false ops; omega
    · rw [unhide HE, prt_fst]
  · have HE := hide (show bynd l (ops.map Prod.fst) = [] from if_neg hk)
    obtain ⟨k, hkk⟩ : ∃ k, chk l = k := ⟨_, rfl⟩
    rw [hkk] at HC hk
    have hk' : (k == 0) = false := by simpa using hk
    clear hkk hk
    go_enter Tryz.func15, Tryz.ntmps15
    go_wp2_with fail
    refine (unhide HC).mono ?_
    rintro r W1 ⟨rfl, hb1⟩
    have HB := hide (bnext (unhide B0) hb1)
    replace HX := hide ((unhide HX).below hb1)
    clear hb1 HC hX
    go_wp2
    go_ret
    exact ⟨rfl, ⟨_, [], ⟨unhide HX, World.ownsRow_nil _ _ _ _, fun e he => (by cases he), .inr (Nat.le_refl _), fun k hk => (by cases hk), by simp⟩, by rw [unhide HE]; rfl, fun k hk => by cases hk⟩, unhide HB⟩

/-- a log and the document's, and the variables beside them -/
structure JL (w : World) (b k1 k4 k5 k6 k8 : Nat) (more : Value) (stop : Int) (n : Nat) (W : World) : Prop where
  gs : ∃ P R x0 x1 B H O, GS w W b k6 P R x0 x1 B H O ∧ O.length ≤ n ∧ ∀ k, (k = k1 ∨ k = k4 ∨ k = k5 ∨ k = k8) → ¬ P k ∧ ¬ R k ∧ k ≠ k6
  b1 : Bx W k1 4 #[.bool true]
  b4 : Bx W k4 24 #[more]
  b5 : Bx W k5 29 #[.pointer (some ⟨b, 0, none⟩)]
  b8 : Bx W k8 3 #[.int .i64 stop]
variable {w W W' : World} {b k1 k4 k5 k6 k8 n : Nat} {more : Value} {stop : Int}
theorem JL.below (h : JL w b k1 k4 k5 k6 k8 more stop n W) (hb : Below W.heap.size W W') : JL w b k1 k4 k5 k6 k8 more stop n W' := by
  obtain ⟨P, R, x0, x1, B, H, O, g, r⟩ := h.gs
  exact ⟨⟨P, R, x0, x1, B, H, O, g.below hb, r⟩, h.b1.below hb, h.b4.below hb, h.b5.below hb, h.b8.below hb⟩
theorem JL.step_in (h : JL w b k1 k4 k5 k6 k8 more stop n W) (x0 x1 : Value) (hx : Bx W k6 35 #[x0, x1]) (hn : n ≤ 200) (s : Stp) (hs : StW w s) (h1 : s.op.deps.length ≤ 60000) (h2 : s.op.gone.length ≤ 60000) (h3 : s.op.text.size ≤ 60000) (h4 : s.vec.length ≤ 60000) {V : World} (hV : Below W.heap.size W V) :
    Calls Tryz.prog 11 #[.pointer (some ⟨b, 0, none⟩), .agg #[x0, x1], stA s] V fun e W' => ∃ a l c a' l' c', e = .returned (.tuple #[.agg #[.slice a l c, .slice a' l' c'], .bool true]) ∧ Bx W' k6 35 #[x0, x1] ∧ Bx W' k1 4 #[.bool true] ∧ JL w b k1 k4 k5 k6 k8 more stop (n + 1) ((W'.setCell ⟨k6, 0, none⟩ (.slice a l c)).setCell ⟨k6, 1, none⟩ (.slice a' l' c')) := by
  obtain ⟨P, R, u0, u1, B, H, O, g, ho, hk⟩ := h.gs
  have e : W.heap[k6]? = some (.cells #[x0, x1] 35 (0, 0)) := hx
  have e' : W.heap[k6]? = some (.cells #[u0, u1] 35 (0, 0)) := g.bx'
  rw [e] at e'
  simp only [Option.some.injEq, Obj.cells.injEq, Array.mk.injEq, List.cons.injEq, and_true] at e'
  obtain ⟨rfl, rfl⟩ := e'
  have gV := g.below hV
  have hd := do_len s H O
  refine (Go.Proofs.YtijjoikeceechaaGreat.step_in gV.ll gV.pp gV.bel _ gV.ln gV.rr gV.rw' gV.st (by omega) s hs h1 h2 h3 h4).mono ?_
  rintro r W7 ⟨x7, P7, rfl, l7, q7, n7, k7⟩
  obtain ⟨a, c, a', c', rfl⟩ := n7.cells
  have kF : Kp (fun _ => False) W7 W7 := Kp.refl _ _
  obtain ⟨gn, bF⟩ := GS.round g hV l7 q7 n7 k7 (g.st.do s) kF (fun i e => e.elim)
  have zV := hV.size
  have z7 := k7.size
  have kk1 : Kp P W W7 := (Kp.of_below hV).trans k7 (fun i p => .inl p)
  have kb : Kp (fun i => P i ∨ i = k6) W ((W7.setCell ⟨k6, 0, none⟩ (.slice a (doB s B H).length c)).setCell ⟨k6, 1, none⟩ (.slice a' (doO s H O).length c')) := ((kk1.wk (fun i p => .inl p)).trans (kp2 W7 k6 _ _) (fun i e => .inl (.inr e)))
  have hne : ∀ k, (k = k1 ∨ k = k4 ∨ k = k5 ∨ k = k8) → ¬ (P k ∨ k = k6) := fun k e q => by rcases q with q | q; exact (hk k e).1 q; exact (hk k e).2.2 q
  have lt1 := h.b1.lt
  have lt4 := h.b4.lt
  have lt5 := h.b5.lt
  have lt8 := h.b8.lt
  refine ⟨a, _, c, a', _, c', rfl, bF, h.b1.kp kk1 (hk k1 (.inl rfl)).1, ⟨⟨P7, _, _, _, _, _, _, gn, by omega, fun k e => ⟨fun p => ?_, fun q => ?_, (hk k e).2.2⟩⟩, h.b1.kp kb (hne _ (.inl rfl)), h.b4.kp kb (hne _ (.inr (.inl rfl))), h.b5.kp kb (hne _ (.inr (.inr (.inl rfl)))), h.b8.kp kb (hne _ (.inr (.inr (.inr rfl))))⟩⟩
  · rcases (q7 k p).1 with p | p
    · exact (hk k e).1 p
    · have : k < W.heap.size := by rcases e with rfl | rfl | rfl | rfl <;> assumption
      omega
  · rcases q.1 with q | q
    · exact (hk k e).2.1 q
    · have : k < W.heap.size := by rcases e with rfl | rfl | rfl | rfl <;> assumption
      have := q.1
      omega

/-- the walk begins -/
theorem JO.start {w W W1 W2 W3 W4 W5 : World} {b k1 k4 k5 k6 k8 n : Nat} {more v : Value} {aw : Option Addr} {cw : Nat} {stop : Int} {BY : List Opn} {ops : List (Opn × Value × Value)} {P R : Nat → Prop} {x0 x1 : Value} {B H : List (Int × Int)} {O : List Opn} (h : JL w b k1 k4 k5 k6 k8 more stop n W) (g : GS w W b k6 P R x0 x1 B H O) (ho : O.length ≤ 40) (hk : ∀ k, (k = k1 ∨ k = k4 ∨ k = k5 ∨ k = k8) → ¬ P k ∧ ¬ R k ∧ k ≠ k6) (hk1 : k1 ≠ k4 ∧ k1 ≠ k5 ∧ k1 ≠ k8)
    (hb1 : Below W.heap.size W W1) (hn : RN (fun i => R i ∨ W.heap.size ≤ i) W1 (.slice aw BY.length cw) BY) (hb2 : Below W1.heap.size W1 W2) (x2 : Bx W2 W1.heap.size 33 #[.slice aw BY.length cw]) (hb3 : Below W2.heap.size W2 W3) (hi : ITR (fun i => P i ∨ W2.heap.size ≤ i) W3 W2.heap.size v ops) (he : ops.map Prod.fst = BY) (hv : ∀ k, v.ownBlock = some k → W2.heap.size ≤ k) (hb4 : Below W3.heap.size W3 W4) (x4 : Bx W4 W3.heap.size 55 #[itV W2.heap.size]) (hb5 : Below W4.heap.size W4 W5) (x5 : Bx W5 W4.heap.size 3 #[.int .i64 ((0 : Nat) : Int)]) :
    JO w (fun i => R i ∨ (W.heap.size ≤ i ∧ i < W4.heap.size) ∨ i = k4 ∨ i = k5 ∨ i = k8) (fun i => P i ∨ W2.heap.size ≤ i) b k1 W4.heap.size W1.heap.size k4 k5 k6 W3.heap.size k8 W2.heap.size (.slice aw BY.length cw) more v stop BY ops 0 W5 := by
  have s1 := hb1.size
  have s2 := hb2.size
  have s3 := hb3.size
  have s4 := hb4.size
  have s5 := hb5.size
  have l2 := x2.lt
  have l4 := x4.lt
  have l5 := x5.lt
  have b45 := hb5
  have b35 := bnext hb4 hb5
  have b25 := bnext hb3 b35
  have b15 := bnext hb2 b25
  have b05 := bnext hb1 b15
  have lx := g.bx'.lt
  have lt1 := h.b1.lt
  have lt4 := h.b4.lt
  have lt5 := h.b5.lt
  have lt8 := h.b8.lt
  have nk1 := hk k1 (.inl rfl)
  have pr : ∀ i, P i → i < W.heap.size := fun i p => (g.pp i p).2
  have rr : ∀ i, R i → i < W.heap.size := fun i p => (g.rr i p).1
  have zv : ∀ i, v.ownBlock = some i → W.heap.size ≤ i ∧ i < W4.heap.size := fun i e => by
    have h1 := hv i e
    have h2 := (hi.row.lt i e).2
    omega
  refine ⟨⟨P, R, x0, x1, B, H, O, g.below b05, by omega, fun i z => ?_, nk1.1, nk1.2.1, fun p => by have := pr _ p; omega, fun p => by have := rr _ p; omega⟩, h.b1.below b05, x5, h.b4.below b05, h.b5.below b05, .inr (.inr (.inl rfl)), .inr (.inr (.inr (.inl rfl))), ⟨x2.below b25, x4.below hb5, h.b8.below b05, (hn.mono (Q' := fun i => R i ∨ (W.heap.size ≤ i ∧ i < W4.heap.size) ∨ i = k4 ∨ i = k5 ∨ i = k8) (fun i hi' q => q.imp id (fun e => .inl ⟨e, by omega⟩))).below b15, hi.below b35, .inr (.inl ⟨by omega, by omega⟩), .inr (.inl ⟨by omega, by omega⟩), .inr (.inr (.inr (.inr rfl))), .inr (.inl ⟨by omega, by have := hi.box.lt; omega⟩), fun i e => .inr (.inl (zv i e)), he⟩, fun i z => ?_, by omega, nk1.2.2, by omega⟩
  · rcases z with z | z | z | z | z
    · exact ⟨(g.rr i z).2, fun e => by subst e; exact g.nr z⟩
    · exact ⟨fun p => by have := pr _ p; omega, by omega⟩
    · subst z; exact ⟨(hk _ (.inr (.inl rfl))).1, (hk _ (.inr (.inl rfl))).2.2⟩
    · subst z; exact ⟨(hk _ (.inr (.inr (.inl rfl)))).1, (hk _ (.inr (.inr (.inl rfl)))).2.2⟩
    · subst z; exact ⟨(hk _ (.inr (.inr (.inr rfl)))).1, (hk _ (.inr (.inr (.inr rfl)))).2.2⟩
  · rcases z with z | z | z | z | z
    · have := rr _ z; exact ⟨by omega, fun e => by subst e; exact nk1.2.1 z, by omega⟩
    · exact ⟨by omega, by omega, by omega⟩
    · subst z; exact ⟨by omega, fun e => hk1.1 e.symm, by omega⟩
    · subst z; exact ⟨by omega, fun e => hk1.2.1 e.symm, by omega⟩
    · subst z; exact ⟨by omega, fun e => hk1.2.2 e.symm, by omega⟩

end Go.Proofs.YtijjoikeceechaaGreat
