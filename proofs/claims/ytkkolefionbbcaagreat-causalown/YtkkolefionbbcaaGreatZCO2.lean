/-
  A queue in new memory beside what was had; the law's able.
-/
import Derived.Test.YtkkolefionbbcaaGreatZCS
import Derived.Test.YtkkolefionbbcaaGreatZR9
import Derived.Test.YtkkolefionbbcaaGreatZXU
set_option linter.unusedSimpArgs false
set_option linter.unusedVariables false
namespace Go.Proofs.YtkkolefionbbcaaGreat
open Go.RowKit Go.Lib

theorem QM.tight {P : Nat → Prop} {W : World} {b : Nat} {hold : Int} {vh vw vr : Value} {hv : List (Int × Int)} {ws rd : List (Opn × Value × Value)} (h : QM P W b hold vh vw vr hv ws rd) : QM (fun i => P i ∧ i < W.heap.size) W b hold vh vw vr hv ws rd :=
  ⟨h.box, h.rh, h.rw, h.rr, fun e he => (h.we e he).tight, fun e he => (h.re e he).tight, ⟨h.pb, h.box.lt⟩, fun k hk => ⟨h.ph k hk, (h.rh.lt k hk).2⟩, fun k hk => ⟨h.pw k hk, (h.rw.lt k hk).2⟩, fun k hk => ⟨h.pr k hk, h.rr.lt k hk⟩, h.ap, h.hl, h.dj⟩
/-- a queue by what it says, and a row of Dots of one's own that lies apart from it -/
structure CK (w : World) (vv : Value) (hh : List (Int × Int)) (b : Nat) (hold : Int) (hv : List (Int × Int)) (ws rd : List Opn) (W : World) : Prop where
  q : ∃ (P : Nat → Prop) (vh vw vr : Value) (wt rt : List (Opn × Value × Value)), QM P W b hold vh vw vr hv wt rt ∧ wt.map Prod.fst = ws ∧ rt.map Prod.fst = rd ∧ ∀ i, P i → w.heap.size ≤ i ∧ i < W.heap.size ∧ vv.ownBlock ≠ some i
  bel : Below w.heap.size w W
  hav : OwD W w.heap.size vv hh
variable {w W W' : World} {vv : Value} {hh hv : List (Int × Int)} {b : Nat} {hold : Int} {ws rd : List Opn}
theorem CK.below (h : CK w vv hh b hold hv ws rd W) (hb : Below W.heap.size W W') : CK w vv hh b hold hv ws rd W' := by
  obtain ⟨P, vh, vw, vr, wt, rt, q, e1, e2, hp⟩ := h.q
  have hz := hb.size
  exact ⟨⟨P, vh, vw, vr, wt, rt, q.below hb, e1, e2, fun i hi => ⟨(hp i hi).1, by have := (hp i hi).2.1; omega, (hp i hi).2.2⟩⟩, bnext h.bel hb, owns_kp (N := fun _ => False) h.hav (Kp.of_below hb) (fun _ _ e => e)⟩
theorem CK.after {P : Nat → Prop} {hv' : List (Int × Int)} {ws' rd' : List Opn} (h : CK w vv hh b hold hv ws rd W) (hp : ∀ i, P i → w.heap.size ≤ i ∧ i < W.heap.size ∧ vv.ownBlock ≠ some i) (hq : ∃ vh' vw' vr' wt' rt', QM (fun i => P i ∨ W.heap.size ≤ i) W' b hold vh' vw' vr' hv' wt' rt' ∧ wt'.map Prod.fst = ws' ∧ rt'.map Prod.fst = rd') (k : Kp P W W') : CK w vv hh b hold hv' ws' rd' W' := by
  obtain ⟨vh', vw', vr', wt', rt', q', e1, e2⟩ := hq
  have hz := h.bel.size
  refine ⟨⟨_, vh', vw', vr', wt', rt', q'.tight, e1, e2, fun i hi => ?_⟩, k.below h.bel (fun i hi => (hp i hi).1), owns_kp h.hav k (fun i hi e => (hp i e).2.2 hi)⟩
  rcases hi.1 with e | e
  · exact ⟨(hp i e).1, hi.2, (hp i e).2.2⟩
  · exact ⟨by omega, hi.2, fun e' => by have := (h.hav.lt i e').2; omega⟩
theorem CK.off (h : CK w vv hh b hold hv ws rd W) (hd : 0 ≤ hold ∧ hold ≤ 256) (o : Opn) (vd vg : Value) (rdd : RI W vd o.deps) (rgg : RR W vg o.gone) (h1 : o.deps.length ≤ 3000) (h2 : o.gone.length ≤ 3000) (h3 : o.text.size ≤ 3000) (hin : InO o) (hl : ws.length + rd.length ≤ 1000) : Calls Tryz.prog 15 #[.pointer (some ⟨b, 0, none⟩), opA o vd vg] W fun e W' => e = .returned (.tuple #[.int .i64 (offA hold hv ws rd o).1.1, .int .i64 (offA hold hv ws rd o).1.2]) ∧ CK w vv hh b hold (offA hold hv ws rd o).2.1 (offA hold hv ws rd o).2.2.1 (offA hold hv ws rd o).2.2.2 W' := by
  obtain ⟨P, vh, vw, vr, wt, rt, q, e1, e2, hp⟩ := h.q
  have l1 : wt.length = ws.length := by rw [← e1, List.length_map]
  have l2 : rt.length = rd.length := by rw [← e2, List.length_map]
  refine (Offer_in q o vd vg rdd rgg (by omega) (by omega) (by omega) hin hd (by omega)).mono ?_
  rintro e W' ⟨rfl, hq, k⟩
  rw [e1, e2] at hq
  rw [e1, e2]
  exact ⟨rfl, h.after hp hq k⟩
theorem CK.takeN (h : CK w vv hh b hold hv ws [] W) : Calls Tryz.prog 16 #[.pointer (some ⟨b, 0, none⟩)] W fun e W' => e = .returned (.tuple #[zeroA, .bool false]) ∧ CK w vv hh b hold hv ws [] W' := by
  have h0 := h
  obtain ⟨P, vh, vw, vr, wt, rt, q, e1, e2, hp⟩ := h.q
  have : rt = [] := by simpa using e2
  subst this
  refine (Take_none q).mono ?_
  rintro e W' ⟨rfl, hb⟩
  exact ⟨rfl, h0.below hb⟩
theorem CK.takeS {o : Opn} (h : CK w vv hh b hold hv ws (o :: rd) W) (hl : rd.length ≤ 1000) : Calls Tryz.prog 16 #[.pointer (some ⟨b, 0, none⟩)] W fun e W' => ∃ ad cd ag cg, e = .returned (.tuple #[.agg #[.int .i64 o.ds, .int .i64 o.dq, .slice ad o.deps.length cd, .int .i64 o.kind, .int .i64 o.it, .int .i64 o.is, .int .i64 o.rt, .int .i64 o.rs, .string o.text, .slice ag o.gone.length cg, .int .i64 o.site], .bool true]) ∧ RI W' (.slice ad o.deps.length cd) o.deps ∧ o.deps.length ≤ 1000000 ∧ InO o ∧ CK w vv hh b hold hv ws rd W' := by
  have h0 := h
  obtain ⟨P, vh, vw, vr, wt, rt, q, e1, e2, hp⟩ := h.q
  cases rt with
  | nil => simp at e2
  | cons x rt =>
    simp only [List.map_cons, List.cons.injEq] at e2
    obtain ⟨rfl, e2⟩ := e2
    have l2 : rt.length = rd.length := by rw [← e2, List.length_map]
    refine (Take_some q (by omega)).mono ?_
    rintro e W' ⟨rfl, ⟨vr', q'⟩, hoe, k⟩
    obtain ⟨ad, cd, f1⟩ := OwD.form hoe.d
    obtain ⟨ag, cg, f2⟩ := OwR.form hoe.g
    refine ⟨ad, cd, ag, cg, by rw [f1, f2]; rfl, ?_, hoe.s1, hoe.inn, h0.after hp ⟨vh, vw, vr', wt, rt, q'.mono (fun i hi => .inl hi), e1, e2⟩ k⟩
    rw [← f1]
    exact OwD.row hoe.d
theorem CK.waits (h : CK w vv hh b hold hv ws rd W) (hl : ws.length ≤ 1000) : Calls Tryz.prog 18 #[.pointer (some ⟨b, 0, none⟩)] W fun e W' => ∃ a c, e = .returned (.slice a ws.length c) ∧ RI W' (.slice a ws.length c) (sortI (ws.map dotO)) ∧ Below W.heap.size W W' := by
  obtain ⟨P, vh, vw, vr, wt, rt, q, ew, er, hp⟩ := h.q
  have hl' : wt.length = ws.length := by rw [← ew, List.length_map]
  refine (Waits_in q (by omega)).mono ?_
  rintro e W' ⟨v', rfl, ho, hb⟩
  have e1 : dotsT wt = ws.map dotO := by rw [← ew, List.map_map]; rfl
  rw [e1] at ho
  obtain ⟨a, c, rfl⟩ := owns_form ho
  have e2 : (sortI (ws.map dotO)).length = wt.length := by rw [(sortI_perm _).length_eq, List.length_map, hl']
  rw [← hl']
  refine ⟨a, c, rfl, ?_, hb⟩
  unfold RI
  rw [e2]
  exact RC.of_owns ho
theorem CK.free (h : CK w vv hh b hold hv ws rd W) (hd : 0 ≤ hold ∧ hold ≤ 256) (hl : ws.length ≤ 1000) : Calls Tryz.prog 19 #[.pointer (some ⟨b, 0, none⟩)] W fun e W' => e = .returned (.int .i64 (hold - (ws.length : Nat))) ∧ Below W.heap.size W W' := by
  obtain ⟨P, vh, vw, vr, wt, rt, q, ew, er, hp⟩ := h.q
  have hl' : wt.length = ws.length := by rw [← ew, List.length_map]
  have := Free_in q hd (by omega)
  rw [hl'] at this
  exact this
theorem CK.vec (h : CK w vv hh b hold hv ws rd W) : Calls Tryz.prog 20 #[.pointer (some ⟨b, 0, none⟩)] W fun e W' => ∃ a c, e = .returned (.slice a hv.length c) ∧ RI W' (.slice a hv.length c) hv ∧ hv.length ≤ 1000000 ∧ Below W.heap.size W W' := by
  obtain ⟨P, vh, vw, vr, wt, rt, q, ew, er, hp⟩ := h.q
  refine (Vector_in q).mono ?_
  rintro e W' ⟨v', rfl, ho, hb⟩
  obtain ⟨a, c, rfl⟩ := OwD.form ho
  exact ⟨a, c, rfl, OwD.row ho, q.hl, hb⟩
theorem CK.hlen (h : CK w vv hh b hold hv ws rd W) : hv.length ≤ 1000000 := by
  obtain ⟨P, vh, vw, vr, wt, rt, q, _⟩ := h.q
  exact q.hl
/-- another row in its place -/
theorem CK.have' {v2 : Value} {h2 : List (Int × Int)} (h : CK w vv hh b hold hv ws rd W) (hb : Below W.heap.size W W') (ho : OwD W' W.heap.size v2 h2) : CK w v2 h2 b hold hv ws rd W' := by
  obtain ⟨P, vh, vw, vr, wt, rt, q, e1, e2, hp⟩ := h.q
  have hz := hb.size
  have hw := h.bel.size
  exact ⟨⟨P, vh, vw, vr, wt, rt, q.below hb, e1, e2, fun i hi => ⟨(hp i hi).1, by have := (hp i hi).2.1; omega, fun e => by have := (ho.lt i e).1; have := (hp i hi).2.1; omega⟩⟩, bnext h.bel hb, OwD.base ho hw⟩

/-- able: an operation of that Dot was offered that cannot be delivered -/
def Bad (d : Int × Int) (hh : List (Int × Int)) (s : Stp) : Prop := dotO s.op = d ∧ chkO s.op = 0 ∧ canO hh s.op = false
set_option maxRecDepth 100000 in
set_option maxHeartbeats 8000000 in
theorem able_in (a : Option Addr) (n c : Nat) (ss : List Stp) (d0 d1 : Int) (v : Value) (hh : List (Int × Int)) (w : World) (h : RC w (.slice a n c) ss.length (flat encS ss)) (hn : ss.length = n) (hs : ∀ s ∈ ss, StW w s) (hsm : ∀ s ∈ ss, s.op.deps.length ≤ 3000 ∧ s.op.gone.length ≤ 3000 ∧ s.op.text.size ≤ 3000) (hn3 : n ≤ 300) (hv : RI w v hh) (hl : hh.length ≤ 1000000) (hbad : ∃ s ∈ ss, Bad (d0, d1) hh s) :
    Calls Tryz.prog 26 #[.slice a n c, .agg #[.int .i64 d0, .int .i64 d1], v] w fun e W => e = .returned (.bool false) ∧ Below w.heap.size w W := by
  obtain ⟨av, cv, rfl⟩ := RI.form hv
  obtain ⟨X0, hX0⟩ : ∃ X0, w.alloc (.cells #[.int .i64 d0, .int .i64 d1] 28) = X0 := ⟨_, rfl⟩
  have b0 : Below w.heap.size w X0 := by rw [← hX0]; exact ballc (Below.refl _ _) _
  have B0 : Bx X0 w.heap.size 28 #[.int .i64 d0, .int .i64 d1] := by rw [← hX0]; exact Bx.new _ _ _
  have H := hide (RC.below h b0)
  have Hn := hide hn
  have Hs := hide (fun s hs' => (hs s hs').below b0)
  have Hsm := hide hsm
  have Hv := hide (hv.below b0)
  have Hbad := hide hbad
  have HB := hide b0
  have HB0 := hide B0
  obtain ⟨bd, hbd⟩ : ∃ bd, w.heap.size = bd := ⟨_, rfl⟩
  rw [hbd] at HB0
  obtain ⟨m, hm⟩ : ∃ m, hh.length = m := ⟨_, rfl⟩
  rw [hm] at Hv hl ⊢
  have Hm := hide hm
  clear h hn hs hsm hv hbad b0 B0 hm
  go_enter Tryz.func26, Tryz.ntmps26
  go_wp2
  clear hX0 hbd
  go_loopw [7, 8] (fun sv iv wr => ∃ (i : Nat) (sb : Bool), iv = .int .i64 (i : Nat) ∧ sv = .bool sb ∧ i ≤ n ∧ Hid ((∀ j s, j < i → ss[j]? = some s → ¬ Bad (d0, d1) hh s) ∧ Below X0.heap.size X0 wr)) (fun sv iv _ => n - (RowKit.intOf iv).toNat)
  case atStart => exact ⟨0, false, rfl, rfl, by omega, hide ⟨fun j s hj => absurd hj (by omega), Below.refl _ _⟩⟩
  case round =>
    obtain ⟨i, sb, rfl, rfl, hi, HI⟩ := hrel
    by_cases hlt : i < n
    rotate_left
    · exfalso
      obtain ⟨s, hs', hb'⟩ := unhide Hbad
      obtain ⟨j, hj, ej⟩ := List.getElem_of_mem hs'
      exact (unhide HI).1 j s (by have := unhide Hn; omega) (by rw [List.getElem?_eq_getElem hj, ej]) hb'
    have hlt' : (i : Int) < (n : Int) := by omega
    obtain ⟨s, hx⟩ : ∃ s, ss[i]? = some s := ⟨_, List.getElem?_eq_getElem (by rw [unhide Hn]; exact hlt)⟩
    obtain ⟨g0, off, rfl, hg0, hc⟩ := rs_at (RC.below (unhide H) (unhide HI).2) hx
    have hst := (unhide Hs s (List.mem_of_getElem? hx)).below (unhide HI).2
    have hsm := unhide Hsm s (List.mem_of_getElem? hx)
    obtain ⟨ad, cd, hvd⟩ := hst.d
    obtain ⟨ag, cg, hvg⟩ := hst.g
    have q0 := hc 0 _ rfl
    have q1 := hc 1 _ rfl
    have q2 := hc 2 _ rfl
    have q3 := hc 3 _ rfl
    have q4 := hc 4 _ rfl
    have q5 := hc 5 _ rfl
    have q6 := hc 6 _ rfl
    have q7 := hc 7 _ rfl
    have q8 := hc 8 _ rfl
    have q9 := hc 9 _ rfl
    have q10 := hc 10 _ rfl
    rw [hvd] at q2
    rw [hvg] at q9
    simp only [Nat.add_zero] at q0
    obtain ⟨o, ho⟩ : ∃ o, s.op = o := ⟨_, rfl⟩
    have hdR := hst.rd
    have hgR := hst.rg
    have hinn := hst.inn
    rw [hvd] at hdR
    rw [hvg] at hgR
    rw [ho] at q0 q1 q2 q3 q4 q5 q6 q7 q8 q9 q10 hdR hgR hinn hsm
    obtain ⟨V, hV⟩ : ∃ V, wr.alloc (.cells #[.int .i64 o.ds, .int .i64 o.dq, .slice ad o.deps.length cd, .int .i64 o.kind, .int .i64 o.it, .int .i64 o.is, .int .i64 o.rt, .int .i64 o.rs, .string o.text, .slice ag o.gone.length cg, .int .i64 o.site] 42) = V := ⟨_, rfl⟩
    have bV : Below wr.heap.size wr V := by rw [← hV]; exact ballc (Below.refl _ _) _
    have BV : Bx V wr.heap.size 42 #[.int .i64 o.ds, .int .i64 o.dq, .slice ad o.deps.length cd, .int .i64 o.kind, .int .i64 o.it, .int .i64 o.is, .int .i64 o.rt, .int .i64 o.rs, .string o.text, .slice ag o.gone.length cg, .int .i64 o.site] := by rw [← hV]; exact Bx.new _ _ _
    have bXV := bnext (unhide HI).2 bV
    have BD := (unhide HB0).below bXV
    obtain ⟨v0, v1, v2, v3, v4, v5, v6, v7, v8, v9, v10⟩ := cells_op BV
    have e0 : V.cell? ⟨bd, 0, none⟩ = some (.int .i64 d0) := BD.cell 0 _ rfl
    have e1 : V.cell? ⟨bd, 1, none⟩ = some (.int .i64 d1) := BD.cell 1 _ rfl
    have HCk := hide (rCheck_in o ad ag cd cg V (hdR.below bV) (RC.below hgR bV) (hinn.fit (by omega) (by omega) (by omega)) (by omega) (by omega) (by omega))
    have Hx := hide hx
    have Ho := hide ho
    have HdV := hide (hdR.below bV)
    have HBV := hide BV
    have HBD := hide BD
    have HbV := hide bXV
    have hdl := hsm.1
    have hqq : ∀ W, (binOp .neq 28 (.agg #[.int .i64 o.ds, .int .i64 o.dq]) (.agg #[.int .i64 d0, .int .i64 d1])).run Tryz.prog W = .ok (.bool (!decide ((o.ds, o.dq) = (d0, d1)))) W := fun W => neqD o.ds o.dq d0 d1 W
    obtain ⟨bo, hbo⟩ : ∃ bo, wr.heap.size = bo := ⟨_, rfl⟩
    rw [hbo] at v0 v1 v2 v3 v4 v5 v6 v7 v8 v9 v10 HBV
    clear hx ho hc hst hsm hvd hvg hdR hgR hinn bV BV bXV BD
    by_cases hdot : (o.ds, o.dq) = (d0, d1)
    rotate_left
    · rw [decide_eq_false hdot] at hqq
      have Hnb : Hid (¬ Bad (d0, d1) hh s) := fun e => hdot (by rw [← e.1, unhide Ho]; rfl)
      clear hdot HCk
      go_wp2
      go_roundw
      case rel =>
        refine ⟨i + 1, sb, by go_num, rfl, by omega, hide ⟨fun j s' hj hs' => ?_, unhide HbV⟩⟩
        by_cases ej : j = i
        · subst ej; rw [unhide Hx] at hs'; cases hs'; exact unhide Hnb
        · exact (unhide HI).1 j s' (by omega) hs'
      case measure => show n - ((i : Int) + 1).toNat < n - ((i : Nat) : Int).toNat; omega
    rw [decide_eq_true hdot] at hqq
    have Hdot := hide hdot
    obtain ⟨rfl, rfl⟩ : o.ds = d0 ∧ o.dq = d1 := by simpa using hdot
    clear hdot
    obtain ⟨ck, hck⟩ : ∃ ck, chkO o = ck := ⟨_, rfl⟩
    rw [hck] at HCk
    have Hck := hide hck
    clear hck
    go_wp2_with fail
    refine (unhide HCk).mono ?_
    rintro e W1 ⟨rfl, b1⟩
    have HB1 := hide (bnext (unhide HbV) b1)
    have hV1 := (unhide HBV).below b1
    have hD1 := (unhide HBD).below b1
    have HdV1 := hide ((unhide HdV).below b1)
    have p1 : W1.cell? ⟨bo, 1, none⟩ = some (.int .i64 o.dq) := hV1.cell 1 _ rfl
    have p2 : W1.cell? ⟨bo, 2, none⟩ = some (.slice ad o.deps.length cd) := hV1.cell 2 _ rfl
    have p0 : W1.cell? ⟨bd, 0, none⟩ = some (.int .i64 o.ds) := hD1.cell 0 _ rfl
    clear HCk hV1 hD1 b1 v0 v1 v2 v3 v4 v5 v6 v7 v8 v9 v10 e0 e1 q0 q1 q2 q3 q4 q5 q6 q7 q8 q9 q10 hV hbo HBV HBD HdV
    by_cases hc0 : ck = 0
    rotate_left
    · have hc0' : (ck != 0) = true := by simpa using hc0
      have Hnb : Hid (¬ Bad (o.ds, o.dq) hh s) := fun e => hc0 (by rw [← unhide Hck, ← unhide Ho]; exact e.2.1)
      clear hc0
      go_wp2
      go_roundw
      case rel =>
        refine ⟨i + 1, sb, by go_num, rfl, by omega, hide ⟨fun j s' hj hs' => ?_, unhide HB1⟩⟩
        by_cases ej : j = i
        · subst ej; rw [unhide Hx] at hs'; cases hs'; exact unhide Hnb
        · exact (unhide HI).1 j s' (by omega) hs'
      case measure => show n - ((i : Int) + 1).toNat < n - ((i : Nat) : Int).toNat; omega
    subst hc0
    have hv1 := (unhide Hv).below (unhide HB1)
    have HG := hide (fun (W : World) (hb : Below W1.heap.size W1 W) => refGet_in (.slice av m cv) hh o.ds W (hv1.below hb) (by have := unhide Hm; omega))
    have HCo := hide (fun (W : World) (hb : Below W1.heap.size W1 W) => refCovers_in (.slice av m cv) (.slice ad o.deps.length cd) hh o.deps W (hv1.below hb) ((unhide HdV1).below hb) (by have := unhide Hm; omega) (by omega))
    have mixed : Tryz.prog.follows .mixedOrders = true := by kernel_rfl
    have hne := BelowOf.ne W1
    have k1 : ∀ p : BelowOf W1, p.w.cell? ⟨bo, 1, none⟩ = some (.int .i64 o.dq) := fun p => cell_below p1 p.h
    have k2 : ∀ p : BelowOf W1, p.w.cell? ⟨bo, 2, none⟩ = some (.slice ad o.deps.length cd) := fun p => cell_below p2 p.h
    have k0 : ∀ p : BelowOf W1, p.w.cell? ⟨bd, 0, none⟩ = some (.int .i64 o.ds) := fun p => cell_below p0 p.h
    have hgb : 0 ≤ getV hh o.ds ∧ getV hh o.ds ≤ 2147483647 := by
      unfold getV
      split
      · exact ⟨(sy_good hh).lo _, (sy_good hh).hi _⟩
      · omega
    obtain ⟨G, hG⟩ : ∃ G, getV hh o.ds = G := ⟨_, rfl⟩
    rw [hG] at HG hgb
    have hGw : IntKind.i64.wrap (G + 1) = G + 1 := by simp only [IntKind.wrap_i64]; omega
    obtain ⟨Cv, hCv⟩ : ∃ Cv, cov (sy hh) (sy o.deps) = Cv := ⟨_, rfl⟩
    rw [hCv] at HCo
    have hcan : canO hh o = (decide (G + 1 = o.dq) && Cv) := by unfold canO; rw [hG, hCv]
    have Hcan := hide hcan
    clear hv1 hG hCv hcan p0 p1 p2
    by_cases hseq : G + 1 = o.dq
    rotate_left
    · have hs1 : (o.dq != G + 1) = true := by rw [bne_iff_ne]; omega
      clear hseq
      go_wp2_with fail
      refine wp_region_quiet_below mixed (by kernel_rfl) ?_
      repeat (any_goals (first | go_big_quiet_step ((first | (go_at_call 23; exact below_of (unhide HG _ (BelowOf.h _))) | (go_at_call 22; exact below_of (unhide HCo _ (BelowOf.h _))))) | quiet_step ((first | (go_at_call 23; exact below_of (unhide HG _ (BelowOf.h _))) | (go_at_call 22; exact below_of (unhide HCo _ (BelowOf.h _)))))))
      all_goals (refine wpQuiet_nil ?_; intro _ hw'; obtain ⟨p, hw''⟩ := hw'; subst hw'')
      have HBW := hide (bnext (unhide HB1) p.h)
      clear hne
      go_wp2
      go_ret
      exact ⟨rfl, bnext (unhide HB) (unhide HBW)⟩
    have hs1 : (o.dq != G + 1) = false := by rw [bne_eq_false_iff_eq]; omega
    cases Cv with
    | false =>
      clear hseq
      go_wp2_with fail
      refine wp_region_quiet_below mixed (by kernel_rfl) ?_
      repeat (any_goals (first | go_big_quiet_step ((first | (go_at_call 23; exact below_of (unhide HG _ (BelowOf.h _))) | (go_at_call 22; exact below_of (unhide HCo _ (BelowOf.h _))))) | quiet_step ((first | (go_at_call 23; exact below_of (unhide HG _ (BelowOf.h _))) | (go_at_call 22; exact below_of (unhide HCo _ (BelowOf.h _)))))))
      all_goals (refine wpQuiet_nil ?_; intro _ hw'; obtain ⟨p, hw''⟩ := hw'; subst hw'')
      have HBW := hide (bnext (unhide HB1) p.h)
      clear hne
      go_wp2
      go_ret
      exact ⟨rfl, bnext (unhide HB) (unhide HBW)⟩
    | true =>
      have Hnb : Hid (¬ Bad (o.ds, o.dq) hh s) := fun e => by
        have := e.2.2
        rw [unhide Ho, unhide Hcan, decide_eq_true hseq] at this
        cases this
      clear hseq
      go_wp2_with fail
      refine wp_region_quiet_below mixed (by kernel_rfl) ?_
      repeat (any_goals (first | go_big_quiet_step ((first | (go_at_call 23; exact below_of (unhide HG _ (BelowOf.h _))) | (go_at_call 22; exact below_of (unhide HCo _ (BelowOf.h _))))) | quiet_step ((first | (go_at_call 23; exact below_of (unhide HG _ (BelowOf.h _))) | (go_at_call 22; exact below_of (unhide HCo _ (BelowOf.h _)))))))
      all_goals (refine wpQuiet_nil ?_; intro _ hw'; obtain ⟨p, hw''⟩ := hw'; subst hw'')
      have HBW := hide (bnext (unhide HB1) p.h)
      clear hne
      go_wp2
      go_roundw
      case rel =>
        refine ⟨i + 1, true, by go_num, rfl, by omega, hide ⟨fun j s' hj hs' => ?_, unhide HBW⟩⟩
        by_cases ej : j = i
        · subst ej; rw [unhide Hx] at hs'; cases hs'; exact unhide Hnb
        · exact (unhide HI).1 j s' (by omega) hs'
      case measure => show n - ((i : Int) + 1).toNat < n - ((i : Nat) : Int).toNat; omega

end Go.Proofs.YtkkolefionbbcaaGreat
