/-
  A queue: release.
-/
import Derived.Test.YtkkolefionbbcaaGreatZCQC
import Derived.WalkMore
set_option linter.unusedSimpArgs false
set_option linter.unusedVariables false
namespace Go.Proofs.YtkkolefionbbcaaGreat
open Go.RowKit Go.Lib

variable {P N : Nat → Prop} {w W W' : World} {b : Nat} {hold : Int} {vh vw vr : Value} {hv : List (Int × Int)} {ws rd : List (Opn × Value × Value)}
theorem QM.ty (h : QM P W b hold vh vw vr hv ws rd) : ∀ i, (i = b ∨ vw.ownBlock = some i) → ∃ t cur, Bx W i t cur ∧ t ≠ 28 ∧ t ≠ 72 := by
  intro i e
  rcases e with rfl | e
  · exact ⟨_, _, h.box, by decide, by decide⟩
  · obtain ⟨_, (⟨e1, _⟩ | ⟨g, cap, cur', e1, _, hg, _⟩)⟩ := h.rw
    · rw [e1] at e; cases e
    · rw [e1] at e
      simp [Value.ownBlock] at e
      subst e
      exact ⟨_, _, hg, by decide, by decide⟩
/-- release, on what lies in memory -/
def relT : Nat → List (Int × Int) → List (Opn × Value × Value) → List (Opn × Value × Value) → List (Int × Int) × List (Opn × Value × Value) × List (Opn × Value × Value)
  | 0, hv, ws, rd => (hv, ws, rd)
  | f + 1, hv, ws, rd => match nxtI hv (ws.map Prod.fst) with
    | none => (hv, ws, rd)
    | some i => match ws[i]? with
      | none => (hv, ws, rd)
      | some x => relT f (addV hv (dotO x.1)).1 (cutI ws i) (rd ++ [x])
theorem relT_map : ∀ f hv ws rd, ((relT f hv ws rd).1, (relT f hv ws rd).2.1.map Prod.fst, (relT f hv ws rd).2.2.map Prod.fst) = relF f hv (ws.map Prod.fst) (rd.map Prod.fst)
  | 0, _, _, _ => rfl
  | f + 1, hv, ws, rd => by
    unfold relT relF
    cases hq : nxtI hv (ws.map Prod.fst) with
    | none => rfl
    | some i =>
      simp only [List.getElem?_map]
      cases hx : ws[i]? with
      | none => rfl
      | some x =>
        have := relT_map f (addV hv (dotO x.1)).1 (cutI ws i) (rd ++ [x])
        rw [cutI_map, List.map_append] at this
        exact this
/-- none of those below can be delivered -/
def NoB (hv : List (Int × Int)) (ws : List (Opn × Value × Value)) (i : Nat) : Prop := ∀ j, j < i → ∀ e, ws[j]? = some e → canO hv e.1 = false
theorem nxt_none (h : NoB hv ws ws.length) : nxtI hv (ws.map Prod.fst) = none := by
  unfold nxtI
  rw [List.findIdx?_eq_none_iff]
  intro x hx
  obtain ⟨e, he, rfl⟩ := List.mem_map.1 hx
  obtain ⟨j, hj, ej⟩ := List.getElem_of_mem he
  exact h j hj e (by rw [List.getElem?_eq_getElem hj, ej])
theorem nxt_some {i : Nat} {x : Opn × Value × Value} (h : NoB hv ws i) (hx : ws[i]? = some x) (hc : canO hv x.1 = true) : nxtI hv (ws.map Prod.fst) = some i := by
  have hi := (List.getElem?_eq_some_iff.1 hx).1
  unfold nxtI
  rw [List.findIdx?_eq_some_iff_getElem]
  refine ⟨by rw [List.length_map]; exact hi, ?_, fun j hj => ?_⟩
  · rw [List.getElem_map, (List.getElem?_eq_some_iff.1 hx).2]; exact hc
  · have hj' : j < ws.length := by omega
    have := h j hj ws[j] (List.getElem?_eq_getElem hj')
    rw [List.getElem_map]
    simpa using this
/-- a round of release -/
def RelI (P : Nat → Prop) (w : World) (b : Nat) (hold : Int) (L : Nat) (T : List (Int × Int) × List (Opn × Value × Value) × List (Opn × Value × Value)) (m : Nat) (W : World) : Prop := ∃ vh vw vr hv ws rd, QM (fun i => P i ∨ w.heap.size ≤ i) W b hold vh vw vr hv ws rd ∧ ws.length = m ∧ relT ws.length hv ws rd = T ∧ ws.length + rd.length = L ∧ Kp P w W
/-- how many wait -/
def qLen (b : Nat) (W : World) : Nat := match W.cell? ⟨b, 2, none⟩ with | some (.slice _ n _) => n | _ => 0
theorem QM.qlen (h : QM P W b hold vh vw vr hv ws rd) : qLen b W = ws.length := by
  unfold qLen
  rw [h.c2]
  obtain ⟨a, c, e⟩ := owns_form h.rw
  rw [e]
/-- what release leaves -/
def RelA (P : Nat → Prop) (w : World) (b : Nat) (hold : Int) (T : List (Int × Int) × List (Opn × Value × Value) × List (Opn × Value × Value)) (e : Ending) (W : World) : Prop := e = .returned (.tuple #[]) ∧ (∃ vh' vw' vr', QM (fun i => P i ∨ w.heap.size ≤ i) W b hold vh' vw' vr' T.1 T.2.1 T.2.2) ∧ Kp P w W
set_option maxRecDepth 100000 in
set_option maxHeartbeats 4000000 in
theorem release_in (h : QM P w b hold vh vw vr hv ws rd) (hl : ws.length + rd.length ≤ 1000000) :
    Calls Tryz.prog 45 #[.pointer (some ⟨b, 0, none⟩)] w (RelA P w b hold (relT ws.length hv ws rd)) := by
  obtain ⟨T, hT⟩ : ∃ T, relT ws.length hv ws rd = T := ⟨_, rfl⟩
  obtain ⟨L, hL⟩ : ∃ L, ws.length + rd.length = L := ⟨_, rfl⟩
  have Hst : Hid (RelI P w b hold L T ws.length w) := hide ⟨_, _, _, _, _, _, h.mono (fun i hi => .inl hi), rfl, hT, hL, Kp.refl _ _⟩
  have Hpb := hide h.pb
  rw [hT]
  rw [hL] at hl
  generalize ws.length = m0 at Hst
  clear h hT hL
  go_enter Tryz.func45, Tryz.ntmps45
  go_wp2
  go_step3
  go_wp2
  go_step3
  go_wp2
  go_loopw [] (fun wr => Hid (∃ m, RelI P w b hold L T m wr)) (fun wr => qLen b wr)
  case atStart => exact hide ⟨_, unhide Hst⟩
  case round =>
    obtain ⟨W0, rfl⟩ : ∃ W0, W0 = wr := ⟨_, rfl⟩
    obtain ⟨m, vh, vw, vr, hv, ws, rd, hQ, hm, hT, hL, hK⟩ := unhide hrel
    clear hrel
    have hQl := hQ.qlen
    have HQ := hide hQ
    have HT := hide hT
    have HK := hide hK
    have HL := hide hL
    obtain ⟨aw, cw, hvw⟩ := owns_form hQ.rw
    obtain ⟨n, hn⟩ : ∃ n, ws.length = n := ⟨_, rfl⟩
    have Hn := hide hn
    rw [hn] at hvw hQl hL
    subst hvw
    have c2 : W0.cell? ⟨b, 2, none⟩ = some (.slice aw n cw) := hQ.c2
    have Hql := hide hQl
    have hln : n ≤ 1000000 := by omega
    clear hQ hT hK hm hL hn hQl
    go_wp2
    go_loopw [9] (fun u wi => ∃ i : Nat, i ≤ n ∧ u = .int .i64 (i : Nat) ∧ Hid (NoB hv ws i ∧ Below W0.heap.size W0 wi)) (fun u _ => n - (RowKit.intOf u).toNat)
    case atStart => exact ⟨0, Nat.zero_le _, rfl, hide ⟨fun j hj => absurd hj (by omega), Below.refl _ _⟩⟩
    case round =>
      obtain ⟨i, hi, rfl, HI⟩ := hrel
      by_cases hlt : i < n
      · have hlt' : (i : Int) < (n : Int) := by omega
        have hil : i < ws.length := by rw [unhide Hn]; exact hlt
        obtain ⟨⟨o, vd, vg⟩, hx⟩ : ∃ e, ws[i]? = some e := ⟨_, List.getElem?_eq_getElem hil⟩
        have hQi := (unhide HQ).below (unhide HI).2
        obtain ⟨g, off, rfl, hg, hc⟩ := RO.at hQi.row hx
        have hoe := hQi.we _ (List.mem_of_getElem? hx)
        obtain ⟨ad, cd, hvd⟩ := OwD.form hoe.d
        obtain ⟨ag, cg, hvg⟩ := OwR.form hoe.g
        simp only at hvd hvg
        subst hvd hvg
        have hri := OwD.row hoe.d
        have hs1 : o.deps.length ≤ 1000000 := hoe.s1
        obtain ⟨nd, hnd⟩ : ∃ nd, o.deps.length = nd := ⟨_, rfl⟩
        obtain ⟨ng, hng⟩ : ∃ ng, o.gone.length = ng := ⟨_, rfl⟩
        simp only [hnd, hng] at hc hoe hri hx
        have q0 : wr.cell? ⟨g, off + i * 11, none⟩ = some (.int .i64 o.ds) := hc 0 _ rfl
        have q1 : wr.cell? ⟨g, off + i * 11 + 1, none⟩ = some (.int .i64 o.dq) := hc 1 _ rfl
        have q2 : wr.cell? ⟨g, off + i * 11 + 2, none⟩ = some (.slice ad nd cd) := hc 2 _ rfl
        have q3 : wr.cell? ⟨g, off + i * 11 + 3, none⟩ = some (.int .i64 o.kind) := hc 3 _ rfl
        have q4 : wr.cell? ⟨g, off + i * 11 + 4, none⟩ = some (.int .i64 o.it) := hc 4 _ rfl
        have q5 : wr.cell? ⟨g, off + i * 11 + 5, none⟩ = some (.int .i64 o.is) := hc 5 _ rfl
        have q6 : wr.cell? ⟨g, off + i * 11 + 6, none⟩ = some (.int .i64 o.rt) := hc 6 _ rfl
        have q7 : wr.cell? ⟨g, off + i * 11 + 7, none⟩ = some (.int .i64 o.rs) := hc 7 _ rfl
        have q8 : wr.cell? ⟨g, off + i * 11 + 8, none⟩ = some (.string o.text) := hc 8 _ rfl
        have q9 : wr.cell? ⟨g, off + i * 11 + 9, none⟩ = some (.slice ag ng cg) := hc 9 _ rfl
        have q10 : wr.cell? ⟨g, off + i * 11 + 10, none⟩ = some (.int .i64 o.site) := hc 10 _ rfl
        obtain ⟨X0, hX0⟩ : ∃ X0, wr.alloc (.cells #[.int .i64 o.ds, .int .i64 o.dq, .slice ad nd cd, .int .i64 o.kind, .int .i64 o.it, .int .i64 o.is, .int .i64 o.rt, .int .i64 o.rs, .string o.text, .slice ag ng cg, .int .i64 o.site] 42) = X0 := ⟨_, rfl⟩
        have b0 : Below wr.heap.size wr X0 := by rw [← hX0]; exact ballc (Below.refl _ _) _
        have B0 : Bx X0 wr.heap.size 42 #[.int .i64 o.ds, .int .i64 o.dq, .slice ad nd cd, .int .i64 o.kind, .int .i64 o.it, .int .i64 o.is, .int .i64 o.rt, .int .i64 o.rs, .string o.text, .slice ag ng cg, .int .i64 o.site] := by rw [← hX0]; exact Bx.new _ _ _
        have k0 : X0.cell? ⟨wr.heap.size, 0, none⟩ = some (.int .i64 o.ds) := B0.cell 0 _ rfl
        have k1 : X0.cell? ⟨wr.heap.size, 1, none⟩ = some (.int .i64 o.dq) := B0.cell 1 _ rfl
        have k2 : X0.cell? ⟨wr.heap.size, 2, none⟩ = some (.slice ad nd cd) := B0.cell 2 _ rfl
        have k3 : X0.cell? ⟨wr.heap.size, 3, none⟩ = some (.int .i64 o.kind) := B0.cell 3 _ rfl
        have k4 : X0.cell? ⟨wr.heap.size, 4, none⟩ = some (.int .i64 o.it) := B0.cell 4 _ rfl
        have k5 : X0.cell? ⟨wr.heap.size, 5, none⟩ = some (.int .i64 o.is) := B0.cell 5 _ rfl
        have k6 : X0.cell? ⟨wr.heap.size, 6, none⟩ = some (.int .i64 o.rt) := B0.cell 6 _ rfl
        have k7 : X0.cell? ⟨wr.heap.size, 7, none⟩ = some (.int .i64 o.rs) := B0.cell 7 _ rfl
        have k8 : X0.cell? ⟨wr.heap.size, 8, none⟩ = some (.string o.text) := B0.cell 8 _ rfl
        have k9 : X0.cell? ⟨wr.heap.size, 9, none⟩ = some (.slice ag ng cg) := B0.cell 9 _ rfl
        have k10 : X0.cell? ⟨wr.heap.size, 10, none⟩ = some (.int .i64 o.site) := B0.cell 10 _ rfl
        have hQ0 := hQi.below b0
        have HF := hide (fits_in hQ0 o (.slice ad nd cd) (.slice ag ng cg) (hri.below b0) hs1 ⟨_, _, _, rfl⟩)
        unfold opA at HF
        obtain ⟨R, hR⟩ : ∃ R, canO hv o = R := ⟨_, rfl⟩
        rw [hR] at HF
        have HR := hide hR
        have Hx := hide hx
        have HQ0 := hide hQ0
        have HB0 := hide B0
        have Hoe := hide (hoe.below b0)
        have Hb0 := hide (bnext (unhide HI).2 b0)
        have hwl := hide (show wr.heap.size < X0.heap.size from B0.lt)
        have hwb : Hid (wr.heap.size ≠ b) := hide (by have := hQi.box.lt; omega)
        have hww : Hid ((Value.slice (some ⟨g, off, none⟩) n cw).ownBlock ≠ some wr.heap.size) := hide (fun e => by have := (hQi.rw.lt _ e).2; omega)
        clear hQi hoe hri hs1 hnd hng hc hx hQ0 B0 b0 hR
        go_wp2_with fail
        refine (unhide HF).mono ?_
        rintro e W1 ⟨rfl, b1⟩
        have hQ1 := (unhide HQ0).below b1
        have HB1 := hide ((unhide HB0).below b1)
        have Hoe1 := hide ((unhide Hoe).below b1)
        have Hb1 := hide (bnext (unhide Hb0) b1)
        clear HF k0 k1 k2 k3 k4 k5 k6 k7 k8 k9 k10 q0 q1 q2 q3 q4 q5 q6 q7 q8 q9 q10
        cases R with
        | true =>
          have HC := hide (cut_in hQ1 i hil (by have := unhide Hn; omega))
          have HQ1 := hide hQ1
          clear hQ1
          go_wp2_with fail
          refine (unhide HC).mono ?_
          rintro e W2 ⟨rfl, ⟨v2, q2⟩, k2⟩
          have B2 := (unhide HB1).kp k2 (fun e => e.elim (fun e => unhide hwb e) (fun e => unhide hww e))
          have l0 : W2.cell? ⟨wr.heap.size, 0, none⟩ = some (.int .i64 o.ds) := B2.cell 0 _ rfl
          have l1 : W2.cell? ⟨wr.heap.size, 1, none⟩ = some (.int .i64 o.dq) := B2.cell 1 _ rfl
          have l2 : W2.cell? ⟨wr.heap.size, 2, none⟩ = some (.slice ad nd cd) := B2.cell 2 _ rfl
          have l3 : W2.cell? ⟨wr.heap.size, 3, none⟩ = some (.int .i64 o.kind) := B2.cell 3 _ rfl
          have l4 : W2.cell? ⟨wr.heap.size, 4, none⟩ = some (.int .i64 o.it) := B2.cell 4 _ rfl
          have l5 : W2.cell? ⟨wr.heap.size, 5, none⟩ = some (.int .i64 o.is) := B2.cell 5 _ rfl
          have l6 : W2.cell? ⟨wr.heap.size, 6, none⟩ = some (.int .i64 o.rt) := B2.cell 6 _ rfl
          have l7 : W2.cell? ⟨wr.heap.size, 7, none⟩ = some (.int .i64 o.rs) := B2.cell 7 _ rfl
          have l8 : W2.cell? ⟨wr.heap.size, 8, none⟩ = some (.string o.text) := B2.cell 8 _ rfl
          have l9 : W2.cell? ⟨wr.heap.size, 9, none⟩ = some (.slice ag ng cg) := B2.cell 9 _ rfl
          have l10 : W2.cell? ⟨wr.heap.size, 10, none⟩ = some (.int .i64 o.site) := B2.cell 10 _ rfl
          have oe2 := (unhide Hoe1).kt k2 (unhide HQ1).ty
          have hlen := cutI_len ws i hil
          have HD := hide (deliver_in q2 _ oe2 ((unhide HQ).dj.perm ((cutI_perm (unhide Hx)).append_right rd)) (by have := unhide HL; omega))
          unfold opA at HD
          have K2 := hide k2
          clear HC q2 k2 oe2 B2
          go_wp2_with fail
          refine (unhide HD).mono ?_
          rintro e W3 ⟨rfl, ⟨vh', vr', q3⟩, k3⟩
          have hR := unhide HR
          have hNo := (unhide HI).1
          have HN : Hid (RelI P w b hold L T (cutI ws i).length W3) := hide (by
            refine ⟨vh', v2, vr', _, _, _, q3.mono (fun i hi => ?_), rfl, ?_, ?_, ?_⟩
            · rcases hi with hi | hi
              · exact hi
              · right
                have := (unhide HK).size
                have := (unhide Hb1).size
                have := (unhide K2).size
                omega
            · have := unhide HT
              rw [← hlen] at this
              unfold relT at this
              rw [nxt_some hNo (unhide Hx) hR] at this
              simp only [unhide Hx] at this
              exact this
            · have := unhide HL
              rw [List.length_append, List.length_singleton]
              omega
            · refine (((unhide HK).trans (Kp.of_below (N := fun _ => False) (unhide Hb1)) (fun i e => .inl e.elim)).trans (unhide K2) (fun i e => ?_)).trans k3 (fun i e => e)
              rcases e with e | e
              · exact .inl (by rw [e]; exact unhide Hpb)
              · exact (unhide HQ).pw i e)
          have hq3 := q3.qlen
          have HM : Hid (qLen b W3 < qLen b W0) := hide (by rw [hq3, unhide Hql, ← unhide Hn]; omega)
          clear HD q3 k3 hR hNo hq3 l0 l1 l2 l3 l4 l5 l6 l7 l8 l9 l10
          go_wp2
          go_roundw
          case rel => exact hide ⟨_, unhide HN⟩
          case measure => exact unhide HM
        | false =>
          go_wp2
          go_roundw
          case rel =>
            refine ⟨i + 1, by omega, by go_num, hide ⟨fun j hj e he => ?_, unhide Hb1⟩⟩
            by_cases ej : j = i
            · subst ej
              rw [unhide Hx] at he
              cases he
              exact unhide HR
            · exact (unhide HI).1 j (by omega) e he
          case measure => show n - ((i : Int) + 1).toNat < n - ((i : Nat) : Int).toNat; omega
      · have hlt' : ¬ (i : Int) < (n : Int) := by omega
        obtain rfl : i = n := by omega
        go_wp2
        try rw [Exit.noGoto_ret]
        refine bodyPost_ret (results_none rfl _ _ _) rfl ?_
        have hNo := (unhide HI).1
        rw [← unhide Hn] at hNo
        have hTe : T = (hv, ws, rd) := by
          rw [← unhide HT]
          cases hh : ws.length with
          | zero => rfl
          | succ f =>
            unfold relT
            rw [nxt_none hNo]
        rw [hTe]
        exact ⟨rfl, ⟨_, _, _, (unhide HQ).below (unhide HI).2⟩, (unhide HK).trans (Kp.of_below (N := fun _ => False) (unhide HI).2) (fun i e => .inl e.elim)⟩

end Go.Proofs.YtkkolefionbbcaaGreat
