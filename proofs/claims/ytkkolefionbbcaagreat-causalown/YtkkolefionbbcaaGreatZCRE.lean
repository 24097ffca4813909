/-
  The document's own: Offer.
-/
import Derived.Test.YtkkolefionbbcaaGreatZXCRC
import Derived.Test.YtkkolefionbbcaaGreatZXCRP
import Derived.Test.YtkkolefionbbcaaGreatZCQD
import Derived.Test.YtkkolefionbbcaaGreatZR9
import Derived.Deep.RegionLaw
set_option linter.unusedSimpArgs false
set_option linter.unusedVariables false
namespace Go.Proofs.YtkkolefionbbcaaGreat
open Go.RowKit Go.Lib

theorem owns_wk0 {W : World} {B E k n : Nat} {v : Value} {C : List Value} (h : W.ownsRow B E k v n C) : W.ownsRow 0 E k v n C := by
  obtain ⟨h1, h2⟩ := h
  refine ⟨h1, ?_⟩
  rcases h2 with h2 | ⟨g, cap, cur, e, hbg, hg, hc1, hc2, hc3, hc4⟩
  · exact .inl h2
  · exact .inr ⟨g, cap, cur, e, Nat.zero_le _, hg, hc1, hc2, hc3, hc4⟩
theorem owns_wkn {W : World} {B B' E k n : Nat} {v : Value} {C : List Value} (h : W.ownsRow B E k v n C) (hb : B' ≤ B) : W.ownsRow B' E k v n C := by
  obtain ⟨h1, h2⟩ := h
  refine ⟨h1, ?_⟩
  rcases h2 with h2 | ⟨g, cap, cur, e, hbg, hg, hc1, hc2, hc3, hc4⟩
  · exact .inl h2
  · exact .inr ⟨g, cap, cur, e, Nat.le_trans hb hbg, hg, hc1, hc2, hc3, hc4⟩
theorem step_append_eq {ops : Array Oper} {o : Oper} {a : Act} {w w' : World} {K : Act → World → Prop} {Q : Exit → Act → World → Prop} {E : Prop} (hg : o.guard = none) (s x : Operand) (t : TypeId) (hop : o.op = Op.call { callee := Callee.builtin Builtin.append, args := #[s, x], argTypes := #[t, t] })
    (v u v' : Value) (hs : a.eval s = v) (hx : a.eval x = u) (hr : (Builtin.append_ #[t, t] o.type #[v, u]).run Tryz.prog w = .ok v' w') (hK : K (a.put o.dst v') w') : if Region.wanted o (yielded ops a.tmps) = true then Oper.wp Tryz.prog o a w K Q else E := by
  have hw : Region.wanted o (yielded ops a.tmps) = true := by simp [Region.wanted, hg]
  rw [if_pos hw]
  unfold Oper.wp
  simp [execOp, hop, resolve, invoke, builtin, hs, hx, hr, Result.andThen]
  exact hK
variable {w0 : World} {P N : Nat → Prop} {w W W' : World} {b : Nat} {hold : Int} {vh vw vr : Value} {hv : List (Int × Int)} {ws rd : List (Opn × Value × Value)}
/-- what Offer answers and leaves -/
def OffR (w0 : World) (P : Nat → Prop) (w : World) (b : Nat) (hold : Int) (hv : List (Int × Int)) (ws rd : List Opn) (o : Opn) (e : Ending) (W : World) : Prop := e = .returned (.tuple #[.int .i64 (offA hold hv ws rd o).1.1, .int .i64 (offA hold hv ws rd o).1.2]) ∧ (∃ vh' vw' vr' ws' rd', QD w0 (fun i => P i ∨ w.heap.size ≤ i) W b hold vh' vw' vr' (offA hold hv ws rd o).2.1 ws' rd' ∧ ws'.map Prod.fst = (offA hold hv ws rd o).2.2.1 ∧ rd'.map Prod.fst = (offA hold hv ws rd o).2.2.2) ∧ Kp P w W
theorem QD.qlen (h : QD w0 P W b hold vh vw vr hv ws rd) : qLen b W = ws.length := by
  unfold qLen
  rw [h.c2]
  obtain ⟨a, c, e⟩ := owns_form h.rw
  rw [e]
theorem QD.ltD (h : QD w0 P W b hold vh vw vr hv ws rd) : QD w0 (fun i => P i ∧ i < W.heap.size) W b hold vh vw vr hv ws rd := ⟨h.box, h.rh, h.rw, h.rr, fun e he => (h.we e he).any, fun e he => (h.re e he).any, ⟨h.pb, h.box.lt⟩, fun k hk => ⟨h.ph k hk, (World.ownsRow.lt h.rh k hk).2⟩, fun k hk => ⟨h.pw k hk, (h.rw.lt k hk).2⟩, fun k hk => ⟨h.pr k hk, h.rr.lt k hk⟩, h.ap, h.hl⟩
/-- what waits lies in another row now -/
theorem QD.neww {v' : Value} {ws' : List (Opn × Value × Value)} (h : QD w0 P W b hold vh vw vr hv ws rd) (k : Kp (fun i => vw.ownBlock = some i) W W') (ho : W'.ownsRow 0 42 11 v' ws'.length (flat encO ws')) (hv' : ∀ i, v'.ownBlock = some i → vw.ownBlock = some i ∨ W.heap.size ≤ i) (hwe : ∀ e ∈ ws', ED w0 P W e) : QD w0 (fun i => P i ∨ W.heap.size ≤ i) (W'.setCell ⟨b, 2, none⟩ v') b hold vh v' vr hv ws' rd ∧ Kp P W (W'.setCell ⟨b, 2, none⟩ v') := by
  have ks := Kp.set (N := fun i => i = b) W' ⟨b, 2, none⟩ v' rfl
  have bx' : Bx W' b 51 #[.int .i64 hold, vh, vw, vr] := h.box.kp k (own_ne_box h.rw h.box (by decide))
  have rh' := owns_kp h.rh k (fun i hi e => own_ne_own h.rh h.rw (by decide) i hi e)
  have rr' := h.rr.kp k (fun i hi e => h.ap i e hi)
  refine ⟨⟨by have := bx'.set 2 v'; simpa using this, owns_kp rh' ks (fun i hi e => own_ne_box rh' bx' (by decide) (by rw [hi, e])), owns_kp ho ks (fun i hi e => own_ne_box ho bx' (by decide) (by rw [hi, e])), rr'.kp ks (fun i hi e => ?_), fun e he => (hwe e he).any, fun e he => (h.re e he).any, .inl h.pb, fun i hi => .inl (h.ph i hi), fun i hi => ?_, fun i hi => .inl (h.pr i hi), fun i hi hr => ?_, h.hl⟩, (k.wk (fun i hi => h.pw i hi)).trans ks (fun i hi => .inl (by rw [hi]; exact h.pb))⟩
  · obtain ⟨cur, hc⟩ := rr'.kind _ hi
    exact Bx.apart hc bx' (by decide) e
  · rcases hv' i hi with e | e
    · exact .inl (h.pw i e)
    · exact .inr e
  · rcases hv' i hi with e | e
    · exact h.ap i e hr
    · have := h.rr.lt i hr; omega
/-- the farthest is cut, the offered one stands behind -/
theorem off_last {k q : Nat} {v1 : Value} {V1 : World} {e : Opn × Value × Value} (hq : QD w0 P W b hold vh vw vr hv ws rd) (hqw : q < ws.length) (hl : ws.length ≤ 900000) (he : ED w0 P W e) (b1 : Below W.heap.size W V1) (o1 : V1.ownsRow W.heap.size 42 11 v1 (cutI ws q).length (flat encO (cutI ws q))) (bx : Bx V1 k 42 (encO e).toArray) :
    ∃ a c W6, (Builtin.append_ #[47, 47] 47 #[v1, .slice (some ⟨k, 0, none⟩) 1 1]).run Tryz.prog V1 = .ok (.slice a ws.length c) W6 ∧ W6.cell? ⟨b, 2, none⟩ = some vw ∧ W6.frozen? ⟨b, 2, none⟩ = false ∧ b < W6.heap.size ∧ Hid (QD w0 (fun i => P i ∨ W.heap.size ≤ i) (W6.setCell ⟨b, 2, none⟩ (.slice a ws.length c)) b hold vh (.slice a ws.length c) vr hv (cutI ws q ++ [e]) rd ∧ Kp P W (W6.setCell ⟨b, 2, none⟩ (.slice a ws.length c))) := by
  have hcl := cutI_len ws q hqw
  obtain ⟨v6, W6, hr, ho6, hg6, hat⟩ := append_op V1 47 W.heap.size v1 (cutI ws q) e k o1 bx he.one b1.size (by omega)
  have b6 : Below W.heap.size W W6 := b1.grown hg6 b1.size (fun i hi => (o1.lt i hi).1)
  have hll : (cutI ws q ++ [e]).length = ws.length := by rw [List.length_append]; simpa using hcl
  obtain ⟨a6, c6, hv6⟩ := owns_form ho6
  rw [hll] at hv6
  subst hv6
  have bx6 := hq.box.below b6
  refine ⟨a6, c6, W6, hr, bx6.cell 2 _ rfl, bx6.frozen 2, bx6.lt, hq.neww (Kp.of_below b6) (owns_wk0 ho6) (fun i hi => ?_) (fun x hx => ?_)⟩
  · exact .inr (ho6.lt i hi).1
  · rcases List.mem_append.1 hx with hx | hx
    · exact hq.we x (cutI_mem hx)
    · simp only [List.mem_singleton] at hx
      subst hx
      exact he
set_option maxRecDepth 100000 in
set_option maxHeartbeats 16000000 in
theorem refOffer_in (h : QD w0 P w b hold vh vw vr hv ws rd) (hw : Below w0.heap.size w0 w) (hlo : ∀ i, P i → w0.heap.size ≤ i) (o : Opn) (vd vg : Value) (hx : ED w0 P w (o, vd, vg)) (hh : 0 ≤ hold ∧ hold ≤ 256) (hl : ws.length + rd.length ≤ 900000) (hdd : DD (ws.map Prod.fst)) :
    Calls Tryz.prog 36 #[.pointer (some ⟨b, 0, none⟩), opA o vd vg] w (OffR w0 P w b hold hv (ws.map Prod.fst) (rd.map Prod.fst) o) := by
  obtain ⟨ad, cd, hvd⟩ := RI.form hx.d
  obtain ⟨ag, cg, hvg⟩ := RC.form hx.g
  simp only at hvd hvg
  subst hvd hvg
  have HA : Hid (∀ r er hv' ws' rd' W, (∃ vh' vw' vr' wt rt, QD w0 (fun i => P i ∨ w.heap.size ≤ i) W b hold vh' vw' vr' hv' wt rt ∧ wt.map Prod.fst = ws' ∧ rt.map Prod.fst = rd') → Kp P w W → offA hold hv (ws.map Prod.fst) (rd.map Prod.fst) o = ((r, er), hv', ws', rd') → OffR w0 P w b hold hv (ws.map Prod.fst) (rd.map Prod.fst) o (.returned (.tuple #[.int .i64 r, .int .i64 er])) W) := hide (fun r er hv' ws' rd' W q k e => by
    unfold OffR
    rw [e]
    exact ⟨rfl, q, k⟩)
  have hdl := hx.d
  have hgl := hx.g
  simp only at hdl hgl
  obtain ⟨nd, hnd⟩ : ∃ nd, o.deps.length = nd := ⟨_, rfl⟩
  obtain ⟨ng, hng⟩ : ∃ ng, o.gone.length = ng := ⟨_, rfl⟩
  obtain ⟨X0, hX0⟩ : ∃ X0, w.alloc (.cells #[.int .i64 o.ds, .int .i64 o.dq, .slice ad nd cd, .int .i64 o.kind, .int .i64 o.it, .int .i64 o.is, .int .i64 o.rt, .int .i64 o.rs, .string o.text, .slice ag ng cg, .int .i64 o.site] 42) = X0 := ⟨_, rfl⟩
  have b0 : Below w.heap.size w X0 := by rw [← hX0]; exact ballc (Below.refl _ _) _
  have B0 : Bx X0 w.heap.size 42 #[.int .i64 o.ds, .int .i64 o.dq, .slice ad nd cd, .int .i64 o.kind, .int .i64 o.it, .int .i64 o.is, .int .i64 o.rt, .int .i64 o.rs, .string o.text, .slice ag ng cg, .int .i64 o.site] := by rw [← hX0]; exact Bx.new _ _ _
  have hbl := h.box.lt
  have HC := hide (rCheck_in o ad ag cd cg X0 (hdl.below (bnext hw b0)) (RC.below hgl (bnext hw b0)) hx.inn hx.s1 hx.s2 hx.s3)
  obtain ⟨cr, hcr⟩ : ∃ cr, chkO o = cr := ⟨_, rfl⟩
  rw [hcr] at HC
  rw [hnd, hng] at HC
  have Hcr := hide hcr
  have Hh := hide h
  have Hw := hide hw
  have HB0 := hide B0
  have Hb0 := hide b0
  have Hx := hide hx
  have Hlo := hide hlo
  have Hdd := hide hdd
  have p0 : X0.cell? ⟨w.heap.size, 0, none⟩ = some (.int .i64 o.ds) := B0.cell 0 _ rfl
  have p1 : X0.cell? ⟨w.heap.size, 1, none⟩ = some (.int .i64 o.dq) := B0.cell 1 _ rfl
  have p2 : X0.cell? ⟨w.heap.size, 2, none⟩ = some (.slice ad nd cd) := B0.cell 2 _ rfl
  have p3 : X0.cell? ⟨w.heap.size, 3, none⟩ = some (.int .i64 o.kind) := B0.cell 3 _ rfl
  have p4 : X0.cell? ⟨w.heap.size, 4, none⟩ = some (.int .i64 o.it) := B0.cell 4 _ rfl
  have p5 : X0.cell? ⟨w.heap.size, 5, none⟩ = some (.int .i64 o.is) := B0.cell 5 _ rfl
  have p6 : X0.cell? ⟨w.heap.size, 6, none⟩ = some (.int .i64 o.rt) := B0.cell 6 _ rfl
  have p7 : X0.cell? ⟨w.heap.size, 7, none⟩ = some (.int .i64 o.rs) := B0.cell 7 _ rfl
  have p8 : X0.cell? ⟨w.heap.size, 8, none⟩ = some (.string o.text) := B0.cell 8 _ rfl
  have p9 : X0.cell? ⟨w.heap.size, 9, none⟩ = some (.slice ag ng cg) := B0.cell 9 _ rfl
  have p10 : X0.cell? ⟨w.heap.size, 10, none⟩ = some (.int .i64 o.site) := B0.cell 10 _ rfl
  unfold opA
  rw [hnd, hng]
  have Hnn := hide (And.intro hnd hng)
  clear h hx hdl hgl B0 b0 hcr hw hlo hdd hnd hng
  obtain ⟨ah, ch, hvh⟩ := OwD.form (unhide Hh).rh
  obtain ⟨aw, cw, hvw⟩ := owns_form (unhide Hh).rw
  subst hvh hvw
  obtain ⟨nh, hnh⟩ : ∃ nh, hv.length = nh := ⟨_, rfl⟩
  obtain ⟨n, hn⟩ : ∃ n, ws.length = n := ⟨_, rfl⟩
  have HN := hide (And.intro hnh hn)
  rw [hn] at hl
  clear hnh hn
  have mixed : Tryz.prog.follows .mixedOrders = true := by kernel_rfl
  have OB : Hid (∀ X, Below X0.heap.size X0 X → Bx X w.heap.size 42 #[.int .i64 o.ds, .int .i64 o.dq, .slice ad nd cd, .int .i64 o.kind, .int .i64 o.it, .int .i64 o.is, .int .i64 o.rt, .int .i64 o.rs, .string o.text, .slice ag ng cg, .int .i64 o.site]) := fun X hX => (unhide HB0).below hX
  have QB : Hid (∀ X, Below X0.heap.size X0 X → QD w0 P X b hold (.slice ah hv.length ch) (.slice aw ws.length cw) vr hv ws rd) := fun X hX => (unhide Hh).below (bnext (unhide Hb0) hX)
  go_enter Tryz.func36, Tryz.ntmps36
  go_wp2_with fail
  refine (unhide HC).mono ?_
  rintro e W1 ⟨rfl, b1⟩
  have Hb1 := hide b1
  clear HC b1 p0 p1 p2 p3 p4 p5 p6 p7 p8 p9 p10 hX0
  by_cases hc0 : cr = 0
  rotate_left
  · have hc0' : (cr != 0) = true := by simpa using hc0
    go_wp2
    refine bodyPost_ret (results_tmp2 rfl _ _ _) rfl ?_
    refine unhide HA _ _ _ _ _ _ ⟨_, _, _, _, _, (unhide QB _ (unhide Hb1)).mono (fun i hi => .inl hi), rfl, rfl⟩ (Kp.of_below (bnext (unhide Hb0) (unhide Hb1))) ?_
    unfold offA
    rw [unhide Hcr, if_pos hc0]
  subst hc0
  have HHas := hide (fun X (hX : Below W1.heap.size W1 X) => refHas_in (.slice ah hv.length ch) hv o.ds o.dq X (OwD.row (unhide QB _ (bnext (unhide Hb1) hX)).rh) (by have := (unhide Hh).hl; omega))
  rw [(unhide HN).1] at HHas
  have k1 : ∀ p : BelowOf W1, p.w.cell? ⟨b, 1, none⟩ = some (.slice ah nh ch) := fun p => by have := (unhide QB _ (bnext (unhide Hb1) p.h)).c1; rw [(unhide HN).1] at this; exact this
  have k2 : ∀ p : BelowOf W1, p.w.cell? ⟨w.heap.size, 0, none⟩ = some (.int .i64 o.ds) := fun p => (unhide OB _ (bnext (unhide Hb1) p.h)).cell 0 _ rfl
  have k3 : ∀ p : BelowOf W1, p.w.cell? ⟨w.heap.size, 1, none⟩ = some (.int .i64 o.dq) := fun p => (unhide OB _ (bnext (unhide Hb1) p.h)).cell 1 _ rfl
  have hne := BelowOf.ne W1
  obtain ⟨has, hhas⟩ : ∃ q, hasV hv (o.ds, o.dq) = q := ⟨_, rfl⟩
  rw [hhas] at HHas
  have Hhas := hide hhas
  clear hhas
  go_wp2_with fail
  refine wp_region_quiet_below mixed (by kernel_rfl) ?_
  repeat (any_goals (first | go_big_quiet_step ((go_at_call 25; exact below_of (unhide HHas _ (BelowOf.h _)))) | quiet_step ((go_at_call 25; exact below_of (unhide HHas _ (BelowOf.h _))))))
  all_goals (refine wpQuiet_nil ?_; intro _ hw'; obtain ⟨p, hw''⟩ := hw'; subst hw'')
  have Hb2 := hide (bnext (unhide Hb1) p.h)
  obtain ⟨W2, hW2⟩ : ∃ W2, p.w = W2 := ⟨_, rfl⟩
  rw [hW2] at Hb2 ⊢
  clear k1 k2 k3 hne HHas hW2 Hb1
  cases has with
  | true =>
    go_wp2
    refine bodyPost_ret (results_tmp2 rfl _ _ _) rfl ?_
    refine unhide HA _ _ _ _ _ _ ⟨_, _, _, _, _, (unhide QB _ (unhide Hb2)).mono (fun i hi => .inl hi), rfl, rfl⟩ (Kp.of_below (bnext (unhide Hb0) (unhide Hb2))) ?_
    unfold offA knwO
    rw [unhide Hcr, if_neg (by simp), show dotO o = (o.ds, o.dq) from rfl, unhide Hhas, Bool.true_or, if_pos rfl]
  | false =>
    go_wp2
    go_loopw [7] (fun iv wr => ∃ i : Nat, iv = .int .i64 (i : Nat) ∧ i ≤ n ∧ Hid (Below X0.heap.size X0 wr ∧ ∀ (j : Nat) e, j < i → ws[j]? = some e → dotO e.1 ≠ dotO o)) (fun iv _ => n - (RowKit.intOf iv).toNat)
    case atStart => exact ⟨0, rfl, Nat.zero_le _, hide ⟨unhide Hb2, fun j e hj => by omega⟩⟩
    case round =>
      obtain ⟨i, rfl, hi, HI⟩ := hrel
      have hq := unhide QB _ (unhide HI).1
      have c2 := hq.c2
      rw [(unhide HN).2] at c2
      by_cases hlt : i < n
      · have hlt' : (i : Int) < (n : Int) := by omega
        obtain ⟨e, he⟩ : ∃ e, ws[i]? = some e := ⟨_, List.getElem?_eq_getElem (by rw [(unhide HN).2]; exact hlt)⟩
        obtain ⟨g, rfl, hgl, hcell⟩ := own_at11 hq.rw rfl he
        have hob := unhide OB _ (unhide HI).1
        have q0 := hcell 0 _ rfl
        have q1 := hcell 1 _ rfl
        rw [Nat.add_zero] at q0
        have p0 := hob.cell 0 _ rfl
        have p1 := hob.cell 1 _ rfl
        clear hcell hob hq
        obtain ⟨⟨eds, edq, edeps, ekind, eit, eis, ert, ers, etext, egone, esite⟩, evd, evg⟩ := e
        simp only at q0 q1
        by_cases hd1 : eds = o.ds
        · have hd1' : (eds == o.ds) = true := by simpa using hd1
          by_cases hd2 : edq = o.dq
          · have hd2' : (edq == o.dq) = true := by simpa using hd2
            have HF : Hid (knwO hv (ws.map Prod.fst) (dotO o) = true) := by
              unfold knwO
              rw [Bool.or_eq_true, List.any_eq_true]
              refine .inr ⟨_, List.mem_map.2 ⟨_, List.mem_of_getElem? he, rfl⟩, ?_⟩
              simp [dotO, hd1, hd2]
            have HB3 := hide (unhide HI).1
            clear he HI hd1 hd2
            go_wp2
            go_quiet (fail)
            go_wp2
            refine bodyPost_ret (results_tmp2 rfl _ _ _) rfl ?_
            have bb := bdrew (unhide HB3) 1
            refine unhide HA _ _ _ _ _ _ ⟨_, _, _, _, _, (unhide QB _ (bdrew (unhide HB3) _)).mono (fun i hi => .inl hi), rfl, rfl⟩ (Kp.of_below (bnext (unhide Hb0) (bdrew (unhide HB3) _))) ?_
            unfold offA
            rw [unhide Hcr, if_neg (by simp), unhide HF, if_pos rfl]
          · have hd2' : (edq == o.dq) = false := by simpa using hd2
            have HI2 : Hid (∀ (j : Nat) e, j < i + 1 → ws[j]? = some e → dotO e.1 ≠ dotO o) := fun j e hj hje => by
              by_cases ej : j = i
              · subst ej; rw [he] at hje; cases hje; unfold dotO; simp [hd2]
              · exact (unhide HI).2 j e (by omega) hje
            clear he hd1 hd2
            go_wp2
            go_quiet (fail)
            go_wp2
            go_roundw
            case measure => show n - ((i : Int) + 1).toNat < n - ((i : Nat) : Int).toNat; omega
            case rel => exact ⟨i + 1, by go_num, by omega, hide ⟨bdrew (unhide HI).1 _, unhide HI2⟩⟩
        · have hd1' : (eds == o.ds) = false := by simpa using hd1
          have HI2 : Hid (∀ (j : Nat) e, j < i + 1 → ws[j]? = some e → dotO e.1 ≠ dotO o) := fun j e hj hje => by
            by_cases ej : j = i
            · subst ej; rw [he] at hje; cases hje; unfold dotO; simp [hd1]
            · exact (unhide HI).2 j e (by omega) hje
          clear he hd1
          go_wp2
          go_quiet (fail)
          go_wp2
          go_roundw
          case measure => show n - ((i : Int) + 1).toNat < n - ((i : Nat) : Int).toNat; omega
          case rel => exact ⟨i + 1, by go_num, by omega, hide ⟨bdrew (unhide HI).1 _, unhide HI2⟩⟩
      · obtain rfl : i = n := by omega
        have hlt' : ¬ (i : Int) < (i : Int) := by omega
        have HNo : Hid (knwO hv (ws.map Prod.fst) (dotO o) = false) := by
          unfold knwO
          rw [show dotO o = (o.ds, o.dq) from rfl, unhide Hhas, Bool.false_or, List.any_eq_false]
          intro x hx
          obtain ⟨e, he, rfl⟩ := List.mem_map.1 hx
          obtain ⟨j, hj⟩ := List.getElem?_of_mem he
          have := (unhide HI).2 j e (by have := (List.getElem?_eq_some_iff.1 hj).1; rw [(unhide HN).2] at this; exact this) hj
          rw [show dotO o = (o.ds, o.dq) from rfl] at this
          simpa using this
        have HB3 := hide (unhide HI).1
        have hob := unhide OB _ (unhide HB3)
        have p0 : wr.cell? ⟨w.heap.size, 0, none⟩ = some (.int .i64 o.ds) := hob.cell 0 _ rfl
        have p1 : wr.cell? ⟨w.heap.size, 1, none⟩ = some (.int .i64 o.dq) := hob.cell 1 _ rfl
        have p2 : wr.cell? ⟨w.heap.size, 2, none⟩ = some (.slice ad nd cd) := hob.cell 2 _ rfl
        have p3 : wr.cell? ⟨w.heap.size, 3, none⟩ = some (.int .i64 o.kind) := hob.cell 3 _ rfl
        have p4 : wr.cell? ⟨w.heap.size, 4, none⟩ = some (.int .i64 o.it) := hob.cell 4 _ rfl
        have p5 : wr.cell? ⟨w.heap.size, 5, none⟩ = some (.int .i64 o.is) := hob.cell 5 _ rfl
        have p6 : wr.cell? ⟨w.heap.size, 6, none⟩ = some (.int .i64 o.rt) := hob.cell 6 _ rfl
        have p7 : wr.cell? ⟨w.heap.size, 7, none⟩ = some (.int .i64 o.rs) := hob.cell 7 _ rfl
        have p8 : wr.cell? ⟨w.heap.size, 8, none⟩ = some (.string o.text) := hob.cell 8 _ rfl
        have p9 : wr.cell? ⟨w.heap.size, 9, none⟩ = some (.slice ag ng cg) := hob.cell 9 _ rfl
        have p10 : wr.cell? ⟨w.heap.size, 10, none⟩ = some (.int .i64 o.site) := hob.cell 10 _ rfl
        have HCan := hide (refCan_in (.slice ah hv.length ch) hv hq.c1 (OwD.row hq.rh) hq.hl o (.slice ad o.deps.length cd) (.slice ag o.gone.length cg) ((unhide Hx).d.below (bnext (unhide Hw) (bnext (unhide Hb0) (unhide HB3)))) (unhide Hx).s1 ⟨_, _, _, rfl⟩)
        unfold opA at HCan
        rw [(unhide Hnn).1, (unhide Hnn).2] at HCan
        clear hq hob HI
        cases hcan : canO hv o with
        | true =>
          rw [hcan] at HCan
          have Hcan := hide hcan
          clear hcan
          go_wp2_with fail
          refine (unhide HCan).mono ?_
          rintro e W4 ⟨rfl, b4⟩
          have HB4 := hide (bnext (unhide HB3) b4)
          clear b4 HB3 HCan p0 p1 p2 p3 p4 p5 p6 p7 p8 p9 p10 c2
          have hob := unhide OB _ (unhide HB4)
          have p0 : W4.cell? ⟨w.heap.size, 0, none⟩ = some (.int .i64 o.ds) := hob.cell 0 _ rfl
          have p1 : W4.cell? ⟨w.heap.size, 1, none⟩ = some (.int .i64 o.dq) := hob.cell 1 _ rfl
          have p2 : W4.cell? ⟨w.heap.size, 2, none⟩ = some (.slice ad nd cd) := hob.cell 2 _ rfl
          have p3 : W4.cell? ⟨w.heap.size, 3, none⟩ = some (.int .i64 o.kind) := hob.cell 3 _ rfl
          have p4 : W4.cell? ⟨w.heap.size, 4, none⟩ = some (.int .i64 o.it) := hob.cell 4 _ rfl
          have p5 : W4.cell? ⟨w.heap.size, 5, none⟩ = some (.int .i64 o.is) := hob.cell 5 _ rfl
          have p6 : W4.cell? ⟨w.heap.size, 6, none⟩ = some (.int .i64 o.rt) := hob.cell 6 _ rfl
          have p7 : W4.cell? ⟨w.heap.size, 7, none⟩ = some (.int .i64 o.rs) := hob.cell 7 _ rfl
          have p8 : W4.cell? ⟨w.heap.size, 8, none⟩ = some (.string o.text) := hob.cell 8 _ rfl
          have p9 : W4.cell? ⟨w.heap.size, 9, none⟩ = some (.slice ag ng cg) := hob.cell 9 _ rfl
          have p10 : W4.cell? ⟨w.heap.size, 10, none⟩ = some (.int .i64 o.site) := hob.cell 10 _ rfl
          have Hq4 := hide (unhide QB _ (unhide HB4))
          have HDel := hide (refDeliver_in (unhide Hq4) (o, .slice ad o.deps.length cd, .slice ag o.gone.length cg) (unhide Hx).any (by omega))
          unfold opA DelR at HDel
          simp only at HDel
          rw [(unhide Hnn).1, (unhide Hnn).2] at HDel
          have hz4 := (bnext (unhide Hb0) (unhide HB4)).size
          obtain ⟨T, hT⟩ : ∃ T, relT ws.length (addV hv (dotO o)).1 ws (rd ++ [(o, Value.slice ad nd cd, Value.slice ag ng cg)]) = T := ⟨_, rfl⟩
          have HT := hide hT
          have HW4 := hide (Kp.of_below (N := P) (bnext (unhide Hb0) (unhide HB4)))
          clear hob hT
          go_wp2_with fail
          refine (unhide HDel).mono ?_
          rintro e W5 ⟨rfl, ⟨vh5, vr5, q5⟩, kp5⟩
          have K5 := hide ((unhide HW4).trans kp5 (fun i hi => .inl hi))
          have Q5 : Hid (QD w0 (fun i => P i ∨ w.heap.size ≤ i) W5 b hold vh5 (.slice aw ws.length cw) vr5 (addV hv (dotO o)).1 ws (rd ++ [(o, Value.slice ad nd cd, Value.slice ag ng cg)])) := q5.mono (fun i hi => by rcases hi with h | h; exact .inl h; exact .inr (by omega))
          have BK : Hid (∀ X, Kp P w X → Below w0.heap.size w0 X) := fun X k => k.below (unhide Hw) (unhide Hlo)
          have HNx := hide (refNext_in (unhide Q5) (unhide BK _ (unhide K5)) (by have := (unhide HN).2; omega))
          have HR0 : Hid (∃ vh' vw' vr' hv' ws' rd', QD w0 (fun i => P i ∨ w.heap.size ≤ i) W5 b hold vh' vw' vr' hv' ws' rd' ∧ nxtV (addV hv (dotO o)).1 (ws.map Prod.fst) = nxtV hv' (ws'.map Prod.fst) ∧ relT ws'.length hv' ws' rd' = T ∧ ws'.length + rd'.length ≤ 900001) := ⟨_, _, _, _, _, _, unhide Q5, rfl, unhide HT, by rw [List.length_append]; have := (unhide HN).2; simp; omega⟩
          obtain ⟨nx, hnx⟩ : ∃ nx, nxtV (addV hv (dotO o)).1 (ws.map Prod.fst) = nx := ⟨_, rfl⟩
          rw [hnx] at HNx HR0
          clear q5 kp5 HDel Hq4 p0 p1 p2 p3 p4 p5 p6 p7 p8 p9 p10 hnx
          go_wp2_with fail
          refine (unhide HNx).mono ?_
          rintro e W6 ⟨rfl, b6⟩
          have HR1 : Hid ((∃ vh' vw' vr' hv' ws' rd', QD w0 (fun i => P i ∨ w.heap.size ≤ i) W6 b hold vh' vw' vr' hv' ws' rd' ∧ nx = nxtV hv' (ws'.map Prod.fst) ∧ relT ws'.length hv' ws' rd' = T ∧ ws'.length + rd'.length ≤ 900001) ∧ Kp P w W6) := ⟨by
            obtain ⟨a1, a2, a3, a4, a5, a6, h1, h2⟩ := unhide HR0
            exact ⟨a1, a2, a3, a4, a5, a6, h1.below b6, h2⟩, (unhide K5).trans (Kp.of_below (N := fun _ => False) b6) (fun i hi => hi.elim)⟩
          clear b6 HNx HR0 K5 Q5
          go_wp2
          go_loopw [8] (fun iv wr => ∃ nx : Int, iv = .int .i64 nx ∧ Hid ((∃ vh' vw' vr' hv' ws' rd', QD w0 (fun i => P i ∨ w.heap.size ≤ i) wr b hold vh' vw' vr' hv' ws' rd' ∧ nx = nxtV hv' (ws'.map Prod.fst) ∧ relT ws'.length hv' ws' rd' = T ∧ ws'.length + rd'.length ≤ 900001) ∧ Kp P w wr)) (fun _ wr => qLen b wr)
          case atStart => exact ⟨nx, rfl, HR1⟩
          case round =>
            obtain ⟨nx, rfl, HJ⟩ := hrel
            clear HR1
            obtain ⟨⟨vh', vw', vr', hv', ws', rd', q', hnx, hrel', hlen⟩, kw⟩ := unhide HJ
            cases hnI : nxtI hv' (ws'.map Prod.fst) with
            | none =>
              have hnx2 : nx = -1 := by rw [hnx]; unfold nxtV; rw [hnI]
              subst hnx2
              have HF : Hid (T = (hv', ws', rd')) := by
                rw [← hrel']
                refine hide ?_
                cases ws'.length with
                | zero => rfl
                | succ f => unfold relT; rw [hnI]
              have Q' := hide q'
              have KW := hide kw
              clear hnI hrel' q' kw hnx HJ
              go_wp2
              refine bodyPost_ret (results_tmp2 rfl _ _ _) rfl ?_
              refine unhide HA _ _ _ _ _ _ ⟨_, _, _, _, _, unhide Q', rfl, rfl⟩ (unhide KW) ?_
              unfold offA
              rw [unhide Hcr, if_neg (by simp), unhide HNo, if_neg (by simp), unhide Hcan, if_pos rfl]
              have hm := relT_map ws.length (addV hv (dotO o)).1 ws (rd ++ [(o, Value.slice ad nd cd, Value.slice ag ng cg)])
              rw [unhide HT, unhide HF, List.map_append, List.map_cons, List.map_nil] at hm
              rw [List.length_map, ← hm]
            | some k =>
              obtain ⟨y, hy⟩ : ∃ y, ws'[k]? = some y := by
                unfold nxtI at hnI
                have := (List.findIdx?_eq_some_iff_getElem.1 hnI).1
                rw [List.length_map] at this
                exact ⟨_, List.getElem?_eq_getElem this⟩
              have hk := (List.getElem?_eq_some_iff.1 hy).1
              have hnx2 : nx = (k : Int) := by rw [hnx]; unfold nxtV; rw [hnI]
              subst hnx2
              have hm0 : (0 : Int) ≤ (k : Int) := by omega
              obtain ⟨m', hm'⟩ : ∃ m', ws'.length = m' := ⟨_, rfl⟩
              have hkm : (k : Int) < (m' : Int) := by omega
              have hrel2 : Hid (relT (cutI ws' k).length (addV hv' (dotO y.1)).1 (cutI ws' k) (rd' ++ [y]) = T) := by
                have hcl := cutI_len ws' k hk
                rw [← hrel', ← hcl]
                refine hide ?_
                conv => rhs; unfold relT
                rw [hnI]
                simp only [hy]
              have Q' := hide q'
              have KW := hide kw
              have hql := q'.qlen
              have c2' := q'.c2
              obtain ⟨aw', cw', hvw'⟩ := owns_form q'.rw
              rw [hvw', hm'] at c2'
              have hrw := q'.rw
              rw [hvw'] at hrw
              obtain ⟨g', rfl, hgl', hcell'⟩ := own_at11 hrw rfl hy
              have hed := q'.we y (List.mem_of_getElem? hy)
              have hyl : (cutI ws' k).length + (rd' ++ [y]).length ≤ 900001 := by have := cutI_len ws' k hk; rw [List.length_append]; simp; omega
              obtain ⟨x, yd, yg⟩ := y
              obtain ⟨xa, xc, e1⟩ := RI.form hed.d
              obtain ⟨ya, yc, e2⟩ := RC.form hed.g
              simp only at e1 e2
              subst e1 e2
              obtain ⟨xn, hxn⟩ : ∃ xn, x.deps.length = xn := ⟨_, rfl⟩
              obtain ⟨yn, hyn⟩ : ∃ yn, x.gone.length = yn := ⟨_, rfl⟩
              have q0 := hcell' 0 _ rfl
              have q1 := hcell' 1 _ rfl
              have q2 := hcell' 2 _ rfl
              have q3 := hcell' 3 _ rfl
              have q4 := hcell' 4 _ rfl
              have q5 := hcell' 5 _ rfl
              have q6 := hcell' 6 _ rfl
              have q7 := hcell' 7 _ rfl
              have q8 := hcell' 8 _ rfl
              have q9 := hcell' 9 _ rfl
              have q10 := hcell' 10 _ rfl
              rw [Nat.add_zero] at q0
              rw [hxn] at q2
              rw [hyn] at q9
              obtain ⟨V, hV⟩ : ∃ V, wr.alloc (.cells #[.int .i64 x.ds, .int .i64 x.dq, .slice xa xn xc, .int .i64 x.kind, .int .i64 x.it, .int .i64 x.is, .int .i64 x.rt, .int .i64 x.rs, .string x.text, .slice ya yn yc, .int .i64 x.site] 42) = V := ⟨_, rfl⟩
              have bV : Below wr.heap.size wr V := by rw [← hV]; exact ballc (Below.refl _ _) _
              have xV : Bx V wr.heap.size 42 #[.int .i64 x.ds, .int .i64 x.dq, .slice xa xn xc, .int .i64 x.kind, .int .i64 x.it, .int .i64 x.is, .int .i64 x.rt, .int .i64 x.rs, .string x.text, .slice ya yn yc, .int .i64 x.site] := by rw [← hV]; exact Bx.new _ _ _
              have qV := q'.below bV
              have c2V := qV.c2
              rw [hvw', hm'] at c2V
              have hrwV := qV.rw
              rw [hvw', hm'] at hrwV
              have HCut := hide (refCut_in (i := k) hrwV hm' (by omega) (fun e he => (qV.we e he).one) (by omega))
              have blV := qV.box.lt
              have HQV := hide qV
              have HXV := hide xV
              have HBV := hide bV
              have Hvw := hide hvw'
              have Hed := hide hed
              have Hxy := hide (And.intro hxn hyn)
              have Hyl := hide hyl
              have Hql := hide hql
              have Hlen := hide (cutI_len ws' k hk)
              have hbV : wr.heap.size ≠ b := by have := q'.box.lt; omega
              clear hcell' hrw hy hnI hrel' q' kw hnx HJ qV xV bV hrwV hvw' hed hyl hxn hyn hk hql
              go_wp2_with fail
              refine (unhide HCut).mono ?_
              rintro e V1 ⟨v1, rfl, o1, b1⟩
              have q1' := (unhide HQV).below b1
              have c2V1 := q1'.c2
              rw [unhide Hvw, hm'] at c2V1
              have f2V1 := q1'.box.frozen 2
              have l2V1 := q1'.box.lt
              obtain ⟨q2', k2'⟩ := (unhide HQV).neww (v' := v1) (ws' := cutI ws' k) (Kp.of_below b1) (owns_wk0 o1) (fun i hi => .inr (o1.lt i hi).1) (fun e he => (unhide HQV).we e (cutI_mem he))
              obtain ⟨av, cv, hv1⟩ := owns_form o1
              subst hv1
              have x2 := ((unhide HXV).below b1).kp (Kp.set (N := fun i => i = b) V1 ⟨b, 2, none⟩ (.slice av (cutI ws' k).length cv) rfl) hbV
              obtain ⟨V2, hV2⟩ : ∃ V2, V1.setCell ⟨b, 2, none⟩ (.slice av (cutI ws' k).length cv) = V2 := ⟨_, rfl⟩
              rw [hV2] at q2' k2' x2
              have r0 : V2.cell? ⟨wr.heap.size, 0, none⟩ = some (.int .i64 x.ds) := x2.cell 0 _ rfl
              have r1 : V2.cell? ⟨wr.heap.size, 1, none⟩ = some (.int .i64 x.dq) := x2.cell 1 _ rfl
              have r2 : V2.cell? ⟨wr.heap.size, 2, none⟩ = some (.slice xa xn xc) := x2.cell 2 _ rfl
              have r3 : V2.cell? ⟨wr.heap.size, 3, none⟩ = some (.int .i64 x.kind) := x2.cell 3 _ rfl
              have r4 : V2.cell? ⟨wr.heap.size, 4, none⟩ = some (.int .i64 x.it) := x2.cell 4 _ rfl
              have r5 : V2.cell? ⟨wr.heap.size, 5, none⟩ = some (.int .i64 x.is) := x2.cell 5 _ rfl
              have r6 : V2.cell? ⟨wr.heap.size, 6, none⟩ = some (.int .i64 x.rt) := x2.cell 6 _ rfl
              have r7 : V2.cell? ⟨wr.heap.size, 7, none⟩ = some (.int .i64 x.rs) := x2.cell 7 _ rfl
              have r8 : V2.cell? ⟨wr.heap.size, 8, none⟩ = some (.string x.text) := x2.cell 8 _ rfl
              have r9 : V2.cell? ⟨wr.heap.size, 9, none⟩ = some (.slice ya yn yc) := x2.cell 9 _ rfl
              have r10 : V2.cell? ⟨wr.heap.size, 10, none⟩ = some (.int .i64 x.site) := x2.cell 10 _ rfl
              have HDel2 := hide (refDeliver_in q2' (x, .slice xa x.deps.length xc, .slice ya x.gone.length yc) (unhide Hed).any (by have := unhide Hyl; rw [List.length_append] at this; omega))
              unfold opA DelR at HDel2
              simp only at HDel2
              rw [(unhide Hxy).1, (unhide Hxy).2] at HDel2
              have KW2 := hide (((unhide KW).trans (Kp.of_below (N := fun _ => False) (unhide HBV)) (fun i hi => hi.elim)).trans k2' (fun i hi => hi))
              have hsz2 : w.heap.size ≤ V.heap.size ∧ w.heap.size ≤ V2.heap.size := by
                have h1 := (unhide KW).size
                have h2 := (unhide HBV).size
                have h3 := k2'.size
                omega
              obtain ⟨nn, hnn⟩ : ∃ nn, (cutI ws' k).length = nn := ⟨_, rfl⟩
              rw [hnn] at hV2 ⊢
              clear q1' q2' k2' o1 b1 x2 HCut HQV HXV c2V
              go_wp2_with fail
              refine (unhide HDel2).mono ?_
              rintro e V3 ⟨rfl, ⟨vh3, vr3, q3'⟩, kp3⟩
              have K3 := hide ((unhide KW2).trans kp3 (fun i hi => by
                rcases hi with (h | h) | h
                · exact .inl h
                · exact .inr h
                · exact .inr (by omega)))
              have Q3 := hide (q3'.mono (P' := fun i => P i ∨ w.heap.size ≤ i) (fun i hi => by
                rcases hi with ((h | h) | h) | h
                · exact .inl h
                · exact .inr h
                · exact .inr (by omega)
                · exact .inr (by omega)))
              have HN3 := hide (refNext_in (unhide Q3) (unhide BK _ (unhide K3)) (by have := unhide Hyl; omega))
              obtain ⟨n3, hn3⟩ : ∃ n3, nxtV (addV hv' (dotO x)).1 ((cutI ws' k).map Prod.fst) = n3 := ⟨_, rfl⟩
              rw [hn3] at HN3
              have Hn3 := hide hn3
              clear HDel2 q3' kp3 KW2 hn3 hV2 hV r0 r1 r2 r3 r4 r5 r6 r7 r8 r9 r10
              go_wp2_with fail
              refine (unhide HN3).mono ?_
              rintro e V4 ⟨rfl, b4⟩
              have q4 := (unhide Q3).below b4
              have hq4 := q4.qlen
              have HJ4 : Hid ((∃ vh' vw' vr' hv' ws' rd', QD w0 (fun i => P i ∨ w.heap.size ≤ i) V4 b hold vh' vw' vr' hv' ws' rd' ∧ n3 = nxtV hv' (ws'.map Prod.fst) ∧ relT ws'.length hv' ws' rd' = T ∧ ws'.length + rd'.length ≤ 900001) ∧ Kp P w V4) := ⟨⟨_, _, _, _, _, _, q4, (unhide Hn3).symm, by have := unhide hrel2; simp only [(unhide Hxy).1, (unhide Hxy).2] at this; exact this, by have := unhide Hyl; simp only [List.length_append, List.length_cons, List.length_nil] at this ⊢; exact this⟩, (unhide K3).trans (Kp.of_below (N := fun _ => False) b4) (fun i hi => hi.elim)⟩
              have HM4 := hide (show qLen b V4 < qLen b wr by rw [hq4, unhide Hql]; have := unhide Hlen; omega)
              clear q4 hq4 b4 HN3 Q3 K3
              go_wp2
              go_roundw
              case measure => exact unhide HM4
              case rel => exact ⟨n3, rfl, HJ4⟩
        | false =>
          rw [hcan] at HCan
          have Hcan := hide hcan
          clear hcan
          go_wp2_with fail
          refine (unhide HCan).mono ?_
          rintro e W4 ⟨rfl, b4⟩
          have HB4 := hide (bnext (unhide HB3) b4)
          have hq := unhide QB _ (unhide HB4)
          have c2' := hq.c2
          rw [(unhide HN).2] at c2'
          have c0' := hq.c0
          clear b4 HB3 HCan p0 p1 p2 p3 p4 p5 p6 p7 p8 p9 p10 c2 hq
          by_cases hho : (i : Int) < hold
          · have k20 : ∀ p : BelowOf W4, p.w.cell? ⟨b, 2, none⟩ = some (.slice aw i cw) := fun p => cell_below c2' p.h
            have k21 : ∀ p : BelowOf W4, p.w.cell? ⟨b, 0, none⟩ = some (.int .i64 hold) := fun p => cell_below c0' p.h
            have hne4 := BelowOf.ne W4
            go_wp2_with fail
            refine wp_region_quiet_below mixed (by kernel_rfl) ?_
            repeat (any_goals (first | go_big_quiet_step ((fail)) | quiet_step ((fail))))
            all_goals (refine wpQuiet_nil ?_; intro _ hw'; obtain ⟨p, hw''⟩ := hw'; subst hw'')
            have HB5 := hide (bnext (unhide HB4) p.h)
            obtain ⟨W5, hW5⟩ : ∃ W5, p.w = W5 := ⟨_, rfl⟩
            rw [hW5] at HB5 ⊢
            clear k20 k21 hne4 hW5 HB4 c2' c0'
            have q5 := unhide QB _ (unhide HB5)
            have ob5 := unhide OB _ (unhide HB5)
            have p0 : W5.cell? ⟨w.heap.size, 0, none⟩ = some (.int .i64 o.ds) := ob5.cell 0 _ rfl
            have p1 : W5.cell? ⟨w.heap.size, 1, none⟩ = some (.int .i64 o.dq) := ob5.cell 1 _ rfl
            have p2 : W5.cell? ⟨w.heap.size, 2, none⟩ = some (.slice ad nd cd) := ob5.cell 2 _ rfl
            have p3 : W5.cell? ⟨w.heap.size, 3, none⟩ = some (.int .i64 o.kind) := ob5.cell 3 _ rfl
            have p4 : W5.cell? ⟨w.heap.size, 4, none⟩ = some (.int .i64 o.it) := ob5.cell 4 _ rfl
            have p5 : W5.cell? ⟨w.heap.size, 5, none⟩ = some (.int .i64 o.is) := ob5.cell 5 _ rfl
            have p6 : W5.cell? ⟨w.heap.size, 6, none⟩ = some (.int .i64 o.rt) := ob5.cell 6 _ rfl
            have p7 : W5.cell? ⟨w.heap.size, 7, none⟩ = some (.int .i64 o.rs) := ob5.cell 7 _ rfl
            have p8 : W5.cell? ⟨w.heap.size, 8, none⟩ = some (.string o.text) := ob5.cell 8 _ rfl
            have p9 : W5.cell? ⟨w.heap.size, 9, none⟩ = some (.slice ag ng cg) := ob5.cell 9 _ rfl
            have p10 : W5.cell? ⟨w.heap.size, 10, none⟩ = some (.int .i64 o.site) := ob5.cell 10 _ rfl
            have c25 := q5.c2
            rw [(unhide HN).2] at c25
            have hb5 := bnext (unhide Hb0) (unhide HB5)
            have hz5 := hb5.size
            have wb5 : b < W5.heap.size := q5.box.lt
            have wo5 : w.heap.size < W5.heap.size := ob5.lt
            obtain ⟨Y, hY⟩ : ∃ Y, (W5.alloc (.cells #[.int .i64 o.ds, .int .i64 o.dq, .slice ad nd cd, .int .i64 o.kind, .int .i64 o.it, .int .i64 o.is, .int .i64 o.rt, .int .i64 o.rs, .string o.text, .slice ag ng cg, .int .i64 o.site] 42)).drew = Y := ⟨_, rfl⟩
            have bY : Below W5.heap.size W5 Y := by rw [← hY]; exact (ballc (Below.refl _ _) _).drew
            have zY : Y.heap.size = W5.heap.size + 1 := by rw [← hY]; simp
            have xY : Bx Y W5.heap.size 42 (encO (o, Value.slice ad nd cd, Value.slice ag ng cg)).toArray := by rw [← hY]; exact (Bx.new W5 42 _).below (Below.refl _ _).drew
            have qY := q5.below bY
            have hone : ∀ u ∈ encO (o, Value.slice ad nd cd, Value.slice ag ng cg), u.oneCell' = true := by
              have := (unhide Hx).one
              rw [(unhide Hnn).1, (unhide Hnn).2] at this
              exact this
            obtain ⟨v6, W6, hr, ho6, hg6, hat⟩ := append_op Y 47 0 (.slice aw ws.length cw) ws (o, .slice ad nd cd, .slice ag ng cg) W5.heap.size qY.rw xY hone (Nat.zero_le _) (by have := (unhide HN).2; omega)
            have k6 : Kp (fun j => (Value.slice aw ws.length cw).ownBlock = some j) Y W6 := Kp.of_grown hg6 (fun j hj => hj)
            obtain ⟨q6, kp6⟩ := qY.neww (v' := v6) (ws' := ws ++ [(o, .slice ad nd cd, .slice ag ng cg)]) k6 ho6 (fun j hj => by
              rcases hat with e | e
              · exact .inl (by rw [← e]; exact hj)
              · rw [e] at hj; cases hj; exact .inr (Nat.le_refl _)) (fun e he => by
              rcases List.mem_append.1 he with he | he
              · exact qY.we e he
              · simp only [List.mem_singleton] at he
                subst he
                have := (unhide Hx).any (P' := P) (W' := Y)
                rw [(unhide Hnn).1, (unhide Hnn).2] at this
                exact this)
            have bx6 : Bx W6 b 51 #[.int .i64 hold, .slice ah hv.length ch, .slice aw ws.length cw, vr] := qY.box.kp k6 (own_ne_box qY.rw qY.box (by decide))
            have c26 : W6.cell? ⟨b, 2, none⟩ = some (.slice aw ws.length cw) := bx6.cell 2 _ rfl
            rw [(unhide HN).2] at c26
            have f26 := bx6.frozen 2
            have l26 := bx6.lt
            have hll : (ws ++ [(o, Value.slice ad nd cd, Value.slice ag ng cg)]).length = i + 1 := by rw [List.length_append, (unhide HN).2]; rfl
            obtain ⟨av6, cv6, hv6⟩ := owns_form ho6
            rw [hll] at hv6
            subst hv6
            rw [(unhide HN).2] at hr
            have cY : Y.cell? ⟨b, 2, none⟩ = some (.slice aw i cw) := by have := qY.c2; rw [(unhide HN).2] at this; exact this
            have hr' := hr
            have FIN := hide (And.intro q6 (And.intro kp6 (bnext hb5 bY)))
            replace hr' := hide hr'
            clear q6 kp6 qY xY hone ho6 hg6 hat k6 bx6 hr hll q5 ob5 bY hb5
            go_wp2
            go_region_law (refine step_append_eq rfl (.tmp 90) (.tmp 92) 47 rfl _ _ _ (by simp [Act.eval, Act.put]) (by simp [Act.eval, Act.put]) (unhide hr') ?_)
            all_goals (
              go_wp2
              refine bodyPost_ret (results_tmp2 rfl _ _ _) rfl ?_
              obtain ⟨q6, kp6, bw⟩ := unhide FIN
              have zz := bw.size
              refine unhide HA _ _ _ _ _ _ ⟨_, _, _, _, _, q6.mono (fun j hj => by rcases hj with h | h; exact .inl h; exact .inr (by omega)), rfl, rfl⟩ ((Kp.of_below bw).trans kp6 (fun j hj => .inl hj)) ?_
              unfold offA
              rw [unhide Hcr, if_neg (by simp), unhide HNo, if_neg (by simp), unhide Hcan, if_neg (by simp), List.length_map, (unhide HN).2, if_pos hho, List.map_append]
              rfl)
          · have k20 : ∀ p : BelowOf W4, p.w.cell? ⟨b, 2, none⟩ = some (.slice aw i cw) := fun p => cell_below c2' p.h
            have k21 : ∀ p : BelowOf W4, p.w.cell? ⟨b, 0, none⟩ = some (.int .i64 hold) := fun p => cell_below c0' p.h
            have hne4 := BelowOf.ne W4
            go_wp2_with fail
            refine wp_region_quiet_below mixed (by kernel_rfl) ?_
            repeat (any_goals (first | go_big_quiet_step ((fail)) | quiet_step ((fail))))
            all_goals (refine wpQuiet_nil ?_; intro _ hw'; obtain ⟨p, hw''⟩ := hw'; subst hw'')
            have HB5 := hide (bnext (unhide HB4) p.h)
            obtain ⟨W5, hW5⟩ : ∃ W5, p.w = W5 := ⟨_, rfl⟩
            rw [hW5] at HB5 ⊢
            clear k20 k21 hne4 hW5 HB4 c2' c0'
            have q5 := unhide QB _ (unhide HB5)
            have ob5 := unhide OB _ (unhide HB5)
            have p0 : W5.cell? ⟨w.heap.size, 0, none⟩ = some (.int .i64 o.ds) := ob5.cell 0 _ rfl
            have p1 : W5.cell? ⟨w.heap.size, 1, none⟩ = some (.int .i64 o.dq) := ob5.cell 1 _ rfl
            have p2 : W5.cell? ⟨w.heap.size, 2, none⟩ = some (.slice ad nd cd) := ob5.cell 2 _ rfl
            have p3 : W5.cell? ⟨w.heap.size, 3, none⟩ = some (.int .i64 o.kind) := ob5.cell 3 _ rfl
            have p4 : W5.cell? ⟨w.heap.size, 4, none⟩ = some (.int .i64 o.it) := ob5.cell 4 _ rfl
            have p5 : W5.cell? ⟨w.heap.size, 5, none⟩ = some (.int .i64 o.is) := ob5.cell 5 _ rfl
            have p6 : W5.cell? ⟨w.heap.size, 6, none⟩ = some (.int .i64 o.rt) := ob5.cell 6 _ rfl
            have p7 : W5.cell? ⟨w.heap.size, 7, none⟩ = some (.int .i64 o.rs) := ob5.cell 7 _ rfl
            have p8 : W5.cell? ⟨w.heap.size, 8, none⟩ = some (.string o.text) := ob5.cell 8 _ rfl
            have p9 : W5.cell? ⟨w.heap.size, 9, none⟩ = some (.slice ag ng cg) := ob5.cell 9 _ rfl
            have p10 : W5.cell? ⟨w.heap.size, 10, none⟩ = some (.int .i64 o.site) := ob5.cell 10 _ rfl
            have c25 := q5.c2
            rw [(unhide HN).2] at c25
            have hb5 := bnext (unhide Hb0) (unhide HB5)
            have hz5 := hb5.size
            have wb5 : b < W5.heap.size := q5.box.lt
            have wo5 : w.heap.size < W5.heap.size := ob5.lt
            obtain ⟨V, hV⟩ : ∃ V, W5.alloc (.cells #[.int .i64 o.ds, .int .i64 o.dq, .slice ad nd cd, .int .i64 o.kind, .int .i64 o.it, .int .i64 o.is, .int .i64 o.rt, .int .i64 o.rs, .string o.text, .slice ag ng cg, .int .i64 o.site] 42) = V := ⟨_, rfl⟩
            have bV : Below W5.heap.size W5 V := by rw [← hV]; exact ballc (Below.refl _ _) _
            have xV : Bx V W5.heap.size 42 (encO (o, Value.slice ad nd cd, Value.slice ag ng cg)).toArray := by rw [← hV]; exact Bx.new W5 42 _
            have HX0 : Hid (ED w0 P w (o, Value.slice ad nd cd, Value.slice ag ng cg)) := by
              have := unhide Hx
              rw [(unhide Hnn).1, (unhide Hnn).2] at this
              exact this
            have HV0 := hide (bnext hb5 bV)
            have hzV : V.heap.size = W5.heap.size + 1 := by rw [← hV]; simp
            have HQ : Hid (∀ X, Kp (fun j => j = W5.heap.size) V X → QD w0 (fun i => P i ∧ i < W5.heap.size) X b hold (.slice ah hv.length ch) (.slice aw ws.length cw) vr hv ws rd) := fun X k => (q5.ltD.below bV).kp k (fun j e h => by have := h.2; omega)
            have HOX : Hid (∀ X, Kp (fun j => j = W5.heap.size) V X → Bx X w.heap.size 42 #[.int .i64 o.ds, .int .i64 o.dq, .slice ad nd cd, .int .i64 o.kind, .int .i64 o.it, .int .i64 o.is, .int .i64 o.rt, .int .i64 o.rs, .string o.text, .slice ag ng cg, .int .i64 o.site]) := fun X k => (ob5.below bV).kp k (by omega)
            have HBX : Hid (∀ X, Kp (fun j => j = W5.heap.size) V X → Kp P w X ∧ Below w0.heap.size w0 X ∧ w.heap.size ≤ W5.heap.size) := fun X k => by
              have k2 : Kp P w X := (Kp.of_below (unhide HV0)).trans k (fun j hj => .inr (by omega))
              exact ⟨k2, k2.below (unhide Hw) (unhide Hlo), hz5⟩
            have HDD : Hid (DD (ws.map Prod.fst ++ [o])) := by
              unfold DD
              have h1 := unhide HNo
              unfold knwO at h1
              rw [Bool.or_eq_false_iff] at h1
              rw [List.map_append, List.nodup_append]
              refine hide ⟨unhide Hdd, by simp, fun x hx y hy e => ?_⟩
              simp at hy
              subst hy
              subst e
              have := h1.2
              rw [List.any_eq_false] at this
              obtain ⟨z, hz, ez⟩ := List.mem_map.1 hx
              exact this z hz (by simpa using ez)
            have HS0 := hide (show Bx V W5.heap.size 42 (encO (o, Value.slice ad nd cd, Value.slice ag ng cg)).toArray ∧ Kp (fun j => j = W5.heap.size) V V ∧ FarR (ws.map Prod.fst) o 0 (-1) o ∧ ED w0 P w (o, Value.slice ad nd cd, Value.slice ag ng cg) from ⟨xV, Kp.refl _ _, FarR.start _ _, unhide HX0⟩)
            clear xV q5 ob5 hb5
            go_wp2
            generalize W5.heap.size = fb at *
            go_loopw [10, 12] (fun kv iv wr => ∃ (j : Nat) (kk : Int) (f : Opn × Value × Value), iv = .int .i64 (j : Nat) ∧ kv = .int .i64 kk ∧ j ≤ i ∧ -1 ≤ kk ∧ kk ≤ j ∧ Hid (Bx wr fb 42 (encO f).toArray ∧ Kp (fun j => j = fb) V wr ∧ FarR (ws.map Prod.fst) o j kk f.1 ∧ ED w0 P w f)) (fun _ iv _ => i - (RowKit.intOf iv).toNat)
            case atStart => exact ⟨0, -1, _, rfl, rfl, Nat.zero_le _, by omega, by omega, HS0⟩
            case round =>
              obtain ⟨j, kk, f, rfl, rfl, hj, hk1, hk2, HJ⟩ := hrel
              clear HS0 hV
              obtain ⟨bf, kf, ff, ef⟩ := unhide HJ
              have hq := unhide HQ _ kf
              have hbw := (unhide HBX _ kf).2.1
              have c2r : wr.cell? ⟨b, 2, none⟩ = some (.slice aw i cw) := by have := hq.c2; rw [(unhide HN).2] at this; exact this
              by_cases hji : j < i
              · have hji' : (j : Int) < (i : Int) := by omega
                obtain ⟨e, he⟩ : ∃ e, ws[j]? = some e := ⟨_, List.getElem?_eq_getElem (by rw [(unhide HN).2]; exact hji)⟩
                have hed := hq.we e (List.mem_of_getElem? he)
                obtain ⟨g, rfl, hgl, hcell⟩ := own_at11 hq.rw rfl he
                have hst := ff.step (unhide HDD) (show (ws.map Prod.fst)[j]? = some e.1 by rw [List.getElem?_map, he]; rfl)
                obtain ⟨x, vx, gx⟩ := e
                obtain ⟨f, vf, gf⟩ := f
                obtain ⟨xa, xc, e1⟩ := RI.form hed.d
                obtain ⟨ya, yc, e2⟩ := RC.form hed.g
                obtain ⟨fa, fc, e3⟩ := RI.form ef.d
                obtain ⟨ga, gc, e4⟩ := RC.form ef.g
                simp only at e1 e2 e3 e4
                subst e1 e2 e3 e4
                obtain ⟨xn, hxn⟩ : ∃ xn, x.deps.length = xn := ⟨_, rfl⟩
                obtain ⟨yn, hyn⟩ : ∃ yn, x.gone.length = yn := ⟨_, rfl⟩
                obtain ⟨fn, hfn⟩ : ∃ fn, f.deps.length = fn := ⟨_, rfl⟩
                obtain ⟨gn, hgn⟩ : ∃ gn, f.gone.length = gn := ⟨_, rfl⟩
                have HFa := hide (fun X (hX : Below wr.heap.size wr X) => refFarther_in x f xa fa ya ga xc fc x.gone.length yc f.gone.length gc X (hed.d.below (bnext hbw hX)) (ef.d.below (bnext hbw hX)) hed.s1 ef.s1)
                have bf' : Bx wr fb 42 #[.int .i64 f.ds, .int .i64 f.dq, .slice fa fn fc, .int .i64 f.kind, .int .i64 f.it, .int .i64 f.is, .int .i64 f.rt, .int .i64 f.rs, .string f.text, .slice ga gn gc, .int .i64 f.site] := by
                  have := bf
                  simp only [encO, hfn, hgn] at this
                  exact this
                have hcell' : ∀ q v, (#[.int .i64 x.ds, .int .i64 x.dq, .slice xa xn xc, .int .i64 x.kind, .int .i64 x.it, .int .i64 x.is, .int .i64 x.rt, .int .i64 x.rs, .string x.text, .slice ya yn yc, .int .i64 x.site] : Array Value)[q]? = some v → wr.cell? ⟨g, j * 11 + q, none⟩ = some v := fun q v hv => hcell q v (by simp only [encO, hxn, hyn]; simpa using hv)
                rw [hxn, hyn, hfn, hgn] at HFa
                have m0 : ∀ p : BelowOf wr, p.w.cell? ⟨g, j * 11, none⟩ = some (.int .i64 x.ds) := fun p => cell_below (hcell' 0 _ rfl) p.h
                have m1 : ∀ p : BelowOf wr, p.w.cell? ⟨g, j * 11 + 1, none⟩ = some (.int .i64 x.dq) := fun p => cell_below (hcell' 1 _ rfl) p.h
                have m2 : ∀ p : BelowOf wr, p.w.cell? ⟨g, j * 11 + 2, none⟩ = some (.slice xa xn xc) := fun p => cell_below (hcell' 2 _ rfl) p.h
                have m3 : ∀ p : BelowOf wr, p.w.cell? ⟨g, j * 11 + 3, none⟩ = some (.int .i64 x.kind) := fun p => cell_below (hcell' 3 _ rfl) p.h
                have m4 : ∀ p : BelowOf wr, p.w.cell? ⟨g, j * 11 + 4, none⟩ = some (.int .i64 x.it) := fun p => cell_below (hcell' 4 _ rfl) p.h
                have m5 : ∀ p : BelowOf wr, p.w.cell? ⟨g, j * 11 + 5, none⟩ = some (.int .i64 x.is) := fun p => cell_below (hcell' 5 _ rfl) p.h
                have m6 : ∀ p : BelowOf wr, p.w.cell? ⟨g, j * 11 + 6, none⟩ = some (.int .i64 x.rt) := fun p => cell_below (hcell' 6 _ rfl) p.h
                have m7 : ∀ p : BelowOf wr, p.w.cell? ⟨g, j * 11 + 7, none⟩ = some (.int .i64 x.rs) := fun p => cell_below (hcell' 7 _ rfl) p.h
                have m8 : ∀ p : BelowOf wr, p.w.cell? ⟨g, j * 11 + 8, none⟩ = some (.string x.text) := fun p => cell_below (hcell' 8 _ rfl) p.h
                have m9 : ∀ p : BelowOf wr, p.w.cell? ⟨g, j * 11 + 9, none⟩ = some (.slice ya yn yc) := fun p => cell_below (hcell' 9 _ rfl) p.h
                have m10 : ∀ p : BelowOf wr, p.w.cell? ⟨g, j * 11 + 10, none⟩ = some (.int .i64 x.site) := fun p => cell_below (hcell' 10 _ rfl) p.h
                have l0 : ∀ p : BelowOf wr, p.w.cell? ⟨fb, 0, none⟩ = some (.int .i64 f.ds) := fun p => cell_below (bf'.cell 0 _ rfl) p.h
                have l1 : ∀ p : BelowOf wr, p.w.cell? ⟨fb, 1, none⟩ = some (.int .i64 f.dq) := fun p => cell_below (bf'.cell 1 _ rfl) p.h
                have l2 : ∀ p : BelowOf wr, p.w.cell? ⟨fb, 2, none⟩ = some (.slice fa fn fc) := fun p => cell_below (bf'.cell 2 _ rfl) p.h
                have l3 : ∀ p : BelowOf wr, p.w.cell? ⟨fb, 3, none⟩ = some (.int .i64 f.kind) := fun p => cell_below (bf'.cell 3 _ rfl) p.h
                have l4 : ∀ p : BelowOf wr, p.w.cell? ⟨fb, 4, none⟩ = some (.int .i64 f.it) := fun p => cell_below (bf'.cell 4 _ rfl) p.h
                have l5 : ∀ p : BelowOf wr, p.w.cell? ⟨fb, 5, none⟩ = some (.int .i64 f.is) := fun p => cell_below (bf'.cell 5 _ rfl) p.h
                have l6 : ∀ p : BelowOf wr, p.w.cell? ⟨fb, 6, none⟩ = some (.int .i64 f.rt) := fun p => cell_below (bf'.cell 6 _ rfl) p.h
                have l7 : ∀ p : BelowOf wr, p.w.cell? ⟨fb, 7, none⟩ = some (.int .i64 f.rs) := fun p => cell_below (bf'.cell 7 _ rfl) p.h
                have l8 : ∀ p : BelowOf wr, p.w.cell? ⟨fb, 8, none⟩ = some (.string f.text) := fun p => cell_below (bf'.cell 8 _ rfl) p.h
                have l9 : ∀ p : BelowOf wr, p.w.cell? ⟨fb, 9, none⟩ = some (.slice ga gn gc) := fun p => cell_below (bf'.cell 9 _ rfl) p.h
                have l10 : ∀ p : BelowOf wr, p.w.cell? ⟨fb, 10, none⟩ = some (.int .i64 f.site) := fun p => cell_below (bf'.cell 10 _ rfl) p.h
                have kc2 : ∀ p : BelowOf wr, p.w.cell? ⟨b, 2, none⟩ = some (.slice (some ⟨g, 0, none⟩) i cw) := fun p => cell_below c2r p.h
                have hner := BelowOf.ne wr
                have HBF := hide bf'
                have HKF := hide kf
                have Hst := hide hst
                have Hed : Hid (ED w0 P w (x, Value.slice xa xn xc, Value.slice ya yn yc)) := by rw [← hxn, ← hyn]; exact hed.any
                have Hef : Hid (ED w0 P w (f, Value.slice fa fn fc, Value.slice ga gn gc)) := by rw [← hfn, ← hgn]; exact ef
                have hgb : g ≠ fb := fun e => by
                  subst e
                  have := (hq.pw g rfl).2
                  omega
                clear hcell hcell' bf bf' kf ff ef hed hq he hst HJ hxn hyn hfn hgn
                simp only at Hst HFa
                cases hfar : farO x f with
                | true =>
                  rw [hfar] at HFa Hst
                  simp only [if_true] at Hst
                  go_wp2_with fail
                  refine wp_region_quiet_below mixed (by kernel_rfl) ?_
                  repeat (any_goals (first | go_big_quiet_step ((go_at_call 58; exact below_of (unhide HFa _ (BelowOf.h _)))) | quiet_step ((go_at_call 58; exact below_of (unhide HFa _ (BelowOf.h _))))))
                  all_goals (refine wpQuiet_nil ?_; intro _ hw'; obtain ⟨p, hw''⟩ := hw'; subst hw'')
                  have hbp := (unhide HBF).below p.h
                  have t0 := l0 p
                  have s0 := m0 p
                  have z0 := hbp.frozen 0
                  have t1 := l1 p
                  have s1 := m1 p
                  have z1 := hbp.frozen 1
                  have t2 := l2 p
                  have s2 := m2 p
                  have z2 := hbp.frozen 2
                  have t3 := l3 p
                  have s3 := m3 p
                  have z3 := hbp.frozen 3
                  have t4 := l4 p
                  have s4 := m4 p
                  have z4 := hbp.frozen 4
                  have t5 := l5 p
                  have s5 := m5 p
                  have z5 := hbp.frozen 5
                  have t6 := l6 p
                  have s6 := m6 p
                  have z6 := hbp.frozen 6
                  have t7 := l7 p
                  have s7 := m7 p
                  have z7 := hbp.frozen 7
                  have t8 := l8 p
                  have s8 := m8 p
                  have z8 := hbp.frozen 8
                  have t9 := l9 p
                  have s9 := m9 p
                  have z9 := hbp.frozen 9
                  have t10 := l10 p
                  have s10 := m10 p
                  have z10 := hbp.frozen 10
                  have tl := hbp.lt
                  have tc := kc2 p
                  have R := hide (And.intro (hbp.set11 (x0 := .int .i64 x.ds) (x1 := .int .i64 x.dq) (x2 := .slice xa xn xc) (x3 := .int .i64 x.kind) (x4 := .int .i64 x.it) (x5 := .int .i64 x.is) (x6 := .int .i64 x.rt) (x7 := .int .i64 x.rs) (x8 := .string x.text) (x9 := .slice ya yn yc) (x10 := .int .i64 x.site)) (((unhide HKF).trans (Kp.of_below (N := fun _ => False) p.h) (fun i hi => hi.elim)).trans (Kp.set11 p.w fb (.int .i64 x.ds) (.int .i64 x.dq) (.slice xa xn xc) (.int .i64 x.kind) (.int .i64 x.it) (.int .i64 x.is) (.int .i64 x.rt) (.int .i64 x.rs) (.string x.text) (.slice ya yn yc) (.int .i64 x.site)) (fun i hi => .inl hi)))
                  clear hbp kc2 hner HFa m0 m1 m2 m3 m4 m5 m6 m7 m8 m9 m10 l0 l1 l2 l3 l4 l5 l6 l7 l8 l9 l10 HBF HKF
                  go_wp2
                  go_roundw
                  case measure => show i - ((j : Int) + 1).toNat < i - ((j : Nat) : Int).toNat; omega
                  case rel => exact ⟨j + 1, (j : Int), (x, Value.slice xa xn xc, Value.slice ya yn yc), by go_num, rfl, by omega, by omega, by omega, hide ⟨(unhide R).1, (unhide R).2, unhide Hst, unhide Hed⟩⟩
                | false =>
                  rw [hfar] at HFa Hst
                  simp only [Bool.false_eq_true, if_false] at Hst
                  go_wp2_with fail
                  refine wp_region_quiet_below mixed (by kernel_rfl) ?_
                  repeat (any_goals (first | go_big_quiet_step ((go_at_call 58; exact below_of (unhide HFa _ (BelowOf.h _)))) | quiet_step ((go_at_call 58; exact below_of (unhide HFa _ (BelowOf.h _))))))
                  all_goals (refine wpQuiet_nil ?_; intro _ hw'; obtain ⟨p, hw''⟩ := hw'; subst hw'')
                  have R := hide (And.intro ((unhide HBF).below p.h) ((unhide HKF).trans (Kp.of_below (N := fun _ => False) p.h) (fun i hi => hi.elim)))
                  clear kc2 hner HFa m0 m1 m2 m3 m4 m5 m6 m7 m8 m9 m10 l0 l1 l2 l3 l4 l5 l6 l7 l8 l9 l10 HBF HKF
                  go_wp2
                  go_roundw
                  case measure => show i - ((j : Int) + 1).toNat < i - ((j : Nat) : Int).toNat; omega
                  case rel => exact ⟨j + 1, kk, (f, Value.slice fa fn fc, Value.slice ga gn gc), by go_num, rfl, by omega, by omega, by omega, hide ⟨(unhide R).1, (unhide R).2, unhide Hst, unhide Hef⟩⟩
              · obtain rfl : j = i := by omega
                have hji' : ¬ (j : Int) < (j : Int) := by omega
                have hfin := FarR.fin (by rw [show j = (ws.map Prod.fst).length by rw [List.length_map, (unhide HN).2]] at ff; exact ff) (unhide HDD)
                have HQr := hide hq
                have HKr := hide (unhide HBX _ kf).1
                have hzr := (unhide HBX _ kf).2.2
                rcases hfin with ⟨hkm, hfi⟩ | ⟨q, hkq, hql, hfi⟩
                · subst hkm
                  have Hfi := hide hfi
                  clear hfi hq bf kf ff ef HJ hbw
                  go_wp2
                  refine bodyPost_ret (results_tmp2 rfl _ _ _) rfl ?_
                  refine unhide HA _ _ _ _ _ _ ⟨_, _, _, _, _, (unhide HQr).mono (fun i hi => .inl hi.1), rfl, rfl⟩ (unhide HKr) ?_
                  unfold offA
                  rw [unhide Hcr, if_neg (by simp), unhide HNo, if_neg (by simp), unhide Hcan, if_neg (by simp), List.length_map, (unhide HN).2, if_neg (by omega), unhide Hfi, if_pos (by rw [List.length_map, (unhide HN).2]), cut_last]
                · subst hkq
                  have hq0 : ¬ (q : Int) < 0 := by omega
                  have hqw : q < ws.length := by rw [List.length_map] at hql; exact hql
                  have hqj : (q : Int) < (j : Int) := by have := (unhide HN).2; omega
                  have hobr := unhide HOX _ kf
                  have hl9 : ws.length ≤ 900000 := by have := (unhide HN).2; omega
                  have u0 : wr.cell? ⟨w.heap.size, 0, none⟩ = some (.int .i64 o.ds) := hobr.cell 0 _ rfl
                  have u1 : wr.cell? ⟨w.heap.size, 1, none⟩ = some (.int .i64 o.dq) := hobr.cell 1 _ rfl
                  have u2 : wr.cell? ⟨w.heap.size, 2, none⟩ = some (.slice ad nd cd) := hobr.cell 2 _ rfl
                  have u3 : wr.cell? ⟨w.heap.size, 3, none⟩ = some (.int .i64 o.kind) := hobr.cell 3 _ rfl
                  have u4 : wr.cell? ⟨w.heap.size, 4, none⟩ = some (.int .i64 o.it) := hobr.cell 4 _ rfl
                  have u5 : wr.cell? ⟨w.heap.size, 5, none⟩ = some (.int .i64 o.is) := hobr.cell 5 _ rfl
                  have u6 : wr.cell? ⟨w.heap.size, 6, none⟩ = some (.int .i64 o.rt) := hobr.cell 6 _ rfl
                  have u7 : wr.cell? ⟨w.heap.size, 7, none⟩ = some (.int .i64 o.rs) := hobr.cell 7 _ rfl
                  have u8 : wr.cell? ⟨w.heap.size, 8, none⟩ = some (.string o.text) := hobr.cell 8 _ rfl
                  have u9 : wr.cell? ⟨w.heap.size, 9, none⟩ = some (.slice ag ng cg) := hobr.cell 9 _ rfl
                  have u10 : wr.cell? ⟨w.heap.size, 10, none⟩ = some (.int .i64 o.site) := hobr.cell 10 _ rfl
                  have hlr := hq.box.lt
                  have olr := hobr.lt
                  have D0 : Below wr.heap.size wr wr.drew := (Below.refl _ _).drew
                  obtain ⟨Y, hY⟩ : ∃ Y, (wr.alloc (.cells #[.int .i64 o.ds, .int .i64 o.dq, .slice ad nd cd, .int .i64 o.kind, .int .i64 o.it, .int .i64 o.is, .int .i64 o.rt, .int .i64 o.rs, .string o.text, .slice ag ng cg, .int .i64 o.site] 42)).drew = Y := ⟨_, rfl⟩
                  have bY : Below wr.heap.size wr Y := by rw [← hY]; exact (ballc (Below.refl _ _) _).drew
                  have xY : Bx Y wr.heap.size 42 (encO (o, Value.slice ad nd cd, Value.slice ag ng cg)).toArray := by rw [← hY]; exact (Bx.new wr 42 _).below (Below.refl _ _).drew
                  have cY : Y.cell? ⟨b, 2, none⟩ = some (.slice aw j cw) := cell_below c2r bY
                  have HCA := hide (refCut_in (w := wr.drew) (i := q) (n := ws.length) (hq.below D0).rw rfl hqw (fun e he => (hq.we e he).one) (by omega))
                  have HCB := hide (refCut_in (w := Y) (i := q) (n := ws.length) (hq.below bY).rw rfl hqw (fun e he => (hq.we e he).one) (by omega))
                  rw [(unhide HN).2] at HCA HCB
                  have HE : Hid (ED w0 (fun i => P i ∧ i < fb) wr (o, Value.slice ad nd cd, Value.slice ag ng cg)) := (unhide HX0).any
                  have Hfi := hide hfi
                  have Hqw := hide hqw
                  have Hob := hide hobr
                  have BY := hide (And.intro bY xY)
                  have zD : wr.drew.heap.size = wr.heap.size := rfl
                  replace hl9 := hide hl9
                  replace D0 := hide D0
                  clear hfi hq bf kf ff ef HJ hbw hobr bY xY hqw zD HX0 HV0 HOX HBX
                  go_wp2
                  go_region_law (first
                    | (refine step_append_eq rfl (.tmp 131) (.tmp 133) 47 rfl _ _ _ (by simp [Act.eval, Act.put]) (by simp [Act.eval, Act.put]) (unhide hr') ?_)
                    | (go_simp; go_at_call 57; (with_reducible refine (unhide HCA).mono ?_); rintro e V1 ⟨v1, rfl, o1, b1⟩; have b2 : Below wr.heap.size wr V1 := bnext (unhide D0) b1; have ob1 := (unhide Hob).below b2; obtain ⟨X1, hX1⟩ : ∃ X1, V1.alloc (.cells #[.int .i64 o.ds, .int .i64 o.dq, .slice ad nd cd, .int .i64 o.kind, .int .i64 o.it, .int .i64 o.is, .int .i64 o.rt, .int .i64 o.rs, .string o.text, .slice ag ng cg, .int .i64 o.site] 42) = X1 := ⟨_, rfl⟩; have b3 : Below wr.heap.size wr X1 := by { rw [← hX1]; exact ballc b2 _ }; have x3 : Bx X1 V1.heap.size 42 (encO (o, Value.slice ad nd cd, Value.slice ag ng cg)).toArray := by { rw [← hX1]; exact Bx.new V1 42 _ }; have o3 : X1.ownsRow wr.heap.size 42 11 v1 (cutI ws q).length (flat encO (cutI ws q)) := by { rw [← hX1]; exact owns_kp o1 (Kp.of_below (N := fun _ => False) (ballc (Below.refl _ _) _)) (fun i hi e => e) }; obtain ⟨a6, c6, W6, hr, c26, f26, l26, hfin⟩ := off_last (unhide HQr) (unhide Hqw) (unhide hl9) (unhide HE) b3 o3 x3; have hr' := hide hr; have t0 : V1.cell? ⟨w.heap.size, 0, none⟩ = some (.int .i64 o.ds) := ob1.cell 0 _ rfl; have t1 : V1.cell? ⟨w.heap.size, 1, none⟩ = some (.int .i64 o.dq) := ob1.cell 1 _ rfl; have t2 : V1.cell? ⟨w.heap.size, 2, none⟩ = some (.slice ad nd cd) := ob1.cell 2 _ rfl; have t3 : V1.cell? ⟨w.heap.size, 3, none⟩ = some (.int .i64 o.kind) := ob1.cell 3 _ rfl; have t4 : V1.cell? ⟨w.heap.size, 4, none⟩ = some (.int .i64 o.it) := ob1.cell 4 _ rfl; have t5 : V1.cell? ⟨w.heap.size, 5, none⟩ = some (.int .i64 o.is) := ob1.cell 5 _ rfl; have t6 : V1.cell? ⟨w.heap.size, 6, none⟩ = some (.int .i64 o.rt) := ob1.cell 6 _ rfl; have t7 : V1.cell? ⟨w.heap.size, 7, none⟩ = some (.int .i64 o.rs) := ob1.cell 7 _ rfl; have t8 : V1.cell? ⟨w.heap.size, 8, none⟩ = some (.string o.text) := ob1.cell 8 _ rfl; have t9 : V1.cell? ⟨w.heap.size, 9, none⟩ = some (.slice ag ng cg) := ob1.cell 9 _ rfl; have t10 : V1.cell? ⟨w.heap.size, 10, none⟩ = some (.int .i64 o.site) := ob1.cell 10 _ rfl; obtain ⟨av, cv, hv1⟩ := owns_form o1; subst hv1; clear o1 b1 b2 b3 x3 o3 hr ob1)
                    | (go_simp; go_at_call 57; (with_reducible refine (unhide HCB).mono ?_); rintro e V1 ⟨v1, rfl, o1, b1⟩; obtain ⟨a6, c6, W6, hr, c26, f26, l26, hfin⟩ := off_last (unhide HQr) (unhide Hqw) (unhide hl9) (unhide HE) (bnext (unhide BY).1 b1) (owns_wkn o1 (unhide BY).1.size) ((unhide BY).2.below b1); have hr' := hide hr; obtain ⟨av, cv, hv1⟩ := owns_form o1; subst hv1; clear o1 b1 hr))
                  all_goals (
                    go_wp2
                    refine bodyPost_ret (results_tmp2 rfl _ _ _) rfl ?_
                    obtain ⟨q6, kp6⟩ := unhide hfin
                    have zz := (unhide HKr).size
                    have hqw := unhide Hqw
                    have hnj := (unhide HN).2
                    refine unhide HA _ _ _ _ _ _ ⟨_, _, _, _, _, q6.mono (fun i hi => by rcases hi with h | h; exact .inl h.1; exact .inr (by omega)), rfl, rfl⟩ ((unhide HKr).trans kp6 (fun i hi => .inl hi.1)) ?_
                    unfold offA
                    rw [unhide Hcr, if_neg (by simp), unhide HNo, if_neg (by simp), unhide Hcan, if_neg (by simp), List.length_map, (unhide HN).2, if_neg (by omega), unhide Hfi, if_neg (by first | omega | (rw [List.length_map]; omega)), cut_in_front _ _ (by rw [List.length_map]; exact hqw), List.map_append, cutI_map]
                    rfl)

end Go.Proofs.YtkkolefionbbcaaGreat
