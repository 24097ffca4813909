/-
  The document's own: Waits.
-/
import Derived.Test.YtkkolefionbbcaaGreatZXCRC
import Derived.Test.YtkkolefionbbcaaGreatZCRQ
import Derived.Test.YtkkolefionbbcaaGreatZCQF
set_option linter.unusedSimpArgs false
set_option linter.unusedVariables false
namespace Go.Proofs.YtkkolefionbbcaaGreat
open Go.RowKit Go.Lib

theorem flat_setI2 : ∀ (M : List (Int × Int)) (k : Nat) (y : Int × Int), ((flat encI M).set (k * 2) (.int .i64 y.1)).set (k * 2 + 1) (.int .i64 y.2) = flat encI (M.set k y)
  | [], k, y => by simp [flat]
  | x :: M, 0, y => by simp [flat, encI]
  | x :: M, k + 1, y => by
    have ih := flat_setI2 M k y
    rw [List.set_cons_succ, flat_cons, flat_cons, ← ih, show (k + 1) * 2 = k * 2 + 1 + 1 by omega]
    rfl
theorem own_set2 {W : World} {B g n c k : Nat} {l : List (Int × Int)} {x : Int × Int} (h : W.ownsRow B 28 2 (.slice (some ⟨g, 0, none⟩) n c) n (flat encI l)) : ((W.setCell ⟨g, k * 2, none⟩ (.int .i64 x.1)).setCell ⟨g, k * 2 + 1, none⟩ (.int .i64 x.2)).ownsRow B 28 2 (.slice (some ⟨g, 0, none⟩) n c) n (flat encI (l.set k x)) := by
  obtain ⟨h1, (⟨e, _⟩ | ⟨g', cap, cur, e, hB, hg, hnc, hcm, hcs, htk⟩)⟩ := h
  · cases e
  · cases e
    have bx2 := ((show Bx W g 28 cur from hg).set (k * 2) (.int .i64 x.1)).set (k * 2 + 1) (.int .i64 x.2)
    refine ⟨by rw [← flat_setI2, List.length_set, List.length_set]; exact h1, .inr ⟨g, c, _, rfl, hB, bx2, hnc, hcm, by simp [hcs], ?_⟩⟩
    rw [← flat_setI2, ← htk]
    simp [List.take_set]
theorem own_at2 {W : World} {B n k : Nat} {a : Option Addr} {c : Nat} {l : List (Int × Int)} {x : Int × Int} (h : W.ownsRow B 28 2 (.slice a n c) n (flat encI l)) (hx : l[k]? = some x) : ∃ g, a = some ⟨g, 0, none⟩ ∧ B ≤ g ∧ g < W.heap.size ∧ W.cell? ⟨g, k * 2, none⟩ = some (.int .i64 x.1) ∧ W.cell? ⟨g, k * 2 + 1, none⟩ = some (.int .i64 x.2) ∧ ∀ j, W.frozen? ⟨g, j, none⟩ = false := by
  have hl : l.length = n := by have := h.1; rw [flat_len encI_lenT] at this; omega
  have hk := (List.getElem?_eq_some_iff.1 hx).1
  have hc := h
  obtain ⟨h1, (⟨e, h0⟩ | ⟨g, cap, cur, e, hB, hg, hnc, hcm, hcs, htk⟩)⟩ := h
  · omega
  · cases e
    have bx : Bx W g 28 cur := hg
    refine ⟨g, rfl, hB, bx.lt, ?_, ?_, fun j => bx.frozen j⟩
    · have := hc.cellAt (k * 2) (by omega)
      rw [this]
      have e := flat_get encI_lenT l k 0 x hx (by omega)
      rw [Nat.add_zero] at e
      rw [e]; rfl
    · have := hc.cellAt (k * 2 + 1) (by omega)
      rw [this]
      have e := flat_get encI_lenT l k 1 x hx (by omega)
      rw [e]; rfl
theorem ownD2 {W : World} {B E k n : Nat} {v : Value} {C : List Value} (h : W.ownsRow B E k v n C) (m : Nat) : World.ownsRow { W with drawn := m } B E k v n C := h
theorem sw_end {w X : World} {g1 n c m : Nat} {xa xb ya yb : Int} {o : Obj} {T : List (Int × Int)} (h : Hid (∃ L', X.ownsRow w.heap.size 28 2 (.slice (some ⟨g1, 0, none⟩) n c) n (flat encI L') ∧ (swpI L' (m + 1) (ya, yb) (xa, xb)).Perm T ∧ SwR (swpI L' (m + 1) (ya, yb) (xa, xb)) m ∧ Below w.heap.size w X)) (hB : w.heap.size ≤ g1) :
    Hid (∃ L', World.ownsRow (((((X.setCell ⟨g1, (m + 1) * 2, none⟩ (.int .i64 ya)).setCell ⟨g1, (m + 1) * 2 + 1, none⟩ (.int .i64 yb)).setCell ⟨g1, m * 2, none⟩ (.int .i64 xa)).setCell ⟨g1, m * 2 + 1, none⟩ (.int .i64 xb)).alloc o) w.heap.size 28 2 (.slice (some ⟨g1, 0, none⟩) n c) n (flat encI L') ∧ L'.Perm T ∧ SwR L' m ∧ Below w.heap.size w (((((X.setCell ⟨g1, (m + 1) * 2, none⟩ (.int .i64 ya)).setCell ⟨g1, (m + 1) * 2 + 1, none⟩ (.int .i64 yb)).setCell ⟨g1, m * 2, none⟩ (.int .i64 xa)).setCell ⟨g1, m * 2 + 1, none⟩ (.int .i64 xb)).alloc o)) := by
  obtain ⟨L', s1, s2, s3, s4⟩ := unhide h
  have t2 := own_set2 (k := m) (x := (xa, xb)) (own_set2 (k := m + 1) (x := (ya, yb)) s1)
  exact hide ⟨_, t2.alloc o, s2, s3, ballc (bset (bset (bset (bset s4 _ hB _) _ hB _) _ hB _) _ hB _) o⟩
variable {w0 : World} {P N : Nat → Prop} {w W W' : World} {b : Nat} {hold : Int} {vh vw vr : Value} {hv : List (Int × Int)} {ws rd : List (Opn × Value × Value)}
set_option maxRecDepth 100000 in
set_option maxHeartbeats 8000000 in
theorem refWaits_in (h : QD w0 P w b hold vh vw vr hv ws rd) (hl : ws.length ≤ 900000) :
    Calls Tryz.prog 59 #[.pointer (some ⟨b, 0, none⟩)] w fun e W => ∃ v', e = .returned v' ∧ W.ownsRow w.heap.size 28 2 v' ws.length (flat encI (sortI (dotsT ws))) ∧ Below w.heap.size w W := by
  obtain ⟨aw, cw, hvw⟩ := owns_form h.rw
  obtain ⟨n, hn⟩ : ∃ n, ws.length = n := ⟨_, rfl⟩
  have Hn := hide hn
  have Hh := hide h
  rw [hn] at hvw hl ⊢
  subst hvw
  have c2 : w.cell? ⟨b, 2, none⟩ = some (.slice aw n cw) := h.c2
  have blt := h.box.lt
  clear h hn
  go_enter Tryz.func59, Tryz.ntmps59
  go_wp2
  go_loopw [3, 4] (fun u u' wr => ∃ (i : Nat) (a : Option Addr) (c : Nat), i ≤ n ∧ u = .slice a i c ∧ u' = .int .i64 (i : Nat) ∧ Hid (∃ L, wr.ownsRow w.heap.size 28 2 (.slice a i c) i (flat encI L) ∧ L.Perm (dotsT (ws.take i)) ∧ SrtI L ∧ Below w.heap.size w wr)) (fun _ u' _ => n - (RowKit.intOf u').toNat)
  case atStart => exact ⟨0, none, 0, Nat.zero_le _, rfl, rfl, hide ⟨[], World.ownsRow_nil _ _ _ _, by simp [dotsT], List.Pairwise.nil, Below.refl _ _⟩⟩
  case round =>
    obtain ⟨i, a, c, hi, rfl, rfl, HI⟩ := hrel
    have c2r : wr.cell? ⟨b, 2, none⟩ = some (.slice aw n cw) := by
      obtain ⟨L, _, _, _, hb⟩ := unhide HI
      exact cell_below c2 hb
    by_cases hlt : i < n
    · have hlt' : (i : Int) < (n : Int) := by omega
      have hil : i < ws.length := by rw [unhide Hn]; exact hlt
      obtain ⟨e, hx⟩ : ∃ e, ws[i]? = some e := ⟨_, List.getElem?_eq_getElem hil⟩
      obtain ⟨L, hL, hp, hs, hb⟩ := unhide HI
      have hrw := ((unhide Hh).below hb).rw
      rw [unhide Hn] at hrw
      obtain ⟨g, rfl, hg, hc⟩ := own_at11 hrw (unhide Hn) hx
      have q0 := hc 0 _ rfl
      have q1 := hc 1 _ rfl
      rw [Nat.add_zero] at q0
      have hll : L.length = i := by have := hL.1; rw [flat_len encI_lenT] at this; omega
      have hLx : SwR (L ++ [(e.1.ds, e.1.dq)]) i := by have := SwR.start hs (e.1.ds, e.1.dq); rw [hll] at this; exact this
      have hpx : (L ++ [(e.1.ds, e.1.dq)]).Perm (dotsT (ws.take (i + 1))) := by
        rw [List.take_add_one, hx]
        unfold dotsT at *
        rw [List.map_append]
        exact List.Perm.append hp (by simp [dotO])
      obtain ⟨v', W1, hr, ho, hgr, hat⟩ := append_dotS wr 22 w.heap.size (.slice a i c) L e.1.ds e.1.dq (by rw [hll]; exact hL) hb.size (by omega)
      have b1 : Below w.heap.size w W1 := (ballc hb _).grown hgr (ballc hb _).size (fun k hk => (hL.lt k hk).1)
      obtain ⟨a1, c1, hv1⟩ := owns_form ho
      rw [List.length_append, hll] at hv1 ho
      simp only [List.length_cons, List.length_nil, Nat.zero_add] at hv1 ho
      subst hv1
      have HS0 := hide (show ∃ L', W1.ownsRow w.heap.size 28 2 (.slice a1 (i + 1) c1) (i + 1) (flat encI L') ∧ L'.Perm (dotsT (ws.take (i + 1))) ∧ SwR L' i ∧ Below w.heap.size w W1 from ⟨_, ho, hpx, hLx, b1⟩)
      have H1 := hide hr
      clear hr ho hgr hat b1 hL hp hs hb hc hrw hLx hpx HI
      go_wp2_with (at_builtin; refine wpList_append_eq rfl _ _ 22 rfl _ _ _ _ rfl rfl (unhide H1) ?_; clear H1)
      go_loopw [5] (fun kv wr => ∃ k : Nat, k ≤ i ∧ kv = .int .i64 (k : Nat) ∧ Hid (∃ L', wr.ownsRow w.heap.size 28 2 (.slice a1 (i + 1) c1) (i + 1) (flat encI L') ∧ L'.Perm (dotsT (ws.take (i + 1))) ∧ SwR L' k ∧ Below w.heap.size w wr)) (fun kv _ => (RowKit.intOf kv).toNat)
      case atStart => exact ⟨i, Nat.le_refl _, by go_num, HS0⟩
      case round =>
        obtain ⟨k, hk, rfl, HJ⟩ := hrel
        clear HS0
        cases k with
        | zero =>
          have HF : Hid (∃ L', wr.ownsRow w.heap.size 28 2 (.slice a1 (i + 1) c1) (i + 1) (flat encI L') ∧ L'.Perm (dotsT (ws.take (i + 1))) ∧ SrtI L' ∧ Below w.heap.size w wr) := by
            obtain ⟨L', hL, hp, hsw, hb⟩ := unhide HJ
            exact hide ⟨L', hL, hp, hsw.fin (.inl rfl), hb⟩
          clear HJ
          go_wp2
          go_quiet (fail)
          go_wp2
          go_roundw
          case measure => show n - ((i : Int) + 1).toNat < n - ((i : Nat) : Int).toNat; omega
          case rel =>
            obtain ⟨L2, t1, t2, t3, t4⟩ := unhide HF
            exact ⟨i + 1, a1, c1, by omega, rfl, by go_num, hide ⟨L2, ownD2 t1 _, t2, t3, bdrew t4 _⟩⟩
        | succ m =>
          obtain ⟨L', hL, hp, hsw, hb⟩ := unhide HJ
          have hlen : L'.length = i + 1 := by have := hL.1; rw [flat_len encI_lenT] at this; omega
          obtain ⟨x, hx⟩ : ∃ x, L'[m + 1]? = some x := ⟨_, List.getElem?_eq_getElem (by omega)⟩
          obtain ⟨y, hy⟩ : ∃ y, L'[m]? = some y := ⟨_, List.getElem?_eq_getElem (by omega)⟩
          obtain ⟨g1, e1, hBg, hgl, x0, x1, hfz⟩ := own_at2 hL hx
          obtain ⟨g2, e2, _, _, y0, y1, _⟩ := own_at2 hL hy
          subst e1
          cases e2
          have hm0 : (0 : Int) < (m : Int) + 1 := by omega
          have hm4 : (m : Int) + 1 < (i : Int) + 1 := by omega
          have hm5 : (m : Int) < (i : Int) + 1 := by omega
          have hm6 : (0 : Int) ≤ (m : Int) + 1 := by omega
          have hm7 : (0 : Int) ≤ (m : Int) := by omega
          have hm9 : IntKind.i64.wrap (m : Int) = (m : Int) := by simp only [IntKind.wrap_i64]; omega
          have hm8 : ((m : Int) + 1).toNat = m + 1 := by omega
          have hm2 : (m : Int) + 1 ≤ (i : Int) := by omega
          have hm3 : (m : Int) < (i : Int) := by omega
          have hi3 : (i : Int) ≤ 900000 := by omega
          have hgn : g1 ≠ wr.heap.size := by omega
          obtain ⟨xa, xb⟩ := x
          obtain ⟨ya, yb⟩ := y
          simp only at x0 x1 y0 y1
          rw [show (((m + 1 : Nat)) : Int) = (m : Int) + 1 by omega]
          clear HJ
          by_cases hlx : lexLt (xa, xb) (ya, yb)
          · have HS : Hid (∃ L', wr.ownsRow w.heap.size 28 2 (.slice (some ⟨g1, 0, none⟩) (i + 1) c1) (i + 1) (flat encI L') ∧ L'[m]? = some (ya, yb) ∧ L'[m + 1]? = some (xa, xb) ∧ (swpI L' (m + 1) (ya, yb) (xa, xb)).Perm (dotsT (ws.take (i + 1))) ∧ SwR (swpI L' (m + 1) (ya, yb) (xa, xb)) m ∧ Below w.heap.size w wr) := hide ⟨L', hL, hy, hx, (swp_perm (by omega) hy hx).trans hp, hsw.step (by omega) hy hx hlx, hb⟩
            have hl2 := hlx
            unfold lexLt at hl2
            simp only at hl2
            by_cases h1 : xa < ya
            · have h2 : (xa == ya) = false := by simp; omega
              clear hL hp hsw hb hlx hx hy hl2
              go_wp2
              go_quiet (fail)
              obtain ⟨X, hX⟩ : ∃ X, wr.drewN nq = X := ⟨_, rfl⟩
              have HX : Hid (∃ L', X.ownsRow w.heap.size 28 2 (.slice (some ⟨g1, 0, none⟩) (i + 1) c1) (i + 1) (flat encI L') ∧ (swpI L' (m + 1) (ya, yb) (xa, xb)).Perm (dotsT (ws.take (i + 1))) ∧ SwR (swpI L' (m + 1) (ya, yb) (xa, xb)) m ∧ Below w.heap.size w X) := by
                obtain ⟨L', s1, _, _, s2, s3, s4⟩ := unhide HS
                rw [← hX]
                exact hide ⟨L', s1, s2, s3, bdrew s4 _⟩
              rw [hX]
              replace x0 : X.cell? ⟨g1, (m + 1) * 2, none⟩ = some (.int .i64 xa) := by rw [← hX]; exact x0
              replace x1 : X.cell? ⟨g1, (m + 1) * 2 + 1, none⟩ = some (.int .i64 xb) := by rw [← hX]; exact x1
              replace y0 : X.cell? ⟨g1, m * 2, none⟩ = some (.int .i64 ya) := by rw [← hX]; exact y0
              replace y1 : X.cell? ⟨g1, m * 2 + 1, none⟩ = some (.int .i64 yb) := by rw [← hX]; exact y1
              have f0 : X.frozen? ⟨g1, (m + 1) * 2, none⟩ = false := by rw [← hX]; exact hfz _
              have f1 : X.frozen? ⟨g1, (m + 1) * 2 + 1, none⟩ = false := by rw [← hX]; exact hfz _
              have f2 : X.frozen? ⟨g1, m * 2, none⟩ = false := by rw [← hX]; exact hfz _
              have f3 : X.frozen? ⟨g1, m * 2 + 1, none⟩ = false := by rw [← hX]; exact hfz _
              replace hgl : g1 < X.heap.size := by rw [← hX]; exact hgl
              replace hgn : g1 ≠ X.heap.size := by omega
              clear hX hfz HS
              go_wp2
              go_roundw
              case measure => show ((m : Nat) : Int).toNat < ((m : Int) + 1).toNat; omega
              case rel => exact ⟨m, by omega, by go_num, sw_end HX hBg⟩
            · have h2 : (xa == ya) = true := by simp; omega
              have h3 : xb < yb := by omega
              clear hL hp hsw hb hlx hx hy hl2
              go_wp2
              go_quiet (fail)
              obtain ⟨X, hX⟩ : ∃ X, wr.drewN nq = X := ⟨_, rfl⟩
              have HX : Hid (∃ L', X.ownsRow w.heap.size 28 2 (.slice (some ⟨g1, 0, none⟩) (i + 1) c1) (i + 1) (flat encI L') ∧ (swpI L' (m + 1) (ya, yb) (xa, xb)).Perm (dotsT (ws.take (i + 1))) ∧ SwR (swpI L' (m + 1) (ya, yb) (xa, xb)) m ∧ Below w.heap.size w X) := by
                obtain ⟨L', s1, _, _, s2, s3, s4⟩ := unhide HS
                rw [← hX]
                exact hide ⟨L', s1, s2, s3, bdrew s4 _⟩
              rw [hX]
              replace x0 : X.cell? ⟨g1, (m + 1) * 2, none⟩ = some (.int .i64 xa) := by rw [← hX]; exact x0
              replace x1 : X.cell? ⟨g1, (m + 1) * 2 + 1, none⟩ = some (.int .i64 xb) := by rw [← hX]; exact x1
              replace y0 : X.cell? ⟨g1, m * 2, none⟩ = some (.int .i64 ya) := by rw [← hX]; exact y0
              replace y1 : X.cell? ⟨g1, m * 2 + 1, none⟩ = some (.int .i64 yb) := by rw [← hX]; exact y1
              have f0 : X.frozen? ⟨g1, (m + 1) * 2, none⟩ = false := by rw [← hX]; exact hfz _
              have f1 : X.frozen? ⟨g1, (m + 1) * 2 + 1, none⟩ = false := by rw [← hX]; exact hfz _
              have f2 : X.frozen? ⟨g1, m * 2, none⟩ = false := by rw [← hX]; exact hfz _
              have f3 : X.frozen? ⟨g1, m * 2 + 1, none⟩ = false := by rw [← hX]; exact hfz _
              replace hgl : g1 < X.heap.size := by rw [← hX]; exact hgl
              replace hgn : g1 ≠ X.heap.size := by omega
              clear hX hfz HS
              go_wp2
              go_roundw
              case measure => show ((m : Nat) : Int).toNat < ((m : Int) + 1).toNat; omega
              case rel => exact ⟨m, by omega, by go_num, sw_end HX hBg⟩
          · have hl2 := hlx
            unfold lexLt at hl2
            simp only at hl2
            have h1 : ¬ xa < ya := by omega
            by_cases h3 : xa = ya
            · have h2 : (xa == ya) = true := by simpa using h3
              have h4 : ¬ xb < yb := by omega
              clear hl2 h3
              have HF : Hid (∃ L', wr.ownsRow w.heap.size 28 2 (.slice (some ⟨g1, 0, none⟩) (i + 1) c1) (i + 1) (flat encI L') ∧ L'.Perm (dotsT (ws.take (i + 1))) ∧ SrtI L' ∧ Below w.heap.size w wr) := hide ⟨L', hL, hp, hsw.fin (.inr ⟨_, _, hy, hx, hlx⟩), hb⟩
              clear hL hp hsw hb hlx hx hy hfz
              go_wp2
              go_quiet (fail)
              go_wp2
              go_roundw
              case measure => show n - ((i : Int) + 1).toNat < n - ((i : Nat) : Int).toNat; omega
              case rel =>
                obtain ⟨L2, t1, t2, t3, t4⟩ := unhide HF
                exact ⟨i + 1, _, c1, by omega, rfl, by go_num, hide ⟨L2, ownD2 t1 _, t2, t3, bdrew t4 _⟩⟩
            · have h2 : (xa == ya) = false := by simpa using h3
              clear hl2 h3
              have HF : Hid (∃ L', wr.ownsRow w.heap.size 28 2 (.slice (some ⟨g1, 0, none⟩) (i + 1) c1) (i + 1) (flat encI L') ∧ L'.Perm (dotsT (ws.take (i + 1))) ∧ SrtI L' ∧ Below w.heap.size w wr) := hide ⟨L', hL, hp, hsw.fin (.inr ⟨_, _, hy, hx, hlx⟩), hb⟩
              clear hL hp hsw hb hlx hx hy hfz
              have mixed : Tryz.prog.follows .mixedOrders = true := by kernel_rfl
              have z0 : ∀ p : BelowOf wr, p.w.cell? ⟨g1, (m + 1) * 2, none⟩ = some (.int .i64 xa) := fun p => cell_below x0 p.h
              have z1 : ∀ p : BelowOf wr, p.w.cell? ⟨g1, (m + 1) * 2 + 1, none⟩ = some (.int .i64 xb) := fun p => cell_below x1 p.h
              have z2 : ∀ p : BelowOf wr, p.w.cell? ⟨g1, m * 2, none⟩ = some (.int .i64 ya) := fun p => cell_below y0 p.h
              have z3 : ∀ p : BelowOf wr, p.w.cell? ⟨g1, m * 2 + 1, none⟩ = some (.int .i64 yb) := fun p => cell_below y1 p.h
              have hner := BelowOf.ne wr
              clear x0 x1 y0 y1
              go_wp2_with fail
              refine wp_region_quiet_below mixed (by kernel_rfl) ?_
              repeat (any_goals (first | go_big_quiet_step ((fail)) | quiet_step ((fail))))
              all_goals (refine wpQuiet_nil ?_; intro _ hw'; obtain ⟨p, hw''⟩ := hw'; subst hw'')
              obtain ⟨X, hX⟩ : ∃ X, p.w = X := ⟨_, rfl⟩
              have HX : Hid (∃ L', X.ownsRow w.heap.size 28 2 (.slice (some ⟨g1, 0, none⟩) (i + 1) c1) (i + 1) (flat encI L') ∧ L'.Perm (dotsT (ws.take (i + 1))) ∧ SrtI L' ∧ Below w.heap.size w X) := by
                obtain ⟨L2, t1, t2, t3, t4⟩ := unhide HF
                rw [← hX]
                exact hide ⟨L2, owns_kp t1 (Kp.of_below (N := fun _ => False) p.h) (fun i hi e => e), t2, t3, bnext t4 p.h⟩
              rw [hX]
              clear z0 z1 z2 z3 hner hX HF
              go_wp2
              go_roundw
              case measure => show n - ((i : Int) + 1).toNat < n - ((i : Nat) : Int).toNat; omega
              case rel => exact ⟨i + 1, _, c1, by omega, rfl, by go_num, HX⟩
    · obtain rfl : i = n := by omega
      have hlt' : ¬ (i : Int) < (i : Int) := by omega
      have HF : Hid (∃ v', Value.slice a i c = v' ∧ wr.ownsRow w.heap.size 28 2 v' i (flat encI (sortI (dotsT ws))) ∧ Below w.heap.size w wr) := by
        obtain ⟨L, hL, hp, hs, hb⟩ := unhide HI
        rw [List.take_of_length_le (by rw [unhide Hn]; exact Nat.le_refl _)] at hp
        rw [sortI_uniq hp hs] at hL
        exact hide ⟨_, rfl, hL, hb⟩
      clear HI
      go_wp2
      go_ret
      obtain ⟨v', rfl, h1, h2⟩ := unhide HF
      exact ⟨_, rfl, h1, h2⟩

end Go.Proofs.YtkkolefionbbcaaGreat
