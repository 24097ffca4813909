/-
  The law's step: Settle. (genstep14.py)
-/
import Derived.Test.YtjiphechhfifgaaZXS
import Derived.Test.YtjiphechhfifgaaZQW
import Derived.Deep.CutRange
set_option linter.unusedSimpArgs false
set_option linter.unusedVariables false
namespace Go.Proofs.Ytjiphechhfifgaa
open Go.RowKit Go.Lib

set_option maxRecDepth 100000 in
set_option maxHeartbeats 16000000 in
theorem step_2 {P : Nat → Prop} {w : World} {b n r : Nat} {S : StF} (h : PX P w (fun _ => False) w b n S r S) (hP : ∀ i, P i → i < w.heap.size) (hn : n ≤ 999999) (s : Stp) (hs : StW w s) (hlv : s.vec.length ≤ 20000) (hlm : s.mem.length ≤ 20000) (hav : ∀ i, rb s.vv s.vec.length i → ¬ P i) (ham : ∀ i, rb s.vm s.mem.length i → ¬ P i) (hk : s.kind = 2) :
    Calls Try.prog 13 #[.pointer (some ⟨b, 0, none⟩), .pointer (some ⟨r, 0, none⟩), stA s] w (StpA P w b n r (doS s S)) := by
  obtain ⟨av, cv, hv0⟩ := hs.fv
  obtain ⟨am, cm, hm0⟩ := hs.fm
  have rv := hs.rv
  have rm := hs.rm
  have h64 := hs.inm
  have hsi := hs.sin
  obtain ⟨kind, site, vl, ml, vv, vm⟩ := s
  simp only at hv0 hm0 rv rm h64 hsi hlv hlm hav ham hk
  subst hv0 hm0
  clear hs
  unfold stA doS
  simp only
  subst hk
  rw [if_neg (show ¬ (2 : Int) = 1 by decide), if_pos rfl]
  obtain ⟨T, hT⟩ : ∃ T, setS S vl = T := ⟨_, rfl⟩
  rw [hT]
  have HT := hide hT
  clear hT
  obtain ⟨X, a1, c1, W1, gv, gc, W2, a3, c3, W3, hv, hc, W4, K, Z, hX, hap1, hap2, hap3, hap4, ⟨x0, x0l⟩, ⟨x1, x1l⟩, ⟨hgc, hhc⟩, hne, sk, k0, zz⟩ := step_pre h hP 2 site vl ml av cv am cm hsi h64 rv rm hlv hlm hav ham
  have SK := hide sk
  have K0 := hide k0
  have ZZ := hide zz
  have hslv := fun W n => sl_toVt W (some ⟨gv, 0, none⟩) n gc vl.length (by omega)
  have hslm := fun W n => sl_toNt W (some ⟨hv, 0, none⟩) n hc ml.length (by omega)
  have yb := sk.box _ _ _ _ k0
  have y0 := yb.cell 0 _ rfl
  have y1 := yb.cell 1 _ rfl
  have y2 := yb.cell 2 _ rfl
  have y3 := yb.cell 3 _ rfl
  have yl := yb.lt
  clear sk k0 zz yb h hP rv rm h64 hsi hav ham
  go_enter Try.func13, Try.ntmps13
  go_upto_region 13 with (at_builtin; first | (have H1 := hap1; clear hap1; refine wpList_append_eq rfl _ _ 31 rfl _ _ _ _ rfl rfl (unhide H1) ?_; clear H1) | (have H2 := hap2; clear hap2; refine wpList_append_eq rfl _ _ 31 rfl _ _ _ _ rfl rfl (unhide H2) ?_; clear H2) | (have H3 := hap3; clear hap3; refine wpList_append_eq rfl _ _ 32 rfl _ _ _ _ rfl rfl (unhide H3) ?_; clear H3) | (have H4 := hap4; clear hap4; refine wpList_append_eq rfl _ _ 32 rfl _ _ _ _ rfl rfl (unhide H4) ?_; clear H4))
  try clear hap1
  try clear hap2
  try clear hap3
  try clear hap4
  clear x0 x0l x1 x1l hX
  have H1 := hide ((unhide SK).set1 _ _ _ _ (unhide K0))
  have H2 : Hid (∀ W, K n W T S → Calls Try.prog 26 #[.pointer (some ⟨r, 0, none⟩), .slice av vl.length cv] W fun e W' => e = .returned (.tuple #[]) ∧ Hid (K n W' T T)) := fun W hk => by
    refine ((unhide SK).set2 _ _ _ _ hk).mono ?_
    rintro e W' ⟨rfl, h1⟩
    rw [unhide HT] at h1
    exact ⟨rfl, h1⟩
  rw [unhide HT] at H1
  clear K0
  go_wp2_with fail
  refine (unhide H1).mono ?_
  rintro e W5 ⟨rfl, K5⟩
  replace H2 := hide (unhide H2 W5 K5)
  have yb := (unhide SK).box _ _ _ _ K5
  clear y0 y1 y2 y3 yl H1 K5
  have y2 := yb.cell 2 _ rfl
  have yl := yb.lt
  clear yb
  go_wp2_with fail
  refine (unhide H2).mono ?_
  rintro e W6 ⟨rfl, HK⟩
  clear y2 yl H2
  have yb := (unhide SK).box _ _ _ _ (unhide HK)
  have y0 := yb.cell 0 _ rfl
  have y1 := yb.cell 1 _ rfl
  have y2 := yb.cell 2 _ rfl
  have y3 := yb.cell 3 _ rfl
  have yl := yb.lt
  clear yb
  have HM5 := hide ((unhide SK).mn _ _ _ _ (unhide HK))
  go_wp2
  go_loopw [10, 13] (fun ok iv wr => ∃ i : Nat, ok = .bool true ∧ iv = .int .i64 (i : Nat) ∧ i ≤ ml.length ∧ Hid (Kp (fun k => k = hv) W6 wr ∧ SS W6 wr ∧ ∀ j x, i ≤ j → (nC (ml ++ [77]))[j]? = some x → wr.cell? ⟨hv, j, none⟩ = some x)) (fun _ iv _ => ml.length - (RowKit.intOf iv).toNat)
  case atStart => exact ⟨0, rfl, rfl, by omega, hide ⟨Kp.refl _ _, SS.refl _, fun j x _ hx => by
    have hj : j < (nC (ml ++ [77])).length := (List.getElem?_eq_some_iff.1 hx).1
    rw [nC_len] at hj
    simp at hj
    exact ((unhide HM5).cellAt j (by omega)).trans hx⟩⟩
  case round =>
    clear y0 y1 y2 y3 yl
    obtain ⟨i, rfl, rfl, hi, HI⟩ := hrel
    obtain ⟨qrm, qrv, qmv, qbx⟩ := (unhide SK).rm _ _ _ _ _ (unhide HK) (unhide HI).1
    have y2 := qbx.cell 2 _ rfl
    have y3 := qbx.cell 3 _ rfl
    have yl := qbx.lt
    by_cases hlt : i < ml.length
    · have hlt' : (i : Int) < (ml.length : Int) := by omega
      have hlt'' : (i : Int) < (ml.length : Int) + 1 := by omega
      obtain ⟨gb, off, rfl, gl, gcell⟩ := RN.at qrm (List.getElem?_eq_getElem hlt)
      have hcell := (unhide HI).2.2 i (.int .i64 ml[i]) (Nat.le_refl _) (nC_at ml hlt)
      obtain ⟨g, hge, l0, fz, cc, _⟩ := ((OwX.of (unhide HM5)).ss (unhide HI).2.1).at (by omega)
      simp only [Option.some.injEq, Addr.mk.injEq, and_true] at hge
      subst hge
      have f0 := fz i
      have G10 : Hid (∀ q, Kp (fun k => k = hv) W6 ((wr.drewN q).setCell ⟨hv, i, none⟩ (.int .i64 3)) ∧ SS W6 ((wr.drewN q).setCell ⟨hv, i, none⟩ (.int .i64 3)) ∧ ∀ j x, i + 1 ≤ j → (nC (ml ++ [77]))[j]? = some x → ((wr.drewN q).setCell ⟨hv, i, none⟩ (.int .i64 3)).cell? ⟨hv, j, none⟩ = some x) := fun q => by
        have bd := bdrew (Below.refl wr.heap.size wr) q
        refine ⟨((unhide HI).1.trans (Kp.of_below (N := fun _ => False) bd) (fun _ h => h.elim)).trans (Kp.set (N := fun k => k = hv) _ _ _ rfl) (fun i e => .inl e), ((unhide HI).2.1.trans (SS.below bd)).trans (SS.set _ _ _ _), fun j x hj hx => ?_⟩
        rw [World.cell?_setCell_other _ _ _ _ (by intro h; simp only [Addr.mk.injEq] at h; omega)]
        exact cell_below ((unhide HI).2.2 j x (by omega) hx) bd
      generalize ml[i] = x at *
      clear HI fz cc qrm qrv qmv qbx
      go_wp2
      go_quiet (fail)
      go_wp2
      go_roundw
      case rel => exact ⟨i + 1, rfl, by go_num, by omega, hide (unhide G10 _)⟩
      case measure => simp [RowKit.intOf]; omega
    · have hlt' : ¬ (i : Int) < (ml.length : Int) := by omega
      obtain rfl : i = ml.length := by omega
      have h77 := hide ((unhide HI).2.2 ml.length (.int .i64 77) (Nat.le_refl _) (nC_last ml))
      have HQ := hide qmv
      have HXB := hide qbx
      have HL0 := hide ((unhide HM5).lo.2)
      have zr := (unhide HI).1.size
      have HVs : Hid (Calls Try.prog 23 #[.slice (some ⟨gv, 0, none⟩) vl.length gc, .slice av vl.length cv] wr fun e V => e = .returned (.bool true) ∧ Below wr.heap.size wr V) := by
        refine (vectors_in vl vl _ _ wr qmv.ri qrv (by omega) (by omega)).mono ?_
        rintro e V ⟨rfl, q, rfl⟩
        exact ⟨by rw [decide_eq_true rfl], bdrew (Below.refl _ _) _⟩
      clear qrm qrv qmv qbx HM5
      go_wp2_with fail
      refine (unhide HVs).mono ?_
      rintro e V ⟨rfl, hb⟩
      have e1 := cell_below (unhide HQ).md.2 hb
      have e2 := cell_below (unhide h77) hb
      have gl := (unhide HQ).lo.2
      have hl := unhide HL0
      have bl := hb.size
      have glv : gv < V.heap.size := by omega
      have hlv' : hv < V.heap.size := by omega
      have qb := (unhide HXB).below hb
      have k2 := qb.cell 2 _ rfl
      have k3 := qb.cell 3 _ rfl
      have kl := qb.lt
      have i1 : (vl.length : Int) < (vl.length : Int) + 1 := by omega
      have i2 : (ml.length : Int) < (ml.length : Int) + 1 := by omega
      have KV : Hid (Kp (fun i => i = hv) W6 V) := hide ((unhide HI).1.trans (Kp.of_below (N := fun _ => False) hb) (fun _ h => h.elim))
      have XM : Hid (OwX V 56 2 (.slice (some ⟨gv, 0, none⟩) (vl.length + 1) gc) (vl.length + 1)) := hide ((OwX.of (unhide HQ)).ss (SS.below hb))
      clear HVs hb qb y2 y3 yl HI h77 HQ HXB gl hl HL0
      go_wp2
      clear e1 e2 k2 k3 kl i1 i2
      have G9 : Hid (Kp (fun i => i = gv) V V ∧ SS V V) := hide ⟨Kp.refl _ _, SS.refl _⟩
      go_loopw [14] (fun iv wr => ∃ i : Nat, iv = .int .i64 (i : Nat) ∧ i ≤ vl.length + 1 ∧ Hid (Kp (fun i => i = gv) V wr ∧ SS V wr)) (fun iv _ => vl.length + 1 - (RowKit.intOf iv).toNat)
      case atStart => exact ⟨0, rfl, by omega, G9⟩
      case round =>
        clear G9
        obtain ⟨i, rfl, hi, G9⟩ := hrel
        by_cases hlt : i < vl.length + 1
        · have hlt' : (i : Int) < (vl.length : Int) + 1 := by omega
          obtain ⟨g, hge, l0, fz, cc, _⟩ := ((unhide XM).ss (unhide G9).2).at (by omega)
          simp only [Option.some.injEq, Addr.mk.injEq, and_true] at hge
          subst hge
          obtain ⟨u0, d0⟩ := cc (i * 2) (by omega)
          obtain ⟨u1, d1⟩ := cc (i * 2 + 1) (by omega)
          have f0 := fz (i * 2)
          have f1 := fz (i * 2 + 1)
          have G10 : Hid (Kp (fun i => i = gv) V ((wr.setCell ⟨gv, i * 2, none⟩ (.int .i64 1)).setCell ⟨gv, i * 2 + 1, none⟩ (.int .i64 99)) ∧ SS V ((wr.setCell ⟨gv, i * 2, none⟩ (.int .i64 1)).setCell ⟨gv, i * 2 + 1, none⟩ (.int .i64 99))) :=
            hide ⟨((unhide G9).1.trans (Kp.set (N := fun k => k = gv) _ _ _ rfl) (fun i e => .inl e)).trans (Kp.set (N := fun k => k = gv) _ _ _ rfl) (fun i e => .inl e), ((unhide G9).2.trans (SS.set _ _ _ _)).trans (SS.set _ _ _ _)⟩
          clear G9 fz cc
          go_wp2
          go_roundw
          case rel => exact ⟨i + 1, by go_num, by omega, G10⟩
          case measure => simp [RowKit.intOf]; omega
        · have hlt' : ¬ (i : Int) < (vl.length : Int) + 1 := by omega
          have R := hide (unhide ZZ _ _ _ (by omega) ((unhide SK).fin _ _ _ _ _ (unhide HK) (((unhide KV).wd (fun i e => .inl e)).trans (unhide G9).1 (fun i e => .inl (.inr e)))))
          clear G9
          go_wp2
          go_ret
          exact unhide R

end Go.Proofs.Ytjiphechhfifgaa
