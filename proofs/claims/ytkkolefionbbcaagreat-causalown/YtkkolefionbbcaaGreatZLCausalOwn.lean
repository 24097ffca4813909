/-
  Chapter 13's law CausalOwn returns true for every hold and every script, and leaves its arguments as they were; no condition.
-/
import Derived.Test.YtkkolefionbbcaaGreatRows
import Derived.WalkKit
import Derived.ProofKit
import Derived.OpenShut
import Derived.ShutString
import Derived.ChangeOld
import Derived.Below
import Derived.Test.YtkkolefionbbcaaGreatZXCE
import Derived.Deep.CutRange
set_option linter.unusedVariables false
set_option linter.unusedSimpArgs false
namespace Go.Proofs.YtkkolefionbbcaaGreat
namespace LCausalOwn
open Go.ChangeShapes Go.WideShapes Go.ChangeAt Go.RowKit Go.Lib
open Go.ChangeMaps (open_string shut_string)

set_option maxRecDepth 100000 in
set_option maxHeartbeats 16000000 in
theorem walk (hold : Int) (a0 : Option Addr) (len0 cap0 : Nat) (ss : List Stp) (w : World) (h0 : (Lit.int .i64 hold).wf = true) (w2 : RC w (.slice a0 len0 cap0) ss.length (flat encS ss) ∧ ss.length = len0 ∧ len0 ≤ maxLen ∧ ∀ e ∈ ss, StW w e) :
    Calls Tryz.prog 8 #[.int .i64 hold, .slice a0 len0 cap0] w fun e W => e = .returned (.bool true) ∧ Below w.heap.size w W := by
  obtain ⟨hr, hln, hmx, hst⟩ := w2
  unfold maxLen at hmx
  have HK := hide (fun W => known_in W)
  clear h0
  have HMu := hide (much_in a0 len0 cap0 ss w hr hln hst hmx)
  obtain ⟨M, hM⟩ : ∃ M, muchB ss = M := ⟨_, rfl⟩
  rw [hM] at HMu
  cases M with
  | true =>
    clear hr hln hst hM
    go_enter Tryz.func8, Tryz.ntmps8
    go_wp2_with fail
    refine (unhide HMu).mono ?_
    rintro e W1 ⟨rfl, b1⟩
    replace b1 := hide b1
    go_wp2_with fail
    refine (unhide HK _).mono ?_
    rintro r W2 ⟨rfl, hb2⟩
    go_wp2
    go_ret
    exact ⟨rfl, bnext (unhide b1) hb2⟩
  | false =>
    have hsml := much_small hM
    have hl3 : len0 ≤ 300 := by rw [← hln]; exact hsml.1
    have Hsm := hide hsml.2
    have Hln := hide hln
    have Hr := hide hr
    have Hst := hide hst
    clear hM hsml hln hr hst
    obtain ⟨ec, hec⟩ : ∃ ec, newC hold [] = ec := ⟨_, rfl⟩
    have HNP := hide (fun W => newP_in hold (.slice none 0 0) [] W (RC.nil _ _ _) (by simp))
    rw [hec] at HNP
    clear hec
    go_enter Tryz.func8, Tryz.ntmps8
    go_wp2_with fail
    refine (unhide HMu).mono ?_
    rintro e W1 ⟨rfl, b1⟩
    have B1 := hide b1
    clear HMu b1
    go_wp2_with fail
    refine (unhide HNP _).mono ?_
    rintro e Y1 ⟨qo, rfl, hq, b2⟩
    have HQ := hide hq
    have B2 := hide b2
    clear hq b2
    go_wp2_with fail
    refine (unhide HNP _).mono ?_
    rintro e Y2 ⟨po, rfl, hp, b3⟩
    have hee : (ec != ec) = false := by simp
    rcases unhide HQ with ⟨rfl, hd, _, b, rfl, hqp⟩ | ⟨hec, rfl⟩
    rotate_left
    · have hec' : (ec != 0) = true := by simpa using hec
      have HBk := hide (bnext (unhide B1) (bnext (unhide B2) b3))
      clear hec hp b3 HQ HNP
      go_wp2_with fail
      refine (unhide HK _).mono ?_
      rintro r W4 ⟨rfl, hb2⟩
      go_wp2
      go_ret
      exact ⟨rfl, bnext (unhide HBk) hb2⟩
    rcases hp with ⟨_, _, _, r, rfl, hpp⟩ | ⟨h, _⟩
    rotate_left
    · exact absurd rfl h
    have HO : Hid (OX w b r hold [] [] [] [] (.slice none 0 0) [] Y2) := hide (OX.start hqp hpp (unhide B1) (unhide B2) b3)
    have HI := hide (O2.start hd.1)
    clear hqp hpp HNP HQ B1 B2 b3 hee
    go_wp2
    go_loopw [9, 10] (fun gv iv wq => ∃ (i : Nat) (ak : Option Addr) (ck : Nat) (ks : List (Opn × Value × Value)) (hv : List (Int × Int)) (ws rd : List Opn), gv = .slice ak ks.length ck ∧ iv = .int .i64 (i : Nat) ∧ i ≤ len0 ∧ Hid (OX w b r hold hv ws rd rd (.slice ak ks.length ck) ks wq) ∧ Hid (O2 hold hv ws rd ks.length i)) (fun gv iv _ => len0 - (RowKit.intOf iv).toNat)
    case atStart => exact ⟨0, none, 0, [], [], [], [], rfl, rfl, by omega, HO, HI⟩
    case round =>
      clear HO HI
      obtain ⟨i, ak, ck, ks, hv, ws, rd, rfl, rfl, hi, HO, HI⟩ := hrel
      by_cases hlt : i < len0
      rotate_left
      · have hlt' : ¬ (i : Int) < (len0 : Int) := by omega
        obtain ⟨A, B, K, hos⟩ := unhide HO
        have hI := unhide HI
        obtain ⟨n, hn⟩ : ∃ n, ks.length = n := ⟨_, rfl⟩
        obtain ⟨n1, hn1⟩ : ∃ n1, ws.length = n1 := ⟨_, rfl⟩
        obtain ⟨n2, hn2⟩ : ∃ n2, hv.length = n2 := ⟨_, rfl⟩
        have hn300 : n ≤ 300 := by have := hI.2; omega
        have hb1' : n1 ≤ 256 := by have := hI.1.len; omega
        have hb2' : n2 ≤ 1000000 := by have := hos.qa.hlen; omega
        have Hn := hide hn
        have Hn1 := hide hn1
        have Hn2 := hide hn2
        rw [hn] at hos
        rw [hn]
        have HP := hide (PB.start hos)
        clear hos hI hn hn1 hn2 HO HI hi hlt
        go_wp2
        clear hlt'
        go_loopw [22] (fun iv wq => ∃ i : Nat, iv = .int .i64 (i : Nat) ∧ i ≤ n ∧ Hid (PB w A B K b r hold hv ws rd hv ws rd (.slice ak n ck) ks i 0 0 wq)) (fun iv _ => n - (RowKit.intOf iv).toNat)
        case atStart => exact ⟨0, rfl, by omega, HP⟩
        case round =>
          clear HP
          obtain ⟨i, rfl, hi, HP⟩ := hrel
          by_cases hlt : i < n
          · have hlt' : (i : Int) < (n : Int) := by omega
            obtain ⟨⟨o, vd, vg⟩, he⟩ : ∃ e, ks[i]? = some e := ⟨_, List.getElem?_eq_getElem (by rw [unhide Hn]; exact hlt)⟩
            have hent := ((unhide HP).os).ent _ (List.mem_of_getElem? he)
            obtain ⟨ae, ce, e1⟩ := hent.d.form
            obtain ⟨af, cf, e2⟩ := hent.g.form
            simp only at e1 e2
            subst e1
            subst e2
            obtain ⟨M1, hM1⟩ : ∃ M1, o.deps.length = M1 := ⟨_, rfl⟩
            obtain ⟨M2, hM2⟩ : ∃ M2, o.gone.length = M2 := ⟨_, rfl⟩
            have m1 : M1 ≤ 1000000 := by have := hent.s1; simp only at this; omega
            have m2 : M2 ≤ 1000000 := by have := hent.s2; simp only at this; omega
            have HM := hide (And.intro hM1 hM2)
            rw [hM1, hM2] at he
            have He := hide he
            have HR : Hid (∀ X, OS w A B K b r hold hv ws rd hv ws rd (.slice ak n ck) ks X → ∃ g, ak = some ⟨g, 0, none⟩ ∧ g < X.heap.size ∧ X.cell? ⟨g, i * 11 + 2, none⟩ = some (.slice ae M1 ce) ∧ X.cell? ⟨g, i * 11 + 9, none⟩ = some (.slice af M2 cf)) := hide (fun X h => by
              have hr := h.row
              rw [unhide Hn] at hr
              obtain ⟨g, hg, hgl, hc⟩ := own_at11 hr (unhide Hn) (unhide He)
              exact ⟨g, hg, hgl, hc 2 _ rfl, hc 9 _ rfl⟩)
            obtain ⟨gk, hgk, _⟩ := unhide HR _ ((unhide HP).os)
            subst hgk
            have HR2 : Hid (∀ X, OS w A B K b r hold hv ws rd hv ws rd (.slice (some ⟨gk, 0, none⟩) n ck) ks X → gk < X.heap.size ∧ X.cell? ⟨gk, i * 11 + 2, none⟩ = some (.slice ae M1 ce) ∧ X.cell? ⟨gk, i * 11 + 9, none⟩ = some (.slice af M2 cf)) := hide (fun X h => by
              obtain ⟨g, hg, q⟩ := unhide HR X h
              simp only [Option.some.injEq, Addr.mk.injEq, and_true] at hg
              subst hg
              exact q)
            clear HR hent he hM1 hM2
            have hiw : (2000 : Int) + (i : Int) ≤ 2300 := by omega
            go_wp2
            go_loopw [23] (fun kv wq => ∃ k : Nat, kv = .int .i64 (k : Nat) ∧ k ≤ M1 ∧ Hid (PB w A B K b r hold hv ws rd hv ws rd (.slice (some ⟨gk, 0, none⟩) n ck) ks i k 0 wq)) (fun kv _ => M1 - (RowKit.intOf kv).toNat)
            case atStart => exact ⟨0, rfl, by omega, HP⟩
            case round =>
              clear HP
              obtain ⟨k, rfl, hk, HP⟩ := hrel
              obtain ⟨gl, c2, c9⟩ := unhide HR2 _ (unhide HP).os
              by_cases hk1 : k < M1
              · have hk1' : (k : Int) < (M1 : Int) := by omega
                have hent := (unhide HP).os.ent _ (List.mem_of_getElem? (unhide He))
                have hd' := hent.d
                simp only [(unhide HM).1] at hd'
                obtain ⟨gd, rfl, l0, fz, cc, _⟩ := hd'.at (by omega)
                obtain ⟨y0, d0⟩ := cc (k * 2) (by omega)
                obtain ⟨y1, d1⟩ := cc (k * 2 + 1) (by omega)
                have f0 := fz (k * 2)
                have f1 := fz (k * 2 + 1)
                have HP2 := hide ((unhide HP).put1 (g := gd) (unhide He) rfl (by simp only [(unhide HM).1]; exact hk1))
                clear fz cc hent hd' HP
                go_wp2
                go_roundw
                case rel => exact ⟨k + 1, by go_num, by omega, HP2⟩
                case measure => simp [RowKit.intOf]; omega
              · have hk1' : ¬ (k : Int) < (M1 : Int) := by omega
                obtain rfl : k = M1 := by omega
                go_wp2
                clear hk1' hk1 hk c2 c9 gl
                go_loopw [24] (fun kv wq => ∃ q : Nat, kv = .int .i64 (q : Nat) ∧ q ≤ M2 ∧ Hid (PB w A B K b r hold hv ws rd hv ws rd (.slice (some ⟨gk, 0, none⟩) n ck) ks i k q wq)) (fun kv _ => M2 - (RowKit.intOf kv).toNat)
                case atStart => exact ⟨0, rfl, by omega, HP⟩
                case round =>
                  clear HP
                  obtain ⟨q, rfl, hq, HP⟩ := hrel
                  obtain ⟨gl, c2, c9⟩ := unhide HR2 _ (unhide HP).os
                  by_cases hk1 : q < M2
                  · have hk1' : (q : Int) < (M2 : Int) := by omega
                    have hent := (unhide HP).os.ent _ (List.mem_of_getElem? (unhide He))
                    have hd' := hent.g
                    simp only [(unhide HM).2] at hd'
                    obtain ⟨gd, rfl, l0, fz, cc, _⟩ := hd'.at (by omega)
                    obtain ⟨y0, d0⟩ := cc (q * 3) (by omega)
                    obtain ⟨y1, d1⟩ := cc (q * 3 + 1) (by omega)
                    obtain ⟨y2, d2⟩ := cc (q * 3 + 2) (by omega)
                    have f0 := fz (q * 3)
                    have f1 := fz (q * 3 + 1)
                    have f2 := fz (q * 3 + 2)
                    have HP2 := hide ((unhide HP).put2 (g := gd) (unhide He) rfl (by simp only [(unhide HM).2]; exact hk1))
                    clear fz cc hent hd' HP
                    go_wp2
                    go_roundw
                    case rel => exact ⟨q + 1, by go_num, by omega, HP2⟩
                    case measure => simp [RowKit.intOf]; omega
                  · have hk1' : ¬ (q : Int) < (M2 : Int) := by omega
                    obtain rfl : q = M2 := by omega
                    have HP2 := hide ((unhide HP).next (unhide He) (unhide HM).1.symm (unhide HM).2.symm)
                    go_wp2
                    go_roundw
                    case rel => exact ⟨i + 1, by go_num, by omega, HP2⟩
                    case measure => show n - ((i : Int) + 1).toNat < n - ((i : Nat) : Int).toNat; omega
          · have hlt' : ¬ (i : Int) < (n : Int) := by omega
            have HC := hide ((unhide HP).pc (by have := unhide Hn; omega))
            clear HP
            go_wp2
            clear hlt' hlt hi
            go_loopw [25] (fun iv wq => ∃ i : Nat, iv = .int .i64 (i : Nat) ∧ i ≤ n ∧ Hid (PC w A B K b r hold hv ws rd hv ws rd (.slice ak n ck) ks wq)) (fun iv _ => n - (RowKit.intOf iv).toNat)
            case atStart => exact ⟨0, rfl, by omega, HC⟩
            case round =>
              clear HC
              obtain ⟨i, rfl, hi, HC⟩ := hrel
              by_cases hlt : i < n
              · have hlt' : (i : Int) < (n : Int) := by omega
                obtain ⟨⟨o, vd, vg⟩, he⟩ : ∃ e, ks[i]? = some e := ⟨_, List.getElem?_eq_getElem (by rw [unhide Hn]; exact hlt)⟩
                have hent := ((unhide HC).os).ent _ (List.mem_of_getElem? he)
                obtain ⟨ae, ce, e1⟩ := hent.d.form
                obtain ⟨af, cf, e2⟩ := hent.g.form
                simp only at e1 e2
                subst e1
                subst e2
                obtain ⟨M1, hM1⟩ : ∃ M1, o.deps.length = M1 := ⟨_, rfl⟩
                obtain ⟨M2, hM2⟩ : ∃ M2, o.gone.length = M2 := ⟨_, rfl⟩
                have m1 : M1 ≤ 1000000 := by have := hent.s1; simp only at this; omega
                have m2 : M2 ≤ 1000000 := by have := hent.s2; simp only at this; omega
                have HM := hide (And.intro hM1 hM2)
                rw [hM1, hM2] at he
                have He := hide he
                have HR : Hid (∀ X, OS w A B K b r hold hv ws rd hv ws rd (.slice ak n ck) ks X → ∃ g, ak = some ⟨g, 0, none⟩ ∧ g < X.heap.size ∧ X.cell? ⟨g, i * 11 + 2, none⟩ = some (.slice ae M1 ce) ∧ X.cell? ⟨g, i * 11 + 9, none⟩ = some (.slice af M2 cf)) := hide (fun X h => by
                  have hr := h.row
                  rw [unhide Hn] at hr
                  obtain ⟨g, hg, hgl, hc⟩ := own_at11 hr (unhide Hn) (unhide He)
                  exact ⟨g, hg, hgl, hc 2 _ rfl, hc 9 _ rfl⟩)
                obtain ⟨gk, hgk, _⟩ := unhide HR _ ((unhide HC).os)
                subst hgk
                have HR2 : Hid (∀ X, OS w A B K b r hold hv ws rd hv ws rd (.slice (some ⟨gk, 0, none⟩) n ck) ks X → gk < X.heap.size ∧ X.cell? ⟨gk, i * 11 + 2, none⟩ = some (.slice ae M1 ce) ∧ X.cell? ⟨gk, i * 11 + 9, none⟩ = some (.slice af M2 cf)) := hide (fun X h => by
                  obtain ⟨g, hg, q⟩ := unhide HR X h
                  simp only [Option.some.injEq, Addr.mk.injEq, and_true] at hg
                  subst hg
                  exact q)
                clear HR hent he hM1 hM2
                have hiw : (3000 : Int) + (i : Int) ≤ 3300 := by omega
                have hos := (unhide HC).os
                obtain ⟨gl, c2, _⟩ := unhide HR2 _ hos
                obtain ⟨ga, ca, gb, cb, Q1, Q2, N1, N2, Ya, Yb, uA, uB, ra, hosA, rb, i7, i8, i9, i10, i3, i4, lA, dA, fA, lB, dB, fB, hpc⟩ := (unhide HC).more (List.mem_of_getElem? (unhide He)) (unhide HM).1 (unhide HM).2 m1 m2 (3000 + (i : Int)) (i : Int)
                obtain ⟨glA, _, c9A⟩ := unhide HR2 _ hosA
                obtain ⟨Xa, hXa⟩ : ∃ X, wr.alloc (.cells #[.int .i64 (3000 + (i : Int)), .int .i64 0, .int .i64 (3000 + (i : Int)), .int .i64 0] 28) = X := ⟨_, rfl⟩
                rw [hXa] at ra
                obtain ⟨Xb, hXb⟩ : ∃ X, Ya.alloc (.cells #[.int .i64 0, .int .i64 0, .int .i64 (3000 + (i : Int)), .int .i64 0, .int .i64 0, .int .i64 (3000 + (i : Int))] 72) = X := ⟨_, rfl⟩
                rw [hXb] at rb
                obtain ⟨Z1, hZ1⟩ : ∃ Z, Yb.setCell ⟨ga, Q1 * 2 + 1, none⟩ (.int .i64 (i : Int)) = Z := ⟨_, rfl⟩
                rw [hZ1] at lB dB fB hpc
                obtain ⟨Z2, hZ2⟩ : ∃ Z, Z1.setCell ⟨gb, Q2 * 3, none⟩ (.int .i64 (i : Int)) = Z := ⟨_, rfl⟩
                rw [hZ2] at hpc
                have HC2 := hide hpc
                have Ra := hide ra
                have Rb := hide rb
                have HN := hide (And.intro i7 (And.intro i8 (And.intro i9 (And.intro i10 (And.intro i3 i4)))))
                clear hos hosA ra rb hpc HC i7 i8 i9 i10 i3 i4
                go_upto_region 54 with (at_builtin; first | (have H1 := Ra; clear Ra; refine wpList_append_eq rfl _ _ 23 rfl _ _ _ _ rfl rfl (unhide H1) ?_; clear H1) | (have H2 := Rb; clear Rb; refine wpList_append_eq rfl _ _ 40 rfl _ _ _ _ rfl rfl (unhide H2) ?_; clear H2))
                obtain ⟨i7, i8, i9, i10, i3, i4⟩ := unhide HN
                have i1 : IntKind.i64.wrap (Q1 : Int) = (Q1 : Int) := by simp only [IntKind.wrap_i64]; omega
                have i2 : IntKind.i64.wrap (Q2 : Int) = (Q2 : Int) := by simp only [IntKind.wrap_i64]; omega
                have i3' : (Q1 : Int) < (N1 : Int) := by omega
                have i4' : (Q2 : Int) < (N2 : Int) := by omega
                clear HN
                go_wp2
                go_roundw
                case rel => exact ⟨i + 1, by go_num, by omega, HC2⟩
                case measure => show n - ((i : Int) + 1).toNat < n - ((i : Nat) : Int).toNat; omega
              · have hlt' : ¬ (i : Int) < (n : Int) := by omega
                go_wp2
                clear hlt' hlt hi
                go_loopw [28] (fun iv wq => ∃ i : Nat, iv = .int .i64 (i : Nat) ∧ i ≤ n ∧ Hid (PC w A B K b r hold hv ws rd hv ws rd (.slice ak n ck) ks wq)) (fun iv _ => n - (RowKit.intOf iv).toNat)
                case atStart => exact ⟨0, rfl, by omega, HC⟩
                case round =>
                  clear HC
                  obtain ⟨i, rfl, hi, HC⟩ := hrel
                  by_cases hlt : i < n
                  · have hlt' : (i : Int) < (n : Int) := by omega
                    obtain ⟨⟨o, vd, vg⟩, he⟩ : ∃ e, ks[i]? = some e := ⟨_, List.getElem?_eq_getElem (by rw [unhide Hn]; exact hlt)⟩
                    have hent := ((unhide HC).os).ent _ (List.mem_of_getElem? he)
                    obtain ⟨ae, ce, e1⟩ := hent.d.form
                    obtain ⟨af, cf, e2⟩ := hent.g.form
                    simp only at e1 e2
                    subst e1
                    subst e2
                    obtain ⟨M1, hM1⟩ : ∃ M1, o.deps.length = M1 := ⟨_, rfl⟩
                    obtain ⟨M2, hM2⟩ : ∃ M2, o.gone.length = M2 := ⟨_, rfl⟩
                    have m1 : M1 ≤ 1000000 := by have := hent.s1; simp only at this; omega
                    have m2 : M2 ≤ 1000000 := by have := hent.s2; simp only at this; omega
                    have HM := hide (And.intro hM1 hM2)
                    rw [hM1, hM2] at he
                    have He := hide he
                    have HR : Hid (∀ X, OS w A B K b r hold hv ws rd hv ws rd (.slice ak n ck) ks X → ∃ g, ak = some ⟨g, 0, none⟩ ∧ g < X.heap.size ∧ X.cell? ⟨g, i * 11 + 2, none⟩ = some (.slice ae M1 ce) ∧ X.cell? ⟨g, i * 11 + 9, none⟩ = some (.slice af M2 cf)) := hide (fun X h => by
                      have hr := h.row
                      rw [unhide Hn] at hr
                      obtain ⟨g, hg, hgl, hc⟩ := own_at11 hr (unhide Hn) (unhide He)
                      exact ⟨g, hg, hgl, hc 2 _ rfl, hc 9 _ rfl⟩)
                    obtain ⟨gk, hgk, _⟩ := unhide HR _ ((unhide HC).os)
                    subst hgk
                    have HR2 : Hid (∀ X, OS w A B K b r hold hv ws rd hv ws rd (.slice (some ⟨gk, 0, none⟩) n ck) ks X → gk < X.heap.size ∧ X.cell? ⟨gk, i * 11 + 2, none⟩ = some (.slice ae M1 ce) ∧ X.cell? ⟨gk, i * 11 + 9, none⟩ = some (.slice af M2 cf)) := hide (fun X h => by
                      obtain ⟨g, hg, q⟩ := unhide HR X h
                      simp only [Option.some.injEq, Addr.mk.injEq, and_true] at hg
                      subst hg
                      exact q)
                    clear HR hent he hM1 hM2
                    have hiw : (2000 : Int) + (i : Int) ≤ 2300 := by omega
                    go_wp2
                    go_loopw [29] (fun kv wq => ∃ k : Nat, kv = .int .i64 (k : Nat) ∧ k ≤ M1 ∧ Hid (PC w A B K b r hold hv ws rd hv ws rd (.slice (some ⟨gk, 0, none⟩) n ck) ks wq)) (fun kv _ => M1 - (RowKit.intOf kv).toNat)
                    case atStart => exact ⟨0, rfl, by omega, HC⟩
                    case round =>
                      clear HC
                      obtain ⟨k, rfl, hk, HC⟩ := hrel
                      obtain ⟨gl, c2, c9⟩ := unhide HR2 _ (unhide HC).os
                      by_cases hk1 : k < M1
                      · have hk1' : (k : Int) < (M1 : Int) := by omega
                        have hent := (unhide HC).os.ent _ (List.mem_of_getElem? (unhide He))
                        have hd' := hent.d
                        simp only [(unhide HM).1] at hd'
                        obtain ⟨gd, rfl, l0, fz, cc, _⟩ := hd'.at (by omega)
                        have hf := ((unhide HC).dn i _ (unhide He)).1
                        simp only [(unhide HM).1] at hf
                        have d0 : wr.cell? ⟨gd, k * 2, none⟩ = some (.int .i64 (2000 + (i : Int))) := hf gd k 0 _ rfl hk1 rfl
                        have d1 : wr.cell? ⟨gd, k * 2 + 1, none⟩ = some (.int .i64 0) := hf gd k 1 _ rfl hk1 rfl
                        have hqq : ∀ W, (binOp .neq 28 (.agg #[.int .i64 (2000 + (i : Int)), .int .i64 0]) (.agg #[.int .i64 (2000 + (i : Int)), .int .i64 0])).run Tryz.prog W = .ok (.bool false) W := fun W => by rw [neqD, decide_eq_true rfl]; rfl
                        clear fz cc hent hd' hf
                        go_wp2
                        go_roundw
                        case rel => exact ⟨k + 1, by go_num, by omega, HC⟩
                        case measure => simp [RowKit.intOf]; omega
                      · have hk1' : ¬ (k : Int) < (M1 : Int) := by omega
                        go_wp2
                        clear hk1' hk1 hk c2 c9 gl
                        go_loopw [30] (fun kv wq => ∃ q : Nat, kv = .int .i64 (q : Nat) ∧ q ≤ M2 ∧ Hid (PC w A B K b r hold hv ws rd hv ws rd (.slice (some ⟨gk, 0, none⟩) n ck) ks wq)) (fun kv _ => M2 - (RowKit.intOf kv).toNat)
                        case atStart => exact ⟨0, rfl, by omega, HC⟩
                        case round =>
                          clear HC
                          obtain ⟨q, rfl, hq, HC⟩ := hrel
                          obtain ⟨gl, c2, c9⟩ := unhide HR2 _ (unhide HC).os
                          by_cases hk1 : q < M2
                          · have hk1' : (q : Int) < (M2 : Int) := by omega
                            have hent := (unhide HC).os.ent _ (List.mem_of_getElem? (unhide He))
                            have hd' := hent.g
                            simp only [(unhide HM).2] at hd'
                            obtain ⟨gd, rfl, l0, fz, cc, _⟩ := hd'.at (by omega)
                            have hf := ((unhide HC).dn i _ (unhide He)).2
                            simp only [(unhide HM).2] at hf
                            have d0 : wr.cell? ⟨gd, q * 3, none⟩ = some (.int .i64 0) := hf gd q 0 _ rfl hk1 rfl
                            have d1 : wr.cell? ⟨gd, q * 3 + 1, none⟩ = some (.int .i64 0) := hf gd q 1 _ rfl hk1 rfl
                            have d2 : wr.cell? ⟨gd, q * 3 + 2, none⟩ = some (.int .i64 (2000 + (i : Int))) := hf gd q 2 _ rfl hk1 rfl
                            have hqq : ∀ W, (binOp .neq 72 (.agg #[.int .i64 0, .int .i64 0, .int .i64 (2000 + (i : Int))]) (.agg #[.int .i64 0, .int .i64 0, .int .i64 (2000 + (i : Int))])).run Tryz.prog W = .ok (.bool false) W := fun W => by have := neqR ((0, 0), 2000 + (i : Int)) ((0, 0), 2000 + (i : Int)) W; rw [decide_eq_true rfl] at this; exact this
                            clear fz cc hent hd' hf
                            go_wp2
                            go_roundw
                            case rel => exact ⟨q + 1, by go_num, by omega, HC⟩
                            case measure => simp [RowKit.intOf]; omega
                          · have hk1' : ¬ (q : Int) < (M2 : Int) := by omega
                            go_wp2
                            go_roundw
                            case rel => exact ⟨i + 1, by go_num, by omega, HC⟩
                            case measure => show n - ((i : Int) + 1).toNat < n - ((i : Nat) : Int).toNat; omega
                  · have hlt' : ¬ (i : Int) < (n : Int) := by omega
                    have Hosb := hide (unhide HC).os
                    clear HC
                    have HcW := hide (fun X (hX : Below wr.heap.size wr X) => ((unhide Hosb).below hX).qa.waits (by have := unhide Hn1; omega))
                    have HcU := hide (fun X (hX : Below wr.heap.size wr X) => ((unhide Hosb).below hX).qb.waits (by have := unhide Hn1; omega))
                    have HcV := hide (fun X (hX : Below wr.heap.size wr X) => ((unhide Hosb).below hX).qa.vec)
                    have HcX := hide (fun X (hX : Below wr.heap.size wr X) => ((unhide Hosb).below hX).qb.vec)
                    have hsl : (sortI (ws.map dotO)).length ≤ 1000 := by rw [(sortI_perm _).length_eq, List.length_map]; have := unhide Hn1; omega
                    have HSa : Hid (∀ (a a' : Option Addr) (c c' : Nat) X, RI X (.slice a n1 c) (sortI (ws.map dotO)) → RI X (.slice a' n1 c') (sortI (ws.map dotO)) → Calls Tryz.prog 29 #[.slice a n1 c, .slice a' n1 c'] X fun e W => e = .returned (.bool true) ∧ Below X.heap.size X W) := hide (fun a a' c c' X hr hr' => by have := dots_in _ _ (.slice a n1 c) (.slice a' n1 c') X hr hr' (by omega) (by omega); simpa only [decide_true] using this)
                    have HSv : Hid (∀ (a a' : Option Addr) (c c' : Nat) X, RI X (.slice a n2 c) hv → RI X (.slice a' n2 c') hv → Calls Tryz.prog 13 #[.slice a n2 c, .slice a' n2 c'] X fun e W => e = .returned (.bool true) ∧ ∃ n, W = X.drewN n) := hide (fun a a' c c' X hr hr' => by have := Same_in hv hv (.slice a n2 c) (.slice a' n2 c') X hr hr' (by have := unhide Hn2; omega) (by have := unhide Hn2; omega); simpa only [decide_true] using this)
                    have HRw : Hid (∀ (X : World) (B : Nat) (a : Option Addr) (c : Nat), X.ownsRow B 28 2 (.slice a n1 c) n1 (flat encI (sortI (ws.map dotO))) → RI X (.slice a n1 c) (sortI (ws.map dotO))) := hide (fun X B a c h => by have q := unhide Hn1; subst q; exact waits_row h)
                    have HRv : Hid (∀ (X : World) (B : Nat) (a : Option Addr) (c : Nat), OwD X B (.slice a n2 c) hv → RI X (.slice a n2 c) hv) := hide (fun X B a c h => OwD.row h)
                    rw [unhide Hn1] at HcW HcU
                    rw [unhide Hn2] at HcV HcX
                    clear hsl
                    go_wp2_with fail
                    refine (unhide HcW _ (Below.refl _ _)).mono ?_
                    rintro e C1 ⟨a1, c1, rfl, o1, b1⟩
                    have D1 := hide (unhide HRw _ _ _ _ o1)
                    have E1 := hide (bnext (Below.refl _ _) b1)
                    clear o1 b1 HcW
                    go_wp2_with fail
                    refine (unhide HcU _ (unhide E1)).mono ?_
                    rintro e C2 ⟨a2, c2, rfl, o2, b2⟩
                    have HD := hide (unhide HSa a1 a2 c1 c2 C2 ((unhide D1).below b2) (unhide HRw _ _ _ _ o2))
                    have E2 := hide (bnext (unhide E1) b2)
                    clear o2 b2 HcU HSa D1 E1 HRw
                    go_wp2_with fail
                    refine (unhide HD).mono ?_
                    rintro e C3 ⟨rfl, b3⟩
                    have E3 := hide (bnext (unhide E2) b3)
                    clear HD b3 E2
                    go_wp2_with fail
                    refine (unhide HcV _ (unhide E3)).mono ?_
                    rintro e C4 ⟨a4, c4, rfl, o4, b4⟩
                    have D4 := hide (unhide HRv _ _ _ _ o4)
                    have E4 := hide (bnext (unhide E3) b4)
                    clear o4 b4 HcV E3
                    go_wp2_with fail
                    refine (unhide HcX _ (unhide E4)).mono ?_
                    rintro e C5 ⟨a5, c5, rfl, o5, b5⟩
                    have HE := hide (unhide HSv a4 a5 c4 c5 C5 ((unhide D4).below b5) (unhide HRv _ _ _ _ o5))
                    have E5 := hide (bnext (unhide E4) b5)
                    clear o5 b5 HcX HSv D4 E4 HRv
                    go_wp2_with fail
                    refine (unhide HE).mono ?_
                    rintro e C6 ⟨rfl, nn, rfl⟩
                    have E6 := hide (bdrew (unhide E5) nn)
                    clear HE E5
                    have HBx := hide (bnext (unhide Hosb).bel (unhide E6))
                    clear Hosb E6
                    generalize C5.drewN nn = C6 at *
                    go_wp2_with fail
                    refine (unhide HK _).mono ?_
                    rintro r W2 ⟨rfl, hb2⟩
                    go_wp2
                    go_ret
                    exact ⟨rfl, bnext (unhide HBx) hb2⟩
      have hlt' : (i : Int) < (len0 : Int) := by omega
      obtain ⟨s, hx⟩ : ∃ s, ss[i]? = some s := ⟨_, List.getElem?_eq_getElem (by rw [unhide Hln]; omega)⟩
      obtain ⟨g, off, rfl, hg, hcw⟩ := rs_at (unhide Hr) hx
      have HBW := hide (unhide HO).bel
      have hst := unhide Hst s (List.mem_of_getElem? hx)
      have hsm := unhide Hsm s (List.mem_of_getElem? hx)
      obtain ⟨ad, cd, hvd⟩ := hst.d
      obtain ⟨ag, cg, hvg⟩ := hst.g
      have Hq : Hid (∀ X, Below w.heap.size w X → ∀ q v, (encS s)[q]? = some v → X.cell? ⟨g, off + i * 13 + q, none⟩ = some v) := hide (fun X hX q v h => cell_below (hcw q v h) hX)
      have Hvd := hide (And.intro hvd hvg)
      have hc := unhide Hq wr (unhide HBW)
      have q0 := hc 0 _ rfl
      have q1 := hc 1 _ rfl
      have q2 := hc 2 _ rfl
      have q3 := hc 3 _ rfl
      have q4 := hc 4 _ rfl
      have q5 := hc 5 _ rfl
      have q6 := hc 6 _ rfl
      have q7 := hc 7 _ rfl
      have q8 := hc 8 _ rfl
      have q9 := hc 9 _ rfl
      have q10 := hc 10 _ rfl
      rw [hvd] at q2
      rw [hvg] at q9
      simp only [Nat.add_zero] at q0
      obtain ⟨A, B, K, hos⟩ := unhide HO
      have hI := unhide HI
      have htot := hI.2
      have hlen := hI.1.len
      have r1 := hst.rd
      have r2 := hst.rg
      rw [hvd] at r1
      rw [hvg] at r2
      have Hrr := hide (And.intro r1 r2)
      have hinO := hst.inn.fit (by omega) (by omega) (by omega)
      have HOf := hide (hos.qa.off hd s.op _ _ (r1.below (unhide HBW)) (RC.below r2 (unhide HBW)) hsm.1 hsm.2.1 hsm.2.2 hinO (by omega))
      have HI2 := hide (hI.off (by omega) s.op)
      obtain ⟨⟨⟨rr, er⟩, hv', ws', rd'⟩, hA⟩ : ∃ X, offA hold hv ws rd s.op = X := ⟨_, rfl⟩
      have HA := hide hA
      rw [hA] at HOf HI2
      simp only at HOf HI2
      unfold opA at HOf
      have Hos := hide hos
      have Hsz := hide (And.intro hsm hinO)
      have Hlw := hide (show ws.length + rd.length ≤ 1000 by omega)
      clear hx hcw hc hst hsm hvd hvg hos hI htot hlen r1 r2 hinO hA HO HI
      go_wp2_with fail
      refine (unhide HOf).mono ?_
      rintro e X1 ⟨rfl, A1, qa1, ha1, k1⟩
      have hos1 := (unhide Hos).newA qa1 ha1 k1
      have hc := unhide Hq X1 hos1.bel
      have z0 := hc 0 _ rfl
      have z1 := hc 1 _ rfl
      have z2 := hc 2 _ rfl
      have z3 := hc 3 _ rfl
      have z4 := hc 4 _ rfl
      have z5 := hc 5 _ rfl
      have z6 := hc 6 _ rfl
      have z7 := hc 7 _ rfl
      have z8 := hc 8 _ rfl
      have z9 := hc 9 _ rfl
      have z10 := hc 10 _ rfl
      rw [(unhide Hvd).1] at z2
      rw [(unhide Hvd).2] at z9
      simp only [Nat.add_zero] at z0
      have HOg := hide (hos1.qb.off hd s.op _ _ ((unhide Hrr).1.below hos1.bel) (RC.below (unhide Hrr).2 hos1.bel) (unhide Hsz).1.1 (unhide Hsz).1.2.1 (unhide Hsz).1.2.2 (unhide Hsz).2 (unhide Hlw))
      rw [unhide HA] at HOg
      simp only at HOg
      unfold opA at HOg
      have Hos1 := hide hos1
      clear HOf qa1 ha1 k1 hos1 hc Hos Hrr Hsz Hlw HA q0 q1 q2 q3 q4 q5 q6 q7 q8 q9 q10 HBW
      go_wp2_with fail
      refine (unhide HOg).mono ?_
      rintro e X2 ⟨rfl, B1, qb1, hb1, k2⟩
      have hos2 := (unhide Hos1).newB qb1 hb1 k2
      have hI2 := unhide HI2
      have hln2 := hI2.1.len
      have htt2 := hI2.2
      have hvl2 := hos2.qa.hlen
      obtain ⟨n1, hn1⟩ : ∃ n1, ws'.length = n1 := ⟨_, rfl⟩
      obtain ⟨n2, hn2⟩ : ∃ n2, hv'.length = n2 := ⟨_, rfl⟩
      have hb1' : n1 ≤ 256 := by omega
      have hb2' : n2 ≤ 1000000 := by omega
      have HWt := hide (hos2.qa.waits (by omega))
      have HVc := hide (fun X (hX : Below X2.heap.size X2 X) => (hos2.below hX).qa.vec)
      rw [hn1] at HWt
      rw [hn2] at HVc
      have Hn1 := hide hn1
      have Hn2 := hide hn2
      have Hos2 := hide hos2
      have Htt2 := hide htt2
      clear HOg qb1 hb1 k2 hos2 hI2 hln2 htt2 hvl2 hn1 hn2 Hos1 z0 z1 z2 z3 z4 z5 z6 z7 z8 z9 z10
      go_wp2_with fail
      refine (unhide HWt).mono ?_
      rintro e X3 ⟨aw, cw, rfl, ow, b3⟩
      have HB3 := hide b3
      have HVc3 := hide (unhide HVc X3 b3)
      have How := hide ow
      clear HWt HVc ow b3
      go_wp2_with fail
      refine (unhide HVc3).mono ?_
      rintro e X4 ⟨av, cv, rfl, ov, b4⟩
      have HB4 := hide (bnext (unhide HB3) b4)
      have HXw := hide (OwX.of (owns_kp (N := fun _ => False) (unhide How) (Kp.of_below b4) (fun _ _ e => e)))
      have HXv : Hid (OwX X4 28 2 (.slice av n2 cv) n2) := hide (by have := OwX.of ov; rw [unhide Hn2] at this; exact this)
      have Hbw : Hid (∀ i, (Value.slice aw n1 cw).ownBlock = some i → X2.heap.size ≤ i) := hide (fun i e => ((unhide How).lt i e).1)
      have Hbv : Hid (∀ i, (Value.slice av n2 cv).ownBlock = some i → X2.heap.size ≤ i) := hide (fun i e => by have := (ov.lt i e).1; have := (unhide HB3).size; omega)
      have G1 : Hid (GO X2.heap.size X4 X4) := hide (GO.refl _ _)
      clear HVc3 ov b4 How HB3
      go_wp2
      go_loopw [13] (fun iv wq => ∃ k : Nat, iv = .int .i64 (k : Nat) ∧ k ≤ n1 ∧ Hid (GO X2.heap.size X4 wq)) (fun iv _ => n1 - (RowKit.intOf iv).toNat)
      case atStart => exact ⟨0, rfl, by omega, G1⟩
      case round =>
        clear G1
        obtain ⟨k, rfl, hk, G1⟩ := hrel
        by_cases hk1 : k < n1
        · have hk1' : (k : Int) < (n1 : Int) := by omega
          obtain ⟨gw, rfl, l0, fz, cc, _⟩ := ((unhide HXw).ss (unhide G1).2).at (by omega)
          obtain ⟨y0, d0⟩ := cc (k * 2) (by omega)
          obtain ⟨y1, d1⟩ := cc (k * 2 + 1) (by omega)
          have f0 := fz (k * 2)
          have f1 := fz (k * 2 + 1)
          have G2 := hide ((unhide G1).set2 (unhide Hbw gw rfl) (k * 2) (k * 2 + 1) (.int .i64 910) (.int .i64 0))
          clear G1 fz cc
          go_wp2
          go_roundw
          case rel => exact ⟨k + 1, by go_num, by omega, G2⟩
          case measure => simp [RowKit.intOf]; omega
        have hk1' : ¬ (k : Int) < (n1 : Int) := by omega
        go_wp2
        clear hk1' hk1 hk
        go_loopw [14] (fun iv wq => ∃ k : Nat, iv = .int .i64 (k : Nat) ∧ k ≤ n2 ∧ Hid (GO X2.heap.size X4 wq)) (fun iv _ => n2 - (RowKit.intOf iv).toNat)
        case atStart => exact ⟨0, rfl, by omega, G1⟩
        case round =>
          clear G1
          obtain ⟨k, rfl, hk, G1⟩ := hrel
          by_cases hk1 : k < n2
          · have hk1' : (k : Int) < (n2 : Int) := by omega
            obtain ⟨gw, rfl, l0, fz, cc, _⟩ := ((unhide HXv).ss (unhide G1).2).at (by omega)
            obtain ⟨y0, d0⟩ := cc (k * 2) (by omega)
            obtain ⟨y1, d1⟩ := cc (k * 2 + 1) (by omega)
            have f0 := fz (k * 2)
            have f1 := fz (k * 2 + 1)
            have G2 := hide ((unhide G1).set2 (unhide Hbv gw rfl) (k * 2) (k * 2 + 1) (.int .i64 911) (.int .i64 0))
            clear G1 fz cc
            go_wp2
            go_roundw
            case rel => exact ⟨k + 1, by go_num, by omega, G2⟩
            case measure => simp [RowKit.intOf]; omega
          have hk1' : ¬ (k : Int) < (n2 : Int) := by omega
          obtain ⟨Xa, hXa⟩ : ∃ X, wr.alloc (.cells #[.int .i64 912, .int .i64 0] 28) = X := ⟨_, rfl⟩
          have bXa : Below wr.heap.size wr Xa := by rw [← hXa]; exact ballc (Below.refl _ _) _
          have xXa : Bx Xa wr.heap.size 28 #[.int .i64 912, .int .i64 0] := by rw [← hXa]; exact Bx.new _ _ _
          obtain ⟨ga, ca, Ya, ra, oa, sa, ka, wa, _⟩ := app_y 22 28 2 16 _ Tryz.underlying22 infoD rfl (by decide) Xa 22 aw n1 cw 1 (((unhide HXw).ss (unhide G1).2).ss (SS.below bXa)) wr.heap.size [.int .i64 912, .int .i64 0] xXa rfl (by decide) (by simp [Value.oneCell']) (by omega) (by decide) (by omega)
          have G2 := ((unhide G1).below bXa).go ka sa (unhide Hbw)
          obtain ⟨Xb, hXb⟩ : ∃ X, Ya.alloc (.cells #[.int .i64 913, .int .i64 0] 28) = X := ⟨_, rfl⟩
          have bXb : Below Ya.heap.size Ya Xb := by rw [← hXb]; exact ballc (Below.refl _ _) _
          have xXb : Bx Xb Ya.heap.size 28 #[.int .i64 913, .int .i64 0] := by rw [← hXb]; exact Bx.new _ _ _
          obtain ⟨gb, cb, Yb, rb, ob, sb, kb, wb, _⟩ := app_y 23 28 2 16 _ Tryz.underlying23 infoD rfl (by decide) Xb 23 av n2 cv 1 (((unhide HXv).ss G2.2).ss (SS.below bXb)) Ya.heap.size [.int .i64 913, .int .i64 0] xXb rfl (by decide) (by simp [Value.oneCell']) (by omega) (by decide) (by omega)
          have G3 := (G2.below bXb).go kb sb (unhide Hbv)
          have hosb := (unhide Hos2).go (unhide HB4) G3.1 G3.2
          have Hosb := hide hosb
          have Ra := hide ra
          have Rb := hide rb
          have hn11 : (n1 : Int) + 1 ≤ 257 := by omega
          have hn21 : (n2 : Int) + 1 ≤ 1000001 := by omega
          clear bXa xXa oa sa ka wa G2 bXb xXb ob sb kb wb G3 hosb ra rb G1 HXw HXv Hbw Hbv HB4 Hos2
          go_wp2_with (at_builtin; first | (have H1 := Ra; clear Ra; refine wpList_append_eq rfl _ _ 22 rfl _ _ _ _ rfl rfl (unhide H1) ?_; clear H1) | (have H2 := Rb; clear Rb; refine wpList_append_eq rfl _ _ 23 rfl _ _ _ _ rfl rfl (unhide H2) ?_; clear H2))
          have HcW := hide (fun X (hX : Below Yb.heap.size Yb X) => ((unhide Hosb).below hX).qa.waits (by have := unhide Hn1; omega))
          have HcU := hide (fun X (hX : Below Yb.heap.size Yb X) => ((unhide Hosb).below hX).qb.waits (by have := unhide Hn1; omega))
          have HcV := hide (fun X (hX : Below Yb.heap.size Yb X) => ((unhide Hosb).below hX).qa.vec)
          have HcX := hide (fun X (hX : Below Yb.heap.size Yb X) => ((unhide Hosb).below hX).qb.vec)
          have hsl : (sortI (ws'.map dotO)).length ≤ 1000 := by rw [(sortI_perm _).length_eq, List.length_map]; have := unhide Hn1; omega
          have HSa : Hid (∀ (a a' : Option Addr) (c c' : Nat) X, RI X (.slice a n1 c) (sortI (ws'.map dotO)) → RI X (.slice a' n1 c') (sortI (ws'.map dotO)) → Calls Tryz.prog 29 #[.slice a n1 c, .slice a' n1 c'] X fun e W => e = .returned (.bool true) ∧ Below X.heap.size X W) := hide (fun a a' c c' X hr hr' => by have := dots_in _ _ (.slice a n1 c) (.slice a' n1 c') X hr hr' (by omega) (by omega); simpa only [decide_true] using this)
          have HSv : Hid (∀ (a a' : Option Addr) (c c' : Nat) X, RI X (.slice a n2 c) hv' → RI X (.slice a' n2 c') hv' → Calls Tryz.prog 13 #[.slice a n2 c, .slice a' n2 c'] X fun e W => e = .returned (.bool true) ∧ ∃ n, W = X.drewN n) := hide (fun a a' c c' X hr hr' => by have := Same_in hv' hv' (.slice a n2 c) (.slice a' n2 c') X hr hr' (by have := unhide Hn2; omega) (by have := unhide Hn2; omega); simpa only [decide_true] using this)
          have HRw : Hid (∀ (X : World) (B : Nat) (a : Option Addr) (c : Nat), X.ownsRow B 28 2 (.slice a n1 c) n1 (flat encI (sortI (ws'.map dotO))) → RI X (.slice a n1 c) (sortI (ws'.map dotO))) := hide (fun X B a c h => by have q := unhide Hn1; subst q; exact waits_row h)
          have HRv : Hid (∀ (X : World) (B : Nat) (a : Option Addr) (c : Nat), OwD X B (.slice a n2 c) hv' → RI X (.slice a n2 c) hv') := hide (fun X B a c h => OwD.row h)
          rw [unhide Hn1] at HcW HcU
          rw [unhide Hn2] at HcV HcX
          clear hsl
          refine (unhide HcW _ (Below.refl _ _)).mono ?_
          rintro e C1 ⟨a1, c1, rfl, o1, b1⟩
          have D1 := hide (unhide HRw _ _ _ _ o1)
          have E1 := hide (bnext (Below.refl _ _) b1)
          clear o1 b1 HcW
          go_wp2_with fail
          refine (unhide HcU _ (unhide E1)).mono ?_
          rintro e C2 ⟨a2, c2, rfl, o2, b2⟩
          have HD := hide (unhide HSa a1 a2 c1 c2 C2 ((unhide D1).below b2) (unhide HRw _ _ _ _ o2))
          have E2 := hide (bnext (unhide E1) b2)
          clear o2 b2 HcU HSa D1 E1 HRw
          go_wp2_with fail
          refine (unhide HD).mono ?_
          rintro e C3 ⟨rfl, b3⟩
          have E3 := hide (bnext (unhide E2) b3)
          clear HD b3 E2
          go_wp2_with fail
          refine (unhide HcV _ (unhide E3)).mono ?_
          rintro e C4 ⟨a4, c4, rfl, o4, b4⟩
          have D4 := hide (unhide HRv _ _ _ _ o4)
          have E4 := hide (bnext (unhide E3) b4)
          clear o4 b4 HcV E3
          go_wp2_with fail
          refine (unhide HcX _ (unhide E4)).mono ?_
          rintro e C5 ⟨a5, c5, rfl, o5, b5⟩
          have HE := hide (unhide HSv a4 a5 c4 c5 C5 ((unhide D4).below b5) (unhide HRv _ _ _ _ o5))
          have E5 := hide (bnext (unhide E4) b5)
          clear o5 b5 HcX HSv D4 E4 HRv
          go_wp2_with fail
          refine (unhide HE).mono ?_
          rintro e C6 ⟨rfl, nn, rfl⟩
          have E6 := hide (bdrew (unhide E5) nn)
          clear HE E5
          have HOX : Hid (OX w b r hold hv' ws' rd' rd' (.slice ak ks.length ck) ks (C5.drewN nn)) := hide ⟨_, _, _, (unhide Hosb).below (unhide E6)⟩
          clear Hosb E6
          generalize C5.drewN nn = C6 at *
          go_wp2
          go_loopw [9, 17] (fun gv iv wq => ∃ (k : Nat) (ak : Option Addr) (ck : Nat) (ks : List (Opn × Value × Value)) (rd : List Opn), gv = .slice ak ks.length ck ∧ iv = .int .i64 (k : Nat) ∧ k ≤ 400 ∧ Hid (OX w b r hold hv' ws' rd rd (.slice ak ks.length ck) ks wq) ∧ Hid (O2 hold hv' ws' rd ks.length (i + 1))) (fun gv iv _ => 400 - (RowKit.intOf iv).toNat)
          case atStart => exact ⟨0, ak, ck, ks, rd', rfl, rfl, by omega, HOX, HI2⟩
          case round =>
            clear HOX HI2
            obtain ⟨k, ak, ck, ks, rd, rfl, rfl, hk, HO, HI⟩ := hrel
            have c12 := unhide Hq wr (unhide HO).bel 12 _ rfl
            obtain ⟨tk, htk⟩ : ∃ tk, s.tk = tk := ⟨_, rfl⟩
            rw [htk] at c12
            clear htk
            by_cases hA : (k : Int) < tk
            rotate_left
            · go_wp2
              go_roundw
              case rel => exact ⟨i + 1, ak, ck, ks, hv', ws', rd, rfl, by go_num, by omega, HO, HI⟩
              case measure => show len0 - ((i : Int) + 1).toNat < len0 - ((i : Nat) : Int).toNat; omega
            by_cases hB : k < 400
            rotate_left
            · have hB' : ¬ (k : Int) < 400 := by omega
              go_wp2
              go_roundw
              case rel => exact ⟨i + 1, ak, ck, ks, hv', ws', rd, rfl, by go_num, by omega, HO, HI⟩
              case measure => show len0 - ((i : Int) + 1).toNat < len0 - ((i : Nat) : Int).toNat; omega
            have hB' : (k : Int) < 400 := by omega
            obtain ⟨A, B, K, hos⟩ := unhide HO
            have hI := unhide HI
            have htot := hI.2
            have hlo := hos.lo
            have HT := hide (hos.qa.take (fun i e => (hlo i (.inl e)).2) (by omega))
            have HTb := hide (fun X (Q : Nat → Prop) (h : QP Q X r hold hv' ws' rd) (hQ : ∀ i, Q i → i < X.heap.size) => h.take hQ (by omega))
            have HIt := hide hI.take
            have HIp := hide (fun h => hI.push h)
            obtain ⟨o2, ho2⟩ : ∃ o2, hdP rd = o2 := ⟨_, rfl⟩
            obtain ⟨is, his⟩ : ∃ is, isP rd = is := ⟨_, rfl⟩
            rw [ho2, his] at HT HTb
            rw [his] at HIp
            have Hos := hide hos
            obtain ⟨M1, hM1⟩ : ∃ M1, o2.deps.length = M1 := ⟨_, rfl⟩
            obtain ⟨M2, hM2⟩ : ∃ M2, o2.gone.length = M2 := ⟨_, rfl⟩
            have HM := hide (And.intro hM1 hM2)
            rw [hM1, hM2] at HT HTb
            unfold opA at HT HTb
            have hkn : ks.length ≤ 301 := by omega
            clear hos hI htot hlo ho2 his hM1 hM2 HO HI
            go_wp2_with fail
            refine (unhide HT).mono ?_
            rintro e X1 ⟨ae, ce, af, cf, A1, rfl, qa1, ha1, hoe, hne, k1⟩
            have hos1 := (unhide Hos).newA qa1 (fun i e => ⟨.inl (ha1 i e), by have := ((unhide Hos).lo i (.inl (ha1 i e))).2; have := k1.size; omega⟩) k1
            obtain ⟨V1, hV1⟩ : ∃ V1, X1.alloc (.cells #[.int .i64 o2.ds, .int .i64 o2.dq, .slice ae M1 ce, .int .i64 o2.kind, .int .i64 o2.it, .int .i64 o2.is, .int .i64 o2.rt, .int .i64 o2.rs, .string o2.text, .slice af M2 cf, .int .i64 o2.site] 42) = V1 := ⟨_, rfl⟩
            have bV1 : Below X1.heap.size X1 V1 := by rw [← hV1]; exact ballc (Below.refl _ _) _
            have BV1 : Bx V1 X1.heap.size 42 #[.int .i64 o2.ds, .int .i64 o2.dq, .slice ae M1 ce, .int .i64 o2.kind, .int .i64 o2.it, .int .i64 o2.is, .int .i64 o2.rt, .int .i64 o2.rs, .string o2.text, .slice af M2 cf, .int .i64 o2.site] := by rw [← hV1]; exact Bx.new _ _ _
            have hosV := hos1.below bV1
            have HTc := hide (unhide HTb V1 B hosV.qb (fun i e => (hosV.lo i (.inr (.inl e))).2))
            have HosV := hide hosV
            have HBV1 := hide BV1
            have hoeM : OE A X1 (o2, .slice ae M1 ce, .slice af M2 cf) := hoe
            have Hx1 := hide (show KX V1 (o2, .slice ae M1 ce, .slice af M2 cf) from hoeM.kx.below bV1)
            have Hxb : Hid (∀ i, KB [(o2, Value.slice ae M1 ce, Value.slice af M2 cf)] i → A i ∧ ¬ A1 i ∧ i < X1.heap.size) := hide (fun i hi => ⟨by
              obtain ⟨y, hy, q⟩ := hi
              rw [List.mem_singleton] at hy
              subst hy
              exact q.elim (fun q => hoeM.pd i q) (fun q => hoeM.pg i q), hne i hi, by
              obtain ⟨y, hy, q⟩ := hi
              rw [List.mem_singleton] at hy
              subst hy
              exact q.elim (fun q => (hoeM.d.lt i q).2) (fun q => (hoeM.g.lt i q).2)⟩)
            have HDA : Hid (∀ i, A i → w.heap.size ≤ i ∧ ¬ B i ∧ ¬ K i) := hide (fun i e => ⟨((unhide Hos).lo i (.inl e)).1, (unhide Hos).da i e⟩)
            have hsV1 : X1.heap.size < V1.heap.size := BV1.lt
            have Hr1 := hide (And.intro (OwD.row hoeM.d) (RC.of_owns hoeM.g))
            have Hs1 := hide (And.intro hoeM.s1 hoeM.s2)
            have HbV1 := hide bV1
            have Hlo1 : Hid (∀ i, B i → i < X1.heap.size) := hide (fun i e => (hos1.lo i (.inr (.inl e))).2)
            clear HT HTb qa1 ha1 hoe hoeM hne k1 hos1 bV1 BV1 hosV c12 Hos
            go_wp2_with fail
            refine (unhide HTc).mono ?_
            rintro e X2 ⟨ae', ce', af', cf', B1, rfl, qb1, hb1, hoe', _, k2⟩
            have hos2 := (unhide HosV).newB qb1 (fun i e => ⟨.inl (hb1 i e), by have := ((unhide HosV).lo i (.inr (.inl (hb1 i e)))).2; have := k2.size; omega⟩) k2
            obtain ⟨V2, hV2⟩ : ∃ V2, X2.alloc (.cells #[.int .i64 o2.ds, .int .i64 o2.dq, .slice ae' M1 ce', .int .i64 o2.kind, .int .i64 o2.it, .int .i64 o2.is, .int .i64 o2.rt, .int .i64 o2.rs, .string o2.text, .slice af' M2 cf', .int .i64 o2.site] 42) = V2 := ⟨_, rfl⟩
            have bV2 : Below X2.heap.size X2 V2 := by rw [← hV2]; exact ballc (Below.refl _ _) _
            have BV2 : Bx V2 X2.heap.size 42 #[.int .i64 o2.ds, .int .i64 o2.dq, .slice ae' M1 ce', .int .i64 o2.kind, .int .i64 o2.it, .int .i64 o2.is, .int .i64 o2.rt, .int .i64 o2.rs, .string o2.text, .slice af' M2 cf', .int .i64 o2.site] := by rw [← hV2]; exact Bx.new _ _ _
            have hnB : ¬ B X1.heap.size := fun e => by have := unhide Hlo1 _ e; omega
            have BA2 := ((unhide HBV1).kp k2 hnB).below bV2
            have hxk : ∀ i, KB [(o2, Value.slice ae M1 ce, Value.slice af M2 cf)] i → ¬ B i := fun i hi => (unhide HDA i (unhide Hxb i hi).1).2.1
            have hx2 := (unhide Hx1).kp k2 hxk
            have r1 : RI V2 (.slice ae M1 ce) o2.deps := by
              have q := (unhide Hr1).1.below (unhide HbV1)
              have hq : ∀ k, (Value.slice ae M1 ce).ownBlock = some k → ¬ B k := fun k hk => hxk k ⟨_, List.mem_singleton_self _, .inl hk⟩
              exact RC.below (RC.kp q k2 hq) bV2
            have r2 : RR V2 (.slice af M2 cf) o2.gone := by
              have q := RC.below (unhide Hr1).2 (unhide HbV1)
              have hq : ∀ k, (Value.slice af M2 cf).ownBlock = some k → ¬ B k := fun k hk => hxk k ⟨_, List.mem_singleton_self _, .inr hk⟩
              exact RC.below (RC.kp q k2 hq) bV2
            have HSm := hide (lsame_in o2 (.slice ae M1 ce) (.slice af M2 cf) (.slice ae' M1 ce') (.slice af' M2 cf') V2 r1 r2 ((OwD.row hoe'.d).below bV2) (RC.below (RC.of_owns hoe'.g) bV2) (unhide Hs1).1 (unhide Hs1).2)
            unfold opA at HSm
            have Hos2 := hide (hos2.below bV2)
            have Hx2 := hide (hx2.below bV2)
            have HBA2 := hide BA2
            have HB1 : Hid (∀ i, B1 i → B i) := hide hb1
            have hsz : X1.heap.size ≤ V2.heap.size := by have := k2.size; have := bV2.size; omega
            obtain ⟨a0, a1, a2, a3, a4, a5, a6, a7, a8, a9, a10⟩ := cells_op BA2
            obtain ⟨b0, b1, b2, b3, b4, b5, b6, b7, b8, b9, b10⟩ := cells_op BV2
            have ha1 := BA2.lt
            have hb1 := BV2.lt
            have hk4 := k2.size
            clear HTc qb1 hoe' k2 hos2 bV2 BV2 hnB BA2 hxk hx2 r1 r2 HosV HBV1 Hr1 Hs1 HbV1 Hlo1 hV1
            go_wp2_with fail
            refine (unhide HSm).mono ?_
            rintro e X3 ⟨rfl, b5'⟩
            have Hos3 := hide ((unhide Hos2).below b5')
            have Hx3 := hide ((unhide Hx2).below b5')
            have HBA3 := hide ((unhide HBA2).below b5')
            have hsz3 := b5'.size
            have hbne : (is != is) = false := by simp
            clear HSm b5' Hos2 Hx2 HBA2 a0 a1 a2 a3 a4 a5 a6 a7 a8 a9 a10 b0 b1 b2 b3 b4 b5 b6 b7 b8 b9 b10 hV2 ha1 hb1 hk4
            cases is with
            | false =>
              have HOX : Hid (OX w b r hold hv' ws' rd.tail rd.tail (.slice ak ks.length ck) ks X3) := hide ⟨_, _, _, unhide Hos3⟩
              clear Hos3 Hx3 HBA3 Hxb HDA
              go_wp2
              go_roundw
              case rel => exact ⟨i + 1, ak, ck, ks, hv', ws', rd.tail, rfl, by go_num, by omega, HOX, HIt⟩
              case measure => show len0 - ((i : Int) + 1).toNat < len0 - ((i : Nat) : Int).toNat; omega
            | true =>
              obtain ⟨a0, a1, a2, a3, a4, a5, a6, a7, a8, a9, a10⟩ := cells_op (unhide HBA3)
              have hal := (unhide HBA3).lt
              obtain ⟨V3, hV3⟩ : ∃ V3, X3.alloc (.cells #[.int .i64 o2.ds, .int .i64 o2.dq, .slice ae M1 ce, .int .i64 o2.kind, .int .i64 o2.it, .int .i64 o2.is, .int .i64 o2.rt, .int .i64 o2.rs, .string o2.text, .slice af M2 cf, .int .i64 o2.site] 42) = V3 := ⟨_, rfl⟩
              have bV3 : Below X3.heap.size X3 V3 := by rw [← hV3]; exact ballc (Below.refl _ _) _
              have BV3 : Bx V3 X3.heap.size 42 (encO (o2, Value.slice ae M1 ce, Value.slice af M2 cf)).toArray := by rw [← hV3]; exact Bx.new _ _ _
              obtain ⟨kv, Y, hap, K', hosY⟩ := ((unhide Hos3).below bV3).push ((unhide Hx3).below bV3) (fun i hi => by
                have q := unhide Hxb i hi
                have q' := unhide HDA i q.1
                have := bV3.size
                exact ⟨q'.1, by omega, q.2.1, fun e => q'.2.1 (unhide HB1 i e), q'.2.2⟩) BV3 (by omega)
              obtain ⟨ak', ck', rfl⟩ := owns_form hosY.row
              have HOX : Hid (OX w b r hold hv' ws' rd.tail rd.tail (.slice ak' (ks ++ [(o2, Value.slice ae M1 ce, Value.slice af M2 cf)]).length ck') (ks ++ [(o2, Value.slice ae M1 ce, Value.slice af M2 cf)]) Y) := hide ⟨_, _, _, hosY⟩
              have HI3 : Hid (O2 hold hv' ws' rd.tail (ks ++ [(o2, Value.slice ae M1 ce, Value.slice af M2 cf)]).length (i + 1)) := hide (by rw [List.length_append]; exact unhide HIp rfl)
              have Hap := hide hap
              clear bV3 BV3 hosY hap Hos3 Hx3 HBA3 Hxb HDA HIt HIp
              go_wp2_with (at_builtin; refine wpList_append_eq rfl _ _ 47 rfl _ _ _ _ rfl rfl (unhide Hap) ?_; clear Hap)
              go_roundw
              case rel => exact ⟨k + 1, ak', ck', _, rd.tail, by rw [List.length_append]; rfl, by go_num, by omega, HOX, HI3⟩
              case measure => show 400 - ((k : Int) + 1).toNat < 400 - ((k : Nat) : Int).toNat; omega

theorem own : ownKnob Tryz.prog.godebug = none := by kernel_rfl
theorem laidOut2 : laidOutB Tryz.prog = true := by kernel_rfl

set_option maxRecDepth 100000 in
theorem lifted (os : Os) (started : os.Started) (H : Type) (enc : TypeId × Value → H) :
    ReturnsInHanded {} Tryz.checked os 8 .any (Rows.causalOwnSpec.pre6 enc Tryz.prog Tryz.f8 Rows.causalOwnRow.domain false) (Rows.causalOwnSpec.post enc Tryz.prog Tryz.f8 false true false false) := by
  refine returnsInHanded_of_change (C := Tryz.checked) own started (by kernel_rfl) Tryz.func8
    (ChangeSpec.witness6 (enc := enc) (C := Tryz.checked) false ⟨#[], #[.int .i64 0, .slice none 0 0], []⟩ 8 (by kernel_rfl) (by kernel_rfl) (by kernel_rfl) (by kernel_rfl)) ?_
  intro W base args ds gs before hval0 hW hcnd _
  have hval : ∀ (j : Nat) t v, Tryz.f8.params[j]? = some t → args[j]? = some v → Value.okWide Tryz.prog W .any base t v := hval0
  have hW' := hW
  obtain ⟨p, q, hA0, hV, rfl, hfz, hnd⟩ := hW
  have hA : DataW.TrodAll enc Tryz.prog W 0 (fun _ => true) true Tryz.f8.params.toList args.toList ds p := hA0
  rw [Tryz.params8] at hA hval
  obtain ⟨v0, vs0, d0, ds0, p0, q0, hargs, rfl, rfl, h0, r0⟩ := trodAll_cons hA
  obtain ⟨v1, vs1, d1, ds1, p1, q1, rfl, rfl, rfl, h1, r1⟩ := trodAll_cons r0
  obtain ⟨rfl, rfl, rfl⟩ := trodAll_nil r1
  obtain rfl : args = #[v0, v1] := by cases args; simp_all
  obtain ⟨rfl, rfl⟩ := trodVars_none hV
  obtain ⟨a0, rfl, rfl, rfl, w0⟩ := open_int Tryz.underlying3 (hval 0 3 v0 rfl rfl) h0
  obtain ⟨a1, len1, cap1, rfl⟩ := okWide_slice Tryz.underlying24 (hval 1 24 v1 rfl rfl)
  have k1 := h1
  have lt1 : ∀ x ∈ p1, x.block < W.heap.size := by obtain ⟨m, hm⟩ := k1; exact DataW.trod_lt m _ _ _ hm
  obtain ⟨z1, w1⟩ : ∃ l : List Stp, RC W (.slice a1 len1 cap1) l.length (flat encS l) ∧ l.length = len1 ∧ len1 ≤ maxLen ∧ ∀ e ∈ l, StW W e := by
    obtain ⟨fuel, hf⟩ := h1
    simp only [Value.cells] at hf
    exact open_steps hf
  clear hA0 hval0
  refine (walk a0 a1 len1 cap1 z1 W w0 w1).mono fun e W' ⟨he, bel⟩ => ?_
  subst he
  exact ⟨_, rfl, _, _, _, [], _, [], hW', trodAll_mk1 (shut_bool Tryz.underlying4 _), (trodAll_cons_mk (shut_int Tryz.underlying3 w0) (trodAll_cons_mk (Below.trod laidOut2 (by kernel_rfl) (of_decide_eq_true (by kernel_rfl)) k1 bel lt1) trodAll_mk0)), rfl, bel.frame _, fun h => by cases h⟩

theorem over : Rows.causalOwnRow.holds Tryz.pinned (OpenSpec.ofChange Rows.causalOwnSpec) :=
  OpenClaim.holds_of_wide 8 Tryz.f8 rfl rfl rfl rfl rfl rfl rfl ⟨rfl, rfl, rfl, rfl, rfl⟩ rfl rfl rfl rfl rfl (by kernel_rfl) Tryz.func8 (by kernel_rfl)
    (of_decide_eq_true (by kernel_rfl)) (by unfold Func.isWrapper; first | (rw [if_pos (by decide +kernel)]; kernel_rfl) | (rw [if_neg (by decide +kernel)]; exact ⟨rfl, rfl⟩))
    (fun os started H enc _ => lifted os started H enc)

end LCausalOwn

theorem causalOwn_holds : Rows.CausalOwnSaid := LCausalOwn.over

end Go.Proofs.YtkkolefionbbcaaGreat
