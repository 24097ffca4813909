/-
  Chapter 13's law CausalOrder returns true for every hold, every vector and every script, and leaves its arguments as they were; no condition.
-/
import Derived.Test.YtkpedifmbckgiaaGreatRows
import Derived.WalkKit
import Derived.ProofKit
import Derived.OpenShut
import Derived.ShutString
import Derived.ChangeOld
import Derived.Below
import Derived.Test.YtkpedifmbckgiaaGreatZCO3
import Derived.Deep.CutRange
set_option linter.unusedVariables false
set_option linter.unusedSimpArgs false
namespace Go.Proofs.YtkpedifmbckgiaaGreat
namespace LCausalOrder
open Go.ChangeShapes Go.WideShapes Go.ChangeAt Go.RowKit Go.Lib
open Go.ChangeMaps (open_string shut_string)

set_option maxRecDepth 100000 in
set_option maxHeartbeats 16000000 in
theorem walk (hold : Int) (av : Option Addr) (lenv capv : Nat) (vl : List (Int × Int)) (a0 : Option Addr) (len0 cap0 : Nat) (ss : List Stp) (w : World) (h0 : (Lit.int .i64 hold).wf = true) (w1 : RI w (.slice av lenv capv) vl ∧ vl.length = lenv ∧ lenv ≤ maxLen ∧ ∀ e ∈ vl, idIn e) (w2 : RC w (.slice a0 len0 cap0) ss.length (flat encS ss) ∧ ss.length = len0 ∧ len0 ≤ maxLen ∧ ∀ e ∈ ss, StW w e) :
    Calls Tryz.prog 6 #[.int .i64 hold, .slice av lenv capv, .slice a0 len0 cap0] w fun e W => e = .returned (.bool true) ∧ Below w.heap.size w W := by
  obtain ⟨hrv, hlv, hmv, _⟩ := w1
  obtain ⟨hr, hln, hmx, hst⟩ := w2
  unfold maxLen at hmv hmx
  have HK := hide (fun W => known_in W)
  clear h0
  by_cases hbv : 3000 < lenv
  · have hbv' : (3000 : Int) < (lenv : Int) := by omega
    clear hrv hlv hr hln hst
    go_enter Tryz.func6, Tryz.ntmps6
    go_wp2_with fail
    refine (unhide HK _).mono ?_
    rintro r W2 ⟨rfl, hb2⟩
    go_wp2
    go_ret
    exact ⟨rfl, hb2⟩
  have hbv' : ¬ (3000 : Int) < (lenv : Int) := by omega
  have HMu := hide (much_in a0 len0 cap0 ss w hr hln hst hmx)
  obtain ⟨M, hM⟩ : ∃ M, muchB ss = M := ⟨_, rfl⟩
  rw [hM] at HMu
  cases M with
  | true =>
    clear hrv hlv hr hln hst hM
    go_enter Tryz.func6, Tryz.ntmps6
    go_wp2_with fail
    refine (unhide HMu).mono ?_
    rintro e W1 ⟨rfl, b1⟩
    replace b1 := hide b1
    go_wp2_with fail
    refine (unhide HK _).mono ?_
    rintro r W2 ⟨rfl, hb2⟩
    go_wp2
    go_ret
    exact ⟨rfl, bnext (unhide b1) hb2⟩
  | false =>
    have hsml := much_small hM
    have hl3 : len0 ≤ 300 := by rw [← hln]; exact hsml.1
    have Hsm := hide hsml.2
    have Hln := hide hln
    have Hr := hide hr
    have Hst := hide hst
    have hvl : vl.length ≤ 3000 := by omega
    clear hlv
    have HN := hide (fun W (hb : Below w.heap.size w W) => New_in hold (.slice av lenv capv) vl W (hrv.below hb) (by omega))
    have HMg := hide (fun W (hb : Below w.heap.size w W) => refMerge_in (.slice av lenv capv) (.slice none 0 0) vl [] W (hrv.below hb) (RC.nil _ _ _) (by omega) (by simp))
    clear hM hsml hln hr hst hrv
    go_enter Tryz.func6, Tryz.ntmps6
    go_wp2_with fail
    refine (unhide HMu).mono ?_
    rintro e W1 ⟨rfl, b1⟩
    replace b1 := hide b1
    clear HMu
    go_wp2_with fail
    refine (unhide HN _ (unhide b1)).mono ?_
    rintro e W2 ⟨b2, ⟨b, vh, hh0, hh1, hck, rfl, hq⟩ | ⟨c, hc, rfl⟩⟩
    rotate_left
    · have hc0 : c ≠ 0 := by rcases hc with ⟨_, h⟩ | ⟨_, _, _, h⟩; omega; exact h
      have hc1 : (c != 0) = true := by simpa using hc0
      have B2 := hide (bnext (unhide b1) b2)
      clear hc hc0 b2 HN HMg
      go_wp2_with fail
      refine (unhide HK _).mono ?_
      rintro r W3 ⟨rfl, hb3⟩
      go_wp2
      go_ret
      exact ⟨rfl, bnext (unhide B2) hb3⟩
    have B2 := hide (bnext (unhide b1) b2)
    have Hq := hide hq
    have Hck := hide hck
    clear HN hq hck b2
    go_wp2_with fail
    refine (unhide HMg _ (unhide B2)).mono ?_
    rintro e W3 ⟨v', rfl, ho3, b3⟩
    rw [vec_mrg (unhide Hck)] at ho3
    obtain ⟨ah, ch, rfl⟩ := OwD.form ho3
    have HC : Hid (CK w (.slice ah vl.length ch) vl b hold vl [] [] W3) := by
      have z1 := (unhide b1).size
      have z2 := (unhide B2).size
      have z3 := b3.size
      have q3 := (unhide Hq).tight
      refine ⟨⟨_, vh, _, _, [], [], q3.below b3, rfl, rfl, fun i hi => ⟨?_, ?_, fun e => ?_⟩⟩, bnext (unhide B2) b3, OwD.base ho3 z2⟩
      · have := hi.1; omega
      · have := hi.2; omega
      · have := (ho3.lt i e).1; have := hi.2; omega
    have HO := hide (OI.start hold hh0 vl ss)
    clear HMg ho3 b3 Hq B2 b1 Hck
    go_wp2
    go_loopw [9, 10] (fun gv iv wr => ∃ (i : Nat) (ah : Option Addr) (ch : Nat) (hv : List (Int × Int)) (ws : List Opn), gv = .slice ah hv.length ch ∧ iv = .int .i64 (i : Nat) ∧ i ≤ len0 ∧ Hid (CK w (.slice ah hv.length ch) hv b hold hv ws [] wr) ∧ Hid (OI hold hv ws ss i)) (fun gv iv _ => len0 - (RowKit.intOf iv).toNat)
    case atStart => exact ⟨0, ah, ch, vl, [], rfl, rfl, by omega, HC, HO⟩
    case round =>
      obtain ⟨i, ah, ch, hv, ws, rfl, rfl, hi, HC, HO⟩ := hrel
      by_cases hlt : i < len0
      rotate_left
      · have hlt' : ¬ (i : Int) < (len0 : Int) := by omega
        go_wp2_with fail
        refine (unhide HK _).mono ?_
        rintro r W5 ⟨rfl, hb5⟩
        go_wp2
        go_ret
        exact ⟨rfl, bnext (unhide HC).bel hb5⟩
      have hlt' : (i : Int) < (len0 : Int) := by omega
      obtain ⟨s, hx⟩ : ∃ s, ss[i]? = some s := ⟨_, List.getElem?_eq_getElem (by rw [unhide Hln]; exact hlt)⟩
      obtain ⟨g0, off, rfl, hg0, hcw⟩ := rs_at (unhide Hr) hx
      have hc := fun q v h => cell_below (hcw q v h) (unhide HC).bel
      have hst := (unhide Hst s (List.mem_of_getElem? hx)).below (unhide HC).bel
      have hsm := unhide Hsm s (List.mem_of_getElem? hx)
      obtain ⟨ad, cd, hvd⟩ := hst.d
      obtain ⟨ag, cg, hvg⟩ := hst.g
      have q0 := hc 0 _ rfl
      have q1 := hc 1 _ rfl
      have q2 := hc 2 _ rfl
      have q3 := hc 3 _ rfl
      have q4 := hc 4 _ rfl
      have q5 := hc 5 _ rfl
      have q6 := hc 6 _ rfl
      have q7 := hc 7 _ rfl
      have q8 := hc 8 _ rfl
      have q9 := hc 9 _ rfl
      have q10 := hc 10 _ rfl
      rw [hvd] at q2
      rw [hvg] at q9
      simp only [Nat.add_zero] at q0
      have hdR := hst.rd
      have hgR := hst.rg
      have hinn := hst.inn
      rw [hvd] at hdR
      rw [hvg] at hgR
      have HL0 := hide (show hv.length ≤ 1000000 from (unhide HC).hlen)
      have HQ := hide (fun X (hX : Below w.heap.size w X) => show X.cell? ⟨g0, off + i * 13 + 0, none⟩ = some (.int .i64 s.op.ds) ∧ X.cell? ⟨g0, off + i * 13 + 1, none⟩ = some (.int .i64 s.op.dq) from ⟨cell_below (hcw 0 _ rfl) hX, cell_below (hcw 1 _ rfl) hX⟩)
      have hwl : ws.length ≤ 256 := by have := (unhide HO).len; omega
      have hof := offA_spec (hold := hold) s.op (unhide HO).wt (unhide HO).can (unhide HO).len
      have HOf := hide ((unhide HC).off ⟨hh0, hh1⟩ s.op _ _ hdR hgR hsm.1 hsm.2.1 hsm.2.2 (hinn.fit (by omega) (by omega) (by omega)) (by simp; omega))
      obtain ⟨⟨⟨rr, er⟩, hv', ws', rd'⟩, hA⟩ : ∃ A, offA hold hv ws [] s.op = A := ⟨_, rfl⟩
      rw [hA] at hof HOf
      simp only at hof HOf
      have HO2 := hide ((unhide HO).step hx hof)
      have Hdl := hide hof.dl
      have Hln2 := hide hof.ln2
      have Htk := hide hof.tk
      have hans := hof.ans
      have Hdot := hide (show (s.op.ds, s.op.dq) = dotO s.op from rfl)
      unfold opA at HOf
      obtain ⟨o, ho⟩ : ∃ o, s.op = o := ⟨_, rfl⟩
      rw [ho] at q0 q1 q2 q3 q4 q5 q6 q7 q8 q9 q10 HOf Htk HQ
      clear hof hA hc hcw hst hsm hvd hvg hdR hgR hinn hx HO ho Hdot
      go_wp2_with fail
      refine (unhide HOf).mono ?_
      rintro e X1 ⟨rfl, hc1⟩
      have HC1 := hide hc1
      clear HOf hc1 HC q0 q1 q2 q3 q4 q5 q6 q7 q8 q9 q10
      go_upto_region 11 with fail
      go_cut [69] from 53 to 69 (fun v wx => v = .bool false ∧ X1 = wx)
      case first =>
        rcases hans with ⟨rfl, hr1, hr2⟩ | ⟨he, rfl⟩
        · go_wp2
          go_meet
          case rel => exact ⟨by first | rfl | (simp; omega), rfl⟩
        · have he' : (er == 0) = false := by simpa using he
          have he2 : (er != 0) = true := by simpa using he
          clear he
          go_wp2
          go_meet
          case rel => exact ⟨by first | rfl | (simp; omega), rfl⟩
      obtain ⟨rfl, rfl⟩ := hcut
      clear hans
      go_wp2
      go_loopw [9, 13] (fun gv nv wr => ∃ (k : Nat) (ak : Option Addr) (ck : Nat) (hk : List (Int × Int)) (rk : List Opn), gv = .slice ak hk.length ck ∧ nv = .int .i64 (k : Nat) ∧ k + rk.length ≤ 257 ∧ Hid (hk.length ≤ 1000000) ∧ Hid (CK w (.slice ak hk.length ck) hk b hold hv' ws' rk wr) ∧ Hid (Dlv hk rk hv')) (fun gv nv _ => 302 - (RowKit.intOf nv).toNat)
      case atStart => exact ⟨0, ah, ch, hv, rd', rfl, rfl, by have := unhide Hln2; omega, HL0, HC1, Hdl⟩
      case round =>
        obtain ⟨k, ak, ck, hk, rk, rfl, rfl, hkl, HLk, HCk, HDk⟩ := hrel
        clear HC1 Hdl
        have hk1 : (k : Int) ≤ 301 := by omega
        cases rk with
        | cons y rk =>
          as_aux_lemma =>
            obtain ⟨hcan, hchk, hdl⟩ := unhide HDk
            have HT := hide ((unhide HCk).takeS (by simp at hkl; omega))
            have hkl1 : k + 1 + rk.length ≤ 257 := by simp at hkl; omega
            have Hd2 := hide hdl
            have Hcan := hide hcan
            clear HDk hdl hcan hchk hkl
            go_wp2_with fail
            refine (unhide HT).mono ?_
            rintro e X2 ⟨ad, cd, ag, cg, rfl, ry, hyl, hyin, hc2⟩
            obtain ⟨V, hV⟩ : ∃ V, X2.alloc (.cells #[.int .i64 y.ds, .int .i64 y.dq, .slice ad y.deps.length cd, .int .i64 y.kind, .int .i64 y.it, .int .i64 y.is, .int .i64 y.rt, .int .i64 y.rs, .string y.text, .slice ag y.gone.length cg, .int .i64 y.site] 42) = V := ⟨_, rfl⟩
            have bV : Below X2.heap.size X2 V := by rw [← hV]; exact ballc (Below.refl _ _) _
            have BV : Bx V X2.heap.size 42 #[.int .i64 y.ds, .int .i64 y.dq, .slice ad y.deps.length cd, .int .i64 y.kind, .int .i64 y.it, .int .i64 y.is, .int .i64 y.rt, .int .i64 y.rs, .string y.text, .slice ag y.gone.length cg, .int .i64 y.site] := by rw [← hV]; exact Bx.new _ _ _
            have hcV := hc2.below bV
            have hkR := OwD.row hcV.hav
            have hkl2 := unhide HLk
            have HG := hide (fun (W : World) (hb : Below V.heap.size V W) => refGet_in (.slice ak hk.length ck) hk y.ds W (hkR.below hb) (by omega))
            have HCo := hide (fun (W : World) (hb : Below V.heap.size V W) => refCovers_in (.slice ak hk.length ck) (.slice ad y.deps.length cd) hk y.deps W (hkR.below hb) ((ry.below bV).below hb) (by omega) (by omega))
            have HAd := hide (fun (W : World) (hb : Below V.heap.size V W) => refAdd_in (.slice ak hk.length ck) hk y.ds y.dq W (hkR.below hb) (by omega) hyin.dq.2)
            have HLa := hide (show (addV hk (y.ds, y.dq)).1.length ≤ 1000000 by have := addV_lenC hk (y.ds, y.dq); omega)
            obtain ⟨G, hG⟩ : ∃ G, getV hk y.ds = G := ⟨_, rfl⟩
            have hcan := unhide Hcan
            unfold canO at hcan
            rw [hG] at hcan HG
            simp only [Bool.and_eq_true, decide_eq_true_eq] at hcan
            obtain ⟨hcan1, hcan2⟩ := hcan
            rw [hcan2] at HCo
            have hyq := hyin.dq
            have hyq1 : -9223372036854775808 ≤ y.dq - 1 := by
              have : 0 ≤ G := by
                rw [← hG]
                unfold getV
                split
                · exact (sy_good hk).lo _
                · omega
              omega
            have hyw : IntKind.i64.wrap (y.dq - 1) = y.dq - 1 := by simp only [IntKind.wrap_i64]; unfold in64 at hyq; omega
            have hne1 : (G != y.dq - 1) = false := by rw [bne_eq_false_iff_eq]; omega
            have mixed : Tryz.prog.follows .mixedOrders = true := by kernel_rfl
            have hne := BelowOf.ne V
            have k0 : ∀ p : BelowOf V, p.w.cell? ⟨X2.heap.size, 0, none⟩ = some (.int .i64 y.ds) := fun p => cell_below (BV.cell 0 _ rfl) p.h
            have k1 : ∀ p : BelowOf V, p.w.cell? ⟨X2.heap.size, 1, none⟩ = some (.int .i64 y.dq) := fun p => cell_below (BV.cell 1 _ rfl) p.h
            have k2 : ∀ p : BelowOf V, p.w.cell? ⟨X2.heap.size, 2, none⟩ = some (.slice ad y.deps.length cd) := fun p => cell_below (BV.cell 2 _ rfl) p.h
            obtain ⟨A, hA⟩ : ∃ A, addV hk (y.ds, y.dq) = A := ⟨_, rfl⟩
            rw [hA] at HAd HLa
            have Hd3 : Hid (Dlv A.1 rk hv') := by rw [← hA]; exact Hd2
            have HcV := hide hcV
            have HBV := hide BV
            obtain ⟨bo, hbo⟩ : ∃ bo, X2.heap.size = bo := ⟨_, rfl⟩
            rw [hbo] at k0 k1 k2 HBV
            obtain ⟨A1, A2⟩ := A
            clear HT hc2 ry hyl hyin bV BV hcV hkR hkl2 hG hcan1 hcan2 Hcan hyq hyq1 hA Hd2
            go_wp2_with fail
            refine wp_region_quiet_below mixed (by kernel_rfl) ?_
            repeat (any_goals (first | go_big_quiet_step ((first | (go_at_call 22; exact below_of (unhide HCo _ (BelowOf.h _))) | (go_at_call 23; exact below_of (unhide HG _ (BelowOf.h _))))) | quiet_step ((first | (go_at_call 22; exact below_of (unhide HCo _ (BelowOf.h _))) | (go_at_call 23; exact below_of (unhide HG _ (BelowOf.h _)))))))
            all_goals (refine wpQuiet_nil ?_; intro _ hw'; obtain ⟨p, hw''⟩ := hw'; subst hw'')
            have Hp := hide p.h
            have B2 := (unhide HBV).below p.h
            have j0 : p.w.cell? ⟨bo, 0, none⟩ = some (.int .i64 y.ds) := B2.cell 0 _ rfl
            have j1 : p.w.cell? ⟨bo, 1, none⟩ = some (.int .i64 y.dq) := B2.cell 1 _ rfl
            generalize p.w = Z at *
            clear hne k0 k1 k2 B2 HG HCo hyw hV hbo
            go_wp2_with fail
            refine (unhide HAd _ (unhide Hp)).mono ?_
            rintro e X3 ⟨v3, rfl, o3, b3⟩
            obtain ⟨a3, c3, rfl⟩ := OwD.form o3
            have HC3 := hide (((unhide HcV).below (unhide Hp)).have' b3 o3)
            clear HAd o3 b3 j0 j1 HcV Hp
            go_wp2
            go_roundw
            case rel => exact ⟨k + 1, a3, c3, A1, rk, rfl, by go_num, hkl1, HLa, HC3, Hd3⟩
            case measure => show 302 - ((k : Int) + 1).toNat < 302 - ((k : Nat) : Int).toNat; omega
        | nil =>
          as_aux_lemma =>
            have ehv : hk = hv' := unhide HDk
            subst ehv
            have HT := hide (unhide HCk).takeN
            unfold zeroA at HT
            have hkl2 := unhide HLk
            obtain ⟨n, hn⟩ : ∃ n, ws'.length = n := ⟨_, rfl⟩
            have Hn := hide hn
            have hn256 : n ≤ 256 := by have := (unhide HO2).len; omega
            have hnh : ¬ hold < (n : Int) := by have := (unhide HO2).len; omega
            clear HDk hn hkl
            go_wp2_with fail
            refine (unhide HT).mono ?_
            rintro e X2 ⟨rfl, hc2⟩
            clear HT HCk
            go_wp2_with fail
            obtain ⟨V, hV⟩ : ∃ V, X2.alloc (.cells #[.int .i64 0, .int .i64 0, .slice none 0 0, .int .i64 0, .int .i64 0, .int .i64 0, .int .i64 0, .int .i64 0, .string ⟨#[]⟩, .slice none 0 0, .int .i64 0] 42) = V := ⟨_, rfl⟩
            have bV : Below X2.heap.size X2 V := by rw [← hV]; exact ballc (Below.refl _ _) _
            have HCV := hide (hc2.below bV)
            have HW := hide ((unhide HCV).waits (by have := unhide Hn; omega))
            rw [unhide Hn] at HW
            rw [hV]
            clear hc2 bV
            refine (unhide HW).mono ?_
            rintro e X3 ⟨aw, cw, rfl, rw3, b3⟩
            have HC3 := hide ((unhide HCV).below b3)
            have HRw := hide rw3
            have HVe := hide (unhide HC3).vec
            have HFr := hide (fun X (hX : Below X3.heap.size X3 X) => ((unhide HC3).below hX).free ⟨hh0, hh1⟩ (by have := unhide Hn; omega))
            rw [unhide Hn] at HFr
            have hkR := OwD.row (unhide HC3).hav
            have HSa := hide (fun (av : Option Addr) (cv : Nat) X (hX : Below X3.heap.size X3 X) (hr : RI X (.slice av hk.length cv) hk) => Same_in hk hk (.slice av hk.length cv) (.slice ak hk.length ck) X hr (hkR.below hX) (by omega) (by omega))
            have HHs := hide (fun X (hX : Below X3.heap.size X3 X) => refHas_in (.slice ak hk.length ck) hk o.ds o.dq X (hkR.below hX) (by omega))
            have HQ3 := hide (fun X (hX : Below X3.heap.size X3 X) => unhide HQ X (bnext (unhide HC3).bel hX))
            clear HW rw3 b3 HCV hV HQ
            go_upto_region 22 with fail
            go_cut [141] from 107 to 141 (fun v wx => v = .bool false ∧ Hid (Below X3.heap.size X3 wx))
            case first =>
              go_wp2_with fail
              refine (unhide HVe).mono ?_
              rintro e X4 ⟨a4, c4, rfl, r4, _, b4⟩
              have HS4 := hide (unhide HSa a4 c4 X4 b4 r4)
              simp only [decide_true] at HS4
              have B4 := hide b4
              clear r4 b4 HVe HSa
              go_wp2_with fail
              refine (unhide HS4).mono ?_
              rintro e X5 ⟨rfl, nn, rfl⟩
              have B5 := hide (bdrew (unhide B4) nn)
              clear HS4
              generalize X4.drewN nn = X5 at *
              have HF5 := hide (unhide HFr X5 (unhide B5))
              clear HFr
              go_wp2_with fail
              refine (unhide HF5).mono ?_
              rintro e X6 ⟨rfl, b6⟩
              have B6 := hide (bnext (unhide B5) b6)
              clear HF5 b6
              obtain ⟨j0, j1⟩ := unhide HQ3 X6 (unhide B6)
              simp only [Nat.add_zero] at j0
              by_cases hr1 : rr = 1
              · have hh6 := hide (unhide HHs X6 (unhide B6))
                rw [show (o.ds, o.dq) = dotO o from rfl, unhide Htk hr1] at hh6
                subst hr1
                go_wp2_with fail
                refine (unhide hh6).mono ?_
                rintro e X7 ⟨rfl, b7⟩
                have B7 := hide (bnext (unhide B6) b7)
                clear b7 hh6
                go_wp2
                go_meet
                case rel => exact ⟨by first | rfl | (simp; omega), B7⟩
              · have hr1' : (rr == 1) = false := by simpa using hr1
                clear hr1
                go_wp2
                go_meet
                case rel => exact ⟨by first | rfl | (simp; omega), B6⟩
            obtain ⟨rfl, HBc⟩ := hcut
            clear HVe HFr HSa HQ3 Htk HHs
            go_wp2
            go_loopw [17] (fun kv wq => ∃ k : Nat, kv = .int .i64 (k : Nat) ∧ k ≤ n ∧ Hid (Below X3.heap.size X3 wq)) (fun kv _ => n - (RowKit.intOf kv).toNat)
            case atStart => exact ⟨0, rfl, by omega, HBc⟩
            case round =>
              obtain ⟨q, rfl, hq, HBq⟩ := hrel
              clear HBc
              by_cases hqn : q < n
              rotate_left
              · have hqn' : ¬ (q : Int) < (n : Int) := by omega
                go_wp2
                go_roundw
                case rel => exact ⟨i + 1, ak, ck, hk, ws', rfl, by go_num, by omega, hide ((unhide HC3).below (unhide HBq)), HO2⟩
                case measure => show len0 - ((i : Int) + 1).toNat < len0 - ((i : Nat) : Int).toNat; omega
              have hqn' : (q : Int) < (n : Int) := by omega
              have hsl : (sortI (ws'.map dotO)).length = n := by rw [(sortI_perm _).length_eq, List.length_map, unhide Hn]
              obtain ⟨⟨d0, d1⟩, hd⟩ : ∃ d, (sortI (ws'.map dotO))[q]? = some d := ⟨_, List.getElem?_eq_getElem (by omega)⟩
              have hRq := (unhide HRw).below (unhide HBq)
              obtain ⟨gw, ow, ha, hgw, z0, z1⟩ := RI.at hRq hd
              subst ha
              simp only at z0 z1
              obtain ⟨hhas, hbad⟩ := (unhide HO2).dots hd
              have hkR := OwD.row ((unhide HC3).below (unhide HBq)).hav
              have HHs := hide (fun X (hX : Below wr.heap.size wr X) => refHas_in (.slice ak hk.length ck) hk d0 d1 X (hkR.below hX) (by omega))
              rw [hhas] at HHs
              have hbx := bnext (unhide HC3).bel (unhide HBq)
              have hcap := rs_cap (unhide Hr) (unhide Hln) (by omega)
              have HAb := hide (fun X (hX : Below wr.heap.size wr X) => able_in _ (i + 1) cap0 (ss.take (i + 1)) d0 d1 (.slice ak hk.length ck) hk X (rs_take (RC.below (unhide Hr) (bnext hbx hX)) (unhide Hln) (by omega)) (by rw [List.length_take]; have := unhide Hln; omega) (fun s hs => (unhide Hst s (List.mem_of_mem_take hs)).below (bnext hbx hX)) (fun s hs => unhide Hsm s (List.mem_of_mem_take hs)) (by omega) (hkR.below hX) hkl2 hbad)
              have hsl1 := fun X => sl_toS X (some ⟨g0, off, none⟩) len0 cap0 (i + 1) (by omega)
              have hiw : IntKind.i64.wrap ((i : Int) + 1) = (i : Int) + 1 := by simp only [IntKind.wrap_i64]; omega
              rw [show (((i + 1 : Nat) : Int)) = (i : Int) + 1 by simp] at hsl1
              have mixed : Tryz.prog.follows .mixedOrders = true := by kernel_rfl
              have c0 : ∀ X, Below wr.heap.size wr X → X.cell? ⟨gw, ow + q * 2, none⟩ = some (.int .i64 d0) ∧ X.cell? ⟨gw, ow + q * 2 + 1, none⟩ = some (.int .i64 d1) := fun X hX => ⟨cell_below z0 hX, cell_below z1 hX⟩
              have HC0 := hide c0
              clear hRq hhas hbad hkR hbx c0 hsl
              as_aux_lemma =>
                by_cases hq0 : q = 0
                · subst hq0
                  have hne := BelowOf.ne wr
                  have n0 : ∀ p : BelowOf wr, p.w.cell? ⟨gw, ow, none⟩ = some (.int .i64 d0) := fun p => by have := (unhide HC0 _ p.h).1; simpa using this
                  have n1 : ∀ p : BelowOf wr, p.w.cell? ⟨gw, ow + 1, none⟩ = some (.int .i64 d1) := fun p => by have := (unhide HC0 _ p.h).2; simpa using this
                  go_wp2_with fail
                  refine wp_region_quiet_below mixed (by kernel_rfl) ?_
                  repeat (any_goals (first | go_big_quiet_step ((first | (go_at_call 25; exact below_of (unhide HHs _ (BelowOf.h _))))) | quiet_step ((first | (go_at_call 25; exact below_of (unhide HHs _ (BelowOf.h _)))))))
                  all_goals (refine wpQuiet_nil ?_; intro _ hw'; obtain ⟨p, hw''⟩ := hw'; subst hw'')
                  clear hne n0 n1
                  have HBp := hide p.h
                  generalize p.w = Z at *
                  have hne2 := BelowOf.ne Z
                  have m0 : ∀ p : BelowOf Z, p.w.cell? ⟨gw, ow, none⟩ = some (.int .i64 d0) := fun p => (by have := (unhide HC0 _ (bnext (unhide HBp) p.h)).1; simpa using this)
                  have m1 : ∀ p : BelowOf Z, p.w.cell? ⟨gw, ow + 1, none⟩ = some (.int .i64 d1) := fun p => (by have := (unhide HC0 _ (bnext (unhide HBp) p.h)).2; simpa using this)
                  have HAc := hide (fun X (hX : Below Z.heap.size Z X) => unhide HAb X (bnext (unhide HBp) hX))
                  clear HAb HHs
                  go_wp2_with fail
                  refine wp_region_quiet_below mixed (by kernel_rfl) ?_
                  repeat (any_goals (first | go_big_quiet_step ((first | (go_at_call 26; exact below_of (unhide HAc _ (BelowOf.h _))))) | quiet_step ((first | (go_at_call 26; exact below_of (unhide HAc _ (BelowOf.h _)))))))
                  all_goals (refine wpQuiet_nil ?_; intro _ hw'; obtain ⟨p, hw''⟩ := hw'; subst hw'')
                  have HBw := hide (bnext (bnext (unhide HBq) (unhide HBp)) p.h)
                  clear hne2 m0 m1 HAc hiw
                  go_wp2
                  go_roundw
                  case rel => exact ⟨1, by go_num, by omega, HBw⟩
                  case measure => show n - ((0 : Int) + 1).toNat < n - (0 : Int).toNat; omega
                have Hq0 := hide hq0
                obtain ⟨m, hm⟩ : ∃ m, q = m + 1 := ⟨q - 1, by omega⟩
                obtain ⟨⟨f0, f1⟩, hf⟩ : ∃ d, (sortI (ws'.map dotO))[m]? = some d := ⟨_, List.getElem?_eq_getElem (by rw [(sortI_perm _).length_eq, List.length_map, unhide Hn]; omega)⟩
                have hrise := (unhide HO2).rise hf (by rw [← hm]; exact hd)
                simp only at hrise
                obtain ⟨gw', ow', ha', hgw', y0, y1⟩ := RI.at ((unhide HRw).below (unhide HBq)) hf
                simp only [Option.some.injEq, Addr.mk.injEq, and_true] at ha'
                obtain ⟨rfl, rfl⟩ := ha'
                simp only at y0 y1
                have hmw : IntKind.i64.wrap ((q : Int) - 1) = (m : Int) := by simp only [IntKind.wrap_i64]; omega
                have hm1 : (m : Int) < (n : Int) := by omega
                have hne := BelowOf.ne wr
                have n0 : ∀ p : BelowOf wr, p.w.cell? ⟨gw, ow + q * 2, none⟩ = some (.int .i64 d0) := fun p => (unhide HC0 _ p.h).1
                have n1 : ∀ p : BelowOf wr, p.w.cell? ⟨gw, ow + q * 2 + 1, none⟩ = some (.int .i64 d1) := fun p => (unhide HC0 _ p.h).2
                have o0 : ∀ p : BelowOf wr, p.w.cell? ⟨gw, ow + m * 2, none⟩ = some (.int .i64 f0) := fun p => cell_below y0 p.h
                have o1 : ∀ p : BelowOf wr, p.w.cell? ⟨gw, ow + m * 2 + 1, none⟩ = some (.int .i64 f1) := fun p => cell_below y1 p.h
                rcases hrise with hA | ⟨hA, hB⟩
                · have t1 : decide (d0 < f0) = false := decide_eq_false (by omega)
                  have t2 : (d0 == f0) = false := by rw [beq_eq_false_iff_ne]; omega
                  clear hA hf hd hm hq0 y0 y1 z0 z1
                  go_wp2_with fail
                  have hd0 : decide ((0 : Int) < (q : Int)) = true := decide_eq_true (by have := unhide Hq0; omega)
                  have hd1 : decide (0 < q) = true := decide_eq_true (by have := unhide Hq0; omega)
                  refine wp_region_quiet_below mixed (by kernel_rfl) ?_
                  repeat (any_goals (first | go_big_quiet_step ((first | (go_at_call 25; exact below_of (unhide HHs _ (BelowOf.h _))))) | quiet_step ((first | (go_at_call 25; exact below_of (unhide HHs _ (BelowOf.h _)))))))
                  all_goals (refine wpQuiet_nil ?_; intro _ hw'; obtain ⟨p, hw''⟩ := hw'; subst hw'')
                  clear hne n0 n1 o0 o1 hmw hd0 hd1 t1 t2
                  have HBp := hide p.h
                  generalize p.w = Z at *
                  have hne2 := BelowOf.ne Z
                  have m0 : ∀ p : BelowOf Z, p.w.cell? ⟨gw, ow + q * 2, none⟩ = some (.int .i64 d0) := fun p => (unhide HC0 _ (bnext (unhide HBp) p.h)).1
                  have m1 : ∀ p : BelowOf Z, p.w.cell? ⟨gw, ow + q * 2 + 1, none⟩ = some (.int .i64 d1) := fun p => (unhide HC0 _ (bnext (unhide HBp) p.h)).2
                  have HAc := hide (fun X (hX : Below Z.heap.size Z X) => unhide HAb X (bnext (unhide HBp) hX))
                  clear HAb HHs
                  go_wp2_with fail
                  refine wp_region_quiet_below mixed (by kernel_rfl) ?_
                  repeat (any_goals (first | go_big_quiet_step ((first | (go_at_call 26; exact below_of (unhide HAc _ (BelowOf.h _))))) | quiet_step ((first | (go_at_call 26; exact below_of (unhide HAc _ (BelowOf.h _)))))))
                  all_goals (refine wpQuiet_nil ?_; intro _ hw'; obtain ⟨p, hw''⟩ := hw'; subst hw'')
                  have HBw := hide (bnext (bnext (unhide HBq) (unhide HBp)) p.h)
                  clear hne2 m0 m1 HAc hiw
                  go_wp2
                  go_roundw
                  case rel => exact ⟨q + 1, by go_num, by omega, HBw⟩
                  case measure => show n - ((q : Int) + 1).toNat < n - ((q : Nat) : Int).toNat; omega
                · have t1 : decide (d0 < f0) = false := decide_eq_false (by omega)
                  have t2 : (d0 == f0) = true := by rw [beq_iff_eq]; omega
                  have t3 : decide (d1 ≤ f1) = false := decide_eq_false (by omega)
                  clear hA hB hf hd hm hq0 y0 y1 z0 z1
                  go_wp2_with fail
                  have hd0 : decide ((0 : Int) < (q : Int)) = true := decide_eq_true (by have := unhide Hq0; omega)
                  have hd1 : decide (0 < q) = true := decide_eq_true (by have := unhide Hq0; omega)
                  refine wp_region_quiet_below mixed (by kernel_rfl) ?_
                  repeat (any_goals (first | go_big_quiet_step ((first | (go_at_call 25; exact below_of (unhide HHs _ (BelowOf.h _))))) | quiet_step ((first | (go_at_call 25; exact below_of (unhide HHs _ (BelowOf.h _)))))))
                  all_goals (refine wpQuiet_nil ?_; intro _ hw'; obtain ⟨p, hw''⟩ := hw'; subst hw'')
                  clear hne n0 n1 o0 o1 hmw hd0 hd1 t1 t2 t3
                  have HBp := hide p.h
                  generalize p.w = Z at *
                  have hne2 := BelowOf.ne Z
                  have m0 : ∀ p : BelowOf Z, p.w.cell? ⟨gw, ow + q * 2, none⟩ = some (.int .i64 d0) := fun p => (unhide HC0 _ (bnext (unhide HBp) p.h)).1
                  have m1 : ∀ p : BelowOf Z, p.w.cell? ⟨gw, ow + q * 2 + 1, none⟩ = some (.int .i64 d1) := fun p => (unhide HC0 _ (bnext (unhide HBp) p.h)).2
                  have HAc := hide (fun X (hX : Below Z.heap.size Z X) => unhide HAb X (bnext (unhide HBp) hX))
                  clear HAb HHs
                  go_wp2_with fail
                  refine wp_region_quiet_below mixed (by kernel_rfl) ?_
                  repeat (any_goals (first | go_big_quiet_step ((first | (go_at_call 26; exact below_of (unhide HAc _ (BelowOf.h _))))) | quiet_step ((first | (go_at_call 26; exact below_of (unhide HAc _ (BelowOf.h _)))))))
                  all_goals (refine wpQuiet_nil ?_; intro _ hw'; obtain ⟨p, hw''⟩ := hw'; subst hw'')
                  have HBw := hide (bnext (bnext (unhide HBq) (unhide HBp)) p.h)
                  clear hne2 m0 m1 HAc hiw
                  go_wp2
                  go_roundw
                  case rel => exact ⟨q + 1, by go_num, by omega, HBw⟩
                  case measure => show n - ((q : Int) + 1).toNat < n - ((q : Nat) : Int).toNat; omega

theorem own : ownKnob Tryz.prog.godebug = none := by kernel_rfl
theorem laidOut2 : laidOutB Tryz.prog = true := by kernel_rfl

set_option maxRecDepth 100000 in
theorem lifted (os : Os) (started : os.Started) (H : Type) (enc : TypeId × Value → H) :
    ReturnsInHanded {} Tryz.checked os 6 .any (Rows.causalOrderSpec.pre6 enc Tryz.prog Tryz.f6 Rows.causalOrderRow.domain false) (Rows.causalOrderSpec.post enc Tryz.prog Tryz.f6 false true false false) := by
  refine returnsInHanded_of_change (C := Tryz.checked) own started (by kernel_rfl) Tryz.func6
    (ChangeSpec.witness6 (enc := enc) (C := Tryz.checked) false ⟨#[], #[.int .i64 0, .slice none 0 0, .slice none 0 0], []⟩ 8 (by kernel_rfl) (by kernel_rfl) (by kernel_rfl) (by kernel_rfl)) ?_
  intro W base args ds gs before hval0 hW hcnd _
  have hval : ∀ (j : Nat) t v, Tryz.f6.params[j]? = some t → args[j]? = some v → Value.okWide Tryz.prog W .any base t v := hval0
  have hW' := hW
  obtain ⟨p, q, hA0, hV, rfl, hfz, hnd⟩ := hW
  have hA : DataW.TrodAll enc Tryz.prog W 0 (fun _ => true) true Tryz.f6.params.toList args.toList ds p := hA0
  rw [Tryz.params6] at hA hval
  obtain ⟨v0, vs0, d0, ds0, p0, q0, hargs, rfl, rfl, h0, r0⟩ := trodAll_cons hA
  obtain ⟨v1, vs1, d1, ds1, p1, q1, rfl, rfl, rfl, h1, r1⟩ := trodAll_cons r0
  obtain ⟨v2, vs2, d2, ds2, p2, q2, rfl, rfl, rfl, h2, r2⟩ := trodAll_cons r1
  obtain ⟨rfl, rfl, rfl⟩ := trodAll_nil r2
  obtain rfl : args = #[v0, v1, v2] := by cases args; simp_all
  obtain ⟨rfl, rfl⟩ := trodVars_none hV
  obtain ⟨a0, rfl, rfl, rfl, w0⟩ := open_int Tryz.underlying3 (hval 0 3 v0 rfl rfl) h0
  obtain ⟨a1, len1, cap1, rfl⟩ := okWide_slice Tryz.underlying23 (hval 1 23 v1 rfl rfl)
  have k1 := h1
  have lt1 : ∀ x ∈ p1, x.block < W.heap.size := by obtain ⟨m, hm⟩ := k1; exact DataW.trod_lt m _ _ _ hm
  obtain ⟨z1, w1⟩ : ∃ l : List (Int × Int), RI W (.slice a1 len1 cap1) l ∧ l.length = len1 ∧ len1 ≤ maxLen ∧ ∀ e ∈ l, idIn e := by
    obtain ⟨fuel, hf⟩ := h1
    simp only [Value.cells] at hf
    exact open_dots hf
  obtain ⟨a2, len2, cap2, rfl⟩ := okWide_slice Tryz.underlying24 (hval 2 24 v2 rfl rfl)
  have k2 := h2
  have lt2 : ∀ x ∈ p2, x.block < W.heap.size := by obtain ⟨m, hm⟩ := k2; exact DataW.trod_lt m _ _ _ hm
  obtain ⟨z2, w2⟩ : ∃ l : List Stp, RC W (.slice a2 len2 cap2) l.length (flat encS l) ∧ l.length = len2 ∧ len2 ≤ maxLen ∧ ∀ e ∈ l, StW W e := by
    obtain ⟨fuel, hf⟩ := h2
    simp only [Value.cells] at hf
    exact open_steps hf
  clear hA0 hval0
  refine (walk a0 a1 len1 cap1 z1 a2 len2 cap2 z2 W w0 w1 w2).mono fun e W' ⟨he, bel⟩ => ?_
  subst he
  exact ⟨_, rfl, _, _, _, [], _, [], hW', trodAll_mk1 (shut_bool Tryz.underlying4 _), (trodAll_cons_mk (shut_int Tryz.underlying3 w0) (trodAll_cons_mk (Below.trod laidOut2 (by kernel_rfl) (of_decide_eq_true (by kernel_rfl)) k1 bel lt1) (trodAll_cons_mk (Below.trod laidOut2 (by kernel_rfl) (of_decide_eq_true (by kernel_rfl)) k2 bel lt2) trodAll_mk0))), rfl, bel.frame _, fun h => by cases h⟩

theorem over : Rows.causalOrderRow.holds Tryz.pinned (OpenSpec.ofChange Rows.causalOrderSpec) :=
  OpenClaim.holds_of_wide 6 Tryz.f6 rfl rfl rfl rfl rfl rfl rfl ⟨rfl, rfl, rfl, rfl, rfl⟩ rfl rfl rfl rfl rfl (by kernel_rfl) Tryz.func6 (by kernel_rfl)
    (of_decide_eq_true (by kernel_rfl)) (by unfold Func.isWrapper; first | (rw [if_pos (by decide +kernel)]; kernel_rfl) | (rw [if_neg (by decide +kernel)]; exact ⟨rfl, rfl⟩))
    (fun os started H enc _ => lifted os started H enc)

end LCausalOrder

theorem causalOrder_holds : Rows.CausalOrderSaid := LCausalOrder.over

end Go.Proofs.YtkpedifmbckgiaaGreat
