/-
  The closure of windows hands on the windows.
-/
import Derived.Test.YtmglnaldpcmakaaZSW
set_option linter.unusedSimpArgs false
set_option linter.unusedVariables false
namespace Go.Proofs.Ytmglnaldpcmakaa
open Go.RowKit Go.Lib Go.Shelf
namespace Sk

set_option maxRecDepth 100000 in
set_option maxHeartbeats 8000000 in
theorem windows_yl (l0 : Nat) (bp bc bf : Nat) (N : Nat) (frm : Int) (cv : Value) (came : List Arr) (L : List (Int × Int)) (J Jx : List (Int × Int) → World → Prop) (W : World)
    (hN0 : 0 < N) (hN : N ≤ came.length) (hl : came.length ≤ 1000000) (hpr : ∀ x ∈ came, x.pair < N) (hla : ∀ x ∈ came, -9223372036854775808 ≤ x.last ∧ x.last + 1 ≤ 9223372036854775807) (hL : IsP N frm came L)
    (hK : ∀ pre W1, J pre W1 → Kw bp bc bf N frm cv came W1)
    (hJ : AbidesAll W.heap.size (W.heap.size + 3) J)
    (hY : ∀ pre x rest W1, pre ++ x :: rest = L → W.heap.size + 3 ≤ W1.heap.size → J pre W1 → YieldL l0 #[.agg #[.int .i64 x.1, .int .i64 x.2]] W1 fun b W' => (if b then J (pre ++ [x]) W' else Jx (pre ++ [x]) W') ∧ KQ W.heap.size (W.heap.size + 3) W1 W')
    (h0 : J [] W) :
    Calls Try.prog 29 #[.func (.yield l0) #[] #[], .pointer (some ⟨bp, 0, none⟩), .pointer (some ⟨bc, 0, none⟩), .pointer (some ⟨bf, 0, none⟩)] W fun e W' => e = .returned (.tuple #[]) ∧ (J L W' ∨ ∃ pre rest, pre ++ rest = L ∧ Jx pre W') := by
  have k0 := hK _ _ h0
  have cp := k0.cp
  have cc := k0.cc
  have cf := k0.cf
  have hrow := k0.row
  obtain ⟨q0, off0, cC, rfl, hmc, _, _⟩ : ∃ q off cap, cv = .slice (some ⟨q, off, none⟩) came.length cap ∧ came.length ≤ cap ∧ q < W.heap.size ∧ ∀ j x, (flat arC came)[j]? = some x → W.cell? ⟨q, off + j, none⟩ = some x := by
    rcases hrow with ⟨h, _⟩ | h
    · omega
    · exact h
  have HK := hide hK
  have HJ := hide hJ
  have HY := hide hY
  have H0 := hide h0
  have HL := hide hL
  have Hpr := hide hpr
  have Hla := hide hla
  obtain ⟨m, hm⟩ : ∃ m, came.length = m := ⟨_, rfl⟩
  have Hm := hide hm
  rw [hm] at hN hl cc hmc HK
  have hNi : (N : Int) ≤ (m : Int) := by omega
  have hNp : (0 : Int) < (N : Int) := by omega
  clear hrow k0 hK hJ hY h0 hL hpr hla hm
  go_enter Try.func29, Try.ntmps29
  go_step3
  have hN1 : ((N : Int) == 0) = false := by rw [beq_eq_false_iff_ne]; omega
  have hN2 : ¬ (m : Int) < (N : Int) := by omega
  have hN3 : ¬ m < N := by omega
  have hnp := hide (newPairSet_in W N hN0 (by omega))
  go_wp2_with fail
  refine (unhide hnp).mono ?_
  rintro e W1 ⟨rfl, hps, hbel, hz1⟩
  have cc1 := cell_below cc hbel
  have cf1 := cell_below cf hbel
  have Hps := hide hps
  have Hbel := hide hbel
  have Hz1 := hide hz1
  clear hnp hps hbel hz1
  go_wp2
  have l1 := cell_lt cc1
  have l2 := cell_lt cf1
  simp only at l1 l2
  have n1 : bc ≠ W1.heap.size := by omega
  have n2 : bf ≠ W1.heap.size := by omega
  go_region
  have Cf1 := hide cf1
  clear cc1 cf1 l1 l2 n1 n2 cc cf
  rw [unhide Hz1]
  have HO : Hid (∀ X, X = (W1.alloc (.cells #[.int .i64 frm, .int .i64 0] 32)).drew → Out W.heap.size N (.slice (some ⟨q0, off0, none⟩) m cC) came J L (.slice (some ⟨q0, off0, none⟩) m cC) came frm [] L (fun _ => false) 0 X) := by
    rintro X rfl
    have al := ballc (Below.refl W1.heap.size W1) (.cells #[.int .i64 frm, .int .i64 0] 32)
    have bx := Bx.new W1 32 #[.int .i64 frm, .int .i64 0]
    rw [unhide Hz1] at bx
    have bd : Below W1.heap.size W1 (W1.alloc (.cells #[.int .i64 frm, .int .i64 0] 32)).drew := ⟨al.os, al.tape, al.output, al.size, al.block⟩
    exact ⟨rfl, (unhide HJ).bel ((unhide HJ).bel (unhide H0) (unhide Hbel)) bd, ps_below (unhide Hps) bd, bx, unhide HL, fun x h => h, fun W' h => h, ⟨_, _, by rw [unhide Hm], by rw [unhide Hm]; exact hmc⟩, Nat.le_refl _⟩
  obtain ⟨X, hX⟩ : ∃ X, (W1.alloc (.cells #[.int .i64 frm, .int .i64 0] 32)).drew = X := ⟨_, rfl⟩
  have HO2 := hide (unhide HO X hX.symm)
  rw [hX]
  clear HO hX Hps Cf1 H0 HL
  go_wp2
  go_step3
  go_wp2
  go_loopw [6] (fun u wr => ∃ rest f pre l M t, Hid (Out W.heap.size N (.slice (some ⟨q0, off0, none⟩) m cC) came J L u rest f pre l M t wr)) (fun u _ => slN u)
  case atStart => exact ⟨_, _, _, _, _, _, HO2⟩
  case round =>
    obtain ⟨rest, f, pre, l, M, t, HI⟩ := hrel
    have hI := unhide HI
    clear HO2 HI
    obtain ⟨a, c, rfl, hrc⟩ := hI.frm
    have hfl := fill_in hI.ps (by omega)
    have HIo := hide hI
    have Hfl := hide hfl
    obtain ⟨n, hn⟩ : ∃ n, rest.length = n := ⟨_, rfl⟩
    have Hn := hide hn
    rw [hn] at hrc
    rw [hn]
    have hn9 : n ≤ m := by have := (unhide HIo).lle; rw [unhide Hn, unhide Hm] at this; exact this
    clear hfl hI hn
    go_wp2_with fail
    refine (unhide Hfl).mono ?_
    rintro e V ⟨rfl, hps, hkp⟩
    have Hin : Hid (Inn W.heap.size N J rest f pre t 0 (fun _ => true) V) := by
      have h := unhide HIo
      refine ⟨(unhide HJ).two h.j (W.heap.size + 1) W.heap.size (by omega) (by omega) (by have := h.box.lt; omega) hkp, hps, h.box.kp hkp (by omega), rfl, by rw [cnt_all]; exact hN0⟩
    clear hps hkp Hfl
    go_wp2
    go_loopw [6, 27] (fun u i wi => ∃ (k : Nat) (M' : Nat → Bool), k ≤ n ∧ u = .slice a n c ∧ i = .int .i64 (k : Nat) ∧ Hid (Inn W.heap.size N J rest f pre t k M' wi)) (fun _ i _ => n - (RowKit.intOf i).toNat)
    case atStart => exact ⟨0, _, Nat.zero_le _, rfl, rfl, Hin⟩
    case round =>
      obtain ⟨k, M', hk, rfl, rfl, HI⟩ := hrel
      clear Hin
      by_cases hlt : k < n
      · have hlt' : (k : Int) < (n : Int) := by omega
        have hin := unhide HI
        have hkr : k < rest.length := by rw [unhide Hn]; exact hlt
        obtain ⟨x, hx⟩ : ∃ x, rest[k]? = some x := ⟨_, List.getElem?_eq_getElem hkr⟩
        have hrow := (unhide HIo).row _ (unhide HK _ _ hin.j).row
        obtain ⟨b1, o1, rfl, _, r0, r1, r2⟩ := RR.at hrow hx
        have hdr : rest.drop k = x :: rest.drop (k + 1) := by
          rw [List.drop_eq_getElem_cons hkr]
          rw [List.getElem?_eq_getElem hkr] at hx
          simp at hx
          rw [hx]
        have hxc : x ∈ came := (unhide HIo).sub _ (List.mem_of_getElem? hx)
        have hpx := unhide Hpr x hxc
        have hlx := unhide Hla x hxc
        have hsc := hin.scn
        rw [hdr, scan_cons] at hsc
        have w0 : wr.cell? ⟨W.heap.size + 2, 0, none⟩ = some (.int .i64 f) := hin.box.cell 0 _ rfl
        have w1 : wr.cell? ⟨W.heap.size + 2, 1, none⟩ = some (.int .i64 t) := hin.box.cell 1 _ rfl
        have w2 := hin.box.lt
        have w3 := hin.box.frozen 1
        have al := ballc (Below.refl wr.heap.size wr) (.cells #[.int .i64 x.first, .int .i64 x.last, .int .i64 ((x.pair : Nat) : Int)] 53)
        have bx := Bx.new wr 53 #[.int .i64 x.first, .int .i64 x.last, .int .i64 ((x.pair : Nat) : Int)]
        obtain ⟨X1, hX1⟩ : ∃ X1, wr.alloc (.cells #[.int .i64 x.first, .int .i64 x.last, .int .i64 ((x.pair : Nat) : Int)] 53) = X1 := ⟨_, rfl⟩
        have HX := hide hX1
        rw [hX1] at al bx
        have j1 := (unhide HJ).bel hin.j al
        have p1 := ps_below hin.ps al
        have b1' := hin.box.below al
        have Hsc := hide hsc
        have Hj1 := hide j1
        have Hp1 := hide p1
        have Hb1 := hide b1'
        have Hbx := hide bx
        have Hpos := hide hin.pos
        have Hdr := hide hdr
        clear hin hrow hx hxc hsc al bx hX1 j1 p1 b1' hdr HI
        by_cases hfi : x.first < f
        · have hres : Hid (Inn W.heap.size N J rest f pre t (k + 1) M' X1) := by
            have h := unhide Hsc
            rw [if_pos hfi] at h
            exact ⟨unhide Hj1, unhide Hp1, unhide Hb1, h, unhide Hpos⟩
          go_wp2
          rw [unhide HX]
          go_roundw
          case rel => exact ⟨k + 1, M', by omega, rfl, by go_num, hres⟩
          case measure => show n - ((k : Int) + 1).toNat < n - ((k : Nat) : Int).toNat; omega
        · have hfi' : f ≤ x.first := by omega
          have hrm := remove_in (unhide Hp1) (by omega) x.pair hpx
          have Hrm := hide hrm
          clear hrm
          go_wp2_with fail
          rw [unhide HX]
          refine (unhide Hrm).mono ?_
          rintro e V1 ⟨rfl, p2, kp2⟩
          have j2 := (unhide HJ).two (unhide Hj1) (W.heap.size + 1) W.heap.size (by omega) (by omega) (by have := (unhide Hb1).lt; omega) kp2
          have b2 := (unhide Hb1).kp kp2 (by omega)
          have x2 := (unhide Hbx).kp kp2 (by omega)
          have Hp2 := hide p2
          have Hj2 := hide j2
          have Hb2 := hide b2
          have hsc := unhide Hsc
          rw [if_neg (show ¬ x.first < f by omega)] at hsc
          have w2' := b2.lt
          have f2 := b2.frozen 1
          have f20 := b2.frozen 0
          have a1 : V1.cell? ⟨wr.heap.size, 1, none⟩ = some (.int .i64 x.last) := x2.cell 1 _ rfl
          have v0 : V1.cell? ⟨W.heap.size + 2, 0, none⟩ = some (.int .i64 f) := b2.cell 0 _ rfl
          have v1 : V1.cell? ⟨W.heap.size + 2, 1, none⟩ = some (.int .i64 t) := b2.cell 1 _ rfl
          clear p2 j2 b2 kp2 x2 Hrm Hp1 Hj1 Hb1 Hbx Hsc HX
          obtain ⟨C, hC⟩ : ∃ C, cntB N (rmv M' x.pair) = C := ⟨_, rfl⟩
          have HC := hide hC
          rw [hC] at hsc ⊢
          clear hC
          by_cases hc0 : C = 0
          · subst hc0
            rw [if_pos rfl] at hsc
            obtain ⟨l', rfl, hl'⟩ := isP_step (unhide HIo).isp hsc
            have hspl := (unhide HIo).spl
            have hlt2 : x.last + 1 ≤ 9223372036854775807 := hlx.2
            have hlt3 : -9223372036854775808 ≤ x.last := hlx.1
            clear hsc
            obtain ⟨V2, hV2⟩ : ∃ V2, V1.setCell ⟨W.heap.size + 2, 1, none⟩ (.int .i64 (x.last + 1)) = V2 := ⟨_, rfl⟩
            have j3 : J pre V2 := by rw [← hV2]; exact (unhide HJ).setc (unhide Hj2) _ _ (by omega) _
            have b3 : Bx V2 (W.heap.size + 2) 32 #[.int .i64 f, .int .i64 (x.last + 1)] := by rw [← hV2]; simpa using (unhide Hb2).set 1 (.int .i64 (x.last + 1))
            have p3 : PS V2 (W.heap.size + 1) W.heap.size N (rmv M' x.pair) := by rw [← hV2]; exact ps_set (unhide Hp2) _ _ _ (by omega) (by omega)
            have hy := unhide HY pre (f, x.last + 1) l' V2 hspl (by have := b3.lt; omega) j3
            have u0 : V2.cell? ⟨W.heap.size + 2, 0, none⟩ = some (.int .i64 f) := b3.cell 0 _ rfl
            have u1 : V2.cell? ⟨W.heap.size + 2, 1, none⟩ = some (.int .i64 (x.last + 1)) := b3.cell 1 _ rfl
            have HV2 := hide hV2
            have HY2 := hide hy
            have Hb3 := hide b3
            have Hp3 := hide p3
            have Hspl := hide hspl
            have Hl' := hide hl'
            clear hV2 j3 b3 p3 hy hspl hl' Hj2 Hb2 Hp2
            go_upto_region 9 with fail
            rw [unhide HV2]
            refine (wpIn_wide (n := 6)).1 ?_
            obtain ⟨fnY, tmpsY, assignY, bodyY, hyr, hR⟩ := unhide HY2 5
            have HRR := hide hR
            clear hR v0 v1 a1 f2 f20 w2'
            gi_wp2
            refine (unhide HRR).mono ?_
            rintro e V3 ⟨b, rfl, hb, hkq⟩
            cases b with
            | false =>
              have Hb := hide hb
              clear hb
              gi_wp2
              go_wp2
              simp only [Exit.noGoto]
              refine bodyPost_ret (results_none rfl _ _ _) rfl ?_
              exact ⟨rfl, .inr ⟨pre ++ [(f, x.last + 1)], l', by rw [← unhide Hspl, List.append_assoc]; rfl, unhide Hb⟩⟩
            | true =>
              have b4 := kq_bx hkq (unhide Hb3) (by omega) (by omega)
              have p4 := ps_kq hkq (unhide Hp3) (by omega) (by omega) (by omega) (by omega)
              have g0 : V3.cell? ⟨W.heap.size + 2, 0, none⟩ = some (.int .i64 f) := b4.cell 0 _ rfl
              have g1 : V3.cell? ⟨W.heap.size + 2, 1, none⟩ = some (.int .i64 (x.last + 1)) := b4.cell 1 _ rfl
              have g2 := b4.frozen 0
              have g3 := b4.lt
              have sl := fun w => sl_fromA w b1 o1 n c (k + 1) (by omega) hrc
              have e5 : (((k + 1 : Nat) : Nat) : Int) = (k : Int) + 1 := by omega
              rw [e5] at sl
              have Hj4 := hide hb
              have Hb4 := hide b4
              have Hp4 := hide p4
              clear b4 p4 hb hkq e5
              gi_wp2
              go_wp2
              go_region
              obtain ⟨V4, hV4⟩ : ∃ V4, (V3.setCell ⟨W.heap.size + 2, 0, none⟩ (.int .i64 (x.last + 1))).drew = V4 := ⟨_, rfl⟩
              have hO2 : Out W.heap.size N (.slice (some ⟨q0, off0, none⟩) m cC) came J L (.slice (if c = k + 1 then some ⟨b1, o1, none⟩ else some ⟨b1, o1 + (k + 1) * 3, none⟩) (n - (k + 1)) (c - (k + 1))) (rest.drop (k + 1)) (x.last + 1) (pre ++ [(f, x.last + 1)]) l' (rmv M' x.pair) (x.last + 1) V4 := by
                have h := unhide HIo
                have bd : ∀ Y : World, Below Y.heap.size Y Y.drew := fun Y => ⟨rfl, rfl, rfl, Nat.le_refl _, fun _ _ => rfl⟩
                subst hV4
                refine ⟨by rw [← unhide Hspl, List.append_assoc]; rfl, (unhide HJ).bel ((unhide HJ).setc (unhide Hj4) _ _ (by omega) _) (bd _), ps_below (ps_set (unhide Hp4) _ _ _ (by omega) (by omega)) (bd _), Bx.below (by simpa using (unhide Hb4).set 0 (.int .i64 (x.last + 1))) (bd _), unhide Hl', fun y hy => h.sub y (List.mem_of_mem_drop hy), fun W' hW' => ?_, ⟨_, _, by rw [List.length_drop, unhide Hn], by rw [List.length_drop, unhide Hn]; omega⟩, by have := h.lle; rw [List.length_drop]; omega⟩
                have := h.row W' hW'
                rw [unhide Hn] at this
                exact rr_cut this (unhide Hn).symm hrc (by omega)
              have HO3 := hide hO2
              rw [hV4]
              clear hO2 hV4 sl g0 g1 g2 g3
              go_wp2
              go_roundw
              case rel => exact ⟨_, _, _, _, _, _, HO3⟩
              case measure => show n - (k + 1) < n; omega
          · rw [if_neg hc0] at hsc
            have hCp : (0 : Int) < (C : Int) := by omega
            have hres : Hid (Inn W.heap.size N J rest f pre t (k + 1) (rmv M' x.pair) V1) :=
              ⟨unhide Hj2, unhide Hp2, unhide Hb2, hsc, by rw [unhide HC]; omega⟩
            clear hsc
            go_wp2
            go_roundw
            case rel => exact ⟨k + 1, _, by omega, rfl, by go_num, hres⟩
            case measure => show n - ((k : Int) + 1).toNat < n - ((k : Nat) : Int).toNat; omega
      · have hlt' : ¬ (k : Int) < (n : Int) := by omega
        obtain rfl : k = n := by omega
        have hin := unhide HI
        have hend : J L wr := by
          have h1 := hin.scn
          rw [List.drop_of_length_le (by rw [unhide Hn]; exact Nat.le_refl _)] at h1
          have h2 := (unhide HIo).isp
          have h3 := (unhide HIo).spl
          cases l with
          | nil => rw [List.append_nil] at h3; rw [← h3]; exact hin.j
          | cons y l =>
            obtain ⟨_, r, h4, _⟩ := h2
            rw [← h1] at h4
            simp [scan] at h4
        have Hend := hide hend
        clear hend hin HI
        go_wp2
        refine bodyPost_ret (results_none rfl _ _ _) rfl ?_
        exact ⟨rfl, .inl (unhide Hend)⟩

end Sk
end Go.Proofs.Ytmglnaldpcmakaa
