/-
  Chapter 14's law FrontOwn returns true for every script, all members and every own vector, and leaves its arguments as they were; no condition.
-/
import Derived.Test.YtjiphechhfifgaaRows
import Derived.WalkKit
import Derived.ProofKit
import Derived.OpenShut
import Derived.ShutString
import Derived.ChangeOld
import Derived.Below
import Derived.Test.YtjiphechhfifgaaZXO
import Derived.Test.YtjiphechhfifgaaZQW
set_option linter.unusedVariables false
set_option linter.unusedSimpArgs false
namespace Go.Proofs.Ytjiphechhfifgaa
namespace LFrontOwn
open Go.ChangeShapes Go.WideShapes Go.ChangeAt Go.RowKit Go.Lib
open Go.ChangeMaps (open_string shut_string)

set_option maxRecDepth 100000 in
set_option maxHeartbeats 16000000 in
theorem walk (a0 : Option Addr) (len0 cap0 : Nat) (ss : List Stp) (a1 : Option Addr) (len1 cap1 : Nat) (ms : List Int) (a2 : Option Addr) (len2 cap2 : Nat) (own : List (Int × Int)) (w : World) (w0 : RS w (.slice a0 len0 cap0) ss ∧ ss.length = len0 ∧ len0 ≤ maxLen ∧ ∀ e ∈ ss, StW w e) (w1 : RN w (.slice a1 len1 cap1) ms ∧ ms.length = len1 ∧ len1 ≤ maxLen ∧ ∀ e ∈ ms, in64 e) (w2 : RI w (.slice a2 len2 cap2) own ∧ own.length = len2 ∧ len2 ≤ maxLen ∧ ∀ e ∈ own, idIn e) :
    Calls Try.prog 8 #[.slice a0 len0 cap0, .slice a1 len1 cap1, .slice a2 len2 cap2] w fun e W => e = .returned (.bool true) ∧ Below w.heap.size w W := by
  obtain ⟨hr, hln, hmx, hst⟩ := w0
  obtain ⟨hr1, hln1, hmx1, hst1⟩ := w1
  obtain ⟨hr2, hln2, hmx2, hst2⟩ := w2
  unfold maxLen at hmx hmx1 hmx2
  have HMu := hide (much_in a0 len0 cap0 ss w hr hln hst (by omega))
  have HK := hide (fun W => known_in W)
  have tail : Hid (∀ (W1 : World), Hid (Below w.heap.size w W1) → Calls Try.prog 10 #[] W1 fun e W => e = .returned (.bool true) ∧ Below w.heap.size w W) := fun W1 h1 => (unhide HK W1).mono fun e W ⟨h2, h3⟩ => ⟨h2, bnext (unhide h1) h3⟩
  by_cases hmu : muchB ss = true
  · rw [hmu] at HMu
    clear hr hst hr1 hst1 hr2 hst2
    go_enter Try.func8, Try.ntmps8
    go_wp2_with fail
    refine (unhide HMu).mono ?_
    rintro r W1 ⟨rfl, hb1⟩
    replace hb1 := hide hb1
    clear HMu
    go_wp2_with fail
    refine (unhide tail _ hb1).mono ?_
    rintro r W2 ⟨rfl, hb2⟩
    go_wp2
    go_ret
    exact ⟨rfl, hb2⟩
  replace hmu : muchB ss = false := by simpa using hmu
  have hsm := much_small hmu
  rw [hmu] at HMu
  by_cases hl1 : 40 < len1
  · have hl1' : (40 : Int) < (len1 : Int) := by omega
    clear hr hst hr1 hst1 hr2 hst2
    go_enter Try.func8, Try.ntmps8
    go_wp2_with fail
    refine (unhide HMu).mono ?_
    rintro r W1 ⟨rfl, hb1⟩
    replace hb1 := hide hb1
    clear HMu
    go_wp2_with fail
    refine (unhide tail _ hb1).mono ?_
    rintro r W2 ⟨rfl, hb2⟩
    go_wp2
    go_ret
    exact ⟨rfl, hb2⟩
  have hl1' : ¬ (40 : Int) < (len1 : Int) := by omega
  by_cases hl2 : 20000 < len2
  · have hl2' : (20000 : Int) < (len2 : Int) := by omega
    clear hr hst hr1 hst1 hr2 hst2
    go_enter Try.func8, Try.ntmps8
    go_wp2_with fail
    refine (unhide HMu).mono ?_
    rintro r W1 ⟨rfl, hb1⟩
    replace hb1 := hide hb1
    clear HMu
    go_wp2_with fail
    refine (unhide tail _ hb1).mono ?_
    rintro r W2 ⟨rfl, hb2⟩
    go_wp2
    go_ret
    exact ⟨rfl, hb2⟩
  have hl2' : ¬ (20000 : Int) < (len2 : Int) := by omega
  have hl0 := hsm.1
  rw [hln] at hl0
  have Hsm := hide hsm.2
  have Hln := hide hln
  have Hr := hide hr
  have Hst := hide hst
  have T0 : Hid (∀ bA bB n S, TwoK (fun W => KG (fun _ => False) w W bA n S bB n S) bA bB S (.slice a1 len1 cap1) ms (.slice a2 len2 cap2) own) := fun bA bB n S => twoK_make hr1 (by omega) hst1 hr2 (by omega)
  clear hmu hr hst hln hr1 hln1 hst1 hr2 hln2 hst2 hsm hmx hmx1 hmx2
  go_enter Try.func8, Try.ntmps8
  go_wp2_with fail
  refine (unhide HMu).mono ?_
  rintro r W1 ⟨rfl, hb1⟩
  have HN := hide (KNew_in (Q := fun _ => False) W1 hb1 (fun _ h => h.elim))
  clear HMu hb1
  go_wp2_with fail
  refine (unhide HN).mono ?_
  rintro r W2 ⟨rfl, hK, -⟩
  obtain ⟨bA, hbA⟩ : ∃ b, W1.heap.size = b := ⟨_, rfl⟩
  rw [hbA] at hK ⊢
  have HN2 := hide (KG.new hK)
  clear HN hK hbA
  go_wp2_with fail
  refine (unhide HN2).mono ?_
  rintro r W3 ⟨rfl, hG⟩
  obtain ⟨bB, hbB⟩ : ∃ b, W2.heap.size = b := ⟨_, rfl⟩
  rw [hbB] at hG ⊢
  have HG := hide hG
  clear HN2 hG hbB
  go_wp2
  go_loopw [9] (fun iv wr => ∃ (i n : Nat) (S : StF), iv = .int .i64 (i : Nat) ∧ i ≤ len0 ∧ n ≤ i ∧ Hid (KG (fun _ => False) w wr bA n S bB n S)) (fun iv _ => len0 - (Lib.intOf iv).toNat)
  case atStart => exact ⟨0, 0, _, rfl, by omega, by omega, HG⟩
  case round =>
    clear HG
    obtain ⟨i, n, S, rfl, hi, hn, HG⟩ := hrel
    by_cases hlt : i < len0
    · have hlt' : (i : Int) < (len0 : Int) := by omega
      have hls : i < ss.length := by rw [unhide Hln]; exact hlt
      obtain ⟨s, hx⟩ : ∃ s, ss[i]? = some s := ⟨_, List.getElem?_eq_getElem hls⟩
      have hms := List.mem_of_getElem? hx
      have hw := unhide Hst s hms
      obtain ⟨b0, off, rfl, hb0, q0, q1, q2, q3⟩ := RS.at ((unhide Hr).below (unhide HG).bel) hx
      have HQ : Hid (∀ W, Below w.heap.size w W → W.cell? ⟨b0, off + i * 4, none⟩ = some (.int .i64 s.kind) ∧ W.cell? ⟨b0, off + i * 4 + 1, none⟩ = some (.int .i64 s.site) ∧ W.cell? ⟨b0, off + i * 4 + 2, none⟩ = some s.vv ∧ W.cell? ⟨b0, off + i * 4 + 3, none⟩ = some s.vm ∧ b0 < W.heap.size) := fun W hb => by
        obtain ⟨b1, off1, e, p0, p1, p2, p3, p4⟩ := RS.at ((unhide Hr).below hb) hx
        cases e
        exact ⟨p1, p2, p3, p4, p0⟩
      have HD := hide (KGdo_in (unhide HG) (by omega) s hw (unhide Hsm s hms).1)
      have HD2 : Hid (∀ W T, KG (fun _ => False) w W bA (n + 1) T bB n S → Calls Try.prog 20 #[.pointer (some ⟨bB, 0, none⟩), stA s] W fun e W' => e = .returned (.tuple #[]) ∧ Hid (KG (fun _ => False) w W' bA (n + 1) T bB (n + 1) (doS s S))) := fun W T hk => by
        refine (KGdo_in hk.swap (by omega) s hw (unhide Hsm s hms).1).mono ?_
        rintro e W' ⟨rfl, q⟩
        exact ⟨rfl, q.swap⟩
      obtain ⟨av, cv, hv⟩ := hw.fv
      obtain ⟨am, cm, hm⟩ := hw.fm
      unfold stA at HD HD2
      rw [hv, hm] at HD HD2 HQ
      rw [hv] at q2
      rw [hm] at q3
      obtain ⟨T, hT⟩ : ∃ T, doS s S = T := ⟨_, rfl⟩
      rw [hT] at HD HD2
      generalize s.kind = z0 at *
      generalize s.site = z1 at *
      generalize s.vec.length = z2 at *
      generalize s.mem.length = z3 at *
      clear hx hms hw hv hm hT HG
      go_wp2_with fail
      refine (unhide HD).mono ?_
      rintro e W4 ⟨rfl, h4⟩
      obtain ⟨p0, p1, p2, p3, p4⟩ := unhide HQ W4 h4.bel
      replace HD2 := hide (unhide HD2 W4 T h4)
      clear HD q0 q1 q2 q3 h4 HQ
      go_wp2_with fail
      refine (unhide HD2).mono ?_
      rintro e W5 ⟨rfl, H5⟩
      clear HD2 p0 p1 p2 p3 p4
      go_wp2
      go_roundw
      case measure => show len0 - ((i : Int) + 1).toNat < len0 - ((i : Nat) : Int).toNat; omega
      case rel => exact ⟨i + 1, n + 1, T, by go_num, by omega, by omega, H5⟩
    · have hlt' : ¬ (i : Int) < (len0 : Int) := by omega
      have TK := hide (unhide T0 bA bB n S)
      have GB : Hid (∀ W, KG (fun _ => False) w W bA n S bB n S → Below w.heap.size w W) := fun W h => h.bel
      obtain ⟨G, hGd⟩ : ∃ G : World → Prop, (fun W => KG (fun _ => False) w W bA n S bB n S) = G := ⟨_, rfl⟩
      have hGd' : ∀ W, KG (fun _ => False) w W bA n S bB n S = G W := fun W => congrFun hGd W
      rw [hGd] at TK
      simp only [hGd'] at HG GB
      clear hGd hGd' T0 Hr Hst Hsm Hln hlt hi hn
      go_wp2
      go_loopw [10] (fun iv wr => ∃ x : Nat, iv = .int .i64 (x : Nat) ∧ 1 ≤ x ∧ x ≤ 17 ∧ Hid (G wr)) (fun iv _ => 17 - (Lib.intOf iv).toNat)
      case atStart => exact ⟨1, rfl, by omega, by omega, HG⟩
      case round =>
        clear HG
        obtain ⟨x, rfl, x1, x2, HG⟩ := hrel
        by_cases hx : x ≤ 16
        · have hx' : (x : Int) ≤ 16 := by omega
          have x64 : in64 (x : Int) := by unfold in64; omega
          have X64 := hide x64
          have C1 := hide ((unhide TK).row bA (.inl rfl) _ (unhide HG) _ x64)
          obtain ⟨is, his⟩ : ∃ is, (S (x : Int)).isSome = is := ⟨_, rfl⟩
          rw [his] at C1
          have His := hide his
          clear his x64
          go_wp2_with fail
          refine (unhide C1).mono ?_
          rintro e W4 ⟨a4, n4, c4, rfl, H4⟩
          have C2 := hide ((unhide TK).row bA (.inl rfl) _ ((unhide TK).bel _ _ (unhide HG) (unhide H4).2) _ (unhide X64))
          rw [unhide His] at C2
          clear C1
          go_wp2_with fail
          refine (unhide C2).mono ?_
          rintro e W5 ⟨a5, n5, c5, rfl, H5⟩
          have HP := hide (RP.make (unhide HG) (unhide H4).2 (unhide H4).1 (unhide H5).2 (unhide H5).1)
          clear C2 H4 H5 HG
          go_wp2
          go_loopw [11, 13, 15] (fun v11 v13 iv wr => ∃ (i : Nat) (a' : Option Addr) (n' c' : Nat) (a'' : Option Addr) (n'' c'' : Nat), iv = .int .i64 (i : Nat) ∧ i ≤ 2 ∧ v11 = .slice a' n' c' ∧ v13 = .slice a'' n'' c'' ∧ Hid (RP G wr (.slice a' n' c') (.slice a'' n'' c'') (vec (hdR S (x : Int))))) (fun _ _ iv _ => 2 - (Lib.intOf iv).toNat)
          case atStart => exact ⟨0, _, _, _, _, _, _, rfl, by omega, rfl, rfl, HP⟩
          case round =>
            clear HP
            obtain ⟨i, a', n', c', a'', n'', c'', rfl, hi, rfl, rfl, HP⟩ := hrel
            by_cases hi2 : i < 2
            · have hi2' : (i : Int) < 2 := by omega
              obtain ⟨WB, hGB, hBB, r1, r4, hap⟩ := unhide HP
              have GW := hide ((unhide TK).bel _ _ hGB hBB)
              have HGB := hide hGB
              have HPP := hide (And.intro hBB (And.intro r1 (And.intro r4 hap)))
              have C1 := hide ((unhide TK).us bA (.inl rfl) _ (unhide GW) _ (unhide X64))
              clear hGB hBB r1 r4 hap HP
              go_wp2_with fail
              refine (unhide C1).mono ?_
              rintro e W4 ⟨a4, n4, c4, rfl, H4⟩
              have C2 := hide ((unhide TK).fro bA (.inl rfl) _ ((unhide TK).bel _ _ (unhide GW) (unhide H4).2) (x : Int))
              clear C1
              go_wp2_with fail
              refine (unhide C2).mono ?_
              rintro e W5 ⟨a5, n5, c5, rfl, H5⟩
              obtain ⟨X, hX⟩ : ∃ X, W5.alloc (.cells #[.slice a' n' c', .slice a4 n4 c4, .slice a5 n5 c5, .slice a'' n'' c''] 31) = X := ⟨_, rfl⟩
              obtain ⟨bl, hbl⟩ : ∃ bl, W5.heap.size = bl := ⟨_, rfl⟩
              obtain ⟨B, hBd⟩ : ∃ B, WB.heap.size = B := ⟨_, rfl⟩
              have R0 : Hid (∃ (vs : Nat → Value) (ns : Nat → Nat), R4 B X bl vs ns (Col4 0 0) ∧ Below B WB X ∧ B ≤ X.heap.size ∧ ∀ q, ns q ≤ 2000) := by
                obtain ⟨hBB, r1, r4, hap⟩ := unhide HPP
                rw [hBd] at r1 r4
                have al : Below W5.heap.size W5 X := by rw [← hX]; exact ballc (Below.refl _ _) _
                have := R4.make r1 r4 hap (by rw [← hBd]; exact hBB.size) (unhide H4).2 (unhide H4).1 (unhide H5).2 (unhide H5).1
                rw [hX, hbl] at this
                have bb := bnext (bnext (bnext hBB (unhide H4).2) (unhide H5).2) al
                have bz := bb.size
                rw [hBd] at bb bz
                refine ⟨_, _, this.start, bb, bz, fun q => ?_⟩
                have v1 := vec_len (hdR S (x : Int))
                have v2 := vec_len (usR S (x : Int))
                have v3 := fro_len S ms (x : Int) own
                unfold vs4
                split
                · omega
                · split
                  · omega
                  · split <;> omega
              have HBd := hide hBd
              clear C2 H4 H5 HPP GW hBd
              go_wp2
              try clear hX
              try clear hbl
              go_loopw [17] (fun iv wr => ∃ (j : Nat) (vs : Nat → Value) (ns : Nat → Nat), iv = .int .i64 (j : Nat) ∧ j ≤ 4 ∧ Hid (R4 B wr bl vs ns (Col4 j 0) ∧ Below B WB wr ∧ B ≤ wr.heap.size ∧ ∀ q, ns q ≤ 2000 + j)) (fun iv _ => 4 - (Lib.intOf iv).toNat)
              case atStart =>
                obtain ⟨vs, ns, p1, p2, p3, p4⟩ := unhide R0
                exact ⟨0, vs, ns, rfl, by omega, hide ⟨p1, p2, p3, fun q => by have := p4 q; omega⟩⟩
              case round =>
                clear R0
                obtain ⟨j, vs, ns, rfl, hj, HR⟩ := hrel
                by_cases hj4 : j < 4
                · have hj4' : (j : Int) < 4 := by omega
                  obtain ⟨C0, hrow, hcol⟩ := (unhide HR).1.row j hj4
                  obtain ⟨ar, cr, hvj⟩ := owns_form hrow
                  have cb := (unhide HR).1.box.cell j _ (box4_at vs j hj4)
                  have cl := (unhide HR).1.box.lt
                  have HVJ := hide hvj
                  rw [hvj] at cb
                  clear hrow hcol hvj C0
                  obtain ⟨nj, hnj⟩ : ∃ nj, ns j = nj := ⟨_, rfl⟩
                  have hnb : nj ≤ 2004 := by have := (unhide HR).2.2.2 j; omega
                  have HNJ := hide hnj
                  rw [hnj] at cb HVJ
                  clear hnj
                  go_wp2
                  clear cb cl
                  go_loopw [19] (fun iv wr' => ∃ (i : Nat), iv = .int .i64 (i : Nat) ∧ i ≤ nj ∧ Hid (R4 B wr' bl vs ns (Col4 j i) ∧ Below B WB wr' ∧ B ≤ wr'.heap.size)) (fun iv _ => nj - (Lib.intOf iv).toNat)
                  case atStart => exact ⟨0, rfl, by omega, hide ⟨(unhide HR).1, (unhide HR).2.1, (unhide HR).2.2.1⟩⟩
                  case round =>
                    obtain ⟨k, rfl, hk, HI⟩ := hrel
                    by_cases hkl : k < nj
                    · have hkl' : (k : Int) < (nj : Int) := by omega
                      obtain ⟨C0, hrow, hcol⟩ := (unhide HI).1.row j hj4
                      rw [unhide HVJ, unhide HNJ] at hrow
                      have hlo := hrow
                      obtain ⟨g, hge, l0, fz, cc, _⟩ := (OwX.of hrow).at (by omega)
                      subst hge
                      have hgB : B ≤ g := (hlo.lt g rfl).1
                      obtain ⟨u0, d0⟩ := cc (k * 2) (by omega)
                      obtain ⟨u1, d1⟩ := cc (k * 2 + 1) (by omega)
                      have f0 := fz (k * 2)
                      have f1 := fz (k * 2 + 1)
                      have G10 := hide (And.intro ((unhide HI).1.put hj4 (unhide HVJ) (show k < ns j by rw [unhide HNJ]; exact hkl)) (show Below B WB ((wr.setCell ⟨g, k * 2, none⟩ (.int .i64 (20 + (j : Int)))).setCell ⟨g, k * 2 + 1, none⟩ (.int .i64 9)) ∧ B ≤ ((wr.setCell ⟨g, k * 2, none⟩ (.int .i64 (20 + (j : Int)))).setCell ⟨g, k * 2 + 1, none⟩ (.int .i64 9)).heap.size from by
                        have k1 := Kp.set (N := fun i => i = g) wr ⟨g, k * 2, none⟩ (.int .i64 (20 + (j : Int))) rfl
                        have k2 := Kp.set (N := fun i => i = g) (wr.setCell ⟨g, k * 2, none⟩ (.int .i64 (20 + (j : Int)))) ⟨g, k * 2 + 1, none⟩ (.int .i64 9) rfl
                        have z1 := k1.size
                        have z2 := k2.size
                        have hb := (unhide HI).2.1
                        have := (unhide HI).2.2
                        refine ⟨⟨(k2.os.trans k1.os).trans hb.os, (k2.tape.trans k1.tape).trans hb.tape, (k2.output.trans k1.output).trans hb.output, by have := hb.size; omega, fun i hi => ?_⟩, by omega⟩
                        rw [k2.block i (by omega) (by omega), k1.block i (by omega) (by omega)]
                        exact hb.block i hi))
                      clear HI fz cc hrow hcol hlo C0
                      go_wp2
                      go_roundw
                      case measure => show nj - ((k : Int) + 1).toNat < nj - ((k : Nat) : Int).toNat; omega
                      case rel => exact ⟨k + 1, by go_num, by omega, G10⟩
                    · have hkl' : ¬ (k : Int) < (nj : Int) := by omega
                      obtain rfl : k = nj := by omega
                      have hR := (unhide HI).1
                      rw [← unhide HNJ] at hR
                      obtain ⟨a9, c9, W9, hap9, b9, kp9, hR9⟩ := hR.app (unhide HI).2.2 hj4 (by rw [unhide HNJ]; omega) 31
                      rw [unhide HNJ, unhide HVJ] at hap9
                      rw [unhide HNJ] at hR9
                      have HAP := hide hap9
                      have e0 := b9.cell j _ (box4_at vs j hj4)
                      have e1 := b9.frozen j
                      have e2 := b9.lt
                      have HRes : Hid (R4 B (W9.setCell ⟨bl, j, none⟩ (.slice a9 (k + 1) c9)) bl (upd vs j (.slice a9 (k + 1) c9)) (upd ns j (k + 1)) (Col4 (j + 1) 0) ∧ Below B WB (W9.setCell ⟨bl, j, none⟩ (.slice a9 (k + 1) c9)) ∧ B ≤ (W9.setCell ⟨bl, j, none⟩ (.slice a9 (k + 1) c9)).heap.size ∧ ∀ q, upd ns j (k + 1) q ≤ 2000 + (j + 1)) := by
                        have k2 := Kp.set (N := fun i => i = bl) W9 ⟨bl, j, none⟩ (.slice a9 (k + 1) c9) rfl
                        have z1 := kp9.size
                        have z2 := k2.size
                        have hb := (unhide HI).2.1
                        have hlo := hR9.lo
                        have := (unhide HI).2.2
                        refine ⟨hR9, ⟨(k2.os.trans kp9.os).trans hb.os, (k2.tape.trans kp9.tape).trans hb.tape, (k2.output.trans kp9.output).trans hb.output, by have := hb.size; omega, fun i hi => ?_⟩, by omega, fun q => ?_⟩
                        · rw [k2.block i (by omega) (by omega), kp9.block i (by omega) (by omega)]
                          exact hb.block i hi
                        · unfold upd
                          have := (unhide HR).2.2.2 q
                          have h9 := (unhide HR).2.2.2 j
                          have h8 := unhide HNJ
                          split <;> omega
                      clear HI hR hap9 b9 kp9 hR9 HR
                      go_wp2_with (at_builtin; refine wpList_append_eq rfl _ _ 31 rfl _ _ _ _ rfl rfl (unhide HAP) ?_; clear HAP)
                      go_roundw
                      case measure => show 4 - ((j : Int) + 1).toNat < 4 - ((j : Nat) : Int).toNat; omega
                      case rel => exact ⟨j + 1, _, _, by go_num, by omega, HRes⟩
                · have hj4' : ¬ (j : Int) < 4 := by omega
                  obtain rfl : j = 4 := by omega
                  obtain ⟨WZ, hWZ⟩ : ∃ WZ, WZ = wr := ⟨_, rfl⟩
                  subst hWZ
                  have hbl := (unhide HR).1.box.lt
                  have HGZ := hide ((unhide TK).bel _ _ (unhide HGB) (by have := (unhide HR).2.1; rw [← unhide HBd] at this; exact this))
                  go_wp2
                  go_loopw [20] (fun iv wr => ∃ (j : Nat), iv = .int .i64 (j : Nat) ∧ j ≤ 4 ∧ WZ = wr) (fun iv _ => 4 - (Lib.intOf iv).toNat)
                  case atStart => exact ⟨0, rfl, by omega, rfl⟩
                  case round =>
                    obtain ⟨j, rfl, hj, rfl⟩ := hrel
                    by_cases hj4 : j < 4
                    · have hj4' : (j : Int) < 4 := by omega
                      obtain ⟨C0, hrow, hcol⟩ := (unhide HR).1.row j hj4
                      obtain ⟨ar, cr, hvj⟩ := owns_form hrow
                      have cb := (unhide HR).1.box.cell j _ (box4_at vs j hj4)
                      rw [hvj] at cb hrow
                      have hnb := (unhide HR).2.2.2 j
                      generalize ns j = nj at *
                      unfold Col4 at hcol
                      rw [if_pos hj4] at hcol
                      have HRow := hide (And.intro hrow hcol)
                      have hcl := hrow.1
                      clear hrow hcol hvj
                      go_wp2
                      go_loopw [21] (fun iv wr => ∃ (k : Nat), iv = .int .i64 (k : Nat) ∧ k ≤ nj ∧ WZ = wr) (fun iv _ => nj - (Lib.intOf iv).toNat)
                      case atStart => exact ⟨0, rfl, by omega, rfl⟩
                      case round =>
                        obtain ⟨k, rfl, hk, rfl⟩ := hrel
                        by_cases hkl : k < nj
                        · have hkl' : (k : Int) < (nj : Int) := by omega
                          obtain ⟨g, hge, l0, fz, cc, _⟩ := (OwX.of (unhide HRow).1).at (by omega)
                          subst hge
                          have hc := (unhide HRow).1.cellAt (k * 2) (by omega)
                          rw [(unhide HRow).2 k (by omega), hcl] at hc
                          clear fz cc
                          by_cases hl : k + 1 < nj
                          · have hl' : (k : Int) + 1 < (nj : Int) := by omega
                            rw [if_pos (by omega)] at hc
                            go_wp2
                            go_roundw
                            case measure => show nj - ((k : Int) + 1).toNat < nj - ((k : Nat) : Int).toNat; omega
                            case rel => exact ⟨k + 1, by go_num, by omega, by first | trivial | rfl⟩
                          · have hl' : ¬ (k : Int) + 1 < (nj : Int) := by omega
                            rw [if_neg (by omega)] at hc
                            have hd : ((50 + (j : Int)) == (20 + (j : Int))) = false := by simp
                            have hd2 : decide ((50 + (j : Int)) = (20 + (j : Int))) = false := by simp
                            go_wp2
                            go_roundw
                            case measure => show nj - ((k : Int) + 1).toNat < nj - ((k : Nat) : Int).toNat; omega
                            case rel => exact ⟨k + 1, by go_num, by omega, by first | trivial | rfl⟩
                        · have hkl' : ¬ (k : Int) < (nj : Int) := by omega
                          go_wp2
                          go_roundw
                          case measure => show 4 - ((j : Int) + 1).toNat < 4 - ((j : Nat) : Int).toNat; omega
                          case rel => exact ⟨j + 1, by go_num, by omega, by first | trivial | rfl⟩
                    · have hj4' : ¬ (j : Int) < 4 := by omega
                      have C1 := hide ((unhide TK).row bA (.inl rfl) _ (unhide HGZ) _ (unhide X64))
                      rw [unhide His] at C1
                      clear HR
                      go_wp2_with fail
                      refine (unhide C1).mono ?_
                      rintro e W8 ⟨a8, n8, c8, rfl, H8⟩
                      have C2 := hide ((unhide TK).row bA (.inl rfl) _ ((unhide TK).bel _ _ (unhide HGZ) (unhide H8).2) _ (unhide X64))
                      rw [unhide His] at C2
                      clear C1
                      go_wp2_with fail
                      refine (unhide C2).mono ?_
                      rintro e W9 ⟨a9, n9, c9, rfl, H9⟩
                      have HP := hide (RP.make (unhide HGZ) (unhide H8).2 (unhide H8).1 (unhide H9).2 (unhide H9).1)
                      clear C2 H8 H9
                      go_wp2
                      go_roundw
                      case measure => show 2 - ((i : Int) + 1).toNat < 2 - ((i : Nat) : Int).toNat; omega
                      case rel => exact ⟨i + 1, _, _, _, _, _, _, by go_num, by omega, rfl, rfl, HP⟩
            · have hi2' : ¬ (i : Int) < 2 := by omega
              obtain ⟨WB, hGB, hBB, r1, r4, hap⟩ := unhide HP
              have GW := hide ((unhide TK).bel _ _ hGB hBB)
              have R1 := hide (OwD.row r1)
              have R4' := hide (OwD.row r4)
              have v1 := vec_len (hdR S (x : Int))
              have v2 := vec_len (usR S (x : Int))
              have v3 := fro_len S ms (x : Int) own
              have L1 : Hid ((vec (hdR S (x : Int))).length ≤ 140737488355328) := hide (by omega)
              have L2 : Hid ((vec (usR S (x : Int))).length ≤ 140737488355328) := hide (by omega)
              have L3 : Hid ((Fro S ms (x : Int) own).length ≤ 140737488355328) := hide (by omega)
              have C1 := hide ((unhide TK).row bB (.inr rfl) _ (unhide GW) _ (unhide X64))
              rw [unhide His] at C1
              clear hGB hBB r1 r4 hap HP v1 v2 v3
              go_wp2_with fail
              refine (unhide C1).mono ?_
              rintro e W4 ⟨a4, n4, c4, rfl, H4⟩
              have G4 := hide ((unhide TK).bel _ _ (unhide GW) (unhide H4).2)
              have VV1 : Hid (Calls Try.prog 23 #[.slice a' n' c', .slice a4 n4 c4] W4 fun e V => e = .returned (.bool true) ∧ Below W4.heap.size W4 V) := by
                refine (vectors_in _ _ _ _ W4 ((unhide R1).below (unhide H4).2) (OwD.row (unhide H4).1) (unhide L1) (unhide L1)).mono ?_
                rintro e V ⟨rfl, q, rfl⟩
                exact ⟨by rw [decide_eq_true rfl], bdrew (Below.refl _ _) _⟩
              clear C1
              go_wp2_with fail
              refine (unhide VV1).mono ?_
              rintro e W5 ⟨rfl, b5⟩
              have B5 := hide b5
              have G5 := hide ((unhide TK).bel _ _ (unhide G4) b5)
              have VV2 : Hid (Calls Try.prog 23 #[.slice a'' n'' c'', .slice a4 n4 c4] W5 fun e V => e = .returned (.bool true) ∧ Below W5.heap.size W5 V) := by
                refine (vectors_in _ _ _ _ W5 (((unhide R4').below (unhide H4).2).below (unhide B5)) ((OwD.row (unhide H4).1).below (unhide B5)) (unhide L1) (unhide L1)).mono ?_
                rintro e V ⟨rfl, q, rfl⟩
                exact ⟨by rw [decide_eq_true rfl], bdrew (Below.refl _ _) _⟩
              clear VV1 b5 G4
              go_wp2_with fail
              refine (unhide VV2).mono ?_
              rintro e W6 ⟨rfl, b6⟩
              have G6 := hide ((unhide TK).bel _ _ (unhide G5) b6)
              have C3 := hide ((unhide TK).us bA (.inl rfl) _ (unhide G6) _ (unhide X64))
              clear VV2 b6 G5 B5 H4 R1 R4' GW
              go_wp2_with fail
              refine (unhide C3).mono ?_
              rintro e W7 ⟨a7, n7, c7, rfl, H7⟩
              have G7 := hide ((unhide TK).bel _ _ (unhide G6) (unhide H7).2)
              have C4 := hide ((unhide TK).us bB (.inr rfl) _ (unhide G7) _ (unhide X64))
              clear C3 G6
              go_wp2_with fail
              refine (unhide C4).mono ?_
              rintro e W8 ⟨a8, n8, c8, rfl, H8⟩
              have G8 := hide ((unhide TK).bel _ _ (unhide G7) (unhide H8).2)
              have VV3 : Hid (Calls Try.prog 23 #[.slice a7 n7 c7, .slice a8 n8 c8] W8 fun e V => e = .returned (.bool true) ∧ Below W8.heap.size W8 V) := by
                refine (vectors_in _ _ _ _ W8 ((OwD.row (unhide H7).1).below (unhide H8).2) (OwD.row (unhide H8).1) (unhide L2) (unhide L2)).mono ?_
                rintro e V ⟨rfl, q, rfl⟩
                exact ⟨by rw [decide_eq_true rfl], bdrew (Below.refl _ _) _⟩
              clear C4 G7
              go_wp2_with fail
              refine (unhide VV3).mono ?_
              rintro e W9 ⟨rfl, b9⟩
              have G9 := hide ((unhide TK).bel _ _ (unhide G8) b9)
              have C5 := hide ((unhide TK).fro bA (.inl rfl) _ (unhide G9) (x : Int))
              clear VV3 b9 G8 H7 H8
              go_wp2_with fail
              refine (unhide C5).mono ?_
              rintro e Wa ⟨aa, na, ca, rfl, Ha⟩
              have Ga := hide ((unhide TK).bel _ _ (unhide G9) (unhide Ha).2)
              have C6 := hide ((unhide TK).fro bB (.inr rfl) _ (unhide Ga) (x : Int))
              clear C5 G9
              go_wp2_with fail
              refine (unhide C6).mono ?_
              rintro e Wb ⟨ab, nb, cb, rfl, Hb⟩
              have Gb := hide ((unhide TK).bel _ _ (unhide Ga) (unhide Hb).2)
              have VV4 : Hid (Calls Try.prog 23 #[.slice aa na ca, .slice ab nb cb] Wb fun e V => e = .returned (.bool true) ∧ Below Wb.heap.size Wb V) := by
                refine (vectors_in _ _ _ _ Wb ((OwD.row (unhide Ha).1).below (unhide Hb).2) (OwD.row (unhide Hb).1) (unhide L3) (unhide L3)).mono ?_
                rintro e V ⟨rfl, q, rfl⟩
                exact ⟨by rw [decide_eq_true rfl], bdrew (Below.refl _ _) _⟩
              clear C6 Ga
              go_wp2_with fail
              refine (unhide VV4).mono ?_
              rintro e Wc ⟨rfl, bc⟩
              have Gc := hide ((unhide TK).bel _ _ (unhide Gb) bc)
              clear VV4 bc Gb Ha Hb
              go_wp2
              go_roundw
              case measure => show 17 - ((x : Int) + 1).toNat < 17 - ((x : Nat) : Int).toNat; omega
              case rel => exact ⟨x + 1, by go_num, by omega, by omega, Gc⟩
        · have hx' : ¬ (x : Int) ≤ 16 := by omega
          have HB := hide (unhide GB _ (unhide HG))
          go_wp2_with fail
          refine (unhide tail _ HB).mono ?_
          rintro r W4 ⟨rfl, hb4⟩
          go_wp2
          go_ret
          exact ⟨rfl, hb4⟩

theorem own : ownKnob Try.prog.godebug = none := by kernel_rfl
theorem laidOut2 : laidOutB Try.prog = true := by kernel_rfl

set_option maxRecDepth 100000 in
theorem lifted (os : Os) (started : os.Started) (H : Type) (enc : TypeId × Value → H) :
    ReturnsInHanded {} Try.checked os 8 .any (Rows.frontOwnSpec.pre6 enc Try.prog Try.f8 Rows.frontOwnRow.domain false) (Rows.frontOwnSpec.post enc Try.prog Try.f8 false true false false) := by
  refine returnsInHanded_of_change (C := Try.checked) own started (by kernel_rfl) Try.func8
    (ChangeSpec.witness6 (enc := enc) (C := Try.checked) false ⟨#[], #[.slice none 0 0, .slice none 0 0, .slice none 0 0], []⟩ 8 (by kernel_rfl) (by kernel_rfl) (by kernel_rfl) (by kernel_rfl)) ?_
  intro W base args ds gs before hval0 hW hcnd _
  have hval : ∀ (j : Nat) t v, Try.f8.params[j]? = some t → args[j]? = some v → Value.okWide Try.prog W .any base t v := hval0
  have hW' := hW
  obtain ⟨p, q, hA0, hV, rfl, hfz, hnd⟩ := hW
  have hA : DataW.TrodAll enc Try.prog W 0 (fun _ => true) true Try.f8.params.toList args.toList ds p := hA0
  rw [Try.params8] at hA hval
  obtain ⟨v0, vs0, d0, ds0, p0, q0, hargs, rfl, rfl, h0, r0⟩ := trodAll_cons hA
  obtain ⟨v1, vs1, d1, ds1, p1, q1, rfl, rfl, rfl, h1, r1⟩ := trodAll_cons r0
  obtain ⟨v2, vs2, d2, ds2, p2, q2, rfl, rfl, rfl, h2, r2⟩ := trodAll_cons r1
  obtain ⟨rfl, rfl, rfl⟩ := trodAll_nil r2
  obtain rfl : args = #[v0, v1, v2] := by cases args; simp_all
  obtain ⟨rfl, rfl⟩ := trodVars_none hV
  obtain ⟨a0, len0, cap0, rfl⟩ := okWide_slice Try.underlying22 (hval 0 22 v0 rfl rfl)
  have k0 := h0
  have lt0 : ∀ x ∈ p0, x.block < W.heap.size := by obtain ⟨m, hm⟩ := k0; exact DataW.trod_lt m _ _ _ hm
  obtain ⟨z0, w0⟩ : ∃ l : List Stp, RS W (.slice a0 len0 cap0) l ∧ l.length = len0 ∧ len0 ≤ maxLen ∧ ∀ e ∈ l, StW W e := by
    obtain ⟨fuel, hf⟩ := h0
    simp only [Value.cells] at hf
    exact open_steps hf
  obtain ⟨a1, len1, cap1, rfl⟩ := okWide_slice Try.underlying32 (hval 1 32 v1 rfl rfl)
  have k1 := h1
  have lt1 : ∀ x ∈ p1, x.block < W.heap.size := by obtain ⟨m, hm⟩ := k1; exact DataW.trod_lt m _ _ _ hm
  obtain ⟨z1, w1⟩ : ∃ l : List Int, RN W (.slice a1 len1 cap1) l ∧ l.length = len1 ∧ len1 ≤ maxLen ∧ ∀ e ∈ l, in64 e := by
    obtain ⟨fuel, hf⟩ := h1
    simp only [Value.cells] at hf
    exact open_nums hf
  obtain ⟨a2, len2, cap2, rfl⟩ := okWide_slice Try.underlying31 (hval 2 31 v2 rfl rfl)
  have k2 := h2
  have lt2 : ∀ x ∈ p2, x.block < W.heap.size := by obtain ⟨m, hm⟩ := k2; exact DataW.trod_lt m _ _ _ hm
  obtain ⟨z2, w2⟩ : ∃ l : List (Int × Int), RI W (.slice a2 len2 cap2) l ∧ l.length = len2 ∧ len2 ≤ maxLen ∧ ∀ e ∈ l, idIn e := by
    obtain ⟨fuel, hf⟩ := h2
    simp only [Value.cells] at hf
    exact open_dots hf
  clear hA0 hval0
  refine (walk a0 len0 cap0 z0 a1 len1 cap1 z1 a2 len2 cap2 z2 W w0 w1 w2).mono fun e W' ⟨he, bel⟩ => ?_
  subst he
  exact ⟨_, rfl, _, _, _, [], _, [], hW', trodAll_mk1 (shut_bool Try.underlying4 _), (trodAll_cons_mk (Below.trod laidOut2 (by kernel_rfl) (of_decide_eq_true (by kernel_rfl)) k0 bel lt0) (trodAll_cons_mk (Below.trod laidOut2 (by kernel_rfl) (of_decide_eq_true (by kernel_rfl)) k1 bel lt1) (trodAll_cons_mk (Below.trod laidOut2 (by kernel_rfl) (of_decide_eq_true (by kernel_rfl)) k2 bel lt2) trodAll_mk0))), rfl, bel.frame _, fun h => by cases h⟩

theorem over : Rows.frontOwnRow.holds Try.pinned (OpenSpec.ofChange Rows.frontOwnSpec) :=
  OpenClaim.holds_of_wide 8 Try.f8 rfl rfl rfl rfl rfl rfl rfl ⟨rfl, rfl, rfl, rfl, rfl⟩ rfl rfl rfl rfl rfl (by kernel_rfl) Try.func8 (by kernel_rfl)
    (of_decide_eq_true (by kernel_rfl)) (by unfold Func.isWrapper; first | (rw [if_pos (by decide +kernel)]; kernel_rfl) | (rw [if_neg (by decide +kernel)]; exact ⟨rfl, rfl⟩))
    (fun os started H enc _ => lifted os started H enc)

end LFrontOwn

theorem frontOwn_holds : Rows.FrontOwnSaid := LFrontOwn.over

end Go.Proofs.Ytjiphechhfifgaa
