/-
  Chapter 4's law QuoteWords returns true for every list of items, and leaves its argument as it was; the tables and the errors of the library that its row lists hold what the program's text lays (the card ties them).
-/
import Derived.Test.YticjilkcobpcjaaDoorRows
import Derived.Test.YticjilkcobpcjaaDoorCards
import Derived.Test.YticjilkcobpcjaaDoorTie
import Derived.SevenTiedAt
import Derived.LaidMore
import Derived.Stop.Joined
import Derived.WalkKit
import Derived.ProofKit
import Derived.OpenShut
import Derived.ShutString
import Derived.ChangeOld
import Derived.Below
import Derived.Test.YticjilkcobpcjaaDoorZLaid2
import Derived.Test.YticjilkcobpcjaaDoorZWc
import Derived.Test.YticjilkcobpcjaaDoorZWw
import Derived.Test.YticjilkcobpcjaaDoorZKn
import Derived.Test.YticjilkcobpcjaaDoorZGl
import Derived.Test.YticjilkcobpcjaaDoorZGt
import Derived.Test.YticjilkcobpcjaaDoorZGc
import Derived.Test.YticjilkcobpcjaaDoorZGe
import Derived.Deep.CutRange
set_option linter.unusedVariables false
set_option linter.unusedSimpArgs false
namespace Go.Proofs.YticjilkcobpcjaaDoor
namespace LQuoteWords
open Go.ChangeShapes Go.WideShapes Go.ChangeAt Go.RowKit Go.Lib
open Go.ChangeMaps (open_string shut_string)

theorem its_some (g : List UInt8) (x : Lw1) (k a line : Nat) : Ii.its ⟨g, x, some k⟩ a line = [⟨x.wd (a + g.length), line⟩, endI (a + g.length + x.txt.length + endC k) line] := rfl
theorem tdiv2 (n : Int) (h : -9223372036854775808 ≤ n ∧ n ≤ 9223372036854775807) : -9223372036854775808 ≤ n.tdiv 2 ∧ n.tdiv 2 ≤ 9223372036854775807 := by
  rcases Int.le_total 0 n with h0 | h0
  · rw [Int.tdiv_eq_ediv_of_nonneg h0]
    omega
  · have e := Int.neg_tdiv (a := -n) (b := 2)
    rw [Int.neg_neg] at e
    rw [e, Int.tdiv_eq_ediv_of_nonneg (by omega)]
    omega
theorem run_equalIn_func_nil {P : Program} (w : World) (d : Nat) (t : TypeId) {x y z} (f : Fn) (bs cs : Array Value) (h : P.underlying t = some (.func x y z)) : (Op.equalIn (d + 1) t (.func f bs cs) .nilFunc).run P w = .ok false w := by
  simp [Op.equalIn, run_underlying h]
theorem run_equal_func_nil {P : Program} (w : World) (t : TypeId) {x y z} (f : Fn) (bs cs : Array Value) (h : P.underlying t = some (.func x y z)) : (Op.equal t (.func f bs cs) .nilFunc).run P w = .ok false w := run_equalIn_func_nil w 9999 t f bs cs h
theorem run_eql_func_nil {P : Program} (w : World) (t : TypeId) {x y z} (f : Fn) (bs cs : Array Value) (h : P.underlying t = some (.func x y z)) : (binOp .eql t (.func f bs cs) .nilFunc).run P w = .ok (.bool false) w := by
  simp only [binOp]
  simp [run_equal_func_nil w t f bs cs h]

set_option maxRecDepth 100000 in
set_option maxHeartbeats 16000000 in
theorem walk (a0 : Option Addr) (len0 cap0 : Nat) (z0 : List Im) (w : World) (w0 : RIm w (.slice a0 len0 cap0) z0 ∧ z0.length = len0 ∧ len0 ≤ maxLen ∧ ∀ e ∈ z0, ImW e) (hT : Lw w) :
    Calls Tryd.prog 4 #[.slice a0 len0 cap0] w fun e w' => e = .returned (.bool true) ∧ Below w.heap.size w w' := by
  obtain ⟨hr, hln, hmx, hw⟩ := w0
  have HK := hide (fun W (h : Below w.heap.size w W) => known_in W (hT.below h).1)
  have Hr := hide hr
  have Hln := hide hln
  have Hw := hide hw
  have HT := hide hT
  clear hr hln hw hmx hT
  by_cases hb : 60 < len0
  · have hb' : (60 : Int) < (len0 : Int) := by omega
    go_enter Tryd.func4, Tryd.ntmps4
    go_wp2_with fail
    refine (unhide HK _ (Below.refl _ _)).mono ?_
    rintro r W2 ⟨rfl, hb2⟩
    go_wp2
    go_ret
    exact ⟨rfl, hb2⟩
  have hb' : ¬ (60 : Int) < (len0 : Int) := by omega
  obtain ⟨X0, hX0⟩ : ∃ X0, w.alloc (.cells #[.slice none 0 0] 36) = X0 := ⟨_, rfl⟩
  have HS0 : Hid (WS w X0 (.slice none 0 0) []) := by rw [← hX0]; exact hide (WS.new w)
  go_enter Tryd.func4, Tryd.ntmps4
  go_wp2_with fail
  go_loopw [3, 4, 5, 7] (fun sv lv mv iv wr => ∃ (i : Nat) (l : List Ii) (S : ByteArray) (n : Nat) (m : Bool) (av : Option Addr) (L cv : Nat), sv = .string S ∧ lv = .int .i64 (n : Int) ∧ mv = .bool m ∧ iv = .int .i64 (i : Int) ∧ i ≤ len0 ∧ n ≤ 1 + 2 * i ∧ S.size ≤ 4000 * i ∧ Hid (l.length = i ∧ S = ofL (layT l) ∧ n = lnL 1 l ∧ m = onL false l ∧ okIs false l) ∧ Hid ((layV 0 1 l).length = L) ∧ Hid (WS w wr (.slice av L cv) (layV 0 1 l))) (fun sv lv mv iv _ => len0 - (RowKit.intOf iv).toNat)
  case atStart => exact ⟨0, [], ⟨#[]⟩, 1, false, none, 0, 0, rfl, rfl, rfl, rfl, by omega, by omega, Nat.le_refl 0, hide ⟨rfl, rfl, rfl, rfl, trivial⟩, hide rfl, HS0⟩
  case round =>
    obtain ⟨i, l, S, n, m, av, L, cv, rfl, rfl, rfl, rfl, hi, hn, hS, HL, HLn, HW⟩ := hrel
    clear HS0
    by_cases hlt : i < len0
    · have hlt' : (i : Int) < (len0 : Int) := by omega
      obtain ⟨e, he⟩ : ∃ e, z0[i]? = some e := ⟨_, List.getElem?_eq_getElem (by rw [unhide Hln]; exact hlt)⟩
      obtain ⟨b0, off, rfl, hb0, q0, q1, q2, q3, q4⟩ := RIm.at ((unhide Hr).below (unhide HW).bel) he
      have HI := hide (unhide Hw e (List.mem_of_getElem? he))
      obtain ⟨ki, te, nu, ah, en⟩ := e
      simp only at q0 q1 q2 q3 q4
      obtain ⟨V, hV⟩ : ∃ V, wr.alloc (.cells #[.int .i64 ki, .string te, .int .i64 nu, .int .i64 ah, .int .i64 en] 38) = V := ⟨_, rfl⟩
      have bV : Below wr.heap.size wr V := by rw [← hV]; exact (Below.refl _ _).alloc (Nat.le_refl _) _
      have BV : Bq V wr.heap.size 38 #[.int .i64 ki, .string te, .int .i64 nu, .int .i64 ah, .int .i64 en] := by rw [← hV]; exact Bq.new _ _ _
      obtain ⟨bi, hbi⟩ : ∃ bi, wr.heap.size = bi := ⟨_, rfl⟩
      rw [hbi] at BV
      have HWV := hide ((unhide HW).below bV)
      have Hap := hide (fun k (hk : (Value.slice av L cv).ownBlock = some k) => show k < bi by have := (unhide HW).lt hk; omega)
      have HNi := hide (show w.heap.size < bi by have := (unhide HW).bx.lt; omega)
      have p0 := BV.cell 0 _ rfl
      have p1 := BV.cell 1 _ rfl
      have p2 := BV.cell 2 _ rfl
      have p3 := BV.cell 3 _ rfl
      have p4 := BV.cell 4 _ rfl
      obtain ⟨Z, hZ⟩ : ∃ Z, te.size = Z := ⟨_, rfl⟩
      have HBV := hide BV
      clear bV BV he
      by_cases ht : 300 < Z
      · have ht' : (300 : Int) < (Z : Int) := by omega
        go_wp2_with fail
        refine (unhide HK _ (unhide HWV).bel).mono ?_
        rintro r W2 ⟨rfl, hb2⟩
        go_wp2
        go_ret
        exact ⟨rfl, bnext (unhide HWV).bel hb2⟩
      have ht' : ¬ (300 : Int) < (Z : Int) := by omega
      have HG := hide (gap_in ah m V)
      obtain ⟨G, hG⟩ : ∃ G, ofL (gapL (gapK ah m)) = G := ⟨_, rfl⟩
      rw [hG] at HG
      have hGs : G.size ≤ 2 := by
        rw [← hG, ofL_size]
        unfold gapL
        split <;> simp
      have Hgap := hide hG
      clear hG
      go_wp2_with fail
      refine (unhide HG).mono ?_
      rintro r W1 ⟨rfl, hb1⟩
      clear HG q0 q1 q2 q3 q4 hV p0 p1 p2 p3 p4
      have BV1 : Bq W1 bi 38 #[.int .i64 ki, .string te, .int .i64 nu, .int .i64 ah, .int .i64 en] := (unhide HBV).keep hb1 (unhide HBV).lt
      obtain ⟨S1, hS1⟩ : ∃ S1, S ++ G = S1 := ⟨_, rfl⟩
      have hS1s : S1.size ≤ 4000 * i + 2 := by rw [← hS1, ByteArray.size_append]; omega
      obtain ⟨A, hA⟩ : ∃ A, S1.size = A := ⟨_, rfl⟩
      obtain ⟨bw, hbw⟩ : ∃ bw, W1.heap.size = bw := ⟨_, rfl⟩
      obtain ⟨X1, hX1⟩ : ∃ X1, W1.alloc (.cells #[.int .i64 0, .string ⟨#[]⟩, .int .i64 0, .int .i64 (A : Int), .int .i64 (n : Int)] 29) = X1 := ⟨_, rfl⟩
      have bX1 : Below W1.heap.size W1 X1 := by rw [← hX1]; exact (Below.refl _ _).alloc (Nat.le_refl _) _
      have BW : Bq X1 bw 29 #[.int .i64 0, .string ⟨#[]⟩, .int .i64 0, .int .i64 (A : Int), .int .i64 (n : Int)] := by rw [← hbw, ← hX1]; exact Bq.new _ _ _
      have hibw : bi < bw := by have := BV1.lt; omega
      have BI : Bq X1 bi 38 #[.int .i64 ki, .string te, .int .i64 nu, .int .i64 ah, .int .i64 en] := BV1.keep bX1 BV1.lt
      have HWX := hide (((unhide HWV).below hb1).below bX1)
      have p0 := BI.cell 0 _ rfl
      have p1 := BI.cell 1 _ rfl
      have p2 := BI.cell 2 _ rfl
      have c0 := BV1.cell 0 _ rfl
      have r0 := BV1.cell 1 _ rfl
      have HBI := hide BI
      have HBW := hide BW
      have f0 := BW.frozen 0
      have f1 := BW.frozen 1
      have f2 := BW.frozen 2
      have g0 := BW.cell 0 _ rfl
      have g1 := BW.cell 1 _ rfl
      have g2 := BW.cell 2 _ rfl
      have lw := BW.lt
      have Hibw := hide hibw
      obtain ⟨K, hK⟩ : ∃ K, ki.tmod 3 = K := ⟨_, rfl⟩
      have hKb : -3 < K ∧ K < 3 := by rw [← hK]; exact ⟨Int.lt_tmod_of_pos ki (by decide), Int.tmod_lt_of_pos ki (by decide)⟩
      clear HBV BV1 HWV bX1 BI BW hb1 hibw
      go_upto_region 15 with fail
      go_cut [46] from 44 to 46 (fun v wx => v = .int .i64 K ∧ X1 = wx)
      case first =>
        go_wp2
        go_meet
        case rel => exact ⟨rfl, rfl⟩
      obtain ⟨rfl, rfl⟩ := hcut
      rename_i hKx
      refine hKx _ _ ?_
      clear hKx
      go_cut [3] from 44 to 81 (fun sv wx => Hid (∃ x : Lw1, sv = .string (S1 ++ ofL x.txt) ∧ WT w (.slice av L cv) (layV 0 1 l) bi bw A n #[.int .i64 ki, .string te, .int .i64 nu, .int .i64 ah, .int .i64 en] x wx))
      case first =>
        have Hne : Hid (bi ≠ bw) := hide (by have := unhide Hibw; omega)
        have Hvw : Hid (∀ k, (Value.slice av L cv).ownBlock = some k → k ≠ bw) := hide (fun k hk => by have := unhide Hap k hk; have := unhide Hibw; omega)
        have Hnw : Hid (w.heap.size < bw) := hide (by have := unhide Hibw; have := unhide HNi; omega)
        by_cases k0 : K = 0
        · subst k0
          obtain ⟨Y1, hY1⟩ : ∃ Y1, X1.setCell ⟨bw, 0, none⟩ (.int .i64 2) = Y1 := ⟨_, rfl⟩
          have BW1 : Bq Y1 bw 29 #[.int .i64 2, .string ⟨#[]⟩, .int .i64 0, .int .i64 (A : Int), .int .i64 (n : Int)] := by rw [← hY1]; exact (unhide HBW).sets 0 _
          have BI1 : Bq Y1 bi 38 #[.int .i64 ki, .string te, .int .i64 nu, .int .i64 ah, .int .i64 en] := by rw [← hY1]; exact (unhide HBI).setO _ (unhide Hne) _
          have WS1 : WS w Y1 (.slice av L cv) (layV 0 1 l) := by rw [← hY1]; exact (unhide HWX).set _ (unhide Hnw) (unhide Hvw) _
          obtain ⟨Y2, hY2⟩ : ∃ Y2, Y1.setCell ⟨bw, 1, none⟩ (.string te) = Y2 := ⟨_, rfl⟩
          have BW2 : Bq Y2 bw 29 #[.int .i64 2, .string te, .int .i64 0, .int .i64 (A : Int), .int .i64 (n : Int)] := by rw [← hY2]; exact BW1.sets 1 _
          have BI2 : Bq Y2 bi 38 #[.int .i64 ki, .string te, .int .i64 nu, .int .i64 ah, .int .i64 en] := by rw [← hY2]; exact BI1.setO _ (unhide Hne) _
          have WS2 : WS w Y2 (.slice av L cv) (layV 0 1 l) := by rw [← hY2]; exact WS1.set _ (unhide Hnw) (unhide Hvw) _
          have HQ := hide (quote_in te (by omega) Y2 ((unhide HT).below WS2.bel).1)
          obtain ⟨QT, hQT⟩ : ∃ QT, qT te = QT := ⟨_, rfl⟩
          rw [hQT] at HQ
          have hQs : QT.size ≤ 3002 := by
            have := qT_len te
            rw [← hQT]
            have e : (qT te).data.toList.length = (qT te).size := rfl
            omega
          have y1 := BI1.cell 1 _ rfl
          have y2 := BI2.cell 1 _ rfl
          have yf := BW1.frozen 1
          have yg := BW1.cell 1 _ rfl
          have yl := BW1.lt
          have HY := hide (And.intro BW2 (And.intro BI2 WS2))
          have Hqt := hide hQT
          clear BW1 BI1 WS1 BW2 BI2 WS2 hQT
          go_wp2_with fail
          refine (unhide HQ).mono ?_
          rintro r Y3 ⟨rfl, hb3⟩
          obtain ⟨BW2, BI2, WS2⟩ := unhide HY
          have HF : Hid (WT w (.slice av L cv) (layV 0 1 l) bi bw A n #[.int .i64 ki, .string te, .int .i64 nu, .int .i64 ah, .int .i64 en] (.quoted te) Y3) := hide ⟨WS2.below hb3, BI2.keep hb3 BI2.lt, BW2.keep hb3 BW2.lt, trivial, by
            show (qT te).data.toList.length ≤ 3010
            have := qT_len te
            omega⟩
          clear BW2 BI2 WS2 HY HQ hb3
          go_wp2
          go_meet
          case rel =>
            refine hide ⟨.quoted te, ?_, unhide HF⟩
            show Value.string (S1 ++ QT) = .string (S1 ++ ofL (qT te).data.toList)
            rw [← unhide Hqt]
            rfl
        by_cases k1 : K = 1
        · subst k1
          obtain ⟨Y1, hY1⟩ : ∃ Y1, X1.setCell ⟨bw, 0, none⟩ (.int .i64 3) = Y1 := ⟨_, rfl⟩
          have BW1 : Bq Y1 bw 29 #[.int .i64 3, .string ⟨#[]⟩, .int .i64 0, .int .i64 (A : Int), .int .i64 (n : Int)] := by rw [← hY1]; exact (unhide HBW).sets 0 _
          have BI1 : Bq Y1 bi 38 #[.int .i64 ki, .string te, .int .i64 nu, .int .i64 ah, .int .i64 en] := by rw [← hY1]; exact (unhide HBI).setO _ (unhide Hne) _
          have WS1 : WS w Y1 (.slice av L cv) (layV 0 1 l) := by rw [← hY1]; exact (unhide HWX).set _ (unhide Hnw) (unhide Hvw) _
          obtain ⟨Y2, hY2⟩ : ∃ Y2, Y1.setCell ⟨bw, 2, none⟩ (.int .i64 nu) = Y2 := ⟨_, rfl⟩
          have BW2 : Bq Y2 bw 29 #[.int .i64 3, .string ⟨#[]⟩, .int .i64 nu, .int .i64 (A : Int), .int .i64 (n : Int)] := by rw [← hY2]; exact BW1.sets 2 _
          have BI2 : Bq Y2 bi 38 #[.int .i64 ki, .string te, .int .i64 nu, .int .i64 ah, .int .i64 en] := by rw [← hY2]; exact BI1.setO _ (unhide Hne) _
          have WS2 : WS w Y2 (.slice av L cv) (layV 0 1 l) := by rw [← hY2]; exact WS1.set _ (unhide Hnw) (unhide Hvw) _
          have HQ := hide (digits_in nu (unhide HI).num.1 (unhide HI).num.2 Y2)
          obtain ⟨QT, hQT⟩ : ∃ QT, ofL (itoa nu) = QT := ⟨_, rfl⟩
          rw [hQT] at HQ
          have hQs : QT.size ≤ 3002 := by
            have := itoa_len nu (unhide HI).num.1 (unhide HI).num.2
            rw [← hQT, ofL_size]
            omega
          have y1 := BI1.cell 2 _ rfl
          have y2 := BI2.cell 2 _ rfl
          have yf := BW1.frozen 2
          have yg := BW1.cell 2 _ rfl
          have yl := BW1.lt
          have HY := hide (And.intro BW2 (And.intro BI2 WS2))
          have Hqt := hide hQT
          clear BW1 BI1 WS1 BW2 BI2 WS2 hQT
          go_wp2_with fail
          refine (unhide HQ).mono ?_
          rintro r Y3 ⟨rfl, hb3⟩
          obtain ⟨BW2, BI2, WS2⟩ := unhide HY
          have HF : Hid (WT w (.slice av L cv) (layV 0 1 l) bi bw A n #[.int .i64 ki, .string te, .int .i64 nu, .int .i64 ah, .int .i64 en] (.num nu) Y3) := hide ⟨WS2.below hb3, BI2.keep hb3 BI2.lt, BW2.keep hb3 BW2.lt, (unhide HI).num, by
            show (itoa nu).length ≤ 3010
            have := itoa_len nu (unhide HI).num.1 (unhide HI).num.2
            omega⟩
          clear BW2 BI2 WS2 HY HQ hb3
          go_wp2
          go_meet
          case rel =>
            refine hide ⟨.num nu, ?_, unhide HF⟩
            show Value.string (S1 ++ QT) = .string (S1 ++ ofL (itoa nu))
            rw [← unhide Hqt]
        have kb0 : (K == 0) = false := by simp [k0]
        have kb1 : (K == 1) = false := by simp [k1]
        have HP := hide (plain_in te (by omega) X1)
        go_wp2_with fail
        refine (unhide HP).mono ?_
        rintro r X2 ⟨⟨pb, rfl, hpb⟩, hb2⟩
        clear HP
        have BW0 : Bq X2 bw 29 #[.int .i64 0, .string ⟨#[]⟩, .int .i64 0, .int .i64 (A : Int), .int .i64 (n : Int)] := (unhide HBW).keep hb2 (unhide HBW).lt
        have BI0 : Bq X2 bi 38 #[.int .i64 ki, .string te, .int .i64 nu, .int .i64 ah, .int .i64 en] := (unhide HBI).keep hb2 (unhide HBI).lt
        have WS0 : WS w X2 (.slice av L cv) (layV 0 1 l) := (unhide HWX).below hb2
        clear hX1 f0 f1 f2 g0 g1 g2 p0 p1 p2
        have h0 := BW0.cell 0 _ rfl
        have hf0 := BW0.frozen 0
        have hl0 := BW0.lt
        cases pb with
        | false =>
          have HB0 := hide WS0.bel
          have HK0 := hide (unhide HK _ WS0.bel)
          clear BW0 BI0 WS0 hpb hb2
          go_wp2_with fail
          refine (unhide HK0).mono ?_
          rintro r W2 ⟨rfl, hb2⟩
          go_wp2
          go_ret
          exact ⟨rfl, bnext (unhide HB0) hb2⟩
        | true =>
          have hpl := hpb rfl
          clear hpb
          obtain ⟨Y1, hY1⟩ : ∃ Y1, X2.setCell ⟨bw, 0, none⟩ (.int .i64 1) = Y1 := ⟨_, rfl⟩
          have BW1 : Bq Y1 bw 29 #[.int .i64 1, .string ⟨#[]⟩, .int .i64 0, .int .i64 (A : Int), .int .i64 (n : Int)] := by rw [← hY1]; exact BW0.sets 0 _
          have BI1 : Bq Y1 bi 38 #[.int .i64 ki, .string te, .int .i64 nu, .int .i64 ah, .int .i64 en] := by rw [← hY1]; exact BI0.setO _ (unhide Hne) _
          have WS1 : WS w Y1 (.slice av L cv) (layV 0 1 l) := by rw [← hY1]; exact WS0.set _ (unhide Hnw) (unhide Hvw) _
          obtain ⟨Y2, hY2⟩ : ∃ Y2, Y1.setCell ⟨bw, 1, none⟩ (.string te) = Y2 := ⟨_, rfl⟩
          have BW2 : Bq Y2 bw 29 #[.int .i64 1, .string te, .int .i64 0, .int .i64 (A : Int), .int .i64 (n : Int)] := by rw [← hY2]; exact BW1.sets 1 _
          have BI2 : Bq Y2 bi 38 #[.int .i64 ki, .string te, .int .i64 nu, .int .i64 ah, .int .i64 en] := by rw [← hY2]; exact BI1.setO _ (unhide Hne) _
          have WS2 : WS w Y2 (.slice av L cv) (layV 0 1 l) := by rw [← hY2]; exact WS1.set _ (unhide Hnw) (unhide Hvw) _
          have y1 := BI1.cell 1 _ rfl
          have y2 := BI2.cell 1 _ rfl
          have yf := BW1.frozen 1
          have yg := BW1.cell 1 _ rfl
          have yl := BW1.lt
          have HF : Hid (WT w (.slice av L cv) (layV 0 1 l) bi bw A n #[.int .i64 ki, .string te, .int .i64 nu, .int .i64 ah, .int .i64 en] (.plain te.data.toList) Y2) := hide ⟨WS2, BI2, BW2, hpl.ok, by
            show te.data.toList.length ≤ 3010
            have e : te.data.toList.length = te.size := rfl
            omega⟩
          clear BW0 BI0 WS0 BW1 BI1 WS1 BW2 BI2 WS2 hb2 hpl
          go_wp2
          go_meet
          case rel => exact hide ⟨.plain te.data.toList, rfl, unhide HF⟩
      case rest =>
        obtain ⟨x, rfl, hwt⟩ := unhide hcut
        obtain ⟨S2, hS2⟩ : ∃ S2, S1 ++ ofL x.txt = S2 := ⟨_, rfl⟩
        rw [hS2]
        have hS2s : S2.size ≤ 4000 * i + 3012 := by rw [← hS2, ByteArray.size_append, ofL_size]; have := hwt.sz; omega
        obtain ⟨⟨k, t, nn, aa, nx, ee⟩, hwd⟩ : ∃ y, x.wd A = y := ⟨_, rfl⟩
        have haa : aa = A := by
          have := x.a0 A
          rw [hwd] at this
          exact this
        subst haa
        have BW : Bq wc bw 29 #[.int .i64 (k : Int), .string t, .int .i64 nn, .int .i64 (aa : Int), .int .i64 (n : Int)] := by have := hwt.bw_; rw [hwd] at this; exact this
        obtain ⟨Z0, hZ0⟩ : ∃ Z0, wc.alloc (.cells #[.int .i64 (k : Int), .string t, .int .i64 nn, .int .i64 (aa : Int), .int .i64 (n : Int)] 29) = Z0 := ⟨_, rfl⟩
        have bZ0 : Below wc.heap.size wc Z0 := by rw [← hZ0]; exact (Below.refl _ _).alloc (Nat.le_refl _) _
        have BZ0 : Bq Z0 wc.heap.size 29 (encW ⟨⟨k, t, nn, aa, nx, ee⟩, n⟩).toArray := by rw [← hZ0]; exact Bq.new _ _ _
        have hlen : (layV 0 1 l).length ≤ 1000 := by have := layV_len l 0 1; have := (unhide HL).1; omega
        obtain ⟨a2, c2, Z1, Z2, hrun, m1, m2, m3, hZ2, HZ⟩ := hwt.ws.push 36 ⟨⟨k, t, nn, aa, nx, ee⟩, n⟩ bZ0 BZ0 (by omega) (unhide HLn)
        have Hrun := hide hrun
        have u6 := hwt.ws.bx.cell 0 _ rfl
        have v0 := BW.cell 0 _ rfl
        have v1 := BW.cell 1 _ rfl
        have v2 := BW.cell 2 _ rfl
        have v3 := BW.cell 3 _ rfl
        have v4 := BW.cell 4 _ rfl
        obtain ⟨nb, hnb⟩ : ∃ nb, wc.heap.size = nb := ⟨_, rfl⟩
        rw [hnb] at Hrun
        have BI2 : Bq Z2 bi 38 #[.int .i64 ki, .string te, .int .i64 nu, .int .i64 ah, .int .i64 en] := (hwt.bi_.keep bZ0 hwt.bi_.lt).kp (unhide HZ).2 (fun e => by
          rcases e with e | e
          · have := unhide HNi; omega
          · have := unhide Hap _ e; omega)
        have w4 := BI2.cell 4 _ rfl
        have Hx := hide (And.intro hwt.ok (And.intro hwt.sz hwd))
        have HS2 := hide hS2
        obtain ⟨E2, hE2⟩ : ∃ E2, en.tmod 2 = E2 := ⟨_, rfl⟩
        have HBn := hide BI2
        clear hcut hwt BW bZ0 BZ0 hrun hwd hS2 hX1 f0 f1 f2 g0 g1 g2 p0 p1 p2 c0 r0 HBI HBW HWX BI2
        have HY0 : Hid (∀ en', en' = none ∨ (∃ k, k < 7 ∧ en' = some k) → okIs false (l ++ [⟨gapL (gapK ah m), x, en'⟩])) := hide (fun en' hen => okIs_snoc l _ false (unhide HL).2.2.2.2 ⟨gapL_bl _, fun q => by rw [← (unhide HL).2.2.2.1] at q; rw [q]; exact gapL_ne _, (unhide Hx).1, fun k hk => by
          rcases hen with e | ⟨k', hk', e⟩
          · rw [e] at hk; cases hk
          · rw [e] at hk; cases hk; exact hk'⟩)
        have HAa : Hid (aa = (layT l).length + (gapL (gapK ah m)).length) := hide (by rw [← hA, ← hS1, ByteArray.size_append, ← unhide Hgap, (unhide HL).2.1, ofL_size, ofL_size])
        have HSS : Hid (S2 = ofL (layT l ++ (gapL (gapK ah m) ++ x.txt))) := hide (by rw [← unhide HS2, ← hS1, ← unhide Hgap, (unhide HL).2.1, ofL_app, ofL_app, List.append_assoc])
        by_cases hend : E2 = 0
        · have he0 : (E2 == 0) = true := by simp [hend]
          subst hend
          go_wp2_with (at_builtin; refine wpList_append_eq rfl _ _ 36 36 rfl _ _ _ _ rfl rfl (unhide Hrun) ?_; clear Hrun)
          go_roundw
          case rel =>
            refine ⟨i + 1, l ++ [⟨gapL (gapK ah m), x, none⟩], S2, n, true, a2, L + 1, c2, rfl, rfl, rfl, by go_num, by omega, by omega, by omega, hide ⟨by rw [List.length_append, (unhide HL).1]; rfl, ?_, ?_, ?_, unhide HY0 _ (.inl rfl)⟩, ?_, ?_⟩
            · rw [unhide HSS, layT_snoc]; simp [Ii.txt, Ii.et]
            · rw [lnL_snoc, ← (unhide HL).2.2.1]; rfl
            · rw [onL_snoc]; rfl
            · refine hide ?_
              rw [layV_snoc, List.length_append, unhide HLn]; rfl
            · refine hide ?_
              have := (unhide HZ).1
              rw [layV_snoc, ← (unhide HL).2.2.1]
              unfold Ii.its
              rw [Nat.zero_add, ← unhide HAa, (unhide Hx).2.2]
              exact this
          case measure => simp [RowKit.intOf]; omega
        · have he0 : (E2 == 0) = false := by simp [hend]
          have HEn := hide (end_in (en.tdiv 2) Z2)
          obtain ⟨ek, hek⟩ : ∃ ek, endK (en.tdiv 2) = ek := ⟨_, rfl⟩
          have hek7 : ek < 7 := by rw [← hek]; exact endK_lt _
          rw [hek] at HEn
          obtain ⟨ET, hET⟩ : ∃ ET, ofL (endT ek) = ET := ⟨_, rfl⟩
          obtain ⟨eN, heN⟩ : ∃ eN, endN ek = eN := ⟨_, rfl⟩
          have heN2 : eN ≤ 2 := by rw [← heN]; exact endN_le ek
          have hETs : ET.size ≤ 8 := by rw [← hET, ofL_size]; exact endT_len ek
          have HCu := fun W => hide (cut_end ek hek7 W)
          simp only [hET] at HCu
          rw [hET, heN] at HEn
          obtain ⟨eC, heC⟩ : ∃ eC, endC ek = eC := ⟨_, rfl⟩
          simp only [heC] at HCu
          have heC7 : eC ≤ 8 := by
            rw [← heC]; unfold endC; split <;> omega
          have HeC := hide heC
          have HeN := hide heN
          have HeT := hide hET
          have hq2 : IntKind.i64.wrap (en.tdiv 2) = en.tdiv 2 := by
            have := (unhide HI).en
            unfold in64 at this
            simp only at this
            have h1 : -9223372036854775808 ≤ en.tdiv 2 ∧ en.tdiv 2 ≤ 9223372036854775807 := tdiv2 en this
            simp only [IntKind.wrap_i64]
            omega
          clear heC heN hET hek
          go_wp2_with (first | fail | (at_builtin; refine wpList_append_eq rfl _ _ 36 36 rfl _ _ _ _ rfl rfl (unhide Hrun) ?_; clear Hrun))
          refine (unhide HEn).mono ?_
          rintro r W5 ⟨rfl, hb5⟩
          have ws5 := (unhide HZ).1.below hb5
          have bi5 := (unhide HBn).keep hb5 (unhide HBn).lt
          obtain ⟨B, hB⟩ : ∃ B, S2.size = B := ⟨_, rfl⟩
          obtain ⟨Y, hY⟩ : ∃ Y, (W5.alloc (.cells #[.int .i64 4, .string ⟨#[]⟩, .int .i64 0, .int .i64 ((B : Int) + (eC : Int)), .int .i64 (n : Int)] 29)).drew = Y := ⟨_, rfl⟩
          have bY : Below W5.heap.size W5 Y := by rw [← hY]; exact ((Below.refl _ _).alloc (Nat.le_refl _) _).drew
          have xY : Bq Y W5.heap.size 29 (encW (endI (B + eC) n)).toArray := by
            rw [← hY]
            exact (Bq.new W5 29 (encW (endI (B + eC) n)).toArray)
          have hlen2 : (layV 0 1 l ++ ([⟨⟨k, t, nn, aa, nx, ee⟩, n⟩] : List It)).length = L + 1 := by rw [List.length_append, unhide HLn]; rfl
          obtain ⟨a3, c3, Y1, Y2, hrun2, o1, o2, o3, hY2, HYY⟩ := ws5.push 36 (endI (B + eC) n) bY xY (by rw [hlen2]; have := unhide HLn; omega) hlen2
          have Hrun2 := hide hrun2
          have u5 := ws5.bx.cell 0 _ rfl
          have uY := (ws5.below bY).bx.cell 0 _ rfl
          obtain ⟨nb5, hnb5⟩ : ∃ nb5, W5.heap.size = nb5 := ⟨_, rfl⟩
          rw [hnb5] at Hrun2
          clear ws5 bi5 bY xY hrun2 HEn u6 v0 v1 v2 v3 v4 m1 m2 m3 hZ0 hZ2 w4 HBn hnb
          go_upto_region 33 with fail
          have hwB : IntKind.i64.wrap ((B : Int) + (eC : Int)) = (B : Int) + (eC : Int) := by simp only [IntKind.wrap_i64]; omega
          go_cut [] from 97 to 106 (fun wx => Y2 = wx)
          case first =>
            have HC1 := HCu W5.drew
            clear HCu
            go_wp2_with fail
            go_region_law (first
              | (refine step_append_eq rfl (.tmp 97) (.tmp 105) 36 rfl _ _ _ (by simp [Act.eval, Act.put]) (by simp [Act.eval, Act.put]) (unhide Hrun2) ?_)
              | (go_simp; go_at_call 17; (with_reducible refine (unhide HC1).mono ?_); rintro e V1 ⟨rfl, rfl⟩))
            all_goals (
              go_wp2
              go_meet
              case rel => rfl)
          case rest =>
            subst hcut
            clear hY hY2 o1 o2 o3 u5 uY Hrun2
            obtain ⟨S3, hS3⟩ : ∃ S3, S2 ++ ET = S3 := ⟨_, rfl⟩
            have hS3s : S3.size ≤ 4000 * i + 3020 := by rw [← hS3, ByteArray.size_append]; omega
            go_wp2
            go_roundw
            case rel =>
              refine ⟨i + 1, l ++ [⟨gapL (gapK ah m), x, some ek⟩], S3, n + eN, false, a3, L + 1 + 1, c3, by first | rfl | rw [hS3], by go_num, rfl, by go_num, by omega, by omega, by omega, hide ⟨by rw [List.length_append, (unhide HL).1]; rfl, ?_, ?_, ?_, unhide HY0 _ (.inr ⟨ek, hek7, rfl⟩)⟩, ?_, ?_⟩
              · rw [← hS3, unhide HSS, ← unhide HeT, layT_snoc, ofL_app]; simp [Ii.txt, Ii.et]
              · rw [lnL_snoc, ← (unhide HL).2.2.1, ← unhide HeN]; rfl
              · rw [onL_snoc]; rfl
              · refine hide ?_
                rw [layV_snoc, List.length_append, unhide HLn]; rfl
              · refine hide ?_
                have := (unhide HYY).1
                rw [layV_snoc, ← (unhide HL).2.2.1]
                rw [its_some]
                rw [List.append_assoc] at this
                rw [Nat.zero_add, ← unhide HAa, (unhide Hx).2.2, unhide HeC]
                have e3 : B = aa + x.txt.length := by rw [← hB, unhide HSS, ofL_size, unhide HAa]; simp; omega
                rw [← e3]
                exact this
            case measure => simp [RowKit.intOf]; omega
    · have hlt' : ¬ (i : Int) < (len0 : Int) := by omega
      obtain rfl : i = len0 := by omega
      obtain ⟨hl1, hl2, hl3, hl4, hl5⟩ := unhide HL
      have hsc := scL_lay l hl5
      rw [← hl2, layW_eq, ← hl4, ← hl3, Nat.zero_add] at hsc
      have HE := hide (show ∀ x ∈ scL S, x.w.e = 0 from fun x hx => layW_e l 0 1 false x (by rw [layW_eq, ← hl4, ← hl3, Nat.zero_add, ← hsc]; exact hx))
      have hszT : (layT l).length = S.size := by rw [hl2, ofL_size]
      rw [hszT] at hsc
      have hlen1 := layV_len l 0 1
      have HSl := hide (show (scL S).length ≤ 1000 by rw [hsc, List.length_append]; split <;> simp <;> omega)
      have Hsc := hide hsc
      have hlen : (layV 0 1 l).length ≤ 1000000 := by omega
      clear hl1 hl2 hl3 hl4 hl5 hsc hszT hlen1
      go_upto_region 37 with fail
      go_cut [113] from 113 to 113 (fun v wx => v = .bool m ∧ wr = wx)
      case first =>
        go_wp2
        go_meet
        case rel => exact ⟨rfl, rfl⟩
      obtain ⟨rfl, rfl⟩ := hcut
      rename_i hKx
      refine hKx _ _ ?_
      clear hKx
      go_cut [] from 113 to 120 (fun wx => Hid (∃ (a5 : Option Addr) (c5 : Nat), WS w wx (.slice a5 (scL S).length c5) (scL S)))
      case first =>
        cases m with
        | false =>
          clear HK Hr Hw
          go_wp2
          go_meet
          case rel =>
            refine hide ⟨av, cv, ?_⟩
            have e : scL S = layV 0 1 l ++ [] := unhide Hsc
            rw [List.append_nil] at e
            rw [e, unhide HLn]
            exact unhide HW
        | true =>
          obtain ⟨B, hB⟩ : ∃ B, S.size = B := ⟨_, rfl⟩
          rw [hB] at Hsc
          obtain ⟨Z0, hZ0⟩ : ∃ Z0, wr.alloc (.cells #[.int .i64 4, .string ⟨#[]⟩, .int .i64 0, .int .i64 (B : Int), .int .i64 (n : Int)] 29) = Z0 := ⟨_, rfl⟩
          have bZ0 : Below wr.heap.size wr Z0 := by rw [← hZ0]; exact (Below.refl _ _).alloc (Nat.le_refl _) _
          have BZ0 : Bq Z0 wr.heap.size 29 (encW (endI B n)).toArray := by rw [← hZ0]; exact Bq.new _ _ _
          obtain ⟨a2, c2, Z1, Z2, hrun, m1, m2, m3, hZ2, HZ⟩ := (unhide HW).push 36 (endI B n) bZ0 BZ0 hlen (unhide HLn)
          have Hrun := hide hrun
          have u6 := (unhide HW).bx.cell 0 _ rfl
          obtain ⟨nb, hnb⟩ : ∃ nb, wr.heap.size = nb := ⟨_, rfl⟩
          rw [hnb] at Hrun
          clear HK Hr Hw bZ0 BZ0 hrun
          go_wp2_with (at_builtin; refine wpList_append_eq rfl _ _ 36 36 rfl _ _ _ _ rfl rfl (unhide Hrun) ?_; clear Hrun)
          go_meet
          case rel =>
            refine hide ⟨a2, c2, ?_⟩
            have e : scL S = layV 0 1 l ++ [endI B n] := unhide Hsc
            rw [e, List.length_append, unhide HLn]
            exact (unhide HZ).1
      case rest =>
        obtain ⟨a5, c5, hws⟩ := unhide hcut
        clear hcut HW Hr Hw HLn HL Hsc hlen
        obtain ⟨X6, hX6⟩ : ∃ X, wc.alloc (.cells #[.int .i64 0] 3) = X := ⟨_, rfl⟩
        obtain ⟨X7, hX7⟩ : ∃ X, X6.alloc (.cells #[.bool true] 4) = X := ⟨_, rfl⟩
        obtain ⟨X8, hX8⟩ : ∃ X, X7.alloc (.cells #[.string S] 9) = X := ⟨_, rfl⟩
        have z6 : X6.heap.size = wc.heap.size + 1 := by rw [← hX6]; simp
        have z7 : X7.heap.size = wc.heap.size + 2 := by rw [← hX7]; simp [z6]
        have e6 : Below wc.heap.size wc X6 := by rw [← hX6]; exact (Below.refl _ _).alloc (Nat.le_refl _) _
        have e7 : Below X6.heap.size X6 X7 := by rw [← hX7]; exact (Below.refl _ _).alloc (Nat.le_refl _) _
        have e8 : Below X7.heap.size X7 X8 := by rw [← hX8]; exact (Below.refl _ _).alloc (Nat.le_refl _) _
        have B6 : Bq X6 wc.heap.size 3 #[.int .i64 ((0 : Nat) : Int)] := by rw [← hX6]; exact Bq.new _ _ _
        have B7 : Bq X7 (wc.heap.size + 1) 4 #[.bool true] := by rw [← z6, ← hX7]; exact Bq.new _ _ _
        have B8 : Bq X8 (wc.heap.size + 2) 9 #[.string S] := by rw [← z7, ← hX8]; exact Bq.new _ _ _
        have ws8 := ((hws.below e6).below e7).below e8
        have R8 : RW X8 w.heap.size wc.heap.size 0 a5 c5 (scL S) := ⟨(B6.keep e7 (by omega)).keep e8 (by omega), B7.keep e8 (by omega), ws8.bx, hws.bx.lt, fun j u hu => by
          obtain ⟨g, h1, h2, h3⟩ := hws.row j u hu
          exact ⟨g, h1, h2, by
            have := cell_below (cell_below (cell_below h3 e6) e7) e8
            exact this⟩⟩
        have HSc := hide (Scan_in S X7)
        rw [hX8, z7] at HSc
        have HC := hide (scan_words S (by omega) w.heap.size wc.heap.size (wc.heap.size + 2) c5 a5 w X8 (unhide HSl) (unhide HE) ws8.bel (Nat.le_refl _) (by omega) R8 B8 (unhide HT))
        obtain ⟨LS, hLS⟩ : ∃ LS, (scL S).length = LS := ⟨_, rfl⟩
        clear B6 B7 B8 ws8 R8 e6 e7 e8 hws HE HSl
        have HX7 := hide hX7
        have HX6 := hide hX6
        have Hz6 := hide z6
        clear hX8 z7 hX6 hX7 z6
        go_upto_region 41 with fail
        rw [unhide HX6]
        rw [unhide HX7]
        try simp only [unhide Hz6]
        clear HX6 HX7
        go_wp2_with fail
        refine (unhide HSc).mono ?_
        rintro e W1 ⟨rfl, rfl⟩
        clear HSc
        go_wp2_with fail
        rw [run_eql_func_nil _ _ _ _ _ Tryd.underlying26]
        go_wp2_with fail
        refine (unhide HC).mono ?_
        rintro e W2 ⟨rfl, hR, hB⟩
        rw [hLS] at hR
        have y0 := hR.y.cell 0 _ rfl
        have n0 := hR.n_.cell 0 _ rfl
        have v0 := hR.w_.cell 0 _ rfl
        rw [hLS] at v0
        have HB := hide hB
        have HK2 := hide (unhide HK W2 hB)
        clear hR hB HC HK hLS
        go_wp2_with fail
        refine (unhide HK2).mono ?_
        rintro r W3 ⟨rfl, hb2⟩
        go_wp2
        go_ret
        exact ⟨rfl, bnext (unhide HB) hb2⟩

theorem own : ownKnob Tryd.prog.godebug = none := by kernel_rfl
theorem laidOut : laidOutB Tryd.prog = true := by kernel_rfl

theorem door_met (os : Os) (args : Array Value) : laidMetH Tryd.prog Rows.quoteWordsRow.laid ((World.doorLaid Tryd.prog 400 os).forCall (fun _ _ => 0) ⟨#[], args, []⟩).memory :=
  laidMetH_of_parts3 (fuel := 8) (laidMet_of_run' 8 (by kernel_rfl) (by kernel_rfl)) (by kernel_rfl) (by kernel_rfl)

set_option maxRecDepth 100000 in
theorem lifted (os : Os) (started : os.Started) (H : Type) (enc : TypeId × Value → H) :
    ReturnsInHanded {} Tryd.checked os 4 .any (fun w args => (Rows.quoteWordsSpec.pre enc Tryd.prog Tryd.f4 [] false w args ∧ laidMetH Tryd.prog Rows.quoteWordsRow.laid w) ∧ sizedMet enc Tryd.prog Tryd.f4 (OpenSpec.ofChange Rows.quoteWordsSpec) false w args)
      (Rows.quoteWordsSpec.post enc Tryd.prog Tryd.f4 false true false false) := by
  refine returnsInHanded_of_change_and (C := Tryd.checked) (X := fun w _ => laidMetH Tryd.prog Rows.quoteWordsRow.laid w) (fun _ _ _ hh h => h.of_heap hh) own started (by kernel_rfl) Tryd.func4
    (ChangeSpec.witness_shaped (enc := enc) (C := Tryd.checked) (os := os) (X := fun w _ => laidMetH Tryd.prog Rows.quoteWordsRow.laid w) false (World.doorLaid Tryd.prog 400 os) #[.slice none 0 0] 8 rfl (World.shaped_of_RefB (by kernel_rfl) (by kernel_rfl)) (by kernel_rfl) (by kernel_rfl) (by kernel_rfl) (door_met os _)) ?_
  intro W base args ds gs before hval0 hW _ _ hL _
  rw [MakeChecks.laidMetH_plain _ _ _ (by kernel_rfl)] at hL
  have hT := lw_of (by kernel_rfl) (by kernel_rfl) (by kernel_rfl) (by kernel_rfl) hL
  have hval : ∀ (j : Nat) t v, Tryd.f4.params[j]? = some t → args[j]? = some v → Value.okWide Tryd.prog W .any base t v := hval0
  have hW' := hW
  obtain ⟨p, q, hA0, hV, rfl, hfz, hnd⟩ := hW
  have hA : DataW.TrodAll enc Tryd.prog W 0 (fun _ => true) true Tryd.f4.params.toList args.toList ds p := hA0
  rw [Tryd.params4] at hA hval
  obtain ⟨v0, vs0, d0, ds0, p0, q0, hargs, rfl, rfl, h0, r0⟩ := trodAll_cons hA
  obtain ⟨rfl, rfl, rfl⟩ := trodAll_nil r0
  obtain rfl : args = #[v0] := by cases args; simp_all
  obtain ⟨rfl, rfl⟩ := trodVars_none hV
  obtain ⟨a0, len0, cap0, rfl⟩ := okWide_slice Tryd.underlying35 (hval 0 35 v0 rfl rfl)
  have k0 := h0
  have lt0 : ∀ x ∈ p0, x.block < W.heap.size := by obtain ⟨m, hm⟩ := k0; exact DataW.trod_lt m _ _ _ hm
  obtain ⟨z0, w0⟩ : ∃ l : List Im, RIm W (.slice a0 len0 cap0) l ∧ l.length = len0 ∧ len0 ≤ maxLen ∧ ∀ e ∈ l, ImW e := by
    obtain ⟨fuel, hf⟩ := h0
    simp only [Value.cells] at hf
    exact open_items hf
  clear hA0 hval0
  refine (walk a0 len0 cap0 z0 W w0 hT).mono fun e W' ⟨he, bel⟩ => ?_
  subst he
  exact ⟨_, rfl, _, _, _, [], _, [], hW', trodAll_mk1 (shut_bool Tryd.underlying4 _), (trodAll_cons_mk (Below.trod laidOut (by kernel_rfl) (of_decide_eq_true (by kernel_rfl)) k0 bel lt0) trodAll_mk0), rfl, bel.frame _, fun h => by cases h⟩

theorem over : Rows.quoteWordsRow.holds Tryd.pinned (OpenSpec.ofChange Rows.quoteWordsSpec) :=
  OpenClaim.holds_of_wide 4 Tryd.f4 rfl rfl rfl rfl rfl rfl rfl ⟨rfl, rfl, rfl, rfl, rfl⟩ rfl rfl rfl rfl rfl (by kernel_rfl) Tryd.func4 (by kernel_rfl)
    (of_decide_eq_true (by kernel_rfl)) (by unfold Func.isWrapper; first | (rw [if_pos (by decide +kernel)]; kernel_rfl) | (rw [if_neg (by decide +kernel)]; exact ⟨rfl, rfl⟩))
    (fun os started H enc _ => lifted os started H enc)

end LQuoteWords

theorem quoteWords_holds : Rows.QuoteWordsCardSaid :=
  Claim7.holds_tied_plain_at .later [] [.data, .data, .data, .sentinel, .sentinel] true (true, "092fe8d34d9df1be97bc4617bdef90684daafc11baf9ac017afb4a307ec0b033") true
    LQuoteWords.over (fun _ h => by cases h) (by kernel_rfl) (fun _ h => by cases h) quoteWords_row_tie rfl ⟨rfl, rfl⟩ (by kernel_rfl) rfl
    (fun f fn hf hfn => by
      obtain rfl : f = 4 := Option.some.inj ((show Tryd.prog.funcNamed Rows.quoteWordsRow.func = some 4 by kernel_rfl).symm.trans hf) |>.symm
      obtain rfl : fn = Tryd.f4 := (Option.some.inj (Tryd.func4.symm.trans hfn)).symm
      exact ⟨by kernel_rfl, fun j t ht => by
        rw [Tryd.params4] at ht
        have hm : t ∈ [35] := by simpa using Array.mem_of_getElem? ht
        have hall : ([35].all fun u => !Tryd.prog.wantsStandIn u) = true := by kernel_rfl
        exact (show Tryd.prog.wantsStandIn t = false by simpa using List.all_eq_true.1 hall t hm)⟩)
    (by kernel_rfl)

end Go.Proofs.YticjilkcobpcjaaDoor
