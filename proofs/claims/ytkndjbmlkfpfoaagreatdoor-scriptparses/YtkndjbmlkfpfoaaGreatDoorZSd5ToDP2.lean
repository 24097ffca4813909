/-
  The document's own scanner.
-/
import Derived.Test.YtkndjbmlkfpfoaaGreatDoorZRefEncToSd4
import Derived.Test.YtkndjbmlkfpfoaaGreatDoorZQWToDP1
import Derived.Test.YtkndjbmlkfpfoaaGreatDoorZSn0yToTR3

set_option linter.unusedSimpArgs false
set_option linter.unusedVariables false
namespace Go.Proofs.YtkndjbmlkfpfoaaGreatDoor
open Go.RowKit Go.Lib

set_option maxRecDepth 100000 in
set_option maxHeartbeats 16000000 in
theorem refScan_in (s : ByteArray) (hs : s.size ≤ 100000) (w : World) :
    Calls Tryz.prog 26 #[.string s] w fun e w' => ∃ v, e = .returned v ∧ FdS w w' v (scL s) := by
  obtain ⟨G, hG⟩ : ∃ G, scL s = G := ⟨_, rfl⟩
  rw [hG]
  have HG := hide (show [] ++ scA s 0 1 false = G from hG)
  have HS0 : Hid (FdS w w (.slice none 0 0) []) := hide ⟨Below.refl _ _, World.ownsRow_nil _ _ _ _⟩
  clear hG
  go_enter Tryz.func26, Tryz.ntmps26
  go_wp2
  go_loopw [3, 4, 5, 6] (fun ov lv mv iv wr => ∃ (i n : Nat) (m : Bool) (pre : List It) (av : Option Addr) (L cv : Nat), ov = .slice av L cv ∧ lv = .int .i64 (n : Int) ∧ mv = .bool m ∧ iv = .int .i64 (i : Int) ∧ i ≤ s.size ∧ n ≤ i + 1 ∧ L ≤ i ∧ Hid (pre.length = L) ∧ Hid (pre ++ scA s i n m = G) ∧ Hid (FdS w wr (.slice av L cv) pre)) (fun _ _ _ iv _ => s.size - (RowKit.intOf iv).toNat)
  case atStart => exact ⟨0, 1, false, [], none, 0, 0, rfl, by go_num, rfl, by go_num, by omega, by omega, by omega, hide rfl, HG, HS0⟩
  case round =>
    obtain ⟨i, n, m, pre, av, L, cv, rfl, rfl, rfl, rfl, hi, hn, hLi, HL, HP, HF⟩ := hrel
    clear HG HS0
    have k0 : (0 : Int) ≤ (i : Int) := by omega
    by_cases hend : ¬ i < s.size ∨ isLn (by_ s i) = true
    · obtain ⟨ls, hls, hs1, hs2⟩ : ∃ ls : List It, ls = (if m = true then [endI i n] else []) ∧ (¬ i < s.size → pre ++ ls = G) ∧ (i < s.size → (pre ++ ls) ++ scA s (bhL s i) (n + 1) false = G) := ⟨_, rfl, fun q => by rw [← unhide HP, scA_end q], fun q => by
        rw [← unhide HP, scA_line q (by rcases hend with h | h; exact absurd q h; exact h), List.append_assoc]⟩
      have Hls := hide hls
      have Hs1 := hide hs1
      have Hs2 := hide hs2
      have Hend := hide hend
      clear hls hs1 hs2 hend HP
      go_upto_region 5 with fail
      go_cut [25] from 10 to 25 (fun v wx => v = .bool true ∧ wr = wx)
      case first =>
        by_cases hp : i < s.size
        · have k1 : (i : Int) < (s.size : Int) := by omega
          have k3 : decide ((s.size : Int) ≤ (i : Int)) = false := by rw [decide_eq_false_iff_not]; omega
          have gi := by_get s i hp
          have hl : isLn (by_ s i) = true := by rcases unhide Hend with h | h; exact absurd hp h; exact h
          by_cases c10 : by_ s i = 10
          · have q10 : (((by_ s i : Nat) : Int) == 10) = true := by rw [c10]; rfl
            clear hl c10
            go_wp2
            go_meet
            case rel => exact ⟨rfl, rfl⟩
          · have q10 : (((by_ s i : Nat) : Int) == 10) = false := by rw [beq_eq_false_iff_ne]; omega
            have c13 : by_ s i = 13 := by
              unfold isLn at hl
              simp at hl
              rcases hl with q | q
              · exact absurd q c10
              · exact q
            have q13 : (((by_ s i : Nat) : Int) == 13) = true := by rw [c13]; rfl
            clear hl c10 c13
            go_wp2
            go_meet
            case rel => exact ⟨rfl, rfl⟩
        · have k1 : ¬ (i : Int) < (s.size : Int) := by omega
          have k2 : (s.size : Int) ≤ (i : Int) := by omega
          go_wp2
          go_meet
          case rel => exact ⟨rfl, rfl⟩
      obtain ⟨rfl, rfl⟩ := hcut
      rename_i hKx
      refine hKx _ _ ?_
      clear hKx
      go_upto_region 6 with fail
      go_cut [26] from 26 to 26 (fun v wx => v = .bool m ∧ wr = wx)
      case first =>
        go_wp2
        go_meet
        case rel => exact ⟨rfl, rfl⟩
      obtain ⟨rfl, rfl⟩ := hcut
      rename_i hKx
      refine hKx _ _ ?_
      clear hKx
      go_cut [3] from 26 to 33 (fun ov wx => ∃ (a2 : Option Addr) (L2 c2 : Nat), ov = .slice a2 L2 c2 ∧ L2 ≤ L + 1 ∧ Hid ((pre ++ ls).length = L2) ∧ Hid (FdS w wx (.slice a2 L2 c2) (pre ++ ls)))
      case first =>
        cases m with
        | false =>
          have e : ls = [] := unhide Hls
          have HE := hide e
          clear e
          go_wp2
          go_meet
          case rel => exact ⟨av, L, cv, rfl, by omega, hide (by rw [unhide HE, List.append_nil]; exact unhide HL), hide (by rw [unhide HE, List.append_nil]; exact unhide HF)⟩
        | true =>
          have e : ls = [endI i n] := unhide Hls
          obtain ⟨Z0, hZ0⟩ : ∃ Z0, wr.alloc (.cells #[.int .i64 4, .string ⟨#[]⟩, .int .i64 0, .int .i64 (i : Int), .int .i64 (n : Int), .int .i64 0] 82) = Z0 := ⟨_, rfl⟩
          have bZ0 : Below wr.heap.size wr Z0 := by rw [← hZ0]; exact (Below.refl _ _).alloc (Nat.le_refl _) _
          have BZ0 : Bq Z0 wr.heap.size 82 (encF (endI i n)).toArray := by rw [← hZ0]; exact Bq.new _ _ _
          obtain ⟨a2, c2, Z1, hrun, HZ, HKz⟩ := (unhide HF).push 79 (endI i n) bZ0 BZ0 (by rw [unhide HL]; omega) (unhide HL)
          have Hrun := hide hrun
          obtain ⟨nb, hnb⟩ : ∃ nb, wr.heap.size = nb := ⟨_, rfl⟩
          rw [hnb] at Hrun
          have HE := hide e
          clear e bZ0 BZ0 hrun
          go_wp2_with (at_builtin; refine wpList_append_eq rfl _ _ 79 79 rfl _ _ _ _ rfl rfl (unhide Hrun) ?_; clear Hrun)
          go_meet
          case rel => exact ⟨a2, L + 1, c2, rfl, by omega, hide (by rw [unhide HE, List.length_append, unhide HL]; rfl), hide (by rw [unhide HE]; exact unhide HZ)⟩
      case rest =>
        obtain ⟨a2, L2, c2, rfl, hL2, HL2, HF2⟩ := hcut
        clear HF HL
        by_cases hp : i < s.size
        · have k1 : (i : Int) < (s.size : Int) := by omega
          have k2 : ¬ (s.size : Int) ≤ (i : Int) := by omega
          have gi := by_get s i hp
          have HN := hide (unhide Hs2 hp)
          have hl : isLn (by_ s i) = true := by rcases unhide Hend with h | h; exact absurd hp h; exact h
          by_cases c13 : by_ s i = 13
          · have q13 : (((by_ s i : Nat) : Int) == 13) = true := by rw [c13]; rfl
            by_cases h1 : i + 1 < s.size
            · have l1 : (i : Int) + 1 < (s.size : Int) := by omega
              have l2 : (0 : Int) ≤ (i : Int) + 1 := by omega
              have g1 := by_get s (i + 1) h1
              have l3 : ((i : Int) + 1).toNat = i + 1 := by omega
              by_cases c10 : by_ s (i + 1) = 10
              · have q10 : (((by_ s (i + 1) : Nat) : Int) == 10) = true := by rw [c10]; rfl
                have hb : bhL s i = i + 2 := by unfold bhL; rw [if_pos ⟨c13, h1, c10⟩]
                rw [hb] at HN
                clear hl c13 c10 hb
                go_wp2
                go_roundw
                case rel => exact ⟨i + 2, n + 1, false, pre ++ ls, a2, L2, c2, rfl, by go_num, rfl, by go_num, by omega, by omega, by omega, HL2, HN, HF2⟩
                case measure => simp [RowKit.intOf]; omega
              · have q10 : (((by_ s (i + 1) : Nat) : Int) == 10) = false := by rw [beq_eq_false_iff_ne]; omega
                have hb : bhL s i = i + 1 := by unfold bhL; rw [if_neg (fun q => c10 q.2.2)]
                rw [hb] at HN
                clear hl c13 c10 hb
                go_wp2
                go_roundw
                case rel => exact ⟨i + 1, n + 1, false, pre ++ ls, a2, L2, c2, rfl, by go_num, rfl, by go_num, by omega, by omega, by omega, HL2, HN, HF2⟩
                case measure => simp [RowKit.intOf]; omega
            · have l1 : ¬ (i : Int) + 1 < (s.size : Int) := by omega
              have hb : bhL s i = i + 1 := by unfold bhL; rw [if_neg (fun q => h1 q.2.1)]
              rw [hb] at HN
              clear hl c13 hb
              go_wp2
              go_roundw
              case rel => exact ⟨i + 1, n + 1, false, pre ++ ls, a2, L2, c2, rfl, by go_num, rfl, by go_num, by omega, by omega, by omega, HL2, HN, HF2⟩
              case measure => simp [RowKit.intOf]; omega
          · have q13 : (((by_ s i : Nat) : Int) == 13) = false := by rw [beq_eq_false_iff_ne]; omega
            have hb : bhL s i = i + 1 := by unfold bhL; rw [if_neg (fun q => c13 q.1)]
            rw [hb] at HN
            clear hl c13 hb
            go_wp2
            go_roundw
            case rel => exact ⟨i + 1, n + 1, false, pre ++ ls, a2, L2, c2, rfl, by go_num, rfl, by go_num, by omega, by omega, by omega, HL2, HN, HF2⟩
            case measure => simp [RowKit.intOf]; omega
        · have k1 : ¬ (i : Int) < (s.size : Int) := by omega
          have k2 : (s.size : Int) ≤ (i : Int) := by omega
          have HE := hide (unhide Hs1 hp)
          go_wp2
          go_ret
          exact ⟨_, rfl, by rw [← unhide HE]; exact unhide HF2⟩
    have hp : i < s.size := by
      rcases Nat.lt_or_ge i s.size with q | q
      · exact q
      · exact absurd (.inl (by omega)) hend
    have hln : isLn (by_ s i) = false := by cases h : isLn (by_ s i); rfl; exact absurd (.inr h) hend
    have k1 : (i : Int) < (s.size : Int) := by omega
    have k2 : ¬ (s.size : Int) ≤ (i : Int) := by omega
    have k3 : decide ((s.size : Int) ≤ (i : Int)) = false := by rw [decide_eq_false_iff_not]; exact k2
    have gi := by_get s i hp
    have n10 : (((by_ s i : Nat) : Int) == 10) = false := by
      rw [beq_eq_false_iff_ne]
      intro q
      have e : by_ s i = 10 := by omega
      rw [e] at hln
      cases hln
    have n13 : (((by_ s i : Nat) : Int) == 13) = false := by
      rw [beq_eq_false_iff_ne]
      intro q
      have e : by_ s i = 13 := by omega
      rw [e] at hln
      cases hln
    clear hend
    by_cases hbl : isBl (by_ s i) = true
    · have HN := hide (show pre ++ scA s (i + 1) n m = G by rw [← scA_blank hp hln hbl]; exact unhide HP)
      by_cases c32 : by_ s i = 32
      · have q32 : (((by_ s i : Nat) : Int) == 32) = true := by rw [c32]; rfl
        clear hbl HP hln c32
        go_wp2
        go_roundw
        case rel => exact ⟨i + 1, n, m, pre, av, L, cv, rfl, rfl, rfl, by go_num, by omega, by omega, by omega, HL, HN, HF⟩
        case measure => simp [RowKit.intOf]; omega
      · have q32 : (((by_ s i : Nat) : Int) == 32) = false := by rw [beq_eq_false_iff_ne]; omega
        have c9 : by_ s i = 9 := by
          unfold isBl at hbl
          simp at hbl
          rcases hbl with q | q
          · exact absurd q c32
          · exact q
        have q9 : (((by_ s i : Nat) : Int) == 9) = true := by rw [c9]; rfl
        clear hbl HP hln c32 c9
        go_wp2
        go_roundw
        case rel => exact ⟨i + 1, n, m, pre, av, L, cv, rfl, rfl, rfl, by go_num, by omega, by omega, by omega, HL, HN, HF⟩
        case measure => simp [RowKit.intOf]; omega
    have hbl' : isBl (by_ s i) = false := by cases h : isBl (by_ s i); rfl; exact absurd h hbl
    have q32 : (((by_ s i : Nat) : Int) == 32) = false := by
      rw [beq_eq_false_iff_ne]
      intro q
      have e : by_ s i = 32 := by omega
      rw [e] at hbl'
      cases hbl'
    have q9 : (((by_ s i : Nat) : Int) == 9) = false := by
      rw [beq_eq_false_iff_ne]
      intro q
      have e : by_ s i = 9 := by omega
      rw [e] at hbl'
      cases hbl'
    clear hbl
    by_cases c35 : by_ s i = 35
    · have HN := hide (show pre ++ scA s (rmE s i) n m = G by rw [← scA_remark hp hln hbl' c35]; exact unhide HP)
      have hgo : rmE s i = rmE s (i + 1) := rmE_go s i hp hln
      have hrb := rmE_bounds s _ (i + 1) (Nat.le_refl _) (by omega)
      obtain ⟨R, hR⟩ : ∃ R, rmE s i = R := ⟨_, rfl⟩
      rw [hR] at HN
      rw [← hgo, hR] at hrb
      have HR := hide hR
      have Hrb := hide hrb
      have q35 : (((by_ s i : Nat) : Int) == 35) = true := by rw [c35]; rfl
      clear hR hrb hgo HP hln hbl' c35
      go_wp2
      go_loopw [6] (fun jv wr2 => ∃ (j : Nat), jv = .int .i64 (j : Int) ∧ i ≤ j ∧ j ≤ s.size ∧ Hid (rmE s j = R) ∧ Hid (wr = wr2)) (fun jv _ => s.size - (RowKit.intOf jv).toNat)
      case atStart => exact ⟨i, rfl, Nat.le_refl _, by omega, HR, hide rfl⟩
      case round =>
        obtain ⟨j, rfl, hij, hjs, HRj, HW⟩ := hrel
        obtain rfl := unhide HW
        clear HW
        by_cases hj : j < s.size ∧ isLn (by_ s j) = false
        · obtain ⟨hj, hl⟩ := hj
          have j1 : (j : Int) < (s.size : Int) := by omega
          have j2 : (0 : Int) ≤ (j : Int) := by omega
          have gj := by_get s j hj
          have m10 : (((by_ s j : Nat) : Int) == 10) = false := by
            rw [beq_eq_false_iff_ne]
            intro q
            have e : by_ s j = 10 := by omega
            rw [e] at hl
            cases hl
          have m13 : (((by_ s j : Nat) : Int) == 13) = false := by
            rw [beq_eq_false_iff_ne]
            intro q
            have e : by_ s j = 13 := by omega
            rw [e] at hl
            cases hl
          have o10 : (((by_ s j : Nat) : Int) != 10) = true := by rw [bne, m10]; rfl
          have o13 : (((by_ s j : Nat) : Int) != 13) = true := by rw [bne, m13]; rfl
          have HS := hide (show rmE s (j + 1) = R by rw [← rmE_go s j hj hl]; exact unhide HRj)
          clear hl gi n10 n13 q32 q9 q35
          go_wp2
          go_roundw
          case rel => exact ⟨j + 1, by go_num, by omega, by omega, HS, hide (by trivial)⟩
          case measure => simp [RowKit.intOf]; omega
        · have hRj : j = R := by
            rw [← unhide HRj, rmE_stop s j (fun q => by cases h : isLn (by_ s j); exact absurd ⟨q, h⟩ hj; rfl)]
          have hb := unhide Hrb
          by_cases hjl : j < s.size
          · have j1 : (j : Int) < (s.size : Int) := by omega
            have j2 : (0 : Int) ≤ (j : Int) := by omega
            have gj := by_get s j hjl
            have hl : isLn (by_ s j) = true := by cases h : isLn (by_ s j); exact absurd ⟨hjl, h⟩ hj; rfl
            by_cases c10 : by_ s j = 10
            · have o10 : (((by_ s j : Nat) : Int) != 10) = false := by rw [c10]; rfl
              have Hj := hide hRj
              have hij2 : i < j := by omega
              clear hl c10 hj hRj hb gi n10 n13 q32 q9 q35
              go_wp2
              go_roundw
              case rel => exact ⟨j, n, m, pre, av, L, cv, rfl, rfl, rfl, rfl, by omega, by omega, by omega, HL, by rw [unhide Hj]; exact HN, HF⟩
              case measure => simp [RowKit.intOf]; omega
            · have o10 : (((by_ s j : Nat) : Int) != 10) = true := by rw [bne_iff_ne]; omega
              have c13 : by_ s j = 13 := by
                unfold isLn at hl
                simp at hl
                rcases hl with q | q
                · exact absurd q c10
                · exact q
              have o13 : (((by_ s j : Nat) : Int) != 13) = false := by rw [c13]; rfl
              have Hj := hide hRj
              have hij2 : i < j := by omega
              clear hl c10 c13 hj hRj hb gi n10 n13 q32 q9 q35
              go_wp2
              go_roundw
              case rel => exact ⟨j, n, m, pre, av, L, cv, rfl, rfl, rfl, rfl, by omega, by omega, by omega, HL, by rw [unhide Hj]; exact HN, HF⟩
              case measure => simp [RowKit.intOf]; omega
          · have j1 : ¬ (j : Int) < (s.size : Int) := by omega
            have Hj := hide hRj
            have hij2 : i < j := by omega
            clear hj hRj hb gi n10 n13 q32 q9 q35
            go_wp2
            go_roundw
            case rel => exact ⟨j, n, m, pre, av, L, cv, rfl, rfl, rfl, rfl, by omega, by omega, by omega, HL, by rw [unhide Hj]; exact HN, HF⟩
            case measure => simp [RowKit.intOf]; omega
    have q35 : (((by_ s i : Nat) : Int) == 35) = false := by rw [beq_eq_false_iff_ne]; omega
    have hst := unhide HP
    rw [scA_word hp hln hbl' c35] at hst
    have hwe := we_of s i (by rw [hln]; simp) (by rw [hbl']; simp) c35
    have hnx := wdAt_nx s i hp hwe
    have HP2 := hide hst
    have Hnx := hide hnx
    have Hwe := hide hwe
    clear HP hst hnx hwe hln hbl' c35
    by_cases c34 : by_ s i = 34
    · have o34 : (((by_ s i : Nat) : Int) != 34) = false := by rw [c34]; rfl
      have hwd : wdAt s i = qdW s i := by unfold wdAt; rw [if_pos c34]
      have HQ := hide (quoted4_in s (by omega) i hp c34 wr)
      have hrb := rdA_bounds s _ (i + 1) [] (Nat.le_refl _) (by omega)
      rw [← rdA_zero] at hrb
      rw [hwd] at HP2 Hnx
      unfold qdW at HP2 Hnx
      obtain ⟨⟨x, p, ok⟩, hA⟩ : ∃ A, rdE s (i + 1) = A := ⟨_, rfl⟩
      rw [hA] at HQ HP2 Hnx hrb
      have hps : p ≤ s.size := hrb.1
      simp only at HP2 Hnx
      clear hwd hA hrb c34 Hwe
      cases ok with
      | false =>
        have HN := hide (show pre ++ [⟨⟨0, ⟨#[]⟩, 0, p, 0, 18⟩, n⟩] = G by
          have q := unhide HP2
          simp only [if_neg (show ¬ (false = true ∧ (p < s.size → isWe (by_ s p) = true)) from fun q => by cases q.1)] at q
          exact q)
        simp only [paV] at HQ
        clear HP2 Hnx
        go_wp2_with fail
        refine (unhide HQ).mono ?_
        rintro r V1 ⟨rfl, hb1⟩
        obtain ⟨F1, hF1⟩ : ∃ F1, V1.alloc (.cells #[.string (ofL x), .int .i64 (-1), .int .i64 (p : Int)] 131) = F1 := ⟨_, rfl⟩
        have bF1 : Below V1.heap.size V1 F1 := by rw [← hF1]; exact (Below.refl _ _).alloc (Nat.le_refl _) _
        have BF1 : Bq F1 V1.heap.size 131 #[.string (ofL x), .int .i64 (-1), .int .i64 (p : Int)] := by rw [← hF1]; exact Bq.new _ _ _
        have hFdS := ((unhide HF).below hb1).below bF1
        obtain ⟨Z0, hZ0⟩ : ∃ Z0, F1.alloc (.cells #[.int .i64 0, .string ⟨#[]⟩, .int .i64 0, .int .i64 (p : Int), .int .i64 (n : Int), .int .i64 18] 82) = Z0 := ⟨_, rfl⟩
        have bZ0 : Below F1.heap.size F1 Z0 := by rw [← hZ0]; exact (Below.refl _ _).alloc (Nat.le_refl _) _
        have BZ0 : Bq Z0 F1.heap.size 82 (encF ⟨⟨0, ⟨#[]⟩, 0, p, 0, 18⟩, n⟩).toArray := by rw [← hZ0]; exact Bq.new _ _ _
        obtain ⟨a2, c2, Z1, hrun, HZ, HKz⟩ := hFdS.push 79 ⟨⟨0, ⟨#[]⟩, 0, p, 0, 18⟩, n⟩ bZ0 BZ0 (by rw [unhide HL]; omega) (unhide HL)
        have Hrun := hide hrun
        obtain ⟨nb, hnb⟩ : ∃ nb, F1.heap.size = nb := ⟨_, rfl⟩
        rw [hnb] at Hrun
        clear bZ0 BZ0 hrun
        have x0 := BF1.cell 0 _ rfl
        have x1 := BF1.cell 1 _ rfl
        have x2 := BF1.cell 2 _ rfl
        clear BF1 bF1 hb1 hFdS HQ HF
        go_wp2_with (at_builtin; refine wpList_append_eq rfl _ _ 79 79 rfl _ _ _ _ rfl rfl (unhide Hrun) ?_; clear Hrun)
        go_ret
        exact ⟨_, rfl, by rw [← unhide HN]; exact unhide HZ⟩
      | true =>
        simp only [paV] at HQ
        have HEn := fun W => hide (refEnds_in s (by omega) p W hps)
        by_cases hc : p < s.size → isWe (by_ s p) = true
        · have hen : enDs s p = true := by
            unfold enDs
            by_cases q : p < s.size
            · rw [hc q]; simp
            · simp [q]
          have hcc : true = true ∧ (p < s.size → isWe (by_ s p) = true) := ⟨rfl, hc⟩
          have HN := hide (show (pre ++ [⟨⟨2, ofL x, 0, i, p, 0⟩, n⟩]) ++ scA s p n true = G by
            have q := unhide HP2
            rw [if_pos hcc] at q
            simp only [if_true] at q
            rw [List.append_assoc]
            exact q)
          have hn1 : i < p ∧ p ≤ s.size := by
            have q := unhide Hnx
            rw [if_pos hcc] at q
            exact q rfl
          simp only [hen] at HEn
          obtain ⟨T, hT⟩ : ∃ T, ofL x = T := ⟨_, rfl⟩
          rw [hT] at HQ HN
          clear HP2 Hnx hc hcc hen hT
          go_wp2_with fail
          refine (unhide HQ).mono ?_
          rintro r V1 ⟨rfl, hb1⟩
          obtain ⟨F1, hF1⟩ : ∃ F1, V1.alloc (.cells #[.string T, .int .i64 (p : Int), .int .i64 0] 131) = F1 := ⟨_, rfl⟩
          have bF1 : Below V1.heap.size V1 F1 := by rw [← hF1]; exact (Below.refl _ _).alloc (Nat.le_refl _) _
          have BF1 : Bq F1 V1.heap.size 131 #[.string T, .int .i64 (p : Int), .int .i64 0] := by rw [← hF1]; exact Bq.new _ _ _
          have hFdS := ((unhide HF).below hb1).below bF1
          obtain ⟨Z0, hZ0⟩ : ∃ Z0, F1.alloc (.cells #[.int .i64 2, .string T, .int .i64 0, .int .i64 (i : Int), .int .i64 (n : Int), .int .i64 0] 82) = Z0 := ⟨_, rfl⟩
          have bZ0 : Below F1.heap.size F1 Z0 := by rw [← hZ0]; exact (Below.refl _ _).alloc (Nat.le_refl _) _
          have BZ0 : Bq Z0 F1.heap.size 82 (encF ⟨⟨2, T, 0, i, p, 0⟩, n⟩).toArray := by rw [← hZ0]; exact Bq.new _ _ _
          obtain ⟨a2, c2, Z1, hrun, HZ, HKz⟩ := hFdS.push 79 ⟨⟨2, T, 0, i, p, 0⟩, n⟩ bZ0 BZ0 (by rw [unhide HL]; omega) (unhide HL)
          have Hrun := hide hrun
          obtain ⟨nb, hnb⟩ : ∃ nb, F1.heap.size = nb := ⟨_, rfl⟩
          rw [hnb] at Hrun
          have bB1 := bZ0
          clear bZ0 BZ0 hrun
          have x0 := BF1.cell 0 _ rfl
          have x1 := BF1.cell 1 _ rfl
          have x2 := BF1.cell 2 _ rfl
          obtain ⟨nb1, hnb1⟩ : ∃ nb1, V1.heap.size = nb1 := ⟨_, rfl⟩
          rw [hnb1] at x0 x1 x2
          have kp0 : ¬ (p : Int) < 0 := by omega
          have HE1 := HEn F1
          have BZ1 : Bq Z1 V1.heap.size 131 #[.string T, .int .i64 (p : Int), .int .i64 0] := (BF1.keep bB1 BF1.lt).kp (unhide HKz) (fun e => by
            have := (unhide HF).ow.lt _ e
            have := hb1.size
            omega)
          have y0 := BZ1.cell 1 _ rfl
          rw [hnb1] at y0
          have HF1 := hide hF1
          clear BF1 bF1 hb1 hFdS HQ HF BZ1 bB1 hF1
          go_upto_region 28 with fail
          rw [unhide HF1]
          go_wp2_with fail
          refine (unhide HE1).mono ?_
          rintro r V2 ⟨rfl, rfl⟩
          clear HE1 HEn
          go_wp2_with (at_builtin; refine wpList_append_eq rfl _ _ 79 79 rfl _ _ _ _ rfl rfl (unhide Hrun) ?_; clear Hrun)
          go_roundw
          case rel => exact ⟨p, n, true, pre ++ [⟨⟨2, T, 0, i, p, 0⟩, n⟩], a2, L + 1, c2, rfl, rfl, rfl, rfl, by omega, by omega, by omega, hide (by rw [List.length_append, unhide HL]; rfl), HN, HZ⟩
          case measure => simp [RowKit.intOf]; omega
        · have hen : enDs s p = false := by
            unfold enDs
            by_cases q : p < s.size
            · have : isWe (by_ s p) = false := by cases h : isWe (by_ s p); rfl; exact absurd (fun _ => h) hc
              rw [this, decide_eq_false (by simpa using q)]; rfl
            · exact absurd (fun q' => absurd q' q) hc
          have hcc : ¬ (true = true ∧ (p < s.size → isWe (by_ s p) = true)) := fun q => hc q.2
          have HN := hide (show pre ++ [⟨⟨0, ⟨#[]⟩, 0, p, 0, 18⟩, n⟩] = G by
            have q := unhide HP2
            rw [if_neg hcc] at q
            simp only at q
            exact q)
          simp only [hen] at HEn
          obtain ⟨T, hT⟩ : ∃ T, ofL x = T := ⟨_, rfl⟩
          rw [hT] at HQ
          clear HP2 Hnx hc hcc hen hT
          go_wp2_with fail
          refine (unhide HQ).mono ?_
          rintro r V1 ⟨rfl, hb1⟩
          obtain ⟨F1, hF1⟩ : ∃ F1, V1.alloc (.cells #[.string T, .int .i64 (p : Int), .int .i64 0] 131) = F1 := ⟨_, rfl⟩
          have bF1 : Below V1.heap.size V1 F1 := by rw [← hF1]; exact (Below.refl _ _).alloc (Nat.le_refl _) _
          have BF1 : Bq F1 V1.heap.size 131 #[.string T, .int .i64 (p : Int), .int .i64 0] := by rw [← hF1]; exact Bq.new _ _ _
          have hFdS := ((unhide HF).below hb1).below bF1
          obtain ⟨Z0, hZ0⟩ : ∃ Z0, F1.alloc (.cells #[.int .i64 0, .string ⟨#[]⟩, .int .i64 0, .int .i64 (p : Int), .int .i64 (n : Int), .int .i64 18] 82) = Z0 := ⟨_, rfl⟩
          have bZ0 : Below F1.heap.size F1 Z0 := by rw [← hZ0]; exact (Below.refl _ _).alloc (Nat.le_refl _) _
          have BZ0 : Bq Z0 F1.heap.size 82 (encF ⟨⟨0, ⟨#[]⟩, 0, p, 0, 18⟩, n⟩).toArray := by rw [← hZ0]; exact Bq.new _ _ _
          obtain ⟨a2, c2, Z1, hrun, HZ, HKz⟩ := hFdS.push 79 ⟨⟨0, ⟨#[]⟩, 0, p, 0, 18⟩, n⟩ bZ0 BZ0 (by rw [unhide HL]; omega) (unhide HL)
          have Hrun := hide hrun
          obtain ⟨nb, hnb⟩ : ∃ nb, F1.heap.size = nb := ⟨_, rfl⟩
          rw [hnb] at Hrun
          clear bZ0 BZ0 hrun
          have x0 := BF1.cell 0 _ rfl
          have x1 := BF1.cell 1 _ rfl
          have x2 := BF1.cell 2 _ rfl
          have kp0 : ¬ (p : Int) < 0 := by omega
          have HE1 := HEn F1
          have HF1 := hide hF1
          clear BF1 bF1 hb1 hFdS HQ HF hF1
          go_upto_region 28 with fail
          rw [unhide HF1]
          go_wp2_with fail
          refine (unhide HE1).mono ?_
          rintro r V2 ⟨rfl, rfl⟩
          clear HE1 HEn
          go_wp2_with (at_builtin; refine wpList_append_eq rfl _ _ 79 79 rfl _ _ _ _ rfl rfl (unhide Hrun) ?_; clear Hrun)
          go_ret
          exact ⟨_, rfl, by rw [← unhide HN]; exact unhide HZ⟩
    · have q34 : (((by_ s i : Nat) : Int) == 34) = false := by rw [beq_eq_false_iff_ne]; omega
      have o34 : (((by_ s i : Nat) : Int) != 34) = true := by rw [bne, q34]; rfl
      have hwd : wdAt s i = bwW s i := by unfold wdAt; rw [if_neg c34]
      have HPl := hide (refPlain_in s (by omega) i hp (unhide Hwe) n wr)
      obtain ⟨⟨k, t, nn, a, nx, e⟩, hx⟩ : ∃ y, bwW s i = y := ⟨_, rfl⟩
      rw [hx] at HPl
      rw [hwd, hx] at HP2 Hnx
      simp only [fV] at HPl
      clear hwd hx c34 Hwe
      go_wp2_with fail
      refine (unhide HPl).mono ?_
      rintro r V1 ⟨rfl, hb1⟩
      obtain ⟨F1, hF1⟩ : ∃ F1, V1.alloc (.cells #[.int .i64 (k : Int), .string t, .int .i64 nn, .int .i64 (a : Int), .int .i64 (n : Int), .int .i64 (e : Int)] 82) = F1 := ⟨_, rfl⟩
      have bF1 : Below V1.heap.size V1 F1 := by rw [← hF1]; exact (Below.refl _ _).alloc (Nat.le_refl _) _
      have BF1 : Bq F1 V1.heap.size 82 #[.int .i64 (k : Int), .string t, .int .i64 nn, .int .i64 (a : Int), .int .i64 (n : Int), .int .i64 (e : Int)] := by rw [← hF1]; exact Bq.new _ _ _
      have hFdS := ((unhide HF).below hb1).below bF1
      obtain ⟨Z0, hZ0⟩ : ∃ Z0, F1.alloc (.cells #[.int .i64 (k : Int), .string t, .int .i64 nn, .int .i64 (a : Int), .int .i64 (n : Int), .int .i64 (e : Int)] 82) = Z0 := ⟨_, rfl⟩
      have bZ0 : Below F1.heap.size F1 Z0 := by rw [← hZ0]; exact (Below.refl _ _).alloc (Nat.le_refl _) _
      have BZ0 : Bq Z0 F1.heap.size 82 (encF ⟨⟨k, t, nn, a, nx, e⟩, n⟩).toArray := by rw [← hZ0]; exact Bq.new _ _ _
      obtain ⟨a2, c2, Z1, hrun, HZ, HKz⟩ := hFdS.push 79 ⟨⟨k, t, nn, a, nx, e⟩, n⟩ bZ0 BZ0 (by rw [unhide HL]; omega) (unhide HL)
      have Hrun := hide hrun
      obtain ⟨nb, hnb⟩ : ∃ nb, F1.heap.size = nb := ⟨_, rfl⟩
      rw [hnb] at Hrun
      clear bZ0 BZ0 hrun
      have x0 := BF1.cell 0 _ rfl
      have x1 := BF1.cell 1 _ rfl
      have x2 := BF1.cell 2 _ rfl
      have x3 := BF1.cell 3 _ rfl
      have x4 := BF1.cell 4 _ rfl
      have x5 := BF1.cell 5 _ rfl
      clear BF1 bF1 hb1 hFdS HPl HF
      by_cases he : e = 0
      · have hfe : fEn ⟨k, t, nn, a, nx, e⟩ = (nx : Int) := by unfold fEn; rw [if_pos he]
        have hn1 : i < nx ∧ nx ≤ s.size := unhide Hnx he
        have hn0 : ¬ (nx : Int) < 0 := by omega
        have HN := hide (show (pre ++ [⟨⟨k, t, nn, a, nx, e⟩, n⟩]) ++ scA s nx n true = G by
          have q := unhide HP2
          simp only [he, if_true] at q
          rw [List.append_assoc, he]
          exact q)
        rw [hfe]
        clear hfe HP2 he
        go_wp2_with (at_builtin; refine wpList_append_eq rfl _ _ 79 79 rfl _ _ _ _ rfl rfl (unhide Hrun) ?_; clear Hrun)
        go_roundw
        case rel => exact ⟨nx, n, true, pre ++ [⟨⟨k, t, nn, a, nx, e⟩, n⟩], a2, L + 1, c2, rfl, rfl, rfl, rfl, by omega, by omega, by omega, hide (by rw [List.length_append, unhide HL]; rfl), HN, HZ⟩
        case measure => simp [RowKit.intOf]; omega
      · have hfe : fEn ⟨k, t, nn, a, nx, e⟩ = -1 := by unfold fEn; rw [if_neg he]
        have HN := hide (show pre ++ [⟨⟨k, t, nn, a, nx, e⟩, n⟩] = G by
          have q := unhide HP2
          simp only [he, if_false] at q
          exact q)
        rw [hfe]
        clear hfe HP2
        go_wp2_with (at_builtin; refine wpList_append_eq rfl _ _ 79 79 rfl _ _ _ _ rfl rfl (unhide Hrun) ?_; clear Hrun)
        go_ret
        exact ⟨_, rfl, by rw [← unhide HN]; exact unhide HZ⟩

end Go.Proofs.YtkndjbmlkfpfoaaGreatDoor

/-
  The document's Parse.
-/
set_option linter.unusedSimpArgs false
set_option linter.unusedVariables false
namespace Go.Proofs.YtkndjbmlkfpfoaaGreatDoor
open Go.RowKit Go.Lib

/-- how far the document's Parse is -/
structure PD (w1 : World) (s : ByteArray) (i : Nat) (W : World) (sv wv : Value) (l : List (Sp × Value × Value)) (L : List It) : Prop where
  bel : Below w1.heap.size w1 W
  os : OwT W w1.heap.size sv l
  ow : OwW W w1.heap.size wv L
  go : prL ((scL s).take i) = .inl (l.map Prod.fst, L)
  len : L.length ≤ i ∧ l.length ≤ i
  mem : ∀ x ∈ L, x ∈ scL s
theorem PD.below {w1 W W' : World} {s : ByteArray} {i : Nat} {sv wv : Value} {l : List (Sp × Value × Value)} {L : List It} (h : PD w1 s i W sv wv l L) (hb : Below W.heap.size W W') : PD w1 s i W' sv wv l L :=
  ⟨bnext h.bel hb, h.os.below hb, owns_kp (N := fun _ => False) h.ow (Kp.of_below hb) (fun _ _ e => e), h.go, h.len, h.mem⟩
theorem prL_at {s : ByteArray} {i : Nat} {x : It} (hx : (scL s)[i]? = some x) : prL ((scL s).take (i + 1)) = prI (prL ((scL s).take i)) x := by
  rw [List.take_add_one, hx]
  exact prL_snoc _ x
theorem prL_dead {s : ByteArray} {i : Nat} {q : Nat × Nat} (h : prL ((scL s).take i) = .inr q) : prL (scL s) = .inr q := by
  have e : prL (scL s) = ((scL s).drop i).foldl prI (prL ((scL s).take i)) := by
    unfold prL
    rw [← List.foldl_append, List.take_append_drop]
  rw [e, h]
  obtain ⟨a, b⟩ := q
  exact prI_no _ a b
/-- a word more -/
theorem PD.word {w1 W : World} {s : ByteArray} {i : Nat} {sv : Value} {aw : Option Addr} {n cw : Nat} {l : List (Sp × Value × Value)} {L : List It} (h : PD w1 s i W sv (.slice aw n cw) l L) (ty : TypeId) {x : It} (hx : (scL s)[i]? = some x) (he : x.w.e = 0) (hk : x.w.k ≠ 4) {X : World} {nb : Nat} (hX : Below W.heap.size W X) (hbx : Bq X nb 73 (encW x).toArray) (hi : i ≤ 1000000) (hn : L.length = n) :
    ∃ (a' : Option Addr) (c' : Nat) (X' : World), (Builtin.append_ #[66, 66] ty #[.slice aw n cw, .slice (some ⟨nb, 0, none⟩) 1 1]).run Tryz.prog X = .ok (.slice a' (n + 1) c') X' ∧ Hid (PD w1 s (i + 1) X' sv (.slice a' (n + 1) c') l (L ++ [x])) := by
  subst hn
  have h' := h.below hX
  obtain ⟨v', X', h1, h2, h3, h4⟩ := append_word X ty w1.heap.size (.slice aw L.length cw) L x nb h'.ow hbx h'.bel.size (by have := h.len.1; omega)
  have k := Kp.of_grown (N := fun k => (Value.slice aw L.length cw).ownBlock = some k) h3 (fun k hk => hk)
  obtain ⟨a', c', e⟩ := owns_form h2
  rw [List.length_append] at e
  have e' : v' = .slice a' (L.length + 1) c' := e
  subst e'
  refine ⟨a', c', X', h1, hide ⟨k.below h'.bel (fun i hi => (World.ownsRow.lt h'.ow i hi).1), h'.os.kpT k (fun i hi => owns_bq h'.ow i hi), h2, ?_, ?_, ?_⟩⟩
  · rw [prL_at hx, h.go]
    show (if x.w.e ≠ 0 then _ else _) = _
    rw [if_neg (by simpa using he), if_pos hk]
  · simp only [List.length_append, List.length_cons, List.length_nil]
    have := h.len
    omega
  · intro y hy
    rcases List.mem_append.1 hy with hy | hy
    · exact h.mem y hy
    · simp at hy; subst hy; exact List.mem_of_getElem? hx
/-- a step more -/
theorem PD.step {w1 W : World} {s : ByteArray} {i : Nat} {as_ : Option Addr} {m cs : Nat} {wv : Value} {l : List (Sp × Value × Value)} {L : List It} (h : PD w1 s i W (.slice as_ m cs) wv l L) (ty : TypeId) {x : It} (hx : (scL s)[i]? = some x) (he : x.w.e = 0) (hk : x.w.k = 4) {t : Sp} (hf : fstR L = some t) {dv bv : Value} {X : World} {nb : Nat} (hX : Below W.heap.size W X) (hbx : Bq X nb 40 (spC t dv bv)) (hst : StV X w1.heap.size t dv bv) (hi : i ≤ 1000000) (hm : l.length = m) :
    ∃ (a' : Option Addr) (c' : Nat) (X' : World), (Builtin.append_ #[23, 23] ty #[.slice as_ m cs, .slice (some ⟨nb, 0, none⟩) 1 1]).run Tryz.prog X = .ok (.slice a' (m + 1) c') X' ∧ Hid (PD w1 s (i + 1) X' (.slice a' (m + 1) c') (.slice none 0 0) (l ++ [(t, dv, bv)]) []) := by
  subst hm
  have h' := h.below hX
  obtain ⟨v', X', h1, h2, h3, h4⟩ := append_stp X ty w1.heap.size (.slice as_ l.length cs) l t dv bv nb h'.os hbx hst h'.bel.size (by have := h.len.2; omega)
  have k := Kp.of_grown (N := fun k => (Value.slice as_ l.length cs).ownBlock = some k) h3 (fun k hk => hk)
  obtain ⟨a', c', e⟩ := owns_form h2.row
  rw [List.length_append] at e
  have e' : v' = .slice a' (l.length + 1) c' := e
  subst e'
  refine ⟨a', c', X', h1, hide ⟨k.below h'.bel (fun i hi => (World.ownsRow.lt h'.os.row i hi).1), h2, World.ownsRow_nil _ _ _ _, ?_, ?_, fun y hy => by cases hy⟩⟩
  · rw [prL_at hx, h.go]
    show (if x.w.e ≠ 0 then _ else _) = _
    rw [if_neg (by simpa using he), if_neg (by simpa using hk), hf]
    simp
  · simp only [List.length_append, List.length_cons, List.length_nil]
    have := h.len
    omega
theorem found_at {W : World} {N : Nat} {a : Option Addr} {n c : Nat} {l : List It} (h : W.ownsRow N 82 6 (.slice a n c) l.length (flat encF l)) {i : Nat} {x : It} (hx : l[i]? = some x) :
    ∃ b off, a = some ⟨b, off, none⟩ ∧ b < W.heap.size ∧ ∀ (q : Nat) u, (encF x)[q]? = some u → W.cell? ⟨b, off + i * 6 + q, none⟩ = some u := by
  rcases RC.of_owns h with ⟨h0, _⟩ | ⟨b, off, cap, e2, hn, hlt, hc⟩
  · have := (List.getElem?_eq_some_iff.1 hx).1; omega
  · simp at e2
    refine ⟨b, off, e2.1, hlt, fun q u hu => ?_⟩
    have hq := (List.getElem?_eq_some_iff.1 hu).1
    have hq6 : q < 6 := hq
    rw [Nat.add_assoc]
    exact hc _ _ ((flat_get (enc := encF) (k := 6) (fun _ => rfl) l i q x hx hq6).trans hu)

theorem split_at {α : Type} {l : List α} {i : Nat} {x : α} (h : l[i]? = some x) : l.take i ++ x :: l.drop (i + 1) = l := by
  have e : x :: l.drop (i + 1) = l.drop i := by
    rw [List.drop_eq_getElem_cons (List.getElem?_eq_some_iff.1 h).1]
    congr 1
    exact (List.getElem?_eq_some_iff.1 h).2.symm
  rw [e, List.take_append_drop]
theorem results_t3 {P : Program} {fn : Func} {i j k : Tmp} (h : fn.results = #[.tmp i, .tmp j, .tmp k]) (tmps : Array Value) (w : World) : (results fn tmps).run P w = .ok (.tuple #[tmps.getD i undef, tmps.getD j undef, tmps.getD k undef]) w := by
  simp [results, h]

set_option maxRecDepth 100000 in
set_option maxHeartbeats 8000000 in
theorem refParse_in (s : ByteArray) (hs : s.size ≤ 100000) (w : World) : Calls Tryz.prog 11 #[.string s] w (PsA w s) := by
  have hsc := hide (refScan_in s hs w)
  go_enter Tryz.func11, Tryz.ntmps11
  go_wp2_with fail
  refine (unhide hsc).mono ?_
  rintro e w1 ⟨v, rfl, hF⟩
  obtain ⟨fa, fc, rfl⟩ := hF.form
  have hlen := scL_len s
  have htxt := scL_txt s
  obtain ⟨G, hG⟩ : ∃ G, (scL s).length = G := ⟨_, rfl⟩
  have HFO := hide hF.ow
  have HB1 := hide hF.bel
  have HG := hide hG
  have HTX := hide htxt
  rw [hG] at hlen ⊢
  have HP0 := hide (show PD w1 s 0 w1 (.slice none 0 0) (.slice none 0 0) [] [] from ⟨Below.refl _ _, ⟨World.ownsRow_nil _ _ _ _, fun x hx => by cases hx⟩, World.ownsRow_nil _ _ _ _, rfl, ⟨Nat.le_refl _, Nat.le_refl _⟩, fun x hx => by cases hx⟩)
  have hGs : G ≤ 1000000 := by omega
  clear hF hG htxt hlen hsc
  go_wp2_with fail
  go_loopw [6, 7, 8] (fun v6 v7 v8 wr => ∃ (i m n cs cw : Nat) (as_ aw : Option Addr), v8 = .int .i64 (i : Int) ∧ v6 = .slice as_ m cs ∧ v7 = .slice aw n cw ∧ i ≤ G ∧ Hid (∃ (l : List (Sp × Value × Value)) (L : List It), PD w1 s i wr (.slice as_ m cs) (.slice aw n cw) l L ∧ l.length = m ∧ L.length = n)) (fun _ _ v8 _ => G - (RowKit.intOf v8).toNat)
  case atStart => exact ⟨0, 0, 0, 0, 0, none, none, rfl, rfl, rfl, Nat.zero_le _, hide ⟨[], [], unhide HP0, rfl, rfl⟩⟩
  case round =>
    clear HP0
    obtain ⟨i, m, n, cs, cw, as_, aw, rfl, rfl, rfl, hi, H⟩ := hrel
    obtain ⟨l, L, hp, hm, hn⟩ := unhide H
    by_cases hil : i < G
    · obtain ⟨x, hx⟩ : ∃ x, (scL s)[i]? = some x := ⟨_, List.getElem?_eq_getElem (by rw [unhide HG]; exact hil)⟩
      obtain ⟨fb, fo, rfl, hfb, hcs⟩ := found_at (unhide HFO) hx
      have d0 := cell_below (hcs 0 _ rfl) hp.bel
      rw [Nat.add_zero] at d0
      have d1 := cell_below (hcs 1 _ rfl) hp.bel
      have d2 := cell_below (hcs 2 _ rfl) hp.bel
      have d3 := cell_below (hcs 3 _ rfl) hp.bel
      have d4 := cell_below (hcs 4 _ rfl) hp.bel
      have d5 := cell_below (hcs 5 _ rfl) hp.bel
      have k5 : (i : Int) < (G : Int) := by omega
      have k6 : (0 : Int) ≤ (i : Int) := by omega
      have hbX := ballc (Below.refl _ wr) (.cells (encW x).toArray 73)
      have hbx := Bq.new wr 73 (encW x).toArray
      have t0 := hbx.cell 0 (.int .i64 (x.w.k : Int)) rfl
      have t1 := hbx.cell 1 (.string x.w.t) rfl
      have t2 := hbx.cell 2 (.int .i64 x.w.n) rfl
      have t3 := hbx.cell 3 (.int .i64 (x.w.a : Int)) rfl
      have t4 := hbx.cell 4 (.int .i64 (x.ln : Int)) rfl
      have e5 := cell_below d5 hbX
      have HPX := hide (hp.below hbX)
      have HBX := hide (show Bq (wr.alloc (.cells (encW x).toArray 73)) wr.heap.size 73 (encW x).toArray from hbx)
      have HX := hide hx
      have hpl := hp.len
      obtain ⟨X, hX⟩ : ∃ X, wr.alloc (.cells (encW x).toArray 73) = X := ⟨_, rfl⟩
      have hXs : X.heap.size = wr.heap.size + 1 := by rw [← hX]; simp
      rw [hX] at t0 t1 t2 t3 t4 e5 HPX HBX
      have HLM := hide (And.intro hm hn)
      have HGO := hide hp.go
      have HME := hide hp.mem
      unfold encW at hX
      clear hp hm hn H hcs hbX hbx hx hfb
      by_cases he : x.w.e = 0
      · have kE : ((x.w.e : Int) != 0) = false := by rw [he]; rfl
        have HE := hide he
        clear he
        by_cases hk : x.w.k = 4
        · have kK : ((x.w.k : Int) != 4) = false := by rw [hk]; rfl
          have HK := hide hk
          clear hk
          have hne : L ≠ [] := fun e => by
            exact sc_words s ((scL s).take i) x ((scL s).drop (i + 1)) (split_at (unhide HX)) (unhide HE) (unhide HK) (l.map Prod.fst) (by rw [unhide HGO, e])
          have hst := hide (refStep_in (W := X) (RC.of_owns (unhide HPX).ow) hne (by omega) (fun y hy => by have := unhide HTX y (unhide HME y hy); omega))
          clear hne
          go_wp2_with fail
          refine (unhide hst).mono ?_
          rintro e W4 hA
          clear hst
          unfold RdA at hA
          cases hf : fstR L with
          | some t =>
            rw [hf] at hA
            obtain ⟨dv, bv, rfl, hstv, hb4⟩ := hA
            obtain ⟨⟨a1, n1, c1, rfl⟩, a2, n2, c2, rfl⟩ := hstv.forms
            have hbY := ballc (Below.refl _ W4) (.cells (spC t (.slice a1 n1 c1) (.slice a2 n2 c2)) 40)
            have hbZ := ballc (Below.refl _ (W4.alloc (.cells (spC t (.slice a1 n1 c1) (.slice a2 n2 c2)) 40))) (.cells (spC t (.slice a1 n1 c1) (.slice a2 n2 c2)) 40)
            have hnb := Bq.new (W4.alloc (.cells (spC t (.slice a1 n1 c1) (.slice a2 n2 c2)) 40)) 40 (spC t (.slice a1 n1 c1) (.slice a2 n2 c2))
            rw [World.size_alloc] at hnb
            have hbx4 := Bq.new W4 40 (spC t (.slice a1 n1 c1) (.slice a2 n2 c2))
            obtain ⟨a', c', X', p1, p2⟩ := (unhide HPX).step 23 (unhide HX) (unhide HE) (unhide HK) hf (bnext hb4 (bnext hbY hbZ)) hnb (((hstv.wk (unhide HPX).bel.size).below hbY).below hbZ) (by omega) (unhide HLM).1
            have HN2 := hide (show ∃ (l : List (Sp × Value × Value)) (L : List It), PD w1 s (i + 1) X' (.slice a' (m + 1) c') (.slice none 0 0) l L ∧ l.length = m + 1 ∧ L.length = 0 from ⟨_, _, unhide p2, by rw [List.length_append, (unhide HLM).1]; rfl, rfl⟩)
            have HA := hide p1
            have u0 := hbx4.cell 0 (.int .i64 t.kind) rfl
            have u1 := hbx4.cell 1 (.int .i64 t.site) rfl
            have u2 := hbx4.cell 2 (.int .i64 t.peer) rfl
            have u3 := hbx4.cell 3 (.int .i64 t.unit) rfl
            have u4 := hbx4.cell 4 (.int .i64 t.at_) rfl
            have u5 := hbx4.cell 5 (.int .i64 t.n) rfl
            have u6 := hbx4.cell 6 (.string t.text) rfl
            have u7 := hbx4.cell 7 (.slice a1 n1 c1) rfl
            have u8 := hbx4.cell 8 (.slice a2 n2 c2) rfl
            unfold spC at HA u0 u1 u2 u3 u4 u5 u6 u7 u8 ⊢
            clear hstv hb4 hbY hbZ hnb hbx4 p1 p2 hf HPX HBX HX HLM HGO HME hpl hX
            go_wp2_with (at_builtin; refine wpList_append_eq rfl _ _ 23 23 rfl _ _ _ _ rfl rfl (unhide HA) ?_)
            go_roundw
            case rel => exact ⟨i + 1, m + 1, 0, c', 0, a', none, by go_num, rfl, rfl, by omega, HN2⟩
            case measure => simp [RowKit.intOf]; omega
          | none =>
            rw [hf] at hA
            obtain ⟨s2, a1, n1, c1, a2, n2, c2, rfl, hb4⟩ := hA
            have hbw := (unhide HB1)
            have hend : prL (scL s) = .inr (x.ln, 19) := prL_dead (i := i + 1) (by
              rw [prL_at (unhide HX), unhide HGO]
              show (if x.w.e ≠ 0 then _ else _) = _
              rw [if_neg (by simpa using (unhide HE)), if_neg (by simpa using (unhide HK)), hf])
            have hbq := (unhide HBX).keep hb4 (unhide HBX).lt
            have v4 := hbq.cell 4 (.int .i64 (x.ln : Int)) rfl
            have HZ := hide (fun (V : World) (hV : Below W4.heap.size W4 V) => (show PsA w s (.returned (.tuple #[.slice none 0 0, .int .i64 (x.ln : Int), .int .i64 19])) V from ⟨bnext (unhide HB1) (bnext (unhide HPX).bel (bnext hb4 hV)), by rw [hend]; rfl⟩))
            have hb41 := (ballc (Below.refl _ W4) (.cells (spC s2 (.slice a1 n1 c1) (.slice a2 n2 c2)) 40))
            have v41 := cell_below v4 hb41
            unfold spC at v41 hb41 ⊢
            have HB41 := hide hb41
            clear hb4 hend hbq hf HPX HBX HX HLM HGO HME hpl hX hb41 hbw
            go_upto_region 14 with fail
            go_quiet (fail)
            have HZ2 := hide (unhide HZ _ (bdrew (unhide HB41) nq))
            go_wp2
            refine bodyPost_ret (results_t3 rfl _ _) rfl ?_
            exact unhide HZ2
        · have kK : ((x.w.k : Int) != 4) = true := by rw [bne_iff_ne]; omega
          have hbY := ballc (Below.refl _ X) (.cells (encW x).toArray 73)
          obtain ⟨a', c', X', p1, p2⟩ := (unhide HPX).word 66 (unhide HX) (unhide HE) hk hbY (Bq.new X 73 (encW x).toArray) (by omega) (unhide HLM).2
          have HN2 := hide (show ∃ (l : List (Sp × Value × Value)) (L : List It), PD w1 s (i + 1) X' (.slice as_ m cs) (.slice a' (n + 1) c') l L ∧ l.length = m ∧ L.length = n + 1 from ⟨_, _, unhide p2, (unhide HLM).1, by rw [List.length_append, (unhide HLM).2]; rfl⟩)
          have HA := hide p1
          unfold encW at HA
          rw [hXs] at HA
          clear hbY p1 p2 hk HPX HBX HX HLM HGO HME hpl
          go_wp2_with (at_builtin; refine wpList_append_eq rfl _ _ 66 66 rfl _ _ _ _ rfl rfl (unhide HA) ?_)
          go_roundw
          case rel => exact ⟨i + 1, m, n + 1, cs, c', as_, a', by go_num, rfl, rfl, by omega, HN2⟩
          case measure => simp [RowKit.intOf]; omega
      · have kE : ((x.w.e : Int) != 0) = true := by rw [bne_iff_ne]; omega
        have hend : prL (scL s) = .inr (x.ln, x.w.e) := prL_dead (i := i + 1) (by
          rw [prL_at (unhide HX), unhide HGO]
          show (if x.w.e ≠ 0 then _ else _) = _
          rw [if_pos (by simpa using he)])
        have HZ := hide (fun (V : World) (hV : Below X.heap.size X V) => (show PsA w s (.returned (.tuple #[.slice none 0 0, .int .i64 (x.ln : Int), .int .i64 (x.w.e : Int)])) V from ⟨bnext (unhide HB1) (bnext (unhide HPX).bel hV), by rw [hend]⟩))
        clear hend he HPX HBX HX HLM HGO HME hpl
        go_upto_region 9 with fail
        go_quiet (fail)
        have HZ2 := hide (unhide HZ _ (bdrew (Below.refl _ X) nq))
        go_wp2
        refine bodyPost_ret (results_t3 rfl _ _) rfl ?_
        exact unhide HZ2
    · obtain rfl : i = G := by omega
      have kd : decide ((i : Int) < (i : Int)) = false := by simp
      have e1 : (scL s).take i = scL s := List.take_of_length_le (by rw [unhide HG]; exact Nat.le_refl _)
      have hgo := hp.go
      rw [e1] at hgo
      have HZ := hide (show PsA w s (.returned (.tuple #[.slice as_ m cs, .int .i64 0, .int .i64 0])) wr from ⟨bnext (unhide HB1) hp.bel, by rw [hgo]; exact ⟨_, l, rfl, ⟨owns_wk hp.os.row (unhide HB1).size, fun y hy => (hp.os.rows y hy).wk (unhide HB1).size⟩, rfl⟩⟩)
      clear hp hm hn H e1 hgo
      go_wp2
      refine bodyPost_ret (results_t3 rfl _ _) rfl ?_
      exact unhide HZ
end Go.Proofs.YtkndjbmlkfpfoaaGreatDoor
