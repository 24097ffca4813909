/-
  Chapter 13's law CausalAll returns true for every room, all sites, all numbers known and all turns, and leaves its arguments as they were; no condition.
-/
import Derived.Test.YtkkolefionbbcaaGreatRows
import Derived.WalkKit
import Derived.ProofKit
import Derived.OpenShut
import Derived.ShutString
import Derived.ChangeOld
import Derived.Below
import Derived.Test.YtkkolefionbbcaaGreatZXCA5
import Derived.Test.YtkkolefionbbcaaGreatZXU
import Derived.Deep.CutRange
set_option linter.unusedVariables false
set_option linter.unusedSimpArgs false
namespace Go.Proofs.YtkkolefionbbcaaGreat
namespace LCausalAll
open Go.ChangeShapes Go.WideShapes Go.ChangeAt Go.RowKit Go.Lib
open Go.ChangeMaps (open_string shut_string)

set_option maxRecDepth 100000 in
set_option maxHeartbeats 16000000 in
theorem walk (hold : Int) (a1 : Option Addr) (l1 c1 : Nat) (ss : List Int) (a2 : Option Addr) (l2 c2 : Nat) (ks : List Int) (a3 : Option Addr) (l3 c3 : Nat) (ts : List Int) (w : World) (h0 : (Lit.int .i64 hold).wf = true) (w1 : RN w (.slice a1 l1 c1) ss ∧ ss.length = l1 ∧ l1 ≤ maxLen ∧ ∀ e ∈ ss, in64 e) (w2 : RN w (.slice a2 l2 c2) ks ∧ ks.length = l2 ∧ l2 ≤ maxLen ∧ ∀ e ∈ ks, in64 e) (w3 : RN w (.slice a3 l3 c3) ts ∧ ts.length = l3 ∧ l3 ≤ maxLen ∧ ∀ e ∈ ts, in64 e) :
    Calls Tryz.prog 7 #[.int .i64 hold, .slice a1 l1 c1, .slice a2 l2 c2, .slice a3 l3 c3] w fun e W => e = .returned (.bool true) ∧ Below w.heap.size w W := by
  obtain ⟨hr1, hl1, hm1, hi1⟩ := w1
  obtain ⟨hr2, hl2, hm2, hi2⟩ := w2
  obtain ⟨hr3, hl3, hm3, hi3⟩ := w3
  unfold maxLen at hm1 hm2 hm3
  have HK := hide (fun W => known_in W)
  clear h0
  have HCl := fun (g1 : l1 ≤ 40) (g2 : l2 ≤ 40) => closed_in w a1 a2 l1 l2 c1 c2 ss ks hr1 hr2 hl1 hl2 hi1 hi2 g1 g2
  replace HCl := hide HCl
  have H3 := hide hr3
  have L3 := hide hl3
  clear hr1 hl1 hi1 hr2 hl2 hi2 hr3 hl3 hi3
  go_enter Tryz.func7, Tryz.ntmps7
  by_cases g1 : 40 < l1
  · have g1' : (40 : Int) < (l1 : Int) := by omega
    go_wp2_with fail
    refine (unhide HK _).mono ?_
    rintro r W2 ⟨rfl, hb2⟩
    go_wp2
    go_ret
    exact ⟨rfl, hb2⟩
  have g1' : ¬ (40 : Int) < (l1 : Int) := by omega
  by_cases g2 : 40 < l2
  · have g2' : (40 : Int) < (l2 : Int) := by omega
    go_wp2_with fail
    refine (unhide HK _).mono ?_
    rintro r W2 ⟨rfl, hb2⟩
    go_wp2
    go_ret
    exact ⟨rfl, hb2⟩
  have g2' : ¬ (40 : Int) < (l2 : Int) := by omega
  by_cases g3 : 200 < l3
  · have g3' : (200 : Int) < (l3 : Int) := by omega
    go_wp2_with fail
    refine (unhide HK _).mono ?_
    rintro r W2 ⟨rfl, hb2⟩
    go_wp2
    go_ret
    exact ⟨rfl, hb2⟩
  have g3' : ¬ (200 : Int) < (l3 : Int) := by omega
  by_cases g4 : hold < 0
  · go_wp2_with fail
    refine (unhide HK _).mono ?_
    rintro r W2 ⟨rfl, hb2⟩
    go_wp2
    go_ret
    exact ⟨rfl, hb2⟩
  by_cases g5 : 256 < hold
  · go_wp2_with fail
    refine (unhide HK _).mono ?_
    rintro r W2 ⟨rfl, hb2⟩
    go_wp2
    go_ret
    exact ⟨rfl, hb2⟩
  have HCc := hide (unhide HCl (by omega) (by omega))
  clear HCl
  go_wp2_with fail
  refine (unhide HCc).mono ?_
  rintro e W1 ⟨lv, rfl, hcl⟩
  obtain ⟨ops, b, f, hcm, hno, hhf⟩ := hcl
  obtain ⟨al, cl, rfl⟩ := owns_form hcm.row
  obtain ⟨no, hno'⟩ : ∃ no, ops.length = no := ⟨_, rfl⟩
  have hone : ∀ u ∈ flat encO ops, u.oneCell' = true := fun u hu => by
    obtain ⟨e, he, hu⟩ := flat_mem hu
    exact (hcm.ent e he).one u hu
  obtain ⟨ov, W2, hr, hown, hgr⟩ := app_nil 47 42 11 128 _ Tryz.underlying47 infoO rfl (by decide) W1 w.heap.size 47 (.slice al ops.length cl) ops.length (flat encO ops) (RC.of_owns hcm.row) (flat_len encO_len ops) hone hcm.bel.size (by unfold maxLen; omega) (by omega)
  have kk := Kp.of_grown (N := fun _ => False) hgr (fun k hk => (by cases hk))
  have hO : OM w W2 ov ops := ⟨kk.below hcm.bel (fun i e => e.elim), hown, fun e he => (hcm.ent e he).kp kk (fun i e => e.elim)⟩
  obtain ⟨ao, co, rfl⟩ := owns_form hown
  rw [hno'] at hr hO
  rw [hno']
  have Hr := hide hr
  have HO := hide hO
  have HH := hide hhf
  have Hno := hide hno'
  have hn40 : no ≤ 40 := by omega
  clear HCc hcm hno hhf hone hr hown hgr kk hO hno'
  go_wp2_with (at_builtin; refine wpList_append_eq rfl _ _ 47 rfl _ _ _ _ rfl rfl (unhide Hr) ?_; clear Hr)
  go_loopw [11] (fun iv wr => ∃ (i : Nat) (m : List (Opn × Value × Value)), iv = .int .i64 (i : Nat) ∧ i ≤ l3 ∧ Hid (OM w wr (.slice ao no co) m) ∧ Hid (m.length = no ∧ ∀ z, z ∈ m ↔ z ∈ ops)) (fun iv _ => l3 - (RowKit.intOf iv).toNat)
  case atStart => exact ⟨0, ops, rfl, by omega, HO, hide ⟨unhide Hno, fun z => Iff.rfl⟩⟩
  case round =>
    obtain ⟨i, m, rfl, hi, HM, Hm⟩ := hrel
    clear HO
    by_cases hlt : i < l3 ∧ 0 < no
    rotate_left
    · go_upto_region 7 with fail
      go_cut [62] from 54 to 62 (fun v wx => v = .bool false ∧ wx = wr)
      case first =>
        by_cases hA : i < l3
        · have hA' : (i : Int) < (l3 : Int) := by omega
          have hB' : ¬ (0 : Int) < (no : Int) := by omega
          clear hlt
          go_wp2
          go_meet
          case rel => exact ⟨by first | rfl | (simp; omega), rfl⟩
        · have hA' : ¬ (i : Int) < (l3 : Int) := by omega
          clear hlt
          go_wp2
          go_meet
          case rel => exact ⟨by first | rfl | (simp; omega), rfl⟩
      obtain ⟨rfl, rfl⟩ := hcut
      clear hlt hi H3 L3
      go_wp2
      go_loopw [14] (fun tv wr => ∃ t : Nat, tv = .int .i64 (t : Nat) ∧ t ≤ 2 ∧ Hid (OM w wr (.slice ao no co) m)) (fun tv _ => 2 - (RowKit.intOf tv).toNat)
      case atStart => exact ⟨0, rfl, by omega, HM⟩
      case round =>
        clear HM
        obtain ⟨t, rfl, ht, HM⟩ := hrel
        by_cases ht2 : t < 2
        rotate_left
        · have ht2' : ¬ (t : Int) < 2 := by omega
          go_wp2_with fail
          refine (unhide HK _).mono ?_
          rintro r W2 ⟨rfl, hb2⟩
          go_wp2
          go_ret
          exact ⟨rfl, bnext (unhide HM).bel hb2⟩
        have ht2' : (t : Int) < 2 := by omega
        obtain ⟨room, times, hrm, hrt⟩ : ∃ (room : Int) (times : Nat), (0 ≤ room ∧ room ≤ 256) ∧ ((t = 0 ∧ room = hold ∧ times = no + 1) ∨ (t = 1 ∧ room = (no : Int) ∧ times = 1)) := by
          by_cases h : t = 0
          · exact ⟨hold, no + 1, ⟨by omega, by omega⟩, .inl ⟨h, rfl, rfl⟩⟩
          · exact ⟨(no : Int), 1, ⟨by omega, by omega⟩, .inr ⟨by omega, rfl, rfl⟩⟩
        obtain ⟨V0, rfl⟩ : ∃ V0, V0 = wr := ⟨_, rfl⟩
        have HN := hide (New_in room (.slice none 0 0) [] V0 (RC.nil _ _ _) (by simp))
        have HLn : Hid ((ops.map Prod.fst).length = no) := hide (by rw [List.length_map]; exact unhide Hno)
        have HMn : Hid ((m.map Prod.fst).length = no) := hide (by rw [List.length_map]; exact (unhide Hm).1)
        have HCl := hide (unhide HH).cl
        have Hrt := hide hrt
        have htm : times ≤ 41 := by rcases hrt with ⟨_, _, h⟩ | ⟨_, _, h⟩ <;> omega
        go_upto_if 108 with fail
        go_cut [15, 16] from 107 to 110 (fun a c wx => a = .int .i64 room ∧ c = .int .i64 (times : Nat) ∧ V0 = wx)
        case first =>
          rcases hrt with ⟨rfl, rfl, rfl⟩ | ⟨rfl, rfl, rfl⟩
          · go_wp2
            go_meet
            case rel => exact ⟨rfl, by first | rfl | (simp; omega) | go_num, rfl⟩
          · go_wp2
            go_meet
            case rel => exact ⟨rfl, rfl, rfl⟩
        obtain ⟨rfl, rfl, rfl⟩ := hcut
        clear hrt
        go_wp2_with fail
        refine (unhide HN).mono ?_
        rintro e W3 ⟨b3, ⟨b, vh, hh0, hh1, hck, rfl, hq⟩ | ⟨c, hc, rfl⟩⟩
        rotate_left
        · exfalso
          rcases hc with ⟨h, _⟩ | ⟨_, _, h1, h2⟩
          · exact h hrm
          · exact h2 (by rw [← h1]; rfl)
        have HC0 := hide (CK.new ⟨vh, hq⟩ b3)
        have HR0 := hide (RndK.start (ops.map Prod.fst) (m.map Prod.fst) hrm.1)
        clear HN hq hck b3 hh0 hh1
        go_wp2
        go_loopw [19] (fun kv wq => ∃ (k : Nat) (hv : List (Int × Int)) (ws rd : List Opn), kv = .int .i64 (k : Nat) ∧ k ≤ times ∧ Hid (CK V0 (.slice none 0 0) [] b room hv ws rd wq) ∧ Hid (RndK (ops.map Prod.fst) (m.map Prod.fst) room k hv ws rd)) (fun kv _ => times - (RowKit.intOf kv).toNat)
        case atStart => exact ⟨0, [], [], [], rfl, by omega, HC0, HR0⟩
        case round =>
          clear HC0 HR0
          obtain ⟨k, hv, ws, rd, rfl, hk, HC, HR⟩ := hrel
          by_cases hkt : k < times
          · have hkt' : (k : Int) < (times : Int) := by omega
            have HR1 := hide (unhide HR).r
            clear HR
            go_wp2
            go_loopw [20] (fun iv wq => ∃ (i : Nat) (hv : List (Int × Int)) (ws rd : List Opn), iv = .int .i64 (i : Nat) ∧ i ≤ no ∧ Hid (CK V0 (.slice none 0 0) [] b room hv ws rd wq) ∧ Hid (Rnd (ops.map Prod.fst) (m.map Prod.fst) room k i hv ws rd)) (fun iv _ => no - (RowKit.intOf iv).toNat)
            case atStart => exact ⟨0, hv, ws, rd, rfl, by omega, HC, HR1⟩
            case round =>
              clear HC HR1
              obtain ⟨i, hv, ws, rd, rfl, hi, HC, HR⟩ := hrel
              by_cases hin : i < no
              · have hin' : (i : Int) < (no : Int) := by omega
                obtain ⟨⟨o, vd, vg⟩, hx⟩ : ∃ e, m[i]? = some e := ⟨_, List.getElem?_eq_getElem (by rw [(unhide Hm).1]; exact hin)⟩
                have hM := (unhide HM).below (unhide HC).bel
                have hoe := hM.ent _ (List.mem_of_getElem? hx)
                have hrw := hM.row
                rw [(unhide Hm).1] at hrw
                obtain ⟨g, rfl, hgl, hcc⟩ := own_at11c hrw (unhide Hm).1 hx
                obtain ⟨ad, cd, e1⟩ := OwD.form hoe.d
                obtain ⟨ag, cg, e2⟩ := OwR.form hoe.g
                simp only at e1 e2
                subst e1
                subst e2
                have hci := (unhide HR).ci
                have hrl := hci.rlen (unhide HCl)
                rw [unhide HLn] at hrl
                have hwl := hci.len
                have HOf := hide ((unhide HC).offB hrm o _ _ (OwD.row hoe.d) (RC.of_owns hoe.g) hoe.s1 hoe.s2 hoe.s3 hoe.inn (by omega))
                have hmx : (m.map Prod.fst)[i]? = some o := by rw [List.getElem?_map, hx]; rfl
                have hol : o ∈ ops.map Prod.fst := List.mem_map.2 ⟨_, ((unhide Hm).2 _).1 (List.mem_of_getElem? hx), rfl⟩
                obtain ⟨r, hv', ws', rd', hA, hR1⟩ := (unhide HR).off (unhide HCl) hmx hol
                rw [hA] at HOf
                simp only at HOf
                unfold opA at HOf
                have HR1 := hide hR1
                have q0 := hcc 0 _ rfl
                have q1 := hcc 1 _ rfl
                have q2 := hcc 2 _ rfl
                have q3 := hcc 3 _ rfl
                have q4 := hcc 4 _ rfl
                have q5 := hcc 5 _ rfl
                have q6 := hcc 6 _ rfl
                have q7 := hcc 7 _ rfl
                have q8 := hcc 8 _ rfl
                have q9 := hcc 9 _ rfl
                have q10 := hcc 10 _ rfl
                simp only [Nat.add_zero] at q0
                clear hx hM hoe hrw hcc hci hrl hwl hmx hol hA hR1 HR
                go_wp2_with fail
                refine (unhide HOf).mono ?_
                rintro e X1 ⟨rfl, hc1⟩
                have HC1 := hide hc1
                clear HOf hc1 HC q0 q1 q2 q3 q4 q5 q6 q7 q8 q9 q10
                go_wp2
                go_roundw
                case rel => exact ⟨i + 1, hv', ws', rd', by go_num, by omega, HC1, HR1⟩
                case measure => show no - ((i : Int) + 1).toNat < no - ((i : Nat) : Int).toNat; omega
              · have hin' : ¬ (i : Int) < (no : Int) := by omega
                obtain rfl : i = no := by omega
                have hR := unhide HR
                rw [show Rnd (ops.map Prod.fst) (m.map Prod.fst) room k i hv ws rd = Rnd (ops.map Prod.fst) (m.map Prod.fst) room k (m.map Prod.fst).length hv ws rd by rw [unhide HMn]] at hR
                have HR2 := hide (RndK.next (unhide HCl) (fun o ho => by obtain ⟨z, hz, rfl⟩ := List.mem_map.1 ho; exact List.mem_map.2 ⟨z, ((unhide Hm).2 z).2 hz, rfl⟩) hR)
                clear hR HR
                go_wp2
                go_roundw
                case rel => exact ⟨k + 1, hv, ws, rd, by go_num, by omega, HC, HR2⟩
                case measure => show times - ((k : Int) + 1).toNat < times - ((k : Nat) : Int).toNat; omega
          · have hkt' : ¬ (k : Int) < (times : Int) := by omega
            obtain ⟨rfl, hrl, hsm⟩ := (unhide HR).fin (unhide HCl) (by
              rw [unhide HLn]
              rcases unhide Hrt with ⟨_, _, h⟩ | ⟨_, h, h'⟩
              · left; omega
              · right; exact ⟨by omega, by omega⟩)
            rw [unhide HLn] at hrl hsm
            have Hkd : Hid (∀ x ∈ rd, x.kind = 3) := hide (fun x hx => (unhide HH).kd x ((unhide HR).r.ci.rl x hx))
            have Hsm := hide hsm
            clear HR hsm hkt hk Hrt
            go_wp2
            clear hkt'
            go_loopw [23] (fun nv wq => ∃ (n : Nat) (rk : List Opn), nv = .int .i64 (n : Nat) ∧ Hid (n + rk.length = no) ∧ Hid (∀ x ∈ rk, x.kind = 3) ∧ Hid (CK V0 (.slice none 0 0) [] b room hv [] rk wq)) (fun nv _ => no - (RowKit.intOf nv).toNat)
            case atStart => exact ⟨0, rd, rfl, hide (by omega), Hkd, HC⟩
            case round =>
              clear HC Hkd hrl
              obtain ⟨n, rk, rfl, Hnr, Hkd, HC⟩ := hrel
              cases rk with
              | cons y rk =>
                have hnr := unhide Hnr
                rw [List.length_cons] at hnr
                have hnl : (n : Int) < (no : Int) := by omega
                have hnl2 : ¬ (no : Int) ≤ (n : Int) := by omega
                have HT := hide ((unhide HC).takeS (by omega))
                have hy3 := unhide Hkd y List.mem_cons_self
                have Hkd2 : Hid (∀ x ∈ rk, x.kind = 3) := hide (fun x hx => unhide Hkd x (List.mem_cons_of_mem _ hx))
                have Hn2 : Hid (n + 1 + rk.length = no) := hide (by omega)
                have hnn : n + 1 ≤ no := by omega
                rw [hy3] at HT
                clear hnr Hnr Hkd HC hy3
                go_wp2_with fail
                refine (unhide HT).mono ?_
                rintro e X2 ⟨ad, cd, ag, cg, rfl, ry, hyl, hyin, hc2⟩
                obtain ⟨V, hV⟩ : ∃ V, X2.alloc (.cells #[.int .i64 y.ds, .int .i64 y.dq, .slice ad y.deps.length cd, .int .i64 3, .int .i64 y.it, .int .i64 y.is, .int .i64 y.rt, .int .i64 y.rs, .string y.text, .slice ag y.gone.length cg, .int .i64 y.site] 42) = V := ⟨_, rfl⟩
                have bV : Below X2.heap.size X2 V := by rw [← hV]; exact ballc (Below.refl _ _) _
                have BV : Bx V X2.heap.size 42 #[.int .i64 y.ds, .int .i64 y.dq, .slice ad y.deps.length cd, .int .i64 3, .int .i64 y.it, .int .i64 y.is, .int .i64 y.rt, .int .i64 y.rs, .string y.text, .slice ag y.gone.length cg, .int .i64 y.site] := by rw [← hV]; exact Bx.new _ _ _
                have e3 : V.cell? ⟨X2.heap.size, 3, none⟩ = some (.int .i64 3) := BV.cell 3 _ rfl
                have HC2 := hide (hc2.below bV)
                clear HT ry hyl hyin hc2 bV BV
                go_wp2
                go_roundw
                case rel => exact ⟨n + 1, rk, by go_num, Hn2, Hkd2, HC2⟩
                case measure => show no - ((n : Int) + 1).toNat < no - ((n : Nat) : Int).toNat; omega
              | nil =>
                obtain rfl : n = no := by have := unhide Hnr; simpa using this
                have HT := hide (unhide HC).takeN
                unfold zeroA at HT
                clear Hnr Hkd HC
                go_wp2_with fail
                refine (unhide HT).mono ?_
                rintro e X2 ⟨rfl, hc2⟩
                clear HT
                go_wp2_with fail
                obtain ⟨V, hV⟩ : ∃ V, X2.alloc (.cells #[.int .i64 0, .int .i64 0, .slice none 0 0, .int .i64 0, .int .i64 0, .int .i64 0, .int .i64 0, .int .i64 0, .string ⟨#[]⟩, .slice none 0 0, .int .i64 0] 42) = V := ⟨_, rfl⟩
                have bV : Below X2.heap.size X2 V := by rw [← hV]; exact ballc (Below.refl _ _) _
                have HCV := hide (hc2.below bV)
                have HVe := hide (unhide HCV).vec
                rw [hV]
                clear hc2 bV
                refine (unhide HVe).mono ?_
                rintro e X3 ⟨a4, c4, rfl, r4, h4, b4⟩
                have HS := hide (refSum_in _ hv X3 r4 (by omega))
                rw [unhide Hsm] at HS
                have HC3 := hide ((unhide HCV).below b4)
                clear HVe r4 h4 b4 HCV hV
                go_wp2_with fail
                refine (unhide HS).mono ?_
                rintro e X4 ⟨rfl, b5⟩
                have HC4 := hide ((unhide HC3).below b5)
                have HW := hide ((unhide HC4).waits (by simp))
                clear HS HC3 b5
                go_wp2_with fail
                refine (unhide HW).mono ?_
                rintro e X5 ⟨a6, c6, rfl, r6, b6⟩
                have HM5 := hide ((unhide HM).below ((unhide HC4).below b6).bel)
                clear HW r6 b6 HC4
                go_wp2
                go_roundw
                case rel => exact ⟨t + 1, by go_num, by omega, HM5⟩
                case measure => show 2 - ((t : Int) + 1).toNat < 2 - ((t : Nat) : Int).toNat; omega
    obtain ⟨hlt1, hno0⟩ := hlt
    have hlt' : (i : Int) < (l3 : Int) := by omega
    have hno1 : (0 : Int) < (no : Int) := by omega
    have hno2 : ¬ (no : Int) = 0 := by omega
    have hno3 : ¬ no = 0 := by omega
    obtain ⟨t, ht⟩ : ∃ t, ts[i]? = some t := ⟨_, List.getElem?_eq_getElem (by rw [unhide L3]; exact hlt1)⟩
    obtain ⟨g3, off3, rfl, hg3, q0⟩ := RN.at (RN.below (unhide H3) (unhide HM).bel) ht
    have hr1 := Int.tmod_lt_of_pos t hno1
    have hr2 := Int.lt_tmod_of_pos t hno1
    obtain ⟨r, hr⟩ : ∃ r, t.tmod (no : Int) = r := ⟨_, rfl⟩
    rw [hr] at hr1 hr2
    obtain ⟨j, hj⟩ : ∃ j : Nat, j = i % no := ⟨_, rfl⟩
    have hj1 : j < no := by rw [hj]; exact Nat.mod_lt _ hno0
    have hj2 : (i : Int).tmod (no : Int) = (j : Int) := by rw [Int.tmod_eq_emod_of_nonneg (by omega), hj]; omega
    have hj3 : (i : Int) % (no : Int) = (j : Int) := by rw [hj]; omega
    have hj4 : (j : Int) < (no : Int) := by omega
    have hj5 : (0 : Int) ≤ (j : Int) := Int.natCast_nonneg _
    clear ht hj
    by_cases hr0 : r < 0
    · obtain ⟨k, hk⟩ : ∃ k : Nat, r + (no : Int) = (k : Int) := ⟨(r + no).toNat, by omega⟩
      have hk4 : (k : Int) < (no : Int) := by omega
      have hk5 : (0 : Int) ≤ (k : Int) := Int.natCast_nonneg _
      have hkw : IntKind.i64.wrap (k : Int) = (k : Int) := by simp only [IntKind.wrap_i64]; omega
      obtain ⟨⟨x, vdx, vgx⟩, hxj⟩ : ∃ e, m[j]? = some e := ⟨_, List.getElem?_eq_getElem (by rw [(unhide Hm).1]; omega)⟩
      obtain ⟨⟨y, vdy, vgy⟩, hyk⟩ : ∃ e, m[k]? = some e := ⟨_, List.getElem?_eq_getElem (by rw [(unhide Hm).1]; omega)⟩
      have hox := (unhide HM).ent _ (List.mem_of_getElem? hxj)
      have hoy := (unhide HM).ent _ (List.mem_of_getElem? hyk)
      obtain ⟨adx, cdx, e1⟩ := OwD.form hox.d
      obtain ⟨agx, cgx, e2⟩ := OwR.form hox.g
      obtain ⟨ady, cdy, e3⟩ := OwD.form hoy.d
      obtain ⟨agy, cgy, e4⟩ := OwR.form hoy.g
      simp only at e1 e2 e3 e4
      subst e1
      subst e2
      subst e3
      subst e4
      have hrw := (unhide HM).row
      rw [(unhide Hm).1] at hrw
      obtain ⟨g, rfl, hgl, hcj⟩ := own_at11c hrw (unhide Hm).1 hxj
      obtain ⟨Y1, hY1⟩ : ∃ Y, wr.alloc (.cells #[.int .i64 x.ds, .int .i64 x.dq, .slice adx x.deps.length cdx, .int .i64 x.kind, .int .i64 x.it, .int .i64 x.is, .int .i64 x.rt, .int .i64 x.rs, .string x.text, .slice agx x.gone.length cgx, .int .i64 x.site] 42) = Y := ⟨_, rfl⟩
      have bY1 : Below wr.heap.size wr Y1 := by rw [← hY1]; exact ballc (Below.refl _ _) _
      have x1 : Bx Y1 wr.heap.size 42 #[.int .i64 x.ds, .int .i64 x.dq, .slice adx x.deps.length cdx, .int .i64 x.kind, .int .i64 x.it, .int .i64 x.is, .int .i64 x.rt, .int .i64 x.rs, .string x.text, .slice agx x.gone.length cgx, .int .i64 x.site] := by rw [← hY1]; exact Bx.new wr _ _
      have M1 := (unhide HM).below bY1
      have r1 := M1.row
      rw [(unhide Hm).1] at r1
      obtain ⟨g', eg, hgl1, hcj1⟩ := own_at11c r1 (unhide Hm).1 hxj
      obtain rfl : g = g' := by simpa using eg
      obtain ⟨g', eg, _, hck1⟩ := own_at11c r1 (unhide Hm).1 hyk
      obtain rfl : g = g' := by simpa using eg
      have hgne : ¬ wr.heap.size = g := by omega
      have M2 := M1.put (k := j) (unhide Hm).1 (by omega) (hoy.below bY1)
      obtain ⟨Y2, hY2⟩ : ∃ Y, putW Y1 g (j * 11) (y, Value.slice ady y.deps.length cdy, Value.slice agy y.gone.length cgy) = Y := ⟨_, rfl⟩
      have k2 : Kp (fun i => i = g) Y1 Y2 := by rw [← hY2]; exact Kp.setp11 _ _ _ _
      rw [hY2] at M2
      have x2 := x1.kp k2 (by omega)
      have hl2 : (m.set j (y, Value.slice ady y.deps.length cdy, Value.slice agy y.gone.length cgy)).length = no := by rw [List.length_set]; exact (unhide Hm).1
      have r2 := M2.row
      rw [hl2] at r2
      obtain ⟨e5, he5⟩ : ∃ e, (m.set j (y, Value.slice ady y.deps.length cdy, Value.slice agy y.gone.length cgy))[k]? = some e := ⟨_, List.getElem?_eq_getElem (by rw [hl2]; omega)⟩
      obtain ⟨g', eg, hgl2, hck2⟩ := own_at11c r2 hl2 he5
      obtain rfl : g = g' := by simpa using eg
      have ox2 : OE (fun i => w.heap.size ≤ i) Y2 (x, Value.slice adx x.deps.length cdx, Value.slice agx x.gone.length cgx) := by
        have q := hox.below bY1
        obtain ⟨_, (⟨e, _⟩ | ⟨g', cap, cur, e', hb, hg', _⟩)⟩ := r1
        · cases e
        simp at e'
        obtain ⟨rfl, _⟩ := e'
        have hx : Bx Y1 g 42 cur := hg'
        exact ⟨owns_kp q.d k2 (fun i hi e => own_ne_box q.d hx (by decide) (by rw [hi, e])), owns_kp q.g k2 (fun i hi e => own_ne_box q.g hx (by decide) (by rw [hi, e])), q.pd, q.pg, q.s1, q.s2, q.s3, q.inn⟩
      have hfz1 : ∀ o, Y1.frozen? ⟨g, o, none⟩ = false := by
        obtain ⟨_, (⟨e, _⟩ | ⟨g', cap, cur, e', hb, hg', _⟩)⟩ := r1
        · cases e
        simp at e'
        obtain ⟨rfl, _⟩ := e'
        exact fun o => Bx.frozen (show Bx Y1 g 42 cur from hg') o
      have hfz2 : ∀ o, Y2.frozen? ⟨g, o, none⟩ = false := by
        obtain ⟨_, (⟨e, _⟩ | ⟨g', cap, cur, e', hb, hg', _⟩)⟩ := r2
        · cases e
        simp at e'
        obtain ⟨rfl, _⟩ := e'
        exact fun o => Bx.frozen (show Bx Y2 g 42 cur from hg') o
      have M3 := M2.put (k := k) hl2 (by omega) ox2
      obtain ⟨Y3, hY3⟩ : ∃ Y, putW Y2 g (k * 11) (x, Value.slice adx x.deps.length cdx, Value.slice agx x.gone.length cgx) = Y := ⟨_, rfl⟩
      rw [hY3] at M3
      unfold putW at hY3
      simp only at hY3
      have hsw := swap_memO hxj hyk
      have HM3 := hide M3
      have Hm3 : Hid (((m.set j (y, Value.slice ady y.deps.length cdy, Value.slice agy y.gone.length cgy)).set k (x, Value.slice adx x.deps.length cdx, Value.slice agx x.gone.length cgx)).length = no ∧ ∀ z, z ∈ (m.set j (y, Value.slice ady y.deps.length cdy, Value.slice agy y.gone.length cgy)).set k (x, Value.slice adx x.deps.length cdx, Value.slice agx x.gone.length cgx) ↔ z ∈ ops) := ⟨by rw [List.length_set]; exact hl2, fun z => (hsw z).trans ((unhide Hm).2 z)⟩
      have a0 := hcj 0 _ rfl
      have b0 := hcj1 0 _ rfl
      have d0 := hck1 0 _ rfl
      have a1 := hcj 1 _ rfl
      have b1 := hcj1 1 _ rfl
      have d1 := hck1 1 _ rfl
      have a2 := hcj 2 _ rfl
      have b2 := hcj1 2 _ rfl
      have d2 := hck1 2 _ rfl
      have a3 := hcj 3 _ rfl
      have b3 := hcj1 3 _ rfl
      have d3 := hck1 3 _ rfl
      have a4 := hcj 4 _ rfl
      have b4 := hcj1 4 _ rfl
      have d4 := hck1 4 _ rfl
      have a5 := hcj 5 _ rfl
      have b5 := hcj1 5 _ rfl
      have d5 := hck1 5 _ rfl
      have a6 := hcj 6 _ rfl
      have b6 := hcj1 6 _ rfl
      have d6 := hck1 6 _ rfl
      have a7 := hcj 7 _ rfl
      have b7 := hcj1 7 _ rfl
      have d7 := hck1 7 _ rfl
      have a8 := hcj 8 _ rfl
      have b8 := hcj1 8 _ rfl
      have d8 := hck1 8 _ rfl
      have a9 := hcj 9 _ rfl
      have b9 := hcj1 9 _ rfl
      have d9 := hck1 9 _ rfl
      have a10 := hcj 10 _ rfl
      have b10 := hcj1 10 _ rfl
      have d10 := hck1 10 _ rfl
      simp only [Nat.add_zero] at a0 b0 d0
      have z0 := x2.cell 0 _ rfl
      have u0 := hck2 0 _ rfl
      have z1 := x2.cell 1 _ rfl
      have u1 := hck2 1 _ rfl
      have z2 := x2.cell 2 _ rfl
      have u2 := hck2 2 _ rfl
      have z3 := x2.cell 3 _ rfl
      have u3 := hck2 3 _ rfl
      have z4 := x2.cell 4 _ rfl
      have u4 := hck2 4 _ rfl
      have z5 := x2.cell 5 _ rfl
      have u5 := hck2 5 _ rfl
      have z6 := x2.cell 6 _ rfl
      have u6 := hck2 6 _ rfl
      have z7 := x2.cell 7 _ rfl
      have u7 := hck2 7 _ rfl
      have z8 := x2.cell 8 _ rfl
      have u8 := hck2 8 _ rfl
      have z9 := x2.cell 9 _ rfl
      have u9 := hck2 9 _ rfl
      have z10 := x2.cell 10 _ rfl
      have u10 := hck2 10 _ rfl
      simp only [Nat.add_zero] at u0
      have f0 := hfz1 (j * 11)
      have v0 := hfz2 (k * 11)
      have f1 := hfz1 (j * 11 + 1)
      have v1 := hfz2 (k * 11 + 1)
      have f2 := hfz1 (j * 11 + 2)
      have v2 := hfz2 (k * 11 + 2)
      have f3 := hfz1 (j * 11 + 3)
      have v3 := hfz2 (k * 11 + 3)
      have f4 := hfz1 (j * 11 + 4)
      have v4 := hfz2 (k * 11 + 4)
      have f5 := hfz1 (j * 11 + 5)
      have v5 := hfz2 (k * 11 + 5)
      have f6 := hfz1 (j * 11 + 6)
      have v6 := hfz2 (k * 11 + 6)
      have f7 := hfz1 (j * 11 + 7)
      have v7 := hfz2 (k * 11 + 7)
      have f8 := hfz1 (j * 11 + 8)
      have v8 := hfz2 (k * 11 + 8)
      have f9 := hfz1 (j * 11 + 9)
      have v9 := hfz2 (k * 11 + 9)
      have f10 := hfz1 (j * 11 + 10)
      have v10 := hfz2 (k * 11 + 10)
      unfold putW at hY2
      simp only at hY2
      clear hxj hyk hox hoy hrw hcj bY1 x1 M1 r1 hcj1 hck1 M2 k2 r2 he5 hck2 ox2 M3 hsw hl2 HM Hm eg hfz1 hfz2
      go_upto_region 13 with fail
      clear hY1 a0 a1 a2 a3 a4 a5 a6 a7 a8 a9 a10
      go_region
      clear hY2 b0 b1 b2 b3 b4 b5 b6 b7 b8 b9 b10 d0 d1 d2 d3 d4 d5 d6 d7 d8 d9 d10 f0 f1 f2 f3 f4 f5 f6 f7 f8 f9 f10
      go_wp2
      go_roundw
      case rel => exact ⟨i + 1, _, by go_num, by omega, hide ((unhide HM3).below (bdrew (Below.refl _ _) 1)), Hm3⟩
      case measure => show l3 - ((i : Int) + 1).toNat < l3 - ((i : Nat) : Int).toNat; omega
    · obtain ⟨k, rfl⟩ : ∃ k : Nat, r = (k : Int) := ⟨r.toNat, by omega⟩
      have hk4 : (k : Int) < (no : Int) := by omega
      have hk5 : (0 : Int) ≤ (k : Int) := Int.natCast_nonneg _
      obtain ⟨⟨x, vdx, vgx⟩, hxj⟩ : ∃ e, m[j]? = some e := ⟨_, List.getElem?_eq_getElem (by rw [(unhide Hm).1]; omega)⟩
      obtain ⟨⟨y, vdy, vgy⟩, hyk⟩ : ∃ e, m[k]? = some e := ⟨_, List.getElem?_eq_getElem (by rw [(unhide Hm).1]; omega)⟩
      have hox := (unhide HM).ent _ (List.mem_of_getElem? hxj)
      have hoy := (unhide HM).ent _ (List.mem_of_getElem? hyk)
      obtain ⟨adx, cdx, e1⟩ := OwD.form hox.d
      obtain ⟨agx, cgx, e2⟩ := OwR.form hox.g
      obtain ⟨ady, cdy, e3⟩ := OwD.form hoy.d
      obtain ⟨agy, cgy, e4⟩ := OwR.form hoy.g
      simp only at e1 e2 e3 e4
      subst e1
      subst e2
      subst e3
      subst e4
      have hrw := (unhide HM).row
      rw [(unhide Hm).1] at hrw
      obtain ⟨g, rfl, hgl, hcj⟩ := own_at11c hrw (unhide Hm).1 hxj
      obtain ⟨Y1, hY1⟩ : ∃ Y, wr.alloc (.cells #[.int .i64 x.ds, .int .i64 x.dq, .slice adx x.deps.length cdx, .int .i64 x.kind, .int .i64 x.it, .int .i64 x.is, .int .i64 x.rt, .int .i64 x.rs, .string x.text, .slice agx x.gone.length cgx, .int .i64 x.site] 42) = Y := ⟨_, rfl⟩
      have bY1 : Below wr.heap.size wr Y1 := by rw [← hY1]; exact ballc (Below.refl _ _) _
      have x1 : Bx Y1 wr.heap.size 42 #[.int .i64 x.ds, .int .i64 x.dq, .slice adx x.deps.length cdx, .int .i64 x.kind, .int .i64 x.it, .int .i64 x.is, .int .i64 x.rt, .int .i64 x.rs, .string x.text, .slice agx x.gone.length cgx, .int .i64 x.site] := by rw [← hY1]; exact Bx.new wr _ _
      have M1 := (unhide HM).below bY1
      have r1 := M1.row
      rw [(unhide Hm).1] at r1
      obtain ⟨g', eg, hgl1, hcj1⟩ := own_at11c r1 (unhide Hm).1 hxj
      obtain rfl : g = g' := by simpa using eg
      obtain ⟨g', eg, _, hck1⟩ := own_at11c r1 (unhide Hm).1 hyk
      obtain rfl : g = g' := by simpa using eg
      have hgne : ¬ wr.heap.size = g := by omega
      have M2 := M1.put (k := j) (unhide Hm).1 (by omega) (hoy.below bY1)
      obtain ⟨Y2, hY2⟩ : ∃ Y, putW Y1 g (j * 11) (y, Value.slice ady y.deps.length cdy, Value.slice agy y.gone.length cgy) = Y := ⟨_, rfl⟩
      have k2 : Kp (fun i => i = g) Y1 Y2 := by rw [← hY2]; exact Kp.setp11 _ _ _ _
      rw [hY2] at M2
      have x2 := x1.kp k2 (by omega)
      have hl2 : (m.set j (y, Value.slice ady y.deps.length cdy, Value.slice agy y.gone.length cgy)).length = no := by rw [List.length_set]; exact (unhide Hm).1
      have r2 := M2.row
      rw [hl2] at r2
      obtain ⟨e5, he5⟩ : ∃ e, (m.set j (y, Value.slice ady y.deps.length cdy, Value.slice agy y.gone.length cgy))[k]? = some e := ⟨_, List.getElem?_eq_getElem (by rw [hl2]; omega)⟩
      obtain ⟨g', eg, hgl2, hck2⟩ := own_at11c r2 hl2 he5
      obtain rfl : g = g' := by simpa using eg
      have ox2 : OE (fun i => w.heap.size ≤ i) Y2 (x, Value.slice adx x.deps.length cdx, Value.slice agx x.gone.length cgx) := by
        have q := hox.below bY1
        obtain ⟨_, (⟨e, _⟩ | ⟨g', cap, cur, e', hb, hg', _⟩)⟩ := r1
        · cases e
        simp at e'
        obtain ⟨rfl, _⟩ := e'
        have hx : Bx Y1 g 42 cur := hg'
        exact ⟨owns_kp q.d k2 (fun i hi e => own_ne_box q.d hx (by decide) (by rw [hi, e])), owns_kp q.g k2 (fun i hi e => own_ne_box q.g hx (by decide) (by rw [hi, e])), q.pd, q.pg, q.s1, q.s2, q.s3, q.inn⟩
      have hfz1 : ∀ o, Y1.frozen? ⟨g, o, none⟩ = false := by
        obtain ⟨_, (⟨e, _⟩ | ⟨g', cap, cur, e', hb, hg', _⟩)⟩ := r1
        · cases e
        simp at e'
        obtain ⟨rfl, _⟩ := e'
        exact fun o => Bx.frozen (show Bx Y1 g 42 cur from hg') o
      have hfz2 : ∀ o, Y2.frozen? ⟨g, o, none⟩ = false := by
        obtain ⟨_, (⟨e, _⟩ | ⟨g', cap, cur, e', hb, hg', _⟩)⟩ := r2
        · cases e
        simp at e'
        obtain ⟨rfl, _⟩ := e'
        exact fun o => Bx.frozen (show Bx Y2 g 42 cur from hg') o
      have M3 := M2.put (k := k) hl2 (by omega) ox2
      obtain ⟨Y3, hY3⟩ : ∃ Y, putW Y2 g (k * 11) (x, Value.slice adx x.deps.length cdx, Value.slice agx x.gone.length cgx) = Y := ⟨_, rfl⟩
      rw [hY3] at M3
      unfold putW at hY3
      simp only at hY3
      have hsw := swap_memO hxj hyk
      have HM3 := hide M3
      have Hm3 : Hid (((m.set j (y, Value.slice ady y.deps.length cdy, Value.slice agy y.gone.length cgy)).set k (x, Value.slice adx x.deps.length cdx, Value.slice agx x.gone.length cgx)).length = no ∧ ∀ z, z ∈ (m.set j (y, Value.slice ady y.deps.length cdy, Value.slice agy y.gone.length cgy)).set k (x, Value.slice adx x.deps.length cdx, Value.slice agx x.gone.length cgx) ↔ z ∈ ops) := ⟨by rw [List.length_set]; exact hl2, fun z => (hsw z).trans ((unhide Hm).2 z)⟩
      have a0 := hcj 0 _ rfl
      have b0 := hcj1 0 _ rfl
      have d0 := hck1 0 _ rfl
      have a1 := hcj 1 _ rfl
      have b1 := hcj1 1 _ rfl
      have d1 := hck1 1 _ rfl
      have a2 := hcj 2 _ rfl
      have b2 := hcj1 2 _ rfl
      have d2 := hck1 2 _ rfl
      have a3 := hcj 3 _ rfl
      have b3 := hcj1 3 _ rfl
      have d3 := hck1 3 _ rfl
      have a4 := hcj 4 _ rfl
      have b4 := hcj1 4 _ rfl
      have d4 := hck1 4 _ rfl
      have a5 := hcj 5 _ rfl
      have b5 := hcj1 5 _ rfl
      have d5 := hck1 5 _ rfl
      have a6 := hcj 6 _ rfl
      have b6 := hcj1 6 _ rfl
      have d6 := hck1 6 _ rfl
      have a7 := hcj 7 _ rfl
      have b7 := hcj1 7 _ rfl
      have d7 := hck1 7 _ rfl
      have a8 := hcj 8 _ rfl
      have b8 := hcj1 8 _ rfl
      have d8 := hck1 8 _ rfl
      have a9 := hcj 9 _ rfl
      have b9 := hcj1 9 _ rfl
      have d9 := hck1 9 _ rfl
      have a10 := hcj 10 _ rfl
      have b10 := hcj1 10 _ rfl
      have d10 := hck1 10 _ rfl
      simp only [Nat.add_zero] at a0 b0 d0
      have z0 := x2.cell 0 _ rfl
      have u0 := hck2 0 _ rfl
      have z1 := x2.cell 1 _ rfl
      have u1 := hck2 1 _ rfl
      have z2 := x2.cell 2 _ rfl
      have u2 := hck2 2 _ rfl
      have z3 := x2.cell 3 _ rfl
      have u3 := hck2 3 _ rfl
      have z4 := x2.cell 4 _ rfl
      have u4 := hck2 4 _ rfl
      have z5 := x2.cell 5 _ rfl
      have u5 := hck2 5 _ rfl
      have z6 := x2.cell 6 _ rfl
      have u6 := hck2 6 _ rfl
      have z7 := x2.cell 7 _ rfl
      have u7 := hck2 7 _ rfl
      have z8 := x2.cell 8 _ rfl
      have u8 := hck2 8 _ rfl
      have z9 := x2.cell 9 _ rfl
      have u9 := hck2 9 _ rfl
      have z10 := x2.cell 10 _ rfl
      have u10 := hck2 10 _ rfl
      simp only [Nat.add_zero] at u0
      have f0 := hfz1 (j * 11)
      have v0 := hfz2 (k * 11)
      have f1 := hfz1 (j * 11 + 1)
      have v1 := hfz2 (k * 11 + 1)
      have f2 := hfz1 (j * 11 + 2)
      have v2 := hfz2 (k * 11 + 2)
      have f3 := hfz1 (j * 11 + 3)
      have v3 := hfz2 (k * 11 + 3)
      have f4 := hfz1 (j * 11 + 4)
      have v4 := hfz2 (k * 11 + 4)
      have f5 := hfz1 (j * 11 + 5)
      have v5 := hfz2 (k * 11 + 5)
      have f6 := hfz1 (j * 11 + 6)
      have v6 := hfz2 (k * 11 + 6)
      have f7 := hfz1 (j * 11 + 7)
      have v7 := hfz2 (k * 11 + 7)
      have f8 := hfz1 (j * 11 + 8)
      have v8 := hfz2 (k * 11 + 8)
      have f9 := hfz1 (j * 11 + 9)
      have v9 := hfz2 (k * 11 + 9)
      have f10 := hfz1 (j * 11 + 10)
      have v10 := hfz2 (k * 11 + 10)
      unfold putW at hY2
      simp only at hY2
      clear hxj hyk hox hoy hrw hcj bY1 x1 M1 r1 hcj1 hck1 M2 k2 r2 he5 hck2 ox2 M3 hsw hl2 HM Hm eg hfz1 hfz2
      go_upto_region 13 with fail
      clear hY1 a0 a1 a2 a3 a4 a5 a6 a7 a8 a9 a10
      go_region
      clear hY2 b0 b1 b2 b3 b4 b5 b6 b7 b8 b9 b10 d0 d1 d2 d3 d4 d5 d6 d7 d8 d9 d10 f0 f1 f2 f3 f4 f5 f6 f7 f8 f9 f10
      go_wp2
      go_roundw
      case rel => exact ⟨i + 1, _, by go_num, by omega, hide ((unhide HM3).below (bdrew (Below.refl _ _) 1)), Hm3⟩
      case measure => show l3 - ((i : Int) + 1).toNat < l3 - ((i : Nat) : Int).toNat; omega

theorem own : ownKnob Tryz.prog.godebug = none := by kernel_rfl
theorem laidOut2 : laidOutB Tryz.prog = true := by kernel_rfl

set_option maxRecDepth 100000 in
theorem lifted (os : Os) (started : os.Started) (H : Type) (enc : TypeId × Value → H) :
    ReturnsInHanded {} Tryz.checked os 7 .any (Rows.causalAllSpec.pre6 enc Tryz.prog Tryz.f7 Rows.causalAllRow.domain false) (Rows.causalAllSpec.post enc Tryz.prog Tryz.f7 false true false false) := by
  refine returnsInHanded_of_change (C := Tryz.checked) own started (by kernel_rfl) Tryz.func7
    (ChangeSpec.witness6 (enc := enc) (C := Tryz.checked) false ⟨#[], #[.int .i64 0, .slice none 0 0, .slice none 0 0, .slice none 0 0], []⟩ 8 (by kernel_rfl) (by kernel_rfl) (by kernel_rfl) (by kernel_rfl)) ?_
  intro W base args ds gs before hval0 hW hcnd _
  have hval : ∀ (j : Nat) t v, Tryz.f7.params[j]? = some t → args[j]? = some v → Value.okWide Tryz.prog W .any base t v := hval0
  have hW' := hW
  obtain ⟨p, q, hA0, hV, rfl, hfz, hnd⟩ := hW
  have hA : DataW.TrodAll enc Tryz.prog W 0 (fun _ => true) true Tryz.f7.params.toList args.toList ds p := hA0
  rw [Tryz.params7] at hA hval
  obtain ⟨v0, vs0, d0, ds0, p0, q0, hargs, rfl, rfl, h0, r0⟩ := trodAll_cons hA
  obtain ⟨v1, vs1, d1, ds1, p1, q1, rfl, rfl, rfl, h1, r1⟩ := trodAll_cons r0
  obtain ⟨v2, vs2, d2, ds2, p2, q2, rfl, rfl, rfl, h2, r2⟩ := trodAll_cons r1
  obtain ⟨v3, vs3, d3, ds3, p3, q3, rfl, rfl, rfl, h3, r3⟩ := trodAll_cons r2
  obtain ⟨rfl, rfl, rfl⟩ := trodAll_nil r3
  obtain rfl : args = #[v0, v1, v2, v3] := by cases args; simp_all
  obtain ⟨rfl, rfl⟩ := trodVars_none hV
  obtain ⟨a0, rfl, rfl, rfl, w0⟩ := open_int Tryz.underlying3 (hval 0 3 v0 rfl rfl) h0
  obtain ⟨a1, len1, cap1, rfl⟩ := okWide_slice Tryz.underlying66 (hval 1 66 v1 rfl rfl)
  have k1 := h1
  have lt1 : ∀ x ∈ p1, x.block < W.heap.size := by obtain ⟨m, hm⟩ := k1; exact DataW.trod_lt m _ _ _ hm
  obtain ⟨z1, w1⟩ : ∃ l : List Int, RN W (.slice a1 len1 cap1) l ∧ l.length = len1 ∧ len1 ≤ maxLen ∧ ∀ e ∈ l, in64 e := by
    obtain ⟨fuel, hf⟩ := h1
    simp only [Value.cells] at hf
    exact open_nums hf
  obtain ⟨a2, len2, cap2, rfl⟩ := okWide_slice Tryz.underlying66 (hval 2 66 v2 rfl rfl)
  have k2 := h2
  have lt2 : ∀ x ∈ p2, x.block < W.heap.size := by obtain ⟨m, hm⟩ := k2; exact DataW.trod_lt m _ _ _ hm
  obtain ⟨z2, w2⟩ : ∃ l : List Int, RN W (.slice a2 len2 cap2) l ∧ l.length = len2 ∧ len2 ≤ maxLen ∧ ∀ e ∈ l, in64 e := by
    obtain ⟨fuel, hf⟩ := h2
    simp only [Value.cells] at hf
    exact open_nums hf
  obtain ⟨a3, len3, cap3, rfl⟩ := okWide_slice Tryz.underlying66 (hval 3 66 v3 rfl rfl)
  have k3 := h3
  have lt3 : ∀ x ∈ p3, x.block < W.heap.size := by obtain ⟨m, hm⟩ := k3; exact DataW.trod_lt m _ _ _ hm
  obtain ⟨z3, w3⟩ : ∃ l : List Int, RN W (.slice a3 len3 cap3) l ∧ l.length = len3 ∧ len3 ≤ maxLen ∧ ∀ e ∈ l, in64 e := by
    obtain ⟨fuel, hf⟩ := h3
    simp only [Value.cells] at hf
    exact open_nums hf
  clear hA0 hval0
  refine (walk a0 a1 len1 cap1 z1 a2 len2 cap2 z2 a3 len3 cap3 z3 W w0 w1 w2 w3).mono fun e W' ⟨he, bel⟩ => ?_
  subst he
  exact ⟨_, rfl, _, _, _, [], _, [], hW', trodAll_mk1 (shut_bool Tryz.underlying4 _), (trodAll_cons_mk (shut_int Tryz.underlying3 w0) (trodAll_cons_mk (Below.trod laidOut2 (by kernel_rfl) (of_decide_eq_true (by kernel_rfl)) k1 bel lt1) (trodAll_cons_mk (Below.trod laidOut2 (by kernel_rfl) (of_decide_eq_true (by kernel_rfl)) k2 bel lt2) (trodAll_cons_mk (Below.trod laidOut2 (by kernel_rfl) (of_decide_eq_true (by kernel_rfl)) k3 bel lt3) trodAll_mk0)))), rfl, bel.frame _, fun h => by cases h⟩

theorem over : Rows.causalAllRow.holds Tryz.pinned (OpenSpec.ofChange Rows.causalAllSpec) :=
  OpenClaim.holds_of_wide 7 Tryz.f7 rfl rfl rfl rfl rfl rfl rfl ⟨rfl, rfl, rfl, rfl, rfl⟩ rfl rfl rfl rfl rfl (by kernel_rfl) Tryz.func7 (by kernel_rfl)
    (of_decide_eq_true (by kernel_rfl)) (by unfold Func.isWrapper; first | (rw [if_pos (by decide +kernel)]; kernel_rfl) | (rw [if_neg (by decide +kernel)]; exact ⟨rfl, rfl⟩))
    (fun os started H enc _ => lifted os started H enc)

end LCausalAll

theorem causalAll_holds : Rows.CausalAllSaid := LCausalAll.over

end Go.Proofs.YtkkolefionbbcaaGreat
