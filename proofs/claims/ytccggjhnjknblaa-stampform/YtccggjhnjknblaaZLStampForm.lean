/-
  Chapter 6's law StampForm returns true for every list of identifiers and every list of numbers, and leaves its arguments as they were; no condition.
-/
import Derived.Test.YtccggjhnjknblaaRows
import Derived.WalkKit
import Derived.ProofKit
import Derived.OpenShut
import Derived.ShutString
import Derived.ChangeOld
import Derived.Below
import Derived.Test.YtccggjhnjknblaaZSG
import Derived.Test.YtccggjhnjknblaaZKN
import Derived.Test.YtccggjhnjknblaaZRF1
import Derived.Test.YtccggjhnjknblaaZOp
import Derived.Deep.CutRange
import Derived.Deep.RegionHeld3
set_option linter.unusedVariables false
set_option linter.unusedSimpArgs false
namespace Go.Proofs.Ytccggjhnjknblaa
namespace LStampForm
open Go.ChangeShapes Go.WideShapes Go.ChangeAt Go.RowKit Go.Lib
open Go.ChangeMaps (open_string shut_string)

theorem run_equalIn_func_nil {P : Program} (w : World) (d : Nat) (t : TypeId) {x y z} (f : Fn) (bs cs : Array Value) (h : P.underlying t = some (.func x y z)) : (Op.equalIn (d + 1) t (.func f bs cs) .nilFunc).run P w = .ok false w := by
  simp [Op.equalIn, run_underlying h]
theorem run_equal_func_nil {P : Program} (w : World) (t : TypeId) {x y z} (f : Fn) (bs cs : Array Value) (h : P.underlying t = some (.func x y z)) : (Op.equal t (.func f bs cs) .nilFunc).run P w = .ok false w := run_equalIn_func_nil w 9999 t f bs cs h
theorem run_eql_func_nil {P : Program} (w : World) (t : TypeId) {x y z} (f : Fn) (bs cs : Array Value) (h : P.underlying t = some (.func x y z)) : (binOp .eql t (.func f bs cs) .nilFunc).run P w = .ok (.bool false) w := by
  simp only [binOp]
  simp [run_equal_func_nil w t f bs cs h]

set_option maxRecDepth 100000 in
set_option maxHeartbeats 4000000 in
theorem many (a0 : Option Addr) (len0 cap0 : Nat) (a1 : Option Addr) (len1 cap1 : Nat) (W : World) (h : 120 < len0 ∨ 400 < len1) :
    Calls Try.prog 4 #[.slice a0 len0 cap0, .slice a1 len1 cap1] W fun e W' => e = .returned (.bool true) ∧ Below W.heap.size W W' := by
  obtain ⟨X, hX⟩ : ∃ X, W.alloc (.cells #[.slice a0 len0 cap0] 24) = X := ⟨_, rfl⟩
  have bX : Below W.heap.size W X := by rw [← hX]; exact ballc (Below.refl _ _) _
  have xX : Bx X W.heap.size 24 #[.slice a0 len0 cap0] := by rw [← hX]; exact Bx.new W _ _
  have c0 := xX.cell 0 _ rfl
  have HK := hide (known_in X)
  have HB := hide bX
  clear bX xX
  by_cases h0 : 120 < len0
  · have h0' : (120 : Int) < (len0 : Int) := by omega
    clear h
    go_enter Try.func4, Try.ntmps4
    go_wp2_with (go_at_call 5; refine (unhide HK).mono ?_; rintro e W1 ⟨rfl, hb⟩)
    go_ret
    exact ⟨rfl, bnext (unhide HB) hb⟩
  · have h0' : ¬ (120 : Int) < (len0 : Int) := by omega
    have h1' : (400 : Int) < (len1 : Int) := by omega
    clear h
    go_enter Try.func4, Try.ntmps4
    go_wp2_with (go_at_call 5; refine (unhide HK).mono ?_; rintro e W1 ⟨rfl, hb⟩)
    go_ret
    exact ⟨rfl, bnext (unhide HB) hb⟩

set_option maxRecDepth 100000 in
set_option maxHeartbeats 8000000 in
theorem walk (a0 : Option Addr) (len0 cap0 : Nat) (z0 : List (Int × Int)) (a1 : Option Addr) (len1 cap1 : Nat) (z1 : List Int) (w : World)
    (w0 : RI w (.slice a0 len0 cap0) z0 ∧ z0.length = len0 ∧ len0 ≤ maxLen ∧ ∀ e ∈ z0, idIn e) (w1 : RN w (.slice a1 len1 cap1) z1 ∧ z1.length = len1 ∧ len1 ≤ maxLen ∧ ∀ e ∈ z1, in64 e) :
    Calls Try.prog 4 #[.slice a0 len0 cap0, .slice a1 len1 cap1] w fun e W' => e = .returned (.bool true) ∧ Below w.heap.size w W' := by
  obtain ⟨h0, hl0, -, hin0⟩ := w0
  obtain ⟨h1, hl1, -, hin1⟩ := w1
  by_cases hm : 120 < len0 ∨ 400 < len1
  · exact many a0 len0 cap0 a1 len1 cap1 w hm
  have hn0 : ¬ (120 : Int) < (len0 : Int) := by omega
  have hn1 : ¬ (400 : Int) < (len1 : Int) := by omega
  have hs0 : len0 ≤ 120 := by omega
  have hs1 : len1 ≤ 400 := by omega
  clear hm
  obtain ⟨X, hX⟩ : ∃ X, w.alloc (.cells #[.slice a0 len0 cap0] 24) = X := ⟨_, rfl⟩
  have bX : Below w.heap.size w X := by rw [← hX]; exact ballc (Below.refl _ _) _
  have xX : Bx X w.heap.size 24 #[.slice a0 len0 cap0] := by rw [← hX]; exact Bx.new w _ _
  have c0 := xX.cell 0 _ rfl
  have HP := hide (Pack_in _ z0 X (h0.below bX) hin0 (by omega))
  obtain ⟨P, hP⟩ : ∃ P, packF z0 = P := ⟨_, rfl⟩
  rw [hP] at HP
  have hPr := packF_isR z0
  have hPl : P.length ≤ 120 := by
    rw [← hP]
    have := packF_len z0
    have h2 : (packF z0).length ≤ (idsR (packF z0)).length := by
      have hpos : ∀ (l : List ((Int × Int) × Int)), (∀ r ∈ l, isR r = true) → l.length ≤ (idsR l).length := fun l => by
        induction l with
        | nil => intro _; simp
        | cons r l ih =>
          intro h
          have h1 := ih (fun q hq => h q (by simp [hq]))
          have h2 := isR_range (h r (by simp))
          rw [idsR_cons, List.length_append, runI_len]
          simp
          omega
      exact hpos _ hPr
    omega
  have HPr := hide hPr
  have HPe := hide hP
  have Hl0 := hide hl0
  have Hl1 := hide hl1
  have H0 := hide h0
  have H1 := hide h1
  have Hin0 := hide hin0
  have Hin1 := hide hin1
  have HBX := hide bX
  have HXX := hide xX
  have hPin : ∀ r ∈ P, runIn r := fun r hr => by
    obtain ⟨g1, g2, g3, g4, g5, g6⟩ := isR_range (hPr r (by rw [hP]; exact hr))
    exact ⟨⟨⟨by omega, by omega⟩, ⟨by omega, by omega⟩⟩, ⟨by omega, by omega⟩⟩
  clear h0 h1 hl0 hl1 hin0 hin1 hPr hP bX xX
  go_enter Try.func4, Try.ntmps4
  go_wp2_with fail
  refine (unhide HP).mono ?_
  rintro e W1 ⟨va, rfl, hoa, hb1⟩
  obtain ⟨aa, ca, rfl⟩ := owns_form hoa
  have hchk : chk P = 0 := by rw [← unhide HPe]; exact packF_chk z0
  have HC := hide (Check_in _ P W1 (RC.of_owns hoa) hPin (by omega))
  rw [hchk] at HC
  have HOa := hide hoa
  have HB1 := hide hb1
  clear HP hoa hb1 hX c0
  go_wp2_with fail
  refine (unhide HC).mono ?_
  rintro e W2 ⟨rfl, hb2⟩
  obtain ⟨W3, hW3⟩ : ∃ Y, W2.alloc (.cells #[.slice none 0 0] 24) = Y := ⟨_, rfl⟩
  have b23 : Below W2.heap.size W2 W3 := by rw [← hW3]; exact ballc (Below.refl _ _) _
  have x3 : Bx W3 W2.heap.size 24 #[.slice none 0 0] := by rw [← hW3]; exact Bx.new W2 _ _
  have bX2 := bnext (unhide HB1) hb2
  have o2 : W2.ownsRow X.heap.size 32 3 (.slice aa P.length ca) P.length (flat encR P) := owns_kp (unhide HOa) (Kp.of_below (N := fun _ => False) hb2) (fun _ _ e => e)
  have o3 : W3.ownsRow X.heap.size 32 3 (.slice aa P.length ca) P.length (flat encR P) := owns_kp o2 (Kp.of_below (N := fun _ => False) b23) (fun _ _ e => e)
  have HEa := hide (Each_in X.heap.size _ P W3 o3 hPin (by omega))
  have HB23 := hide b23
  have HX3 := hide x3
  have HBX2 := hide bX2
  have HO2 := hide o2
  clear HC hb2 b23 x3 bX2 o2 o3 HOa HB1
  go_wp2_with fail
  refine (unhide HEa).mono ?_
  rintro e W4 ⟨u, rfl, xo, hou, hb34⟩
  have hown : ownR P = P := if_pos hchk
  rw [hown] at hou
  have hnil := fun w => run_eql_func_nil (P := Try.prog) w 27 (.func 29) #[] #[.pointer (some ⟨W3.heap.size, 0, none⟩)] Try.underlying27
  have bl2 := (unhide HXX).below (unhide HBX2)
  have x4 := (unhide HX3).below hb34
  have hlt2 := (unhide HX3).lt
  have hA : (idsR P).length ≤ len0 := by rw [← unhide HPe, ← unhide Hl0]; exact packF_len z0
  have HAll := hide (all_in W2 W4 W2.heap.size w.heap.size W3.heap.size W3.heap.size u a0 len0 cap0 P bl2 (Nat.le_refl _) ⟨_, x4, World.ownsRow_nil _ _ _ _, bnext (unhide HB23) hb34⟩ (fun r hr => unhide HPr r (by rw [unhide HPe]; exact hr)) (by omega) hA (by omega) xo hou (fun i hi e => by have := (hou.lt i hi).1; omega) x4.lt)
  clear HEa xo hou hb34 hown x4 hlt2 hW3
  go_wp2_with fail
  refine (unhide HAll).mono ?_
  rintro e W5 ⟨rfl, v5, x5, o5, b25⟩
  obtain ⟨a5, c5, rfl⟩ := owns_form o5
  obtain ⟨A, hAe⟩ : ∃ A, idsR P = A := ⟨_, rfl⟩
  rw [hAe] at x5 o5 hA
  have hAm : ∀ x, x ∈ A ↔ x ∈ z0 ∧ isI x = true := fun x => by rw [← hAe, ← unhide HPe]; exact packF_mem z0 x
  have hAn : A.Nodup := by rw [← hAe, ← unhide HPe]; exact packF_nodup z0
  have hAp : packF A = P := by rw [← hAe, ← unhide HPe]; exact packF_all z0
  have bX5 := bnext (unhide HBX2) b25
  have bw5 := bnext (unhide HBX) bX5
  have HL5 := hide ((unhide H0).below bw5)
  have HT5 := hide (show RN W5 (.slice a1 len1 cap1) z1 from RC.below (unhide H1) bw5)
  have HP5 := hide (show RR W5 (.slice aa P.length ca) P from RC.of_owns (owns_kp (unhide HO2) (Kp.of_below (N := fun _ => False) b25) (fun _ _ e => e)))
  have HA5 := hide (show RI W5 (.slice a5 A.length c5) A from RC.of_owns o5)
  have HBl5 := hide (bl2.below b25)
  have HBa5 := hide x5
  have HB5 := hide bw5
  have HAm := hide hAm
  have HAn := hide hAn
  have HAp := hide hAp
  obtain ⟨Ba, hBa⟩ : ∃ B, W2.heap.size = B := ⟨_, rfl⟩
  obtain ⟨nA, hnA⟩ : ∃ n, A.length = n := ⟨_, rfl⟩
  obtain ⟨nP, hnP⟩ : ∃ n, P.length = n := ⟨_, rfl⟩
  rw [hBa, hnA] at HBa5
  rw [hnA] at HA5 hA
  rw [hnP] at HP5 hPl
  have HnA := hide hnA
  have HnP := hide hnP
  rw [hBa, hnP]
  clear HAll bl2 x5 o5 b25 hAm hAn hAp bX5 bw5 hnil H0 H1 HXX HBX HBX2 HO2 HX3 HB23 hAe hBa hnA hnP HPr hchk
  go_wp2
  go_loopw [8] (fun iv wr => ∃ i : Nat, iv = .int .i64 (i : Nat) ∧ i ≤ nA ∧ Hid (Below W5.heap.size W5 wr)) (fun iv _ => nA - (Lib.intOf iv).toNat)
  case atStart => exact ⟨0, rfl, by omega, hide (Below.refl _ _)⟩
  case round =>
    obtain ⟨i, rfl, hi, HB⟩ := hrel
    have cA := ((unhide HBa5).below (unhide HB)).cell 0 _ rfl
    have cL := ((unhide HBl5).below (unhide HB)).cell 0 _ rfl
    by_cases hlt : i < nA
    · have hlt' : (i : Int) < (nA : Int) := by omega
      have hi0' : (0 : Int) ≤ (i : Int) := Int.natCast_nonneg _
      obtain ⟨x, hx⟩ : ∃ x, A[i]? = some x := ⟨_, List.getElem?_eq_getElem (by have := unhide HnA; omega)⟩
      have hxm := (unhide HAm x).1 (List.mem_of_getElem? hx)
      have hnot : x ∉ A.take i := fun hm => by
        obtain ⟨j, hj, he⟩ := List.mem_take_iff_getElem.1 hm
        have hil := (List.getElem?_eq_some_iff.1 hx)
        exact List.pairwise_iff_getElem.1 (unhide HAn) j i (by omega) hil.1 (by omega) (he.trans hil.2.symm)
      have hAr := (unhide HA5).below (unhide HB)
      have hLr := (unhide HL5).below (unhide HB)
      obtain ⟨g, off, rfl, hg, c0, c1⟩ := RI.at hAr hx
      have hTk : RI wr (.slice (some ⟨g, off, none⟩) i c5) (A.take i) := by
        have e : (A.take i).length = i := by rw [List.length_take, unhide HnA]; omega
        unfold RI
        rw [e]
        have h2 : RC wr (.slice (some ⟨g, off, none⟩) nA c5) nA (flat encI A) := by have := hAr; unfold RI at this; rw [unhide HnA] at this; exact this
        rcases h2 with ⟨h0, _⟩ | ⟨b, o, cap, e2, k1, k2, k3⟩
        · omega
        · simp at e2
          obtain ⟨⟨rfl, rfl⟩, rfl⟩ := e2
          exact .inr ⟨g, off, c5, rfl, by omega, k2, fun j y hy => k3 j y (by
            rw [flat_take encI_len, List.getElem?_take] at hy
            split at hy
            · exact hy
            · cases hy)⟩
      obtain ⟨x1, x2⟩ := x
      simp only at c0 c1
      have HI := hide (fun W => is_in x1 x2 W)
      rw [hxm.2] at HI
      have HM1 := hide (fun (W : World) (h : Below wr.heap.size wr W) => among_in _ z0 x1 x2 W (hLr.below h) (by have := unhide Hl0; omega))
      rw [decide_eq_true hxm.1] at HM1
      have HM2 := hide (fun (W : World) (h : Below wr.heap.size wr W) => among_in _ (A.take i) x1 x2 W (hTk.below h) (by rw [List.length_take]; omega))
      rw [decide_eq_false hnot] at HM2
      have hcap : i ≤ c5 := by
        rcases hTk with ⟨h0, _⟩ | ⟨b, o, cap, e2, k1, k2, k3⟩
        · rw [List.length_take, unhide HnA] at h0; omega
        · simp at e2
          obtain ⟨_, _, rfl⟩ := e2
          rw [List.length_take, unhide HnA] at k1
          omega
      have hcap' : (i : Int) ≤ (c5 : Int) := by omega
      have HBr := hide (Below.refl wr.heap.size wr)
      clear hx hxm hnot hAr hLr hTk hg
      go_wp2_with fail
      go_region_held3 (fun w' => w'.cell? ⟨Ba, 0, none⟩ = some (.slice (some ⟨g, off, none⟩) nA c5) ∧ w'.cell? ⟨w.heap.size, 0, none⟩ = some (.slice a0 len0 cap0) ∧ w'.cell? ⟨g, off + i * 2, none⟩ = some (.int .i64 x1) ∧ w'.cell? ⟨g, off + i * 2 + 1, none⟩ = some (.int .i64 x2) ∧ Hid (Below wr.heap.size wr w'))
        (first
          | (exact ⟨cA, cL, c0, c1, hide (Below.refl _ _).drew⟩)
          | (go_split_ands
             exact ⟨cell_below (by assumption) hb, cell_below (by assumption) hb, cell_below (by assumption) hb, cell_below (by assumption) hb, hide (bnext (unhide (by assumption)) hb)⟩)
          | go_keep)
        (first
          | (go_at_call 14; refine (unhide HI _).mono ?_; rintro e w' ⟨rfl, hb⟩)
          | (have HM1' := HM1; clear HM1; go_split_ands; go_at_call 15; refine (unhide HM1' _ (unhide (by assumption))).mono ?_; clear HM1'; rintro e w' ⟨rfl, hb⟩)
          | (have HM2' := HM2; clear HM2; go_split_ands; go_at_call 15; refine (unhide HM2' _ (unhide (by assumption))).mono ?_; clear HM2'; rintro e w' ⟨rfl, hb⟩))
      all_goals
        go_split_ands
        have HB2 := hide (bnext (unhide HB) (unhide (by assumption : Hid (Below wr.heap.size wr _))))
        clear cA cL c0 c1
        go_wp2
        go_roundw
        case measure => show nA - ((i : Int) + 1).toNat < nA - ((i : Nat) : Int).toNat; omega
        case rel => exact ⟨i + 1, by go_num, by omega, HB2⟩
    · have hlt' : ¬ (i : Int) < (nA : Int) := by omega
      clear hi
      go_wp2
      clear cA cL hlt'
      go_loopw [9] (fun iv wr => ∃ i : Nat, iv = .int .i64 (i : Nat) ∧ i ≤ len0 ∧ Hid (Below W5.heap.size W5 wr)) (fun iv _ => len0 - (Lib.intOf iv).toNat)
      case atStart => exact ⟨0, rfl, by omega, HB⟩
      case round =>
        clear HB
        obtain ⟨i, rfl, hi, HB⟩ := hrel
        have cA := ((unhide HBa5).below (unhide HB)).cell 0 _ rfl
        have cL := ((unhide HBl5).below (unhide HB)).cell 0 _ rfl
        by_cases hlt : i < len0
        · have hlt' : (i : Int) < (len0 : Int) := by omega
          have hi0' : (0 : Int) ≤ (i : Int) := Int.natCast_nonneg _
          obtain ⟨x, hx⟩ : ∃ x, z0[i]? = some x := ⟨_, List.getElem?_eq_getElem (by have := unhide Hl0; omega)⟩
          have hxm := List.mem_of_getElem? hx
          have hxin := unhide Hin0 x hxm
          have hAr := (unhide HA5).below (unhide HB)
          have hLr := (unhide HL5).below (unhide HB)
          have hPr := (unhide HP5).below (unhide HB)
          obtain ⟨g, off, rfl, hg, c0, c1⟩ := RI.at hLr hx
          obtain ⟨x1, x2⟩ := x
          simp only at c0 c1
          have hhas := packF_has hxm
          rw [unhide HPe] at hhas
          have hmem : decide ((x1, x2) ∈ A) = isI (x1, x2) := by
            have := unhide HAm (x1, x2)
            cases h : isI (x1, x2)
            · rw [decide_eq_false_iff_not, this, h]; simp
            · rw [decide_eq_true_iff, this, h]; exact ⟨hxm, rfl⟩
          have HI := hide (fun W => is_in x1 x2 W)
          have HH := hide (fun (W : World) (h : Below wr.heap.size wr W) => Has_in _ P x1 x2 W (hPr.below h) hPin (by have := unhide HnP; omega) hxin.1)
          rw [hhas] at HH
          have HM := hide (fun (W : World) (h : Below wr.heap.size wr W) => among_in _ A x1 x2 W (hAr.below h) (by have := unhide HnA; omega))
          rw [hmem] at HM
          obtain ⟨b, hb0⟩ : ∃ b, isI (x1, x2) = b := ⟨_, rfl⟩
          rw [hb0] at HI HH HM
          have hbb : (b != b) = false := by simp
          clear hx hxm hxin hAr hLr hPr hg hhas hmem hb0
          go_wp2_with fail
          go_region_held3 (fun w' => w'.cell? ⟨Ba, 0, none⟩ = some (.slice a5 nA c5) ∧ w'.cell? ⟨w.heap.size, 0, none⟩ = some (.slice (some ⟨g, off, none⟩) len0 cap0) ∧ w'.cell? ⟨g, off + i * 2, none⟩ = some (.int .i64 x1) ∧ w'.cell? ⟨g, off + i * 2 + 1, none⟩ = some (.int .i64 x2) ∧ Hid (Below wr.heap.size wr w'))
            (first
              | (exact ⟨cA, cL, c0, c1, hide (Below.refl _ _).drew⟩)
              | (go_split_ands
                 exact ⟨cell_below (by assumption) hb, cell_below (by assumption) hb, cell_below (by assumption) hb, cell_below (by assumption) hb, hide (bnext (unhide (by assumption)) hb)⟩)
              | go_keep)
            (first
              | (go_at_call 14; refine (unhide HI _).mono ?_; rintro e w' ⟨rfl, hb⟩)
              | (go_split_ands; go_at_call 16; refine (unhide HH _ (unhide (by assumption))).mono ?_; rintro e w' ⟨rfl, hb⟩)
              | (go_split_ands; go_at_call 15; refine (unhide HM _ (unhide (by assumption))).mono ?_; rintro e w' ⟨rfl, hb⟩))
          all_goals
            go_split_ands
            have HB2 := hide (bnext (unhide HB) (unhide (by assumption : Hid (Below wr.heap.size wr _))))
            clear cA cL c0 c1
            go_wp2
            go_roundw
            case measure => show len0 - ((i : Int) + 1).toNat < len0 - ((i : Nat) : Int).toNat; omega
            case rel => exact ⟨i + 1, by go_num, by omega, HB2⟩
        · have hlt' : ¬ (i : Int) < (len0 : Int) := by omega
          clear hi
          go_wp2
          clear cA cL hlt'
          go_loopw [10] (fun iv wr => ∃ i : Nat, iv = .int .i64 (i : Nat) ∧ i ≤ nP ∧ Hid (Below W5.heap.size W5 wr)) (fun iv _ => nP - (Lib.intOf iv).toNat)
          case atStart => exact ⟨0, rfl, by omega, HB⟩
          case round =>
            clear HB
            obtain ⟨i, rfl, hi, HB⟩ := hrel
            by_cases hlt : i + 1 < nP
            · have hlt' : (i : Int) + 1 < (nP : Int) := by omega
              have hlt2 : (i : Int) < (nP : Int) := by omega
              have hi0' : (0 : Int) ≤ (i : Int) := Int.natCast_nonneg _
              have hi1' : (0 : Int) ≤ (i : Int) + 1 := by omega
              have hw : IntKind.i64.wrap ((i : Int) + 1) = (i : Int) + 1 := IntWalk.i64_in _ (by omega)
              obtain ⟨q, hq⟩ : ∃ x, P[i]? = some x := ⟨_, List.getElem?_eq_getElem (by have := unhide HnP; omega)⟩
              obtain ⟨r, hr⟩ : ∃ x, P[i + 1]? = some x := ⟨_, List.getElem?_eq_getElem (by have := unhide HnP; omega)⟩
              have hrise := packF_rise (l := z0) (i := i) (by rw [unhide HPe]; exact hq) (by rw [unhide HPe]; exact hr)
              have hPr := (unhide HP5).below (unhide HB)
              obtain ⟨g, off, rfl, hg, c0, c1, -⟩ := RR.at hPr hq
              obtain ⟨g2, off2, he, hg2, d0, d1, -⟩ := RR.at hPr hr
              simp at he
              obtain ⟨rfl, rfl⟩ := he
              obtain ⟨⟨q1, q2⟩, q3⟩ := q
              obtain ⟨⟨r1, r2⟩, r3⟩ := r
              simp only at c0 c1 d0 d1 hrise
              have HCm := hide (fun W => Compare_b q1 q2 r1 r2 W)
              obtain ⟨c, hc⟩ : ∃ c, cmpI (q1, q2) (r1, r2) = c := ⟨_, rfl⟩
              rw [hc] at HCm hrise
              have hcn : ¬ (0 : Int) ≤ c := by omega
              clear hq hr hPr hg hg2 hc hrise
              go_wp2_with fail
              go_region_held3 (fun w' => w'.cell? ⟨g, off + i * 3, none⟩ = some (.int .i64 q1) ∧ w'.cell? ⟨g, off + i * 3 + 1, none⟩ = some (.int .i64 q2) ∧ w'.cell? ⟨g, off + (i + 1) * 3, none⟩ = some (.int .i64 r1) ∧ w'.cell? ⟨g, off + (i + 1) * 3 + 1, none⟩ = some (.int .i64 r2) ∧ Hid (Below wr.heap.size wr w'))
                (first
                  | (exact ⟨c0, c1, d0, d1, hide (Below.refl _ _).drew⟩)
                  | (go_split_ands
                     exact ⟨cell_below (by assumption) hb, cell_below (by assumption) hb, cell_below (by assumption) hb, cell_below (by assumption) hb, hide (bnext (unhide (by assumption)) hb)⟩)
                  | go_keep)
                ((go_at_call 17; refine (unhide HCm _).mono ?_; rintro e w' ⟨rfl, hb⟩))
              all_goals
                go_split_ands
                have HB2 := hide (bnext (unhide HB) (unhide (by assumption : Hid (Below wr.heap.size wr _))))
                clear c0 c1 d0 d1
                go_wp2
                go_roundw
                case measure => show nP - ((i : Int) + 1).toNat < nP - ((i : Nat) : Int).toNat; omega
                case rel => exact ⟨i + 1, by go_num, by omega, HB2⟩
            · have hlt' : ¬ (i : Int) + 1 < (nP : Int) := by omega
              have hw : IntKind.i64.wrap ((i : Int) + 1) = (i : Int) + 1 := IntWalk.i64_in _ (by omega)
              have cL := ((unhide HBl5).below (unhide HB)).cell 0 _ rfl
              obtain ⟨v6, W7, hap, ho6, hg6⟩ := app_nil 24 30 2 16 _ Try.underlying24 infoI rfl (by decide) wr wr.heap.size 24 _ z0.length (flat encI z0) ((unhide HL5).below (unhide HB)) (flat_len encI_len z0) encI_one (Nat.le_refl _) (by unfold maxLen; have := unhide Hl0; omega) (by have := unhide Hl0; omega)
              have b67 : Below wr.heap.size wr W7 := (Below.refl _ wr).grown hg6 (Nat.le_refl _) (fun k hk => by cases hk)
              have HB7 := hide (bnext (unhide HB) b67)
              have HO7 := hide ho6
              replace hap := hide hap
              obtain ⟨B6, hB6⟩ : ∃ B, wr.heap.size = B := ⟨_, rfl⟩
              rw [hB6] at HO7
              have hB65 : W5.heap.size ≤ B6 := by rw [← hB6]; exact (unhide HB).size
              have hB6n : W5.heap.size ≤ B6 := hB65
              clear ho6 hg6 b67 hi hB6
              go_wp2_with (at_builtin; refine wpList_append_eq rfl _ _ 24 rfl _ _ _ _ rfl rfl (unhide hap) ?_)
              clear cL hlt' hw hap HB
              go_loopw [11, 12] (fun mv iv wr => ∃ (i : Nat) (M : List (Int × Int)), iv = .int .i64 (i : Nat) ∧ i ≤ len1 ∧ Hid (wr.ownsRow B6 30 2 mv M.length (flat encI M) ∧ (∀ x, x ∈ M ↔ x ∈ z0) ∧ M.length ≤ 2 * len0 ∧ Below W5.heap.size W5 wr)) (fun _ iv _ => len1 - (Lib.intOf iv).toNat)
              case atStart => exact ⟨0, z0, rfl, by omega, hide ⟨unhide HO7, fun x => Iff.rfl, by have := unhide Hl0; omega, unhide HB7⟩⟩
              case round =>
                clear HB7 HO7
                obtain ⟨i, M, rfl, hi, HH⟩ := hrel
                obtain ⟨hoM, hMm, hML, hB⟩ := unhide HH
                have cL := ((unhide HBl5).below hB).cell 0 _ rfl
                obtain ⟨am, cm, rfl⟩ := owns_form hoM
                obtain ⟨L, hL⟩ : ∃ L, M.length = L := ⟨_, rfl⟩
                rw [hL] at hoM hML ⊢
                have HL := hide hL
                by_cases hlt : i < len1 ∧ 0 < len0
                · obtain ⟨hi1, hl0p⟩ := hlt
                  have hi1' : (i : Int) < (len1 : Int) := by omega
                  have hl0' : (0 : Int) < (len0 : Int) := by omega
                  have hLp : 0 < L := by
                    cases z0 with
                    | nil => have := unhide Hl0; simp at this; omega
                    | cons y z0 => have := (hMm y).2 (by simp); rw [← hL]; exact List.length_pos_of_mem this
                  clear hL
                  obtain ⟨z, hz⟩ : ∃ x, z1[i]? = some x := ⟨_, List.getElem?_eq_getElem (by have := unhide Hl1; omega)⟩
                  have hzin := unhide Hin1 z (List.mem_of_getElem? hz)
                  have hTr : RN wr (.slice a1 len1 cap1) z1 := RC.below (unhide HT5) hB
                  obtain ⟨gt, ot, rfl, hgt, ct⟩ : ∃ b off, a1 = some ⟨b, off, none⟩ ∧ b < wr.heap.size ∧ wr.cell? ⟨b, off + i, none⟩ = some (.int .i64 z) := by
                    rcases hTr with ⟨h0, _⟩ | ⟨b, o, cap, e, _, k2, k3⟩
                    · have := unhide Hl1; omega
                    · simp at e
                      refine ⟨b, o, e.1, k2, k3 i _ ?_⟩
                      have := flat_get (enc := encN) (k := 1) (fun x => rfl) z1 i 0 z hz (by omega)
                      simpa [encN] using this
                  obtain ⟨r, hr⟩ : ∃ r, Int.tmod z (L : Int) = r := ⟨_, rfl⟩
                  have hr1 : -(L : Int) < r := by
                    rw [← hr]
                    have := Int.lt_tmod_of_pos z (b := (L : Int)) (by omega)
                    omega
                  have hr2 : r < (L : Int) := by rw [← hr]; exact Int.tmod_lt_of_pos z (by omega)
                  clear hz hTr HH
                  by_cases hr0 : r < 0
                  · obtain ⟨k, hk⟩ : ∃ k : Nat, r + (L : Int) = (k : Int) := ⟨(r + L).toNat, by omega⟩
                    have hkL : k < L := by omega
                    have hkL' : (k : Int) < (L : Int) := by omega
                    have hk0' : (0 : Int) ≤ (k : Int) := Int.natCast_nonneg _
                    obtain ⟨⟨e1, e2⟩, hM0⟩ : ∃ x, M[0]? = some x := ⟨_, List.getElem?_eq_getElem (by have := unhide HL; omega)⟩
                    obtain ⟨⟨f1, f2⟩, hMk⟩ : ∃ x, M[k]? = some x := ⟨_, List.getElem?_eq_getElem (by have := unhide HL; omega)⟩
                    obtain ⟨gm, rfl, hgB, hgl, m0, m1, mf⟩ := owns_atI hoM hM0 (unhide HL)
                    obtain ⟨gm2, he, -, -, k0, k1, -⟩ := owns_atI hoM hMk (unhide HL)
                    simp at he
                    subst he
                    simp only [Nat.zero_mul, Nat.zero_add] at m0 m1 k0 k1
                    obtain ⟨Y1, hY1⟩ : ∃ Y, wr.alloc (.cells #[.int .i64 e1, .int .i64 e2] 30) = Y := ⟨_, rfl⟩
                    have b1 : Below wr.heap.size wr Y1 := by rw [← hY1]; exact ballc (Below.refl _ _) _
                    have x1 : Bx Y1 wr.heap.size 30 #[.int .i64 e1, .int .i64 e2] := by rw [← hY1]; exact Bx.new wr _ _
                    have o1 : Y1.ownsRow B6 30 2 (.slice (some ⟨gm, 0, none⟩) L cm) L (flat encI M) := owns_kp hoM (Kp.of_below (N := fun _ => False) b1) (fun _ _ e => e)
                    obtain ⟨_, he1, -, -, p0, p1, pf⟩ := owns_atI o1 hMk (unhide HL)
                    simp at he1
                    subst he1
                    obtain ⟨_, he1, -, -, s0, s1, -⟩ := owns_atI o1 hM0 (unhide HL)
                    simp at he1
                    subst he1
                    simp only [Nat.zero_mul, Nat.zero_add] at s0 s1
                    have pf0 := pf 0
                    have pf1 := pf 1
                    obtain ⟨Y2, hY2⟩ : ∃ Y, (Y1.setCell ⟨gm, 0, none⟩ (.int .i64 f1)).setCell ⟨gm, 1, none⟩ (.int .i64 f2) = Y := ⟨_, rfl⟩
                    have o2 : Y2.ownsRow B6 30 2 (.slice (some ⟨gm, 0, none⟩) L cm) L (flat encI (M.set 0 (f1, f2))) := by rw [← hY2]; simpa using owns_setI o1 (unhide HL) (k := 0) hLp f1 f2
                    have kp2 : Kp (fun j => j = gm) Y1 Y2 := by rw [← hY2]; exact (Kp.set (N := fun j => j = gm) Y1 ⟨gm, 0, none⟩ _ rfl).trans (Kp.set (N := fun j => j = gm) _ ⟨gm, 1, none⟩ _ rfl) (fun j h => .inl h)
                    have x2 : Bx Y2 wr.heap.size 30 #[.int .i64 e1, .int .i64 e2] := x1.kp kp2 (by omega)
                    have t0 := x2.cell 0 _ rfl
                    have t1 := x2.cell 1 _ rfl
                    have hMk2 : ∃ y, (M.set 0 (f1, f2))[k]? = some y := ⟨_, List.getElem?_eq_getElem (by rw [List.length_set]; have := unhide HL; omega)⟩
                    obtain ⟨⟨y1, y2⟩, hMk2⟩ := hMk2
                    obtain ⟨_, he1, -, -, u0, u1, uf⟩ := owns_atI o2 hMk2 (by rw [List.length_set]; exact unhide HL)
                    simp at he1
                    subst he1
                    have uf0 := uf (k * 2)
                    have uf1 := uf (k * 2 + 1)
                    obtain ⟨Y3, hY3⟩ : ∃ Y, (Y2.setCell ⟨gm, k * 2, none⟩ (.int .i64 e1)).setCell ⟨gm, k * 2 + 1, none⟩ (.int .i64 e2) = Y := ⟨_, rfl⟩
                    have o3 : Y3.ownsRow B6 30 2 (.slice (some ⟨gm, 0, none⟩) L cm) L (flat encI ((M.set 0 (f1, f2)).set k (e1, e2))) := by rw [← hY3]; exact owns_setI o2 (by rw [List.length_set]; exact unhide HL) hkL e1 e2
                    have kp3 : Kp (fun j => j = gm) Y2 Y3 := by rw [← hY3]; exact (Kp.set (N := fun j => j = gm) Y2 ⟨gm, k * 2, none⟩ _ rfl).trans (Kp.set (N := fun j => j = gm) _ ⟨gm, k * 2 + 1, none⟩ _ rfl) (fun j h => .inl h)
                    have hB3 : Below W5.heap.size W5 Y3 := kp3.below (kp2.below (bnext hB b1) (fun j e => by omega)) (fun j e => by omega)
                    have hsw : ∀ y, y ∈ (M.set 0 (f1, f2)).set k (e1, e2) ↔ y ∈ z0 := fun y => (swap_mem hM0 hMk y).trans (hMm y)
                    have hl3 : ((M.set 0 (f1, f2)).set k (e1, e2)).length = L := by rw [List.length_set, List.length_set]; exact unhide HL
                    have hk3 : ((M.set 0 (f1, f2)).set k (e1, e2))[k]? = some (e1, e2) := List.getElem?_set_self (by rw [List.length_set]; have := unhide HL; omega)
                    obtain ⟨M3, hM3⟩ : ∃ M3, (M.set 0 (f1, f2)).set k (e1, e2) = M3 := ⟨_, rfl⟩
                    rw [hM3] at o3 hsw hl3 hk3
                    obtain ⟨_, he1, -, -, v0, v1, -⟩ := owns_atI o3 hk3 hl3
                    simp at he1
                    subst he1
                    have cL3 := ((unhide HBl5).below hB3).cell 0 _ rfl
                    have o3' : Y3.ownsRow B6 30 2 (.slice (some ⟨gm, 0, none⟩) L cm) M3.length (flat encI M3) := by rw [hl3]; exact o3
                    obtain ⟨v8, W8, hap, ho8, hg8⟩ := append_id Y3 24 B6 _ M3 e1 e2 o3' (by have := kp3.size; have := kp2.size; have := b1.size; omega) (by omega)
                    have hB8 : Below W5.heap.size W5 W8 := (ballc hB3 _).grown hg8 (ballc hB3 _).size (fun j e => by have := (o3.lt j e).1; omega)
                    obtain ⟨a8, c8, rfl⟩ := owns_form ho8
                    have hl8 : (M3 ++ [(e1, e2)]).length = L + 1 := by rw [List.length_append, hl3]; rfl
                    have hm8 : ∀ y, y ∈ M3 ++ [(e1, e2)] ↔ y ∈ z0 := fun y => by
                      rw [List.mem_append, hsw y]
                      constructor
                      · rintro (h | h)
                        · exact h
                        · simp at h; rw [h]; exact (hMm _).1 (List.mem_of_getElem? hM0)
                      · exact fun h => .inl h
                    have HR3 := hide (show Y3.ownsRow B6 30 2 (.slice (some ⟨gm, 0, none⟩) L cm) M3.length (flat encI M3) ∧ (∀ x, x ∈ M3 ↔ x ∈ z0) ∧ M3.length ≤ 2 * len0 ∧ Below W5.heap.size W5 Y3 from ⟨o3', hsw, by rw [hl3]; exact hML, hB3⟩)
                    have HR8 := hide (show L < 2 * len0 → W8.ownsRow B6 30 2 (.slice a8 (L + 1) c8) (M3 ++ [(e1, e2)]).length (flat encI (M3 ++ [(e1, e2)])) ∧ (∀ x, x ∈ M3 ++ [(e1, e2)] ↔ x ∈ z0) ∧ (M3 ++ [(e1, e2)]).length ≤ 2 * len0 ∧ Below W5.heap.size W5 W8 from fun h => ⟨by rw [← hl8]; exact ho8, hm8, by rw [hl8]; omega, hB8⟩)
                    rw [hl8] at hap
                    replace hap := hide hap
                    have hMk3 : Hid (M3.length = L) := hide hl3
                    clear hM0 hMk hoM b1 x1 o1 o2 kp2 x2 hMk2 o3 kp3 hB3 hsw hl3 hk3 hM3 o3' ho8 hg8 hB8 hl8 hm8 pf uf mf hMm hB hgB hgl
                    by_cases h3 : (i : Int) % 3 = 0
                    · have h3q : ((i : Int) % 3 == 0) = true := by simp [h3]
                      by_cases h2 : L < 2 * len0
                      · have h2' : (L : Int) < 2 * (len0 : Int) := by omega
                        go_wp2_with (at_builtin; refine wpList_append_eq rfl _ _ 24 rfl _ _ _ _ rfl rfl (unhide hap) ?_)
                        go_roundw
                        case measure => show len1 - ((i : Int) + 1).toNat < len1 - ((i : Nat) : Int).toNat; omega
                        case rel => exact ⟨i + 1, M3 ++ [(e1, e2)], by go_num, by omega, hide (unhide HR8 h2)⟩
                      · have h2' : ¬ (L : Int) < 2 * (len0 : Int) := by omega
                        go_wp2
                        go_roundw
                        case measure => show len1 - ((i : Int) + 1).toNat < len1 - ((i : Nat) : Int).toNat; omega
                        case rel => exact ⟨i + 1, M3, by go_num, by omega, HR3⟩
                    · have h3q : ((i : Int) % 3 == 0) = false := by simp [h3]
                      go_wp2
                      go_roundw
                      case measure => show len1 - ((i : Int) + 1).toNat < len1 - ((i : Nat) : Int).toNat; omega
                      case rel => exact ⟨i + 1, M3, by go_num, by omega, HR3⟩
                  · obtain ⟨k, rfl⟩ : ∃ k : Nat, r = (k : Int) := ⟨r.toNat, by omega⟩
                    have hkL : k < L := by omega
                    have hkL' : (k : Int) < (L : Int) := by omega
                    have hk0' : (0 : Int) ≤ (k : Int) := Int.natCast_nonneg _
                    obtain ⟨⟨e1, e2⟩, hM0⟩ : ∃ x, M[0]? = some x := ⟨_, List.getElem?_eq_getElem (by have := unhide HL; omega)⟩
                    obtain ⟨⟨f1, f2⟩, hMk⟩ : ∃ x, M[k]? = some x := ⟨_, List.getElem?_eq_getElem (by have := unhide HL; omega)⟩
                    obtain ⟨gm, rfl, hgB, hgl, m0, m1, mf⟩ := owns_atI hoM hM0 (unhide HL)
                    obtain ⟨gm2, he, -, -, k0, k1, -⟩ := owns_atI hoM hMk (unhide HL)
                    simp at he
                    subst he
                    simp only [Nat.zero_mul, Nat.zero_add] at m0 m1 k0 k1
                    obtain ⟨Y1, hY1⟩ : ∃ Y, wr.alloc (.cells #[.int .i64 e1, .int .i64 e2] 30) = Y := ⟨_, rfl⟩
                    have b1 : Below wr.heap.size wr Y1 := by rw [← hY1]; exact ballc (Below.refl _ _) _
                    have x1 : Bx Y1 wr.heap.size 30 #[.int .i64 e1, .int .i64 e2] := by rw [← hY1]; exact Bx.new wr _ _
                    have o1 : Y1.ownsRow B6 30 2 (.slice (some ⟨gm, 0, none⟩) L cm) L (flat encI M) := owns_kp hoM (Kp.of_below (N := fun _ => False) b1) (fun _ _ e => e)
                    obtain ⟨_, he1, -, -, p0, p1, pf⟩ := owns_atI o1 hMk (unhide HL)
                    simp at he1
                    subst he1
                    obtain ⟨_, he1, -, -, s0, s1, -⟩ := owns_atI o1 hM0 (unhide HL)
                    simp at he1
                    subst he1
                    simp only [Nat.zero_mul, Nat.zero_add] at s0 s1
                    have pf0 := pf 0
                    have pf1 := pf 1
                    obtain ⟨Y2, hY2⟩ : ∃ Y, (Y1.setCell ⟨gm, 0, none⟩ (.int .i64 f1)).setCell ⟨gm, 1, none⟩ (.int .i64 f2) = Y := ⟨_, rfl⟩
                    have o2 : Y2.ownsRow B6 30 2 (.slice (some ⟨gm, 0, none⟩) L cm) L (flat encI (M.set 0 (f1, f2))) := by rw [← hY2]; simpa using owns_setI o1 (unhide HL) (k := 0) hLp f1 f2
                    have kp2 : Kp (fun j => j = gm) Y1 Y2 := by rw [← hY2]; exact (Kp.set (N := fun j => j = gm) Y1 ⟨gm, 0, none⟩ _ rfl).trans (Kp.set (N := fun j => j = gm) _ ⟨gm, 1, none⟩ _ rfl) (fun j h => .inl h)
                    have x2 : Bx Y2 wr.heap.size 30 #[.int .i64 e1, .int .i64 e2] := x1.kp kp2 (by omega)
                    have t0 := x2.cell 0 _ rfl
                    have t1 := x2.cell 1 _ rfl
                    have hMk2 : ∃ y, (M.set 0 (f1, f2))[k]? = some y := ⟨_, List.getElem?_eq_getElem (by rw [List.length_set]; have := unhide HL; omega)⟩
                    obtain ⟨⟨y1, y2⟩, hMk2⟩ := hMk2
                    obtain ⟨_, he1, -, -, u0, u1, uf⟩ := owns_atI o2 hMk2 (by rw [List.length_set]; exact unhide HL)
                    simp at he1
                    subst he1
                    have uf0 := uf (k * 2)
                    have uf1 := uf (k * 2 + 1)
                    obtain ⟨Y3, hY3⟩ : ∃ Y, (Y2.setCell ⟨gm, k * 2, none⟩ (.int .i64 e1)).setCell ⟨gm, k * 2 + 1, none⟩ (.int .i64 e2) = Y := ⟨_, rfl⟩
                    have o3 : Y3.ownsRow B6 30 2 (.slice (some ⟨gm, 0, none⟩) L cm) L (flat encI ((M.set 0 (f1, f2)).set k (e1, e2))) := by rw [← hY3]; exact owns_setI o2 (by rw [List.length_set]; exact unhide HL) hkL e1 e2
                    have kp3 : Kp (fun j => j = gm) Y2 Y3 := by rw [← hY3]; exact (Kp.set (N := fun j => j = gm) Y2 ⟨gm, k * 2, none⟩ _ rfl).trans (Kp.set (N := fun j => j = gm) _ ⟨gm, k * 2 + 1, none⟩ _ rfl) (fun j h => .inl h)
                    have hB3 : Below W5.heap.size W5 Y3 := kp3.below (kp2.below (bnext hB b1) (fun j e => by omega)) (fun j e => by omega)
                    have hsw : ∀ y, y ∈ (M.set 0 (f1, f2)).set k (e1, e2) ↔ y ∈ z0 := fun y => (swap_mem hM0 hMk y).trans (hMm y)
                    have hl3 : ((M.set 0 (f1, f2)).set k (e1, e2)).length = L := by rw [List.length_set, List.length_set]; exact unhide HL
                    have hk3 : ((M.set 0 (f1, f2)).set k (e1, e2))[k]? = some (e1, e2) := List.getElem?_set_self (by rw [List.length_set]; have := unhide HL; omega)
                    obtain ⟨M3, hM3⟩ : ∃ M3, (M.set 0 (f1, f2)).set k (e1, e2) = M3 := ⟨_, rfl⟩
                    rw [hM3] at o3 hsw hl3 hk3
                    obtain ⟨_, he1, -, -, v0, v1, -⟩ := owns_atI o3 hk3 hl3
                    simp at he1
                    subst he1
                    have cL3 := ((unhide HBl5).below hB3).cell 0 _ rfl
                    have o3' : Y3.ownsRow B6 30 2 (.slice (some ⟨gm, 0, none⟩) L cm) M3.length (flat encI M3) := by rw [hl3]; exact o3
                    obtain ⟨v8, W8, hap, ho8, hg8⟩ := append_id Y3 24 B6 _ M3 e1 e2 o3' (by have := kp3.size; have := kp2.size; have := b1.size; omega) (by omega)
                    have hB8 : Below W5.heap.size W5 W8 := (ballc hB3 _).grown hg8 (ballc hB3 _).size (fun j e => by have := (o3.lt j e).1; omega)
                    obtain ⟨a8, c8, rfl⟩ := owns_form ho8
                    have hl8 : (M3 ++ [(e1, e2)]).length = L + 1 := by rw [List.length_append, hl3]; rfl
                    have hm8 : ∀ y, y ∈ M3 ++ [(e1, e2)] ↔ y ∈ z0 := fun y => by
                      rw [List.mem_append, hsw y]
                      constructor
                      · rintro (h | h)
                        · exact h
                        · simp at h; rw [h]; exact (hMm _).1 (List.mem_of_getElem? hM0)
                      · exact fun h => .inl h
                    have HR3 := hide (show Y3.ownsRow B6 30 2 (.slice (some ⟨gm, 0, none⟩) L cm) M3.length (flat encI M3) ∧ (∀ x, x ∈ M3 ↔ x ∈ z0) ∧ M3.length ≤ 2 * len0 ∧ Below W5.heap.size W5 Y3 from ⟨o3', hsw, by rw [hl3]; exact hML, hB3⟩)
                    have HR8 := hide (show L < 2 * len0 → W8.ownsRow B6 30 2 (.slice a8 (L + 1) c8) (M3 ++ [(e1, e2)]).length (flat encI (M3 ++ [(e1, e2)])) ∧ (∀ x, x ∈ M3 ++ [(e1, e2)] ↔ x ∈ z0) ∧ (M3 ++ [(e1, e2)]).length ≤ 2 * len0 ∧ Below W5.heap.size W5 W8 from fun h => ⟨by rw [← hl8]; exact ho8, hm8, by rw [hl8]; omega, hB8⟩)
                    rw [hl8] at hap
                    replace hap := hide hap
                    have hMk3 : Hid (M3.length = L) := hide hl3
                    clear hM0 hMk hoM b1 x1 o1 o2 kp2 x2 hMk2 o3 kp3 hB3 hsw hl3 hk3 hM3 o3' ho8 hg8 hB8 hl8 hm8 pf uf mf hMm hB hgB hgl
                    by_cases h3 : (i : Int) % 3 = 0
                    · have h3q : ((i : Int) % 3 == 0) = true := by simp [h3]
                      by_cases h2 : L < 2 * len0
                      · have h2' : (L : Int) < 2 * (len0 : Int) := by omega
                        go_wp2_with (at_builtin; refine wpList_append_eq rfl _ _ 24 rfl _ _ _ _ rfl rfl (unhide hap) ?_)
                        go_roundw
                        case measure => show len1 - ((i : Int) + 1).toNat < len1 - ((i : Nat) : Int).toNat; omega
                        case rel => exact ⟨i + 1, M3 ++ [(e1, e2)], by go_num, by omega, hide (unhide HR8 h2)⟩
                      · have h2' : ¬ (L : Int) < 2 * (len0 : Int) := by omega
                        go_wp2
                        go_roundw
                        case measure => show len1 - ((i : Int) + 1).toNat < len1 - ((i : Nat) : Int).toNat; omega
                        case rel => exact ⟨i + 1, M3, by go_num, by omega, HR3⟩
                    · have h3q : ((i : Int) % 3 == 0) = false := by simp [h3]
                      go_wp2
                      go_roundw
                      case measure => show len1 - ((i : Int) + 1).toNat < len1 - ((i : Nat) : Int).toNat; omega
                      case rel => exact ⟨i + 1, M3, by go_num, by omega, HR3⟩
                · have hsame : packF M = P := by rw [packF_same hMm]; exact unhide HPe
                  have HPm := hide (Pack_in _ M wr (show RI wr (.slice am L cm) M by unfold RI; rw [unhide HL]; exact RC.of_owns hoM) (fun x hx => unhide Hin0 x ((hMm x).1 hx)) (by have := unhide HL; omega))
                  have HBw := hide (bnext (unhide HB5) hB)
                  have HPr := hide ((unhide HP5).below hB)
                  have HAr := hide ((unhide HA5).below hB)
                  have HBx := hide ((unhide HBa5).below hB)
                  have HKn := hide (fun W => known_in W)
                  clear hL hoM hMm HH
                  by_cases hi1 : i < len1
                  · have hi1' : (i : Int) < (len1 : Int) := by omega
                    have hl0z : len0 = 0 := by omega
                    have hl0' : ¬ (0 : Int) < (len0 : Int) := by omega
                    clear hl0z
                    go_wp2_with fail
                    refine (unhide HPm).mono ?_
                    rintro e W9 ⟨v9, rfl, ho9, hb9⟩
                    rw [hsame] at ho9
                    have hBw9 := bnext (unhide HBw) hb9
                    have hPr9 : RR W9 (.slice aa nP ca) P := (unhide HPr).below hb9
                    have HRun := hide (runs_in P P _ _ W9 (RC.of_owns ho9) hPr9 (by have := unhide HnP; omega) (by have := unhide HnP; omega))
                    have hAr9 := (unhide HAr).below hb9
                    have cA9 := ((unhide HBx).below hb9).cell 0 _ rfl
                    have HPk2 := hide (fun n => Pack_in _ A (W9.drewN n) (show RI (W9.drewN n) (.slice a5 nA c5) A from hAr9) (fun x hx => unhide Hin0 x ((unhide HAm x).1 hx).1) (by have := unhide HnA; omega))
                    rw [unhide HAp] at HPk2
                    have HB9 := hide hBw9
                    have HPr9 := hide hPr9
                    clear HPm ho9 hb9 hBw9 hPr9 hAr9
                    simp only [decide_true] at HRun
                    go_wp2_with fail
                    refine (unhide HRun).mono ?_
                    rintro e W10 ⟨rfl, n10, rfl⟩
                    have cA10 : (W9.drewN n10).cell? ⟨Ba, 0, none⟩ = some (.slice a5 nA c5) := cA9
                    clear HRun cA9
                    go_wp2_with fail
                    refine (unhide HPk2 _).mono ?_
                    rintro e W11 ⟨v11, rfl, ho11, hb11⟩
                    have HB11 := hide (bnext (bdrew (unhide HB9) n10) hb11)
                    have HRun2 := hide (runs_in P P _ _ W11 (RC.of_owns ho11) (RR.below (W := W9.drewN n10) (unhide HPr9) hb11) (by have := unhide HnP; omega) (by have := unhide HnP; omega))
                    simp only [decide_true] at HRun2
                    clear HPk2 ho11 hb11
                    go_wp2_with fail
                    refine (unhide HRun2).mono ?_
                    rintro e W12 ⟨rfl, n12, rfl⟩
                    clear HRun2
                    go_wp2_with fail
                    refine (unhide HKn _).mono ?_
                    rintro e W13 ⟨rfl, hb13⟩
                    go_wp2
                    go_ret
                    exact ⟨rfl, bnext (bdrew (unhide HB11) n12) hb13⟩
                  · have hi1' : ¬ (i : Int) < (len1 : Int) := by omega
                    go_wp2_with fail
                    refine (unhide HPm).mono ?_
                    rintro e W9 ⟨v9, rfl, ho9, hb9⟩
                    rw [hsame] at ho9
                    have hBw9 := bnext (unhide HBw) hb9
                    have hPr9 : RR W9 (.slice aa nP ca) P := (unhide HPr).below hb9
                    have HRun := hide (runs_in P P _ _ W9 (RC.of_owns ho9) hPr9 (by have := unhide HnP; omega) (by have := unhide HnP; omega))
                    have hAr9 := (unhide HAr).below hb9
                    have cA9 := ((unhide HBx).below hb9).cell 0 _ rfl
                    have HPk2 := hide (fun n => Pack_in _ A (W9.drewN n) (show RI (W9.drewN n) (.slice a5 nA c5) A from hAr9) (fun x hx => unhide Hin0 x ((unhide HAm x).1 hx).1) (by have := unhide HnA; omega))
                    rw [unhide HAp] at HPk2
                    have HB9 := hide hBw9
                    have HPr9 := hide hPr9
                    clear HPm ho9 hb9 hBw9 hPr9 hAr9
                    simp only [decide_true] at HRun
                    go_wp2_with fail
                    refine (unhide HRun).mono ?_
                    rintro e W10 ⟨rfl, n10, rfl⟩
                    have cA10 : (W9.drewN n10).cell? ⟨Ba, 0, none⟩ = some (.slice a5 nA c5) := cA9
                    clear HRun cA9
                    go_wp2_with fail
                    refine (unhide HPk2 _).mono ?_
                    rintro e W11 ⟨v11, rfl, ho11, hb11⟩
                    have HB11 := hide (bnext (bdrew (unhide HB9) n10) hb11)
                    have HRun2 := hide (runs_in P P _ _ W11 (RC.of_owns ho11) (RR.below (W := W9.drewN n10) (unhide HPr9) hb11) (by have := unhide HnP; omega) (by have := unhide HnP; omega))
                    simp only [decide_true] at HRun2
                    clear HPk2 ho11 hb11
                    go_wp2_with fail
                    refine (unhide HRun2).mono ?_
                    rintro e W12 ⟨rfl, n12, rfl⟩
                    clear HRun2
                    go_wp2_with fail
                    refine (unhide HKn _).mono ?_
                    rintro e W13 ⟨rfl, hb13⟩
                    go_wp2
                    go_ret
                    exact ⟨rfl, bnext (bdrew (unhide HB11) n12) hb13⟩

theorem own : ownKnob Try.prog.godebug = none := by kernel_rfl
theorem laidOut2 : laidOutB Try.prog = true := by kernel_rfl

set_option maxRecDepth 100000 in
theorem lifted (os : Os) (started : os.Started) (H : Type) (enc : TypeId × Value → H) :
    ReturnsInHanded {} Try.checked os 4 .any (Rows.stampFormSpec.pre6 enc Try.prog Try.f4 Rows.stampFormRow.domain false) (Rows.stampFormSpec.post enc Try.prog Try.f4 false true false false) := by
  refine returnsInHanded_of_change (C := Try.checked) own started (by kernel_rfl) Try.func4
    (ChangeSpec.witness6 (enc := enc) (C := Try.checked) false ⟨#[], #[.slice none 0 0, .slice none 0 0], []⟩ 8 (by kernel_rfl) (by kernel_rfl) (by kernel_rfl) (by kernel_rfl)) ?_
  intro W base args ds gs before hval0 hW hcnd _
  have hval : ∀ (j : Nat) t v, Try.f4.params[j]? = some t → args[j]? = some v → Value.okWide Try.prog W .any base t v := hval0
  have hW' := hW
  obtain ⟨p, q, hA0, hV, rfl, hfz, hnd⟩ := hW
  have hA : DataW.TrodAll enc Try.prog W 0 (fun _ => true) true Try.f4.params.toList args.toList ds p := hA0
  rw [Try.params4] at hA hval
  obtain ⟨v0, vs0, d0, ds0, p0, q0, hargs, rfl, rfl, h0, r0⟩ := trodAll_cons hA
  obtain ⟨v1, vs1, d1, ds1, p1, q1, rfl, rfl, rfl, h1, r1⟩ := trodAll_cons r0
  obtain ⟨rfl, rfl, rfl⟩ := trodAll_nil r1
  obtain rfl : args = #[v0, v1] := by cases args; simp_all
  obtain ⟨rfl, rfl⟩ := trodVars_none hV
  obtain ⟨a0, len0, cap0, rfl⟩ := okWide_slice Try.underlying24 (hval 0 24 v0 rfl rfl)
  have k0 := h0
  have lt0 : ∀ x ∈ p0, x.block < W.heap.size := by obtain ⟨m, hm⟩ := k0; exact DataW.trod_lt m _ _ _ hm
  obtain ⟨z0, w0⟩ : ∃ l : List (Int × Int), RI W (.slice a0 len0 cap0) l ∧ l.length = len0 ∧ len0 ≤ maxLen ∧ ∀ e ∈ l, idIn e := by
    obtain ⟨fuel, hf⟩ := h0
    simp only [Value.cells] at hf
    exact open_ids hf
  obtain ⟨a1, len1, cap1, rfl⟩ := okWide_slice Try.underlying35 (hval 1 35 v1 rfl rfl)
  have k1 := h1
  have lt1 : ∀ x ∈ p1, x.block < W.heap.size := by obtain ⟨m, hm⟩ := k1; exact DataW.trod_lt m _ _ _ hm
  obtain ⟨z1, w1⟩ : ∃ l : List Int, RN W (.slice a1 len1 cap1) l ∧ l.length = len1 ∧ len1 ≤ maxLen ∧ ∀ e ∈ l, in64 e := by
    obtain ⟨fuel, hf⟩ := h1
    simp only [Value.cells] at hf
    exact open_nums hf
  clear hA0 hval0
  refine (walk a0 len0 cap0 z0 a1 len1 cap1 z1 W w0 w1).mono fun e W' ⟨he, bel⟩ => ?_
  subst he
  exact ⟨_, rfl, _, _, _, [], _, [], hW', trodAll_mk1 (shut_bool Try.underlying4 _), (trodAll_cons_mk (Below.trod laidOut2 (by kernel_rfl) (of_decide_eq_true (by kernel_rfl)) k0 bel lt0) (trodAll_cons_mk (Below.trod laidOut2 (by kernel_rfl) (of_decide_eq_true (by kernel_rfl)) k1 bel lt1) trodAll_mk0)), rfl, bel.frame _, fun h => by cases h⟩

theorem over : Rows.stampFormRow.holds Try.pinned (OpenSpec.ofChange Rows.stampFormSpec) :=
  OpenClaim.holds_of_wide 4 Try.f4 rfl rfl rfl rfl rfl rfl rfl ⟨rfl, rfl, rfl, rfl, rfl⟩ rfl rfl rfl rfl rfl (by kernel_rfl) Try.func4 (by kernel_rfl)
    (of_decide_eq_true (by kernel_rfl)) (by unfold Func.isWrapper; first | (rw [if_pos (by decide +kernel)]; kernel_rfl) | (rw [if_neg (by decide +kernel)]; exact ⟨rfl, rfl⟩))
    (fun os started H enc _ => lifted os started H enc)

end LStampForm

theorem stampForm_holds : Rows.StampFormSaid := LStampForm.over

end Go.Proofs.Ytccggjhnjknblaa
