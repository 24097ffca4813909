/-
  Chapter 6's law StampChecks returns true for all lists of runs and of identifiers, and leaves its arguments as they were; no condition.
-/
import Derived.Test.YtgoalmkjmjikmaaRows
import Derived.WalkKit
import Derived.ProofKit
import Derived.OpenShut
import Derived.ShutString
import Derived.ChangeOld
import Derived.Below
import Derived.Test.YtgoalmkjmjikmaaZQB
import Derived.Test.YtgoalmkjmjikmaaZK3
import Derived.Test.YtgoalmkjmjikmaaZRF1
import Derived.Test.YtgoalmkjmjikmaaZOp
import Derived.Test.YtgoalmkjmjikmaaZRegG
import Derived.Deep.CutRange
set_option linter.unusedVariables false
set_option linter.unusedSimpArgs false
namespace Go.Proofs.Ytgoalmkjmjikmaa
namespace LStampChecks
open Go.ChangeShapes Go.WideShapes Go.ChangeAt Go.RowKit Go.Lib
open Go.ChangeMaps (open_string shut_string)

set_option maxRecDepth 100000 in
set_option maxHeartbeats 4000000 in
theorem many (a0 : Option Addr) (len0 cap0 : Nat) (a1 : Option Addr) (len1 cap1 : Nat) (W : World) (h : 400 < len0 ∨ 400 < len1) :
    Calls Try.prog 3 #[.slice a0 len0 cap0, .slice a1 len1 cap1] W fun e W' => e = .returned (.bool true) ∧ Below W.heap.size W W' := by
  have HK := hide (known_in W)
  by_cases h0 : 400 < len0
  · have h0' : (400 : Int) < (len0 : Int) := by omega
    clear h
    go_enter Try.func3, Try.ntmps3
    go_wp2_with (go_at_call 8; refine (unhide HK).mono ?_; rintro e W1 ⟨rfl, hb⟩)
    go_ret
    exact ⟨rfl, hb⟩
  · have h0' : ¬ (400 : Int) < (len0 : Int) := by omega
    have h1' : (400 : Int) < (len1 : Int) := by omega
    clear h
    go_enter Try.func3, Try.ntmps3
    go_wp2_with (go_at_call 8; refine (unhide HK).mono ?_; rintro e W1 ⟨rfl, hb⟩)
    go_ret
    exact ⟨rfl, hb⟩

/-- a box of one's own -/
def Tb (W2 wx : World) (v : Value) (I : Array Value) : Prop := ∃ b, v = .pointer (some ⟨b, 0, none⟩) ∧ Bx wx b 26 I ∧ W2.heap.size ≤ b ∧ Below W2.heap.size W2 wx
theorem in64_wrap (x : Int) : in64 (wrap64 x) := wf64 (wrap64_wf x)

set_option maxRecDepth 100000 in
set_option maxHeartbeats 8000000 in
theorem walk (a0 : Option Addr) (len0 cap0 : Nat) (z0 : List ((Int × Int) × Int)) (a1 : Option Addr) (len1 cap1 : Nat) (z1 : List (Int × Int)) (W : World)
    (w0 : RR W (.slice a0 len0 cap0) z0 ∧ z0.length = len0 ∧ len0 ≤ maxLen ∧ ∀ e ∈ z0, runIn e) (w1 : RI W (.slice a1 len1 cap1) z1 ∧ z1.length = len1 ∧ len1 ≤ maxLen ∧ ∀ e ∈ z1, idIn e) :
    Calls Try.prog 3 #[.slice a0 len0 cap0, .slice a1 len1 cap1] W fun e W' => e = .returned (.bool true) ∧ Below W.heap.size W W' := by
  obtain ⟨h0, hl0, -, hin0⟩ := w0
  obtain ⟨h1, hl1, -, hin1⟩ := w1
  by_cases hm : 400 < len0 ∨ 400 < len1
  · exact many a0 len0 cap0 a1 len1 cap1 W hm
  · have mixed : Try.prog.follows .mixedOrders = true := by kernel_rfl
    have hn0 : ¬ (400 : Int) < (len0 : Int) := by omega
    have hn1 : ¬ (400 : Int) < (len1 : Int) := by omega
    have hs0 : len0 ≤ 400 := by omega
    have hs1 : len1 ≤ 400 := by omega
    subst hl0 hl1
    clear hm
    -- the list, and one run behind it
    obtain ⟨v1, W1, hap1, ho1, hg1⟩ := app_nil 22 28 3 24 _ Try.underlying22 infoR rfl (by decide) W W.heap.size 22 _ z0.length (flat encR z0) h0 (flat_len encR_len z0) encR_one (Nat.le_refl _) (by unfold maxLen; omega) (by omega)
    have b1 : Below W.heap.size W W1 := (Below.refl _ W).grown hg1 (Nat.le_refl _) (fun k hk => by cases hk)
    obtain ⟨v2, W2, hap2, ho2, hg2, -⟩ := append_run W1 22 W.heap.size v1 z0 0 0 77 ho1 b1.size (by omega)
    have b2 : Below W.heap.size W W2 := (ballc b1 _).grown hg2 (ballc b1 _).size (fun k hk => (ho1.lt k hk).1)
    obtain ⟨a2, c2, hv2⟩ := owns_form ho2
    subst hv2
    have hrT : RR W2 (.slice a2 (z0 ++ [((0, 0), 77)]).length c2) (z0 ++ [((0, 0), 77)]) := RC.of_owns ho2
    have hrP : RR W2 (.slice a2 z0.length c2) z0 := RR.takeL hrT
    have hc2 : z0.length ≤ c2 := by
      obtain ⟨_, (⟨e1, e2⟩ | ⟨g, cap, cur, e1, _, _, e4, _⟩)⟩ := ho2
      · simp at e2
      · simp at e1 e4; omega
    have hsl := fun W n => sl_toR W a2 n c2 z0.length hc2
    obtain ⟨gT, oT, rfl, hgT, -, -, h77⟩ := RR.at hrT (i := z0.length) (r := ((0, 0), 77)) (by simp)
    have hlen2 : (z0 ++ [((0, 0), (77 : Int))]).length = z0.length + 1 := by simp
    rw [hlen2] at hap2
    have H0 := hide (h0.below b2)
    have H1 := hide (h1.below b2)
    have HP := hide hrP
    have H77 := hide h77
    have B2 := hide b2
    have Hin0 := hide hin0
    have Hin1 := hide hin1
    have HCa := hide (Check_in _ z0 W2 hrP hin0 (by omega))
    replace hap1 := hide hap1
    replace hap2 := hide hap2
    obtain ⟨n0, e0⟩ : ∃ n0, z0.length = n0 := ⟨_, rfl⟩
    obtain ⟨n1, e1⟩ : ∃ n1, z1.length = n1 := ⟨_, rfl⟩
    rw [e0] at hap1 hap2 hsl HCa H0 HP H77 hn0 hs0 hc2 ⊢
    rw [e1] at H1 hn1 hs1 ⊢
    have E0 := hide e0
    have E1 := hide e1
    obtain ⟨K, hK⟩ : ∃ K, chk z0 = K := ⟨_, rfl⟩
    rw [hK] at HCa
    replace hK := hide hK
    clear h0 h1 hin0 hin1 b1 b2 ho1 ho2 hg1 hg2 hrT hrP hlen2 e0 e1 h77
    go_enter Try.func3, Try.ntmps3
    go_wp2_with (at_builtin; first | refine wpList_append_eq rfl _ _ 22 rfl _ _ _ _ rfl rfl (unhide hap1) ?_ | refine wpList_append_eq rfl _ _ 22 rfl _ _ _ _ rfl rfl (unhide hap2) ?_)
    refine (unhide HCa).mono ?_
    rintro e W3 ⟨rfl, hb3⟩
    have HCb := hide (refCheck_in _ z0 W3 ((unhide H0).below hb3) (unhide Hin0) (by have := unhide E0; omega))
    rw [unhide hK] at HCb
    have hb3' := hide hb3
    clear HCa hb3 hap1 hap2
    go_wp2_with fail
    refine (unhide HCb).mono ?_
    rintro e W4 ⟨rfl, hb4⟩
    have B4 := hide (bnext (unhide hb3') hb4)
    clear HCb hb4 hb3'
    go_wp2
    go_loopw [6] (fun iv wr => ∃ i : Nat, iv = .int .i64 (i : Nat) ∧ i ≤ n1 ∧ Hid (Below W2.heap.size W2 wr)) (fun iv _ => n1 - (Lib.intOf iv).toNat)
    case atStart => exact ⟨0, rfl, by omega, B4⟩
    case round =>
      obtain ⟨i, rfl, hi, HB⟩ := hrel
      by_cases hlt : i < n1
      · have hlt' : (i : Int) < (n1 : Int) := by omega
        obtain ⟨x, hx⟩ : ∃ x, z1[i]? = some x := ⟨_, List.getElem?_eq_getElem (by have := unhide E1; omega)⟩
        have hxin := unhide Hin1 x (List.mem_of_getElem? hx)
        obtain ⟨b, off, rfl, hb, c0, c1⟩ := RI.at ((unhide H1).below (unhide HB)) hx
        obtain ⟨x1, x2⟩ := x
        simp only at c0 c1
        have CX : ∀ W', Below wr.heap.size wr W' → W'.cell? ⟨b, off + i * 2, none⟩ = some (.int .i64 x1) ∧ W'.cell? ⟨b, off + i * 2 + 1, none⟩ = some (.int .i64 x2) := fun W' h => ⟨(h.cell (p := ⟨b, off + i * 2, none⟩) hb).trans c0, (h.cell (p := ⟨b, off + i * 2 + 1, none⟩) hb).trans c1⟩
        replace CX := hide CX
        have hix : i < n1 := hlt
        have HAa := hide (fun (W' : World) (h : Below wr.heap.size wr W') => Has_in _ z0 x1 x2 W' (((unhide HP).below (unhide HB)).below h) (unhide Hin0) (by have := unhide E0; omega) hxin.1)
        have HAb := hide (fun (W' : World) (h : Below wr.heap.size wr W') => refHas_in _ z0 x1 x2 W' (((unhide H0).below (unhide HB)).below h) (unhide Hin0) (by have := unhide E0; omega) hxin.1)
        generalize hasR z0 (x1, x2) = A at HAa HAb
        clear hx hxin c0 c1
        go_upto_region 11 with fail
        go_cut [56] from 41 to 56 (fun v wx => v = .bool false ∧ Hid (Below W2.heap.size W2 wx))
        case first =>
          refine wp_region_any (by kernel_rfl) ?_
          change wpAny _ _ _ _ _ _ _ (World.drew _)
          refine region_invG 138 (fun j => 41 + j) ((0, (Value.slice a0 n0 cap0)) :: (1, (Value.slice (some { block := b, off := off }) n1 cap1)) :: (2, undef) :: (3, undef) :: (4, u4) :: (5, (Value.slice (some { block := gT, off := oT }) (n0 + 1) c2)) :: (6, (Value.int IntKind.i64 (i : Int))) :: (7, undef) :: (8, undef) :: (9, undef) :: (10, undef) :: (11, (Value.slice a0 n0 cap0)) :: (12, (Value.int IntKind.i64 (n0 : Int))) :: (13, (Value.bool false)) :: (14, (Value.bool false)) :: (15, (Value.slice (some { block := b, off := off }) n1 cap1)) :: (16, (Value.int IntKind.i64 (n1 : Int))) :: (17, (Value.bool false)) :: (18, (Value.bool false)) :: (19, undef) :: (20, (Value.slice none 0 0)) :: (21, (Value.slice a0 n0 cap0)) :: (22, v1) :: (23, v1) :: (24, (Value.agg #[Value.int IntKind.i64 0, Value.int IntKind.i64 0, Value.int IntKind.i64 77])) :: (25, (Value.slice (some { block := W1.heap.size, off := 0 }) 1 1)) :: (26, (Value.slice (some { block := gT, off := oT }) (n0 + 1) c2)) :: (27, (Value.slice (some { block := gT, off := oT }) (n0 + 1) c2)) :: (28, (Value.slice a0 n0 cap0)) :: (29, (Value.int IntKind.i64 (n0 : Int))) :: (30, (Value.slice (some { block := gT, off := oT }) n0 c2)) :: (31, (Value.int IntKind.i64 K)) :: (32, (Value.slice a0 n0 cap0)) :: (33, (Value.int IntKind.i64 K)) :: (34, (Value.bool false)) :: (35, (Value.int IntKind.i64 (i : Int))) :: (36, (Value.slice (some { block := b, off := off }) n1 cap1)) :: (37, (Value.int IntKind.i64 (n1 : Int))) :: (38, (Value.bool true)) :: (39, u39) :: (40, u40) :: (57, undef) :: (58, undef) :: (59, undef) :: (60, undef) :: (61, undef) :: (62, undef) :: (63, undef) :: (64, undef) :: (65, undef) :: (66, undef) :: (67, undef) :: (68, undef) :: (69, undef) :: (70, undef) :: (71, undef) :: (72, undef) :: (73, undef) :: (74, undef) :: (75, undef) :: (76, undef) :: (77, undef) :: (78, undef) :: (79, undef) :: (80, undef) :: (81, undef) :: (82, undef) :: (83, undef) :: (84, undef) :: (85, undef) :: (86, undef) :: (87, undef) :: (88, undef) :: (89, undef) :: (90, undef) :: (91, undef) :: (92, undef) :: (93, undef) :: (94, undef) :: (95, undef) :: (96, undef) :: (97, undef) :: (98, undef) :: (99, undef) :: (100, undef) :: (101, undef) :: (102, undef) :: (103, undef) :: (104, undef) :: (105, undef) :: (106, undef) :: (107, undef) :: (108, undef) :: (109, undef) :: (110, undef) :: (111, undef) :: (112, undef) :: (113, undef) :: (114, undef) :: (115, undef) :: (116, undef) :: (117, undef) :: (118, undef) :: (119, undef) :: (120, undef) :: (121, undef) :: (122, undef) :: (123, undef) :: (124, undef) :: (125, undef) :: (126, undef) :: (127, undef) :: (128, undef) :: (129, undef) :: (130, undef) :: (131, undef) :: (132, undef) :: (133, undef) :: (134, undef) :: (135, undef) :: (136, undef) :: (137, undef) :: [])
            (fun W => Below wr.heap.size wr W)
            (valsOf [isV (Value.slice (some { block := gT, off := oT }) (n0 + 1) c2), isV (Value.slice a0 n0 cap0), isV (.int .i64 (n0 : Nat)), isV (.slice (some ⟨gT, oT, none⟩) n0 c2), isV (Value.slice (some { block := b, off := off }) n1 cap1), isV (Value.int IntKind.i64 (i : Int)), isV (.pointer (some ⟨b, off + i * 2, none⟩)), isV (.agg #[.int .i64 x1, .int .i64 x2]), isV (.bool A), isV (Value.slice a0 n0 cap0), isV (Value.slice (some { block := b, off := off }) n1 cap1), isV (Value.int IntKind.i64 (i : Int)), isV (.pointer (some ⟨b, off + i * 2, none⟩)), isV (.agg #[.int .i64 x1, .int .i64 x2]), isV (.bool A), isV (.bool false)])
            (fun w w' => Below w.heap.size w w') ?fit (fun w1 w2 h hG => h.trans (hG.mono h.size)) (valsOf_stable ?stable) (fun _ => true) [] ?gs ?gv ?steps ?fin _ _ ?sz rfl ?base ?start
          case fit => kernel_rfl
          case sz => rfl
          case gs => kernel_rfl
          case gv => intro p hp w v hv; cases hp
          case base => intro p hp; repeat (first | (rcases List.mem_cons.1 hp with rfl | hp; · rfl) | cases hp)
          case stable => exact Stables.all (by repeat (first | exact .nil | refine .same ?_))
          case start => exact (Below.refl _ _).drew
          case steps =>
            refine .cons (fun ρ wz hρ hJ hb hd => by
              refine Eq.mpr (if_neg (by decide)) ?_
              have dd0 : ρ (.tmp 5) = (Value.slice (some { block := gT, off := oT }) (n0 + 1) c2) := hb (5, _) (List.mem_of_getElem? (i := 5) rfl)
              exact step_move (.tmp 5) rfl ⟨Below.refl _ _, dd0⟩) ?_
            refine .cons (fun ρ wz hρ hJ hb hd => by
              refine Eq.mpr (if_neg (by decide)) ?_
              have dd0 : ρ (.tmp 0) = (Value.slice a0 n0 cap0) := hb (0, _) (List.mem_of_getElem? (i := 0) rfl)
              exact step_move (.tmp 0) rfl ⟨Below.refl _ _, dd0⟩) ?_
            refine .cons (fun ρ wz hρ hJ hb hd => by
              refine Eq.mpr (if_neg (by decide)) ?_
              have dd0 : ρ (.tmp 42) = (Value.slice a0 n0 cap0) := hd 0 _ rfl rfl
              exact step_val (v := (.int .i64 (n0 : Nat))) (w' := wz) (by simp [go_sem, execOp, dd0, hρ.const]) ⟨Below.refl _ _, rfl⟩) ?_
            refine .cons (fun ρ wz hρ hJ hb hd => by
              refine Eq.mpr (if_neg (by decide)) ?_
              have dd0 : ρ (.tmp 41) = (Value.slice (some { block := gT, off := oT }) (n0 + 1) c2) := hd 0 _ rfl rfl
              have dd1 : ρ (.tmp 43) = (.int .i64 (n0 : Nat)) := hd 1 _ rfl rfl
              exact step_val (v := (.slice (some ⟨gT, oT, none⟩) n0 c2)) (w' := wz) (by simp [execOp, dd0, dd1, hsl]) ⟨Below.refl _ _, rfl⟩) ?_
            refine .cons (fun ρ wz hρ hJ hb hd => by
              refine Eq.mpr (if_neg (by decide)) ?_
              have dd0 : ρ (.tmp 1) = (Value.slice (some { block := b, off := off }) n1 cap1) := hb (1, _) (List.mem_of_getElem? (i := 1) rfl)
              exact step_move (.tmp 1) rfl ⟨Below.refl _ _, dd0⟩) ?_
            refine .cons (fun ρ wz hρ hJ hb hd => by
              refine Eq.mpr (if_neg (by decide)) ?_
              have dd0 : ρ (.tmp 6) = (Value.int IntKind.i64 (i : Int)) := hb (6, _) (List.mem_of_getElem? (i := 6) rfl)
              exact step_move (.tmp 6) rfl ⟨Below.refl _ _, dd0⟩) ?_
            refine .cons (fun ρ wz hρ hJ hb hd => by
              refine Eq.mpr (if_neg (by decide)) ?_
              have dd0 : ρ (.tmp 45) = (Value.slice (some { block := b, off := off }) n1 cap1) := hd 0 _ rfl rfl
              have dd1 : ρ (.tmp 46) = (Value.int IntKind.i64 (i : Int)) := hd 1 _ rfl rfl
              exact step_val (v := (.pointer (some ⟨b, off + i * 2, none⟩))) (w' := wz) (by simp [go_sem, execOp, dd0, dd1, hlt, hlt', hix]) ⟨Below.refl _ _, rfl⟩) ?_
            refine .cons (fun ρ wz hρ hJ hb hd => by
              refine Eq.mpr (if_neg (by decide)) ?_
              have dd0 : ρ (.tmp 47) = (.pointer (some ⟨b, off + i * 2, none⟩)) := hd 0 _ rfl rfl
              obtain ⟨u0, u1⟩ := unhide CX wz hJ
              exact step_val (v := (.agg #[.int .i64 x1, .int .i64 x2])) (w' := wz) (by simp [go_sem, execOp, dd0, u0, u1]) ⟨Below.refl _ _, rfl⟩) ?_
            refine .cons (fun ρ wz hρ hJ hb hd => by
              refine Eq.mpr (if_neg (by decide)) ?_
              have dd0 : ρ (.tmp 44) = (.slice (some ⟨gT, oT, none⟩) n0 c2) := hd 0 _ rfl rfl
              have dd1 : ρ (.tmp 48) = (.agg #[.int .i64 x1, .int .i64 x2]) := hd 1 _ rfl rfl
              refine step_func 11 _ _ #[.slice (some ⟨gT, oT, none⟩) n0 c2, .agg #[.int .i64 x1, .int .i64 x2]] hρ rfl (enters_of Try.func11 (by kernel_rfl) rfl) (by simp [dd0, dd1]) ?_
              refine (unhide HAa wz hJ).mono ?_
              rintro r W' ⟨rfl, hb2⟩
              exact ⟨_, rfl, hb2, rfl⟩) ?_
            refine .cons (fun ρ wz hρ hJ hb hd => by
              refine Eq.mpr (if_neg (by decide)) ?_
              have dd0 : ρ (.tmp 0) = (Value.slice a0 n0 cap0) := hb (0, _) (List.mem_of_getElem? (i := 0) rfl)
              exact step_move (.tmp 0) rfl ⟨Below.refl _ _, dd0⟩) ?_
            refine .cons (fun ρ wz hρ hJ hb hd => by
              refine Eq.mpr (if_neg (by decide)) ?_
              have dd0 : ρ (.tmp 1) = (Value.slice (some { block := b, off := off }) n1 cap1) := hb (1, _) (List.mem_of_getElem? (i := 1) rfl)
              exact step_move (.tmp 1) rfl ⟨Below.refl _ _, dd0⟩) ?_
            refine .cons (fun ρ wz hρ hJ hb hd => by
              refine Eq.mpr (if_neg (by decide)) ?_
              have dd0 : ρ (.tmp 6) = (Value.int IntKind.i64 (i : Int)) := hb (6, _) (List.mem_of_getElem? (i := 6) rfl)
              exact step_move (.tmp 6) rfl ⟨Below.refl _ _, dd0⟩) ?_
            refine .cons (fun ρ wz hρ hJ hb hd => by
              refine Eq.mpr (if_neg (by decide)) ?_
              have dd0 : ρ (.tmp 51) = (Value.slice (some { block := b, off := off }) n1 cap1) := hd 0 _ rfl rfl
              have dd1 : ρ (.tmp 52) = (Value.int IntKind.i64 (i : Int)) := hd 1 _ rfl rfl
              exact step_val (v := (.pointer (some ⟨b, off + i * 2, none⟩))) (w' := wz) (by simp [go_sem, execOp, dd0, dd1, hlt, hlt', hix]) ⟨Below.refl _ _, rfl⟩) ?_
            refine .cons (fun ρ wz hρ hJ hb hd => by
              refine Eq.mpr (if_neg (by decide)) ?_
              have dd0 : ρ (.tmp 53) = (.pointer (some ⟨b, off + i * 2, none⟩)) := hd 0 _ rfl rfl
              obtain ⟨u0, u1⟩ := unhide CX wz hJ
              exact step_val (v := (.agg #[.int .i64 x1, .int .i64 x2])) (w' := wz) (by simp [go_sem, execOp, dd0, u0, u1]) ⟨Below.refl _ _, rfl⟩) ?_
            refine .cons (fun ρ wz hρ hJ hb hd => by
              refine Eq.mpr (if_neg (by decide)) ?_
              have dd0 : ρ (.tmp 50) = (Value.slice a0 n0 cap0) := hd 0 _ rfl rfl
              have dd1 : ρ (.tmp 54) = (.agg #[.int .i64 x1, .int .i64 x2]) := hd 1 _ rfl rfl
              refine step_func 12 _ _ #[Value.slice a0 n0 cap0, .agg #[.int .i64 x1, .int .i64 x2]] hρ rfl (enters_of Try.func12 (by kernel_rfl) rfl) (by simp [dd0, dd1]) ?_
              refine (unhide HAb wz hJ).mono ?_
              rintro r W' ⟨rfl, hb2⟩
              exact ⟨_, rfl, hb2, rfl⟩) ?_
            refine .cons (fun ρ wz hρ hJ hb hd => by
              refine Eq.mpr (if_neg (by decide)) ?_
              have dd0 : ρ (.tmp 49) = (.bool A) := hd 0 _ rfl rfl
              have dd1 : ρ (.tmp 55) = (.bool A) := hd 1 _ rfl rfl
              exact step_val (v := (.bool false)) (w' := wz) (by simp [go_sem, execOp, dd0, dd1, hρ.const]) ⟨Below.refl _ _, rfl⟩) (.nil _)
          case fin =>
            intro aQ WQ hsz2 hds hb hJ hv
            obtain rfl := frame_of (((0, (Value.slice a0 n0 cap0)) :: (1, (Value.slice (some { block := b, off := off }) n1 cap1)) :: (2, undef) :: (3, undef) :: (4, u4) :: (5, (Value.slice (some { block := gT, off := oT }) (n0 + 1) c2)) :: (6, (Value.int IntKind.i64 (i : Int))) :: (7, undef) :: (8, undef) :: (9, undef) :: (10, undef) :: (11, (Value.slice a0 n0 cap0)) :: (12, (Value.int IntKind.i64 (n0 : Int))) :: (13, (Value.bool false)) :: (14, (Value.bool false)) :: (15, (Value.slice (some { block := b, off := off }) n1 cap1)) :: (16, (Value.int IntKind.i64 (n1 : Int))) :: (17, (Value.bool false)) :: (18, (Value.bool false)) :: (19, undef) :: (20, (Value.slice none 0 0)) :: (21, (Value.slice a0 n0 cap0)) :: (22, v1) :: (23, v1) :: (24, (Value.agg #[Value.int IntKind.i64 0, Value.int IntKind.i64 0, Value.int IntKind.i64 77])) :: (25, (Value.slice (some { block := W1.heap.size, off := 0 }) 1 1)) :: (26, (Value.slice (some { block := gT, off := oT }) (n0 + 1) c2)) :: (27, (Value.slice (some { block := gT, off := oT }) (n0 + 1) c2)) :: (28, (Value.slice a0 n0 cap0)) :: (29, (Value.int IntKind.i64 (n0 : Int))) :: (30, (Value.slice (some { block := gT, off := oT }) n0 c2)) :: (31, (Value.int IntKind.i64 K)) :: (32, (Value.slice a0 n0 cap0)) :: (33, (Value.int IntKind.i64 K)) :: (34, (Value.bool false)) :: (35, (Value.int IntKind.i64 (i : Int))) :: (36, (Value.slice (some { block := b, off := off }) n1 cap1)) :: (37, (Value.int IntKind.i64 (n1 : Int))) :: (38, (Value.bool true)) :: (39, u39) :: (40, u40) :: (57, undef) :: (58, undef) :: (59, undef) :: (60, undef) :: (61, undef) :: (62, undef) :: (63, undef) :: (64, undef) :: (65, undef) :: (66, undef) :: (67, undef) :: (68, undef) :: (69, undef) :: (70, undef) :: (71, undef) :: (72, undef) :: (73, undef) :: (74, undef) :: (75, undef) :: (76, undef) :: (77, undef) :: (78, undef) :: (79, undef) :: (80, undef) :: (81, undef) :: (82, undef) :: (83, undef) :: (84, undef) :: (85, undef) :: (86, undef) :: (87, undef) :: (88, undef) :: (89, undef) :: (90, undef) :: (91, undef) :: (92, undef) :: (93, undef) :: (94, undef) :: (95, undef) :: (96, undef) :: (97, undef) :: (98, undef) :: (99, undef) :: (100, undef) :: (101, undef) :: (102, undef) :: (103, undef) :: (104, undef) :: (105, undef) :: (106, undef) :: (107, undef) :: (108, undef) :: (109, undef) :: (110, undef) :: (111, undef) :: (112, undef) :: (113, undef) :: (114, undef) :: (115, undef) :: (116, undef) :: (117, undef) :: (118, undef) :: (119, undef) :: (120, undef) :: (121, undef) :: (122, undef) :: (123, undef) :: (124, undef) :: (125, undef) :: (126, undef) :: (127, undef) :: (128, undef) :: (129, undef) :: (130, undef) :: (131, undef) :: (132, undef) :: (133, undef) :: (134, undef) :: (135, undef) :: (136, undef) :: (137, undef) :: []) ++ ((41, (Value.slice (some { block := gT, off := oT }) (n0 + 1) c2)) :: (42, (Value.slice a0 n0 cap0)) :: (43, (.int .i64 (n0 : Nat))) :: (44, (.slice (some ⟨gT, oT, none⟩) n0 c2)) :: (45, (Value.slice (some { block := b, off := off }) n1 cap1)) :: (46, (Value.int IntKind.i64 (i : Int))) :: (47, (.pointer (some ⟨b, off + i * 2, none⟩))) :: (48, (.agg #[.int .i64 x1, .int .i64 x2])) :: (49, (.bool A)) :: (50, (Value.slice a0 n0 cap0)) :: (51, (Value.slice (some { block := b, off := off }) n1 cap1)) :: (52, (Value.int IntKind.i64 (i : Int))) :: (53, (.pointer (some ⟨b, off + i * 2, none⟩))) :: (54, (.agg #[.int .i64 x1, .int .i64 x2])) :: (55, (.bool A)) :: (56, (.bool false)) :: [])) ((Value.slice a0 n0 cap0) :: (Value.slice (some { block := b, off := off }) n1 cap1) :: undef :: undef :: u4 :: (Value.slice (some { block := gT, off := oT }) (n0 + 1) c2) :: (Value.int IntKind.i64 (i : Int)) :: undef :: undef :: undef :: undef :: (Value.slice a0 n0 cap0) :: (Value.int IntKind.i64 (n0 : Int)) :: (Value.bool false) :: (Value.bool false) :: (Value.slice (some { block := b, off := off }) n1 cap1) :: (Value.int IntKind.i64 (n1 : Int)) :: (Value.bool false) :: (Value.bool false) :: undef :: (Value.slice none 0 0) :: (Value.slice a0 n0 cap0) :: v1 :: v1 :: (Value.agg #[Value.int IntKind.i64 0, Value.int IntKind.i64 0, Value.int IntKind.i64 77]) :: (Value.slice (some { block := W1.heap.size, off := 0 }) 1 1) :: (Value.slice (some { block := gT, off := oT }) (n0 + 1) c2) :: (Value.slice (some { block := gT, off := oT }) (n0 + 1) c2) :: (Value.slice a0 n0 cap0) :: (Value.int IntKind.i64 (n0 : Int)) :: (Value.slice (some { block := gT, off := oT }) n0 c2) :: (Value.int IntKind.i64 K) :: (Value.slice a0 n0 cap0) :: (Value.int IntKind.i64 K) :: (Value.bool false) :: (Value.int IntKind.i64 (i : Int)) :: (Value.slice (some { block := b, off := off }) n1 cap1) :: (Value.int IntKind.i64 (n1 : Int)) :: (Value.bool true) :: u39 :: u40 :: (Value.slice (some { block := gT, off := oT }) (n0 + 1) c2) :: (Value.slice a0 n0 cap0) :: (.int .i64 (n0 : Nat)) :: (.slice (some ⟨gT, oT, none⟩) n0 c2) :: (Value.slice (some { block := b, off := off }) n1 cap1) :: (Value.int IntKind.i64 (i : Int)) :: (.pointer (some ⟨b, off + i * 2, none⟩)) :: (.agg #[.int .i64 x1, .int .i64 x2]) :: (.bool A) :: (Value.slice a0 n0 cap0) :: (Value.slice (some { block := b, off := off }) n1 cap1) :: (Value.int IntKind.i64 (i : Int)) :: (.pointer (some ⟨b, off + i * 2, none⟩)) :: (.agg #[.int .i64 x1, .int .i64 x2]) :: (.bool A) :: (.bool false) :: undef :: undef :: undef :: undef :: undef :: undef :: undef :: undef :: undef :: undef :: undef :: undef :: undef :: undef :: undef :: undef :: undef :: undef :: undef :: undef :: undef :: undef :: undef :: undef :: undef :: undef :: undef :: undef :: undef :: undef :: undef :: undef :: undef :: undef :: undef :: undef :: undef :: undef :: undef :: undef :: undef :: undef :: undef :: undef :: undef :: undef :: undef :: undef :: undef :: undef :: undef :: undef :: undef :: undef :: undef :: undef :: undef :: undef :: undef :: undef :: undef :: undef :: undef :: undef :: undef :: undef :: undef :: undef :: undef :: undef :: undef :: undef :: undef :: undef :: undef :: undef :: undef :: undef :: undef :: undef :: undef :: []) hsz2 hds (fun p hp => by
              rcases List.mem_append.1 hp with h | h
              · exact hb p h
              · simp only [List.mem_cons, List.not_mem_nil, or_false] at h
                rcases h with rfl | rfl | rfl | rfl | rfl | rfl | rfl | rfl | rfl | rfl | rfl | rfl | rfl | rfl | rfl | rfl
                · exact hv 0 (by decide)
                · exact hv 1 (by decide)
                · exact hv 2 (by decide)
                · exact hv 3 (by decide)
                · exact hv 4 (by decide)
                · exact hv 5 (by decide)
                · exact hv 6 (by decide)
                · exact hv 7 (by decide)
                · exact hv 8 (by decide)
                · exact hv 9 (by decide)
                · exact hv 10 (by decide)
                · exact hv 11 (by decide)
                · exact hv 12 (by decide)
                · exact hv 13 (by decide)
                · exact hv 14 (by decide)
                · exact hv 15 (by decide)) rfl
            clear hb hds hsz2 hv
            go_wp2
            go_meet
            case rel => exact ⟨rfl, hide (bnext (unhide HB) hJ)⟩
        case rest =>
          clear CX HAa HAb
          obtain ⟨rfl, HB2⟩ := hcut
          go_wp2
          go_roundw
          case measure => show n1 - ((i : Int) + 1).toNat < n1 - ((i : Nat) : Int).toNat; omega
          case rel => exact ⟨i + 1, by go_num, by omega, HB2⟩
      · have hlt' : ¬ (i : Int) < (n1 : Int) := by omega
        go_wp2
        go_loopw [7] (fun iv wq => ∃ k : Nat, iv = .int .i64 (k : Nat) ∧ k ≤ n0 ∧ Hid (Below W2.heap.size W2 wq)) (fun iv _ => n0 - (Lib.intOf iv).toNat)
        case atStart => exact ⟨0, rfl, by omega, HB⟩
        case round =>
          obtain ⟨k, rfl, hk, HB5⟩ := hrel
          by_cases hkn : k < n0 ∧ k < 20
          · have hk1 : (k : Int) < (n0 : Int) := by omega
            have hk2 : (k : Int) < 20 := by omega
            obtain ⟨r, hr⟩ : ∃ r, z0[k]? = some r := ⟨_, List.getElem?_eq_getElem (by have := unhide E0; omega)⟩
            have hrin := unhide Hin0 r (List.mem_of_getElem? hr)
            obtain ⟨gA, oA, rfl, hgA, c0, c1, c2'⟩ := RR.at ((unhide H0).below (unhide HB5)) hr
            obtain ⟨⟨f, s⟩, n⟩ := r
            simp only at c0 c1 c2'
            clear hr
            have i9 := in64_wrap (wrap64 (f + n) - 1)
            have i10 := in64_wrap (f + n)
            have i8 := hrin.1.1
            obtain ⟨l9, h9⟩ : ∃ x, wrap64 (wrap64 (f + n) - 1) = x := ⟨_, rfl⟩
            obtain ⟨l10, h10⟩ : ∃ x, wrap64 (f + n) = x := ⟨_, rfl⟩
            rw [h9] at i9
            rw [h10] at i10
            obtain ⟨X1, hX1⟩ : ∃ X1, wr.alloc (.cells #[.int .i64 f, .int .i64 s] 26) = X1 := ⟨_, rfl⟩
            have bq : Below wr.heap.size wr X1 := by rw [← hX1]; exact ballc (Below.refl _ _) _
            have Y8 : Bx X1 wr.heap.size 26 #[.int .i64 f, .int .i64 s] := by rw [← hX1]; exact Bx.new wr _ _
            have D2 := hide (fun (W' : World) (h : Below X1.heap.size X1 W') => show (W'.cell? ⟨gA, oA + k * 3 + 2, none⟩ = some (.int .i64 n) ∧ gA < W'.heap.size) ∧ Bx W' wr.heap.size 26 #[.int .i64 f, .int .i64 s] from ⟨⟨((bnext bq h).cell (p := ⟨gA, oA + k * 3 + 2, none⟩) hgA).trans c2', Nat.lt_of_lt_of_le hgA (bnext bq h).size⟩, Y8.below h⟩)
            have BQ := hide bq
            have H9 := hide h9
            have H10 := hide h10
            clear bq Y8 h9 h10 c2'
            go_upto_region 17 with fail
            obtain ⟨⟨d2, hg2⟩, y8⟩ := unhide D2 X1 (Below.refl _ _)
            have d0 := y8.cell 0 _ rfl
            have d1 := y8.cell 1 _ rfl
            have dl := y8.lt
            clear y8 c0 c1
            go_cut [9] from 72 to 83 (fun v wx => Hid (Tb X1 wx v #[.int .i64 l9, .int .i64 s]))
            case first =>
              clear H0 H1 HP H77 B2 Hin0 Hin1 E0 E1 hK HB HB5 hX1 BQ D2 i9 i10 i8 hrin H10
              go_region
              all_goals (go_wp2; go_meet)
              case rel =>
                rw [unhide H9]
                exact hide ⟨_, rfl, (Bx.new _ _ _).below (Below.refl _ _).drew, Nat.le_refl _, (ballc (Below.refl _ _) _).drew⟩
            case rest =>
            obtain ⟨b9, rfl, x9, g9, h9b⟩ := unhide hcut
            obtain ⟨⟨e2, he2⟩, y8⟩ := unhide D2 _ h9b
            have e0 := y8.cell 0 _ rfl
            have e1 := y8.cell 1 _ rfl
            have el := y8.lt
            have X9 := hide x9
            have B9 := hide h9b
            clear d0 d1 d2 dl hg2 hcut x9 h9b y8
            go_upto_region 18 with fail
            go_cut [10] from 84 to 94 (fun v wx => Hid (Tb wc wx v #[.int .i64 l10, .int .i64 s]))
            case first =>
              clear H0 H1 HP H77 B2 Hin0 Hin1 E0 E1 hK HB HB5 hX1 BQ D2 i9 i10 i8 hrin H9 X9 B9
              go_region
              all_goals (go_wp2; go_meet)
              case rel =>
                rw [unhide H10]
                exact hide ⟨_, rfl, (Bx.new _ _ _).below (Below.refl _ _).drew, Nat.le_refl _, (ballc (Below.refl _ _) _).drew⟩
            case rest =>
            obtain ⟨b10, rfl, x10, g10, h10b⟩ := unhide hcut
            have BX : Below wr.heap.size wr wc := bnext (unhide BQ) (bnext (unhide B9) h10b)
            have Y8 := (unhide D2 _ (bnext (unhide B9) h10b)).2
            have Y9 := (unhide X9).below h10b
            have Hrow := hide (fun (W' : World) (h : Below wc.heap.size wc W') => ((unhide H0).below (unhide HB5)).below (bnext BX h))
            have HBX := hide (bnext (unhide HB5) BX)
            have C8 := hide (fun (W' : World) (h : Below wc.heap.size wc W') => And.intro ((Y8.below h).cell 0 _ rfl) ((Y8.below h).cell 1 _ rfl))
            have C9 := hide (fun (W' : World) (h : Below wc.heap.size wc W') => And.intro ((Y9.below h).cell 0 _ rfl) ((Y9.below h).cell 1 _ rfl))
            have C10 := hide (fun (W' : World) (h : Below wc.heap.size wc W') => And.intro ((x10.below h).cell 0 _ rfl) ((x10.below h).cell 1 _ rfl))
            have hzl : z0.length ≤ 1000000000 := by have := unhide E0; omega
            have Ha8 := hide (fun (W' : World) (h : Below wc.heap.size wc W') => Has_in _ z0 f s W' (unhide Hrow W' h) (unhide Hin0) hzl i8)
            have Hb8 := hide (fun (W' : World) (h : Below wc.heap.size wc W') => refHas_in _ z0 f s W' (unhide Hrow W' h) (unhide Hin0) hzl i8)
            have Ha9 := hide (fun (W' : World) (h : Below wc.heap.size wc W') => Has_in _ z0 l9 s W' (unhide Hrow W' h) (unhide Hin0) hzl i9)
            have Hb9 := hide (fun (W' : World) (h : Below wc.heap.size wc W') => refHas_in _ z0 l9 s W' (unhide Hrow W' h) (unhide Hin0) hzl i9)
            have Ha10 := hide (fun (W' : World) (h : Below wc.heap.size wc W') => Has_in _ z0 l10 s W' (unhide Hrow W' h) (unhide Hin0) hzl i10)
            have Hb10 := hide (fun (W' : World) (h : Below wc.heap.size wc W') => refHas_in _ z0 l10 s W' (unhide Hrow W' h) (unhide Hin0) hzl i10)
            generalize hasR z0 (f, s) = A8 at Ha8 Hb8
            generalize hasR z0 (l9, s) = A9 at Ha9 Hb9
            generalize hasR z0 (l10, s) = A10 at Ha10 Hb10
            clear Y8 Y9 x10 i8 i9 i10 hrin hzl BX h10b hcut D2 X9 B9 BQ H9 H10 hX1 e0 e1 e2 el he2 g9 g10
            go_upto_region 19 with fail
            go_cut [119] from 95 to 119 (fun v wx => v = .bool false ∧ Hid (Below W2.heap.size W2 wx))
            case first =>
              refine wp_region_any (by kernel_rfl) ?_
              change wpAny _ _ _ _ _ _ _ (World.drew _)
              refine region_invG 138 (fun j => 95 + j) ((0, (Value.slice (some { block := gA, off := oA }) n0 cap0)) :: (1, (Value.slice a1 n1 cap1)) :: (2, undef) :: (3, undef) :: (4, u4) :: (5, (Value.slice (some { block := gT, off := oT }) (n0 + 1) c2)) :: (6, (Value.int IntKind.i64 (i : Int))) :: (7, (Value.int IntKind.i64 (k : Int))) :: (8, (Value.pointer (some { block := wr.heap.size, off := 0 }))) :: (9, (Value.pointer (some { block := b9, off := 0 }))) :: (10, (Value.pointer (some { block := b10, off := 0 }))) :: (11, (Value.slice (some { block := gA, off := oA }) n0 cap0)) :: (12, (Value.int IntKind.i64 (n0 : Int))) :: (13, (Value.bool false)) :: (14, (Value.bool false)) :: (15, (Value.slice a1 n1 cap1)) :: (16, (Value.int IntKind.i64 (n1 : Int))) :: (17, (Value.bool false)) :: (18, (Value.bool false)) :: (19, undef) :: (20, (Value.slice none 0 0)) :: (21, (Value.slice (some { block := gA, off := oA }) n0 cap0)) :: (22, v1) :: (23, v1) :: (24, (Value.agg #[Value.int IntKind.i64 0, Value.int IntKind.i64 0, Value.int IntKind.i64 77])) :: (25, (Value.slice (some { block := W1.heap.size, off := 0 }) 1 1)) :: (26, (Value.slice (some { block := gT, off := oT }) (n0 + 1) c2)) :: (27, (Value.slice (some { block := gT, off := oT }) (n0 + 1) c2)) :: (28, (Value.slice (some { block := gA, off := oA }) n0 cap0)) :: (29, (Value.int IntKind.i64 (n0 : Int))) :: (30, (Value.slice (some { block := gT, off := oT }) n0 c2)) :: (31, (Value.int IntKind.i64 K)) :: (32, (Value.slice (some { block := gA, off := oA }) n0 cap0)) :: (33, (Value.int IntKind.i64 K)) :: (34, (Value.bool false)) :: (35, (Value.int IntKind.i64 (i : Int))) :: (36, (Value.slice a1 n1 cap1)) :: (37, (Value.int IntKind.i64 (n1 : Int))) :: (38, (Value.bool false)) :: (39, u39) :: (40, u40) :: (41, u41) :: (42, u42) :: (43, u43) :: (44, u44) :: (45, u45) :: (46, u46) :: (47, u47) :: (48, u48) :: (49, u49) :: (50, u50) :: (51, u51) :: (52, u52) :: (53, u53) :: (54, u54) :: (55, u55) :: (56, u56) :: (57, (Value.int IntKind.i64 (k : Int))) :: (58, (Value.slice (some { block := gA, off := oA }) n0 cap0)) :: (59, (Value.int IntKind.i64 (n0 : Int))) :: (60, (Value.bool true)) :: (61, (Value.bool true)) :: (62, (Value.int IntKind.i64 (k : Int))) :: (63, (Value.bool true)) :: (64, (Value.bool true)) :: (65, u65) :: (66, u66) :: (67, (Value.slice (some { block := gA, off := oA }) n0 cap0)) :: (68, (Value.int IntKind.i64 (k : Int))) :: (69, (Value.pointer (some { block := gA, off := oA + k * 3 }))) :: (70, (Value.pointer (some { block := gA, off := oA + k * 3 }))) :: (71, (Value.agg #[Value.int IntKind.i64 f, Value.int IntKind.i64 s])) :: (72, u72) :: (73, u73) :: (74, u74) :: (75, u75) :: (76, u76) :: (77, u77) :: (78, u78) :: (79, u79) :: (80, u80) :: (81, u81) :: (82, u82) :: (83, u83) :: (84, u84) :: (85, u85) :: (86, u86) :: (87, u87) :: (88, u88) :: (89, u89) :: (90, u90) :: (91, u91) :: (92, u92) :: (93, u93) :: (94, u94) :: (120, undef) :: (121, undef) :: (122, undef) :: (123, undef) :: (124, undef) :: (125, undef) :: (126, undef) :: (127, undef) :: (128, undef) :: (129, undef) :: (130, undef) :: (131, undef) :: (132, undef) :: (133, undef) :: (134, undef) :: (135, undef) :: (136, undef) :: (137, undef) :: [])
                (fun W => Below wc.heap.size wc W)
                (valsOf [isV (Value.slice (some { block := gA, off := oA }) n0 cap0), isV (.agg #[.int .i64 f, .int .i64 s]), isV (.bool A8), isV (Value.slice (some { block := gA, off := oA }) n0 cap0), isV (.agg #[.int .i64 f, .int .i64 s]), isV (.bool A8), isV (.bool false), isV (.bool false), isV (Value.slice (some { block := gA, off := oA }) n0 cap0), isV (.agg #[.int .i64 l9, .int .i64 s]), isV (.bool A9), isV (Value.slice (some { block := gA, off := oA }) n0 cap0), isV (.agg #[.int .i64 l9, .int .i64 s]), isV (.bool A9), isV (.bool false), isV (.bool false), isV (.bool false), isV (Value.slice (some { block := gA, off := oA }) n0 cap0), isV (.agg #[.int .i64 l10, .int .i64 s]), isV (.bool A10), isV (Value.slice (some { block := gA, off := oA }) n0 cap0), isV (.agg #[.int .i64 l10, .int .i64 s]), isV (.bool A10), isV (.bool false), isV (.bool false)])
                (fun w w' => Below w.heap.size w w') ?fit (fun w1 w2 h hG => h.trans (hG.mono h.size)) (valsOf_stable ?stable) (fun _ => true) [(7, false), (16, false)] ?gs ?gv ?steps ?fin _ _ ?sz rfl ?base ?start
              case fit => kernel_rfl
              case sz => rfl
              case gs => kernel_rfl
              case gv => intro p hp w v hv; simp only [List.mem_cons, List.not_mem_nil, or_false] at hp; rcases hp with rfl | rfl <;> exact hv
              case base => intro p hp; repeat (first | (rcases List.mem_cons.1 hp with rfl | hp; · rfl) | cases hp)
              case stable => exact Stables.all (by repeat (first | exact .nil | refine .same ?_))
              case start => exact (Below.refl _ _).drew
              case steps =>
                refine .cons (fun ρ wz hρ hJ hb hd => by
                  refine Eq.mpr (if_neg (by decide)) ?_
                  have dd0 : ρ (.tmp 0) = (Value.slice (some { block := gA, off := oA }) n0 cap0) := hb (0, _) (List.mem_of_getElem? (i := 0) rfl)
                  exact step_move (.tmp 0) rfl ⟨Below.refl _ _, dd0⟩) ?_
                refine .cons (fun ρ wz hρ hJ hb hd => by
                  refine Eq.mpr (if_neg (by decide)) ?_
                  have dd0 : ρ (.tmp 8) = (Value.pointer (some { block := wr.heap.size, off := 0 })) := hb (8, _) (List.mem_of_getElem? (i := 8) rfl)
                  obtain ⟨u0, u1⟩ := unhide C8 wz hJ
                  exact step_val (v := (.agg #[.int .i64 f, .int .i64 s])) (w' := wz) (by simp [go_sem, execOp, dd0, u0, u1]) ⟨Below.refl _ _, rfl⟩) ?_
                refine .cons (fun ρ wz hρ hJ hb hd => by
                  refine Eq.mpr (if_neg (by decide)) ?_
                  have dd0 : ρ (.tmp 95) = (Value.slice (some { block := gA, off := oA }) n0 cap0) := hd 0 _ rfl rfl
                  have dd1 : ρ (.tmp 96) = (.agg #[.int .i64 f, .int .i64 s]) := hd 1 _ rfl rfl
                  refine step_func 11 _ _ #[Value.slice (some { block := gA, off := oA }) n0 cap0, .agg #[.int .i64 f, .int .i64 s]] hρ rfl (enters_of Try.func11 (by kernel_rfl) rfl) (by simp [dd0, dd1]) ?_
                  refine (unhide Ha8 wz hJ).mono ?_
                  rintro r W' ⟨rfl, hb2⟩
                  exact ⟨_, rfl, hb2, rfl⟩) ?_
                refine .cons (fun ρ wz hρ hJ hb hd => by
                  refine Eq.mpr (if_neg (by decide)) ?_
                  have dd0 : ρ (.tmp 0) = (Value.slice (some { block := gA, off := oA }) n0 cap0) := hb (0, _) (List.mem_of_getElem? (i := 0) rfl)
                  exact step_move (.tmp 0) rfl ⟨Below.refl _ _, dd0⟩) ?_
                refine .cons (fun ρ wz hρ hJ hb hd => by
                  refine Eq.mpr (if_neg (by decide)) ?_
                  have dd0 : ρ (.tmp 8) = (Value.pointer (some { block := wr.heap.size, off := 0 })) := hb (8, _) (List.mem_of_getElem? (i := 8) rfl)
                  obtain ⟨u0, u1⟩ := unhide C8 wz hJ
                  exact step_val (v := (.agg #[.int .i64 f, .int .i64 s])) (w' := wz) (by simp [go_sem, execOp, dd0, u0, u1]) ⟨Below.refl _ _, rfl⟩) ?_
                refine .cons (fun ρ wz hρ hJ hb hd => by
                  refine Eq.mpr (if_neg (by decide)) ?_
                  have dd0 : ρ (.tmp 98) = (Value.slice (some { block := gA, off := oA }) n0 cap0) := hd 0 _ rfl rfl
                  have dd1 : ρ (.tmp 99) = (.agg #[.int .i64 f, .int .i64 s]) := hd 1 _ rfl rfl
                  refine step_func 12 _ _ #[Value.slice (some { block := gA, off := oA }) n0 cap0, .agg #[.int .i64 f, .int .i64 s]] hρ rfl (enters_of Try.func12 (by kernel_rfl) rfl) (by simp [dd0, dd1]) ?_
                  refine (unhide Hb8 wz hJ).mono ?_
                  rintro r W' ⟨rfl, hb2⟩
                  exact ⟨_, rfl, hb2, rfl⟩) ?_
                refine .cons (fun ρ wz hρ hJ hb hd => by
                  refine Eq.mpr (if_neg (by decide)) ?_
                  have dd0 : ρ (.tmp 97) = (.bool A8) := hd 0 _ rfl rfl
                  have dd1 : ρ (.tmp 100) = (.bool A8) := hd 1 _ rfl rfl
                  exact step_val (v := (.bool false)) (w' := wz) (by simp [go_sem, execOp, dd0, dd1, hρ.const]) ⟨Below.refl _ _, rfl⟩) ?_
                refine .cons (fun ρ wz hρ hJ hb hd => by
                  refine Eq.mpr (if_neg (by decide)) ?_
                  have dd0 : ρ (.tmp 101) = (.bool false) := hd 0 _ rfl rfl
                  exact step_move (.tmp 101) rfl ⟨Below.refl _ _, dd0⟩) ?_
                refine .cons (fun ρ wz hρ hJ hb hd => by
                  refine Eq.mpr (if_neg (by decide)) ?_
                  have dd0 : ρ (.tmp 0) = (Value.slice (some { block := gA, off := oA }) n0 cap0) := hb (0, _) (List.mem_of_getElem? (i := 0) rfl)
                  exact step_move (.tmp 0) rfl ⟨Below.refl _ _, dd0⟩) ?_
                refine .cons (fun ρ wz hρ hJ hb hd => by
                  refine Eq.mpr (if_neg (by decide)) ?_
                  have dd0 : ρ (.tmp 9) = (Value.pointer (some { block := b9, off := 0 })) := hb (9, _) (List.mem_of_getElem? (i := 9) rfl)
                  obtain ⟨u0, u1⟩ := unhide C9 wz hJ
                  exact step_val (v := (.agg #[.int .i64 l9, .int .i64 s])) (w' := wz) (by simp [go_sem, execOp, dd0, u0, u1]) ⟨Below.refl _ _, rfl⟩) ?_
                refine .cons (fun ρ wz hρ hJ hb hd => by
                  refine Eq.mpr (if_neg (by decide)) ?_
                  have dd0 : ρ (.tmp 103) = (Value.slice (some { block := gA, off := oA }) n0 cap0) := hd 0 _ rfl rfl
                  have dd1 : ρ (.tmp 104) = (.agg #[.int .i64 l9, .int .i64 s]) := hd 1 _ rfl rfl
                  refine step_func 11 _ _ #[Value.slice (some { block := gA, off := oA }) n0 cap0, .agg #[.int .i64 l9, .int .i64 s]] hρ rfl (enters_of Try.func11 (by kernel_rfl) rfl) (by simp [dd0, dd1]) ?_
                  refine (unhide Ha9 wz hJ).mono ?_
                  rintro r W' ⟨rfl, hb2⟩
                  exact ⟨_, rfl, hb2, rfl⟩) ?_
                refine .cons (fun ρ wz hρ hJ hb hd => by
                  refine Eq.mpr (if_neg (by decide)) ?_
                  have dd0 : ρ (.tmp 0) = (Value.slice (some { block := gA, off := oA }) n0 cap0) := hb (0, _) (List.mem_of_getElem? (i := 0) rfl)
                  exact step_move (.tmp 0) rfl ⟨Below.refl _ _, dd0⟩) ?_
                refine .cons (fun ρ wz hρ hJ hb hd => by
                  refine Eq.mpr (if_neg (by decide)) ?_
                  have dd0 : ρ (.tmp 9) = (Value.pointer (some { block := b9, off := 0 })) := hb (9, _) (List.mem_of_getElem? (i := 9) rfl)
                  obtain ⟨u0, u1⟩ := unhide C9 wz hJ
                  exact step_val (v := (.agg #[.int .i64 l9, .int .i64 s])) (w' := wz) (by simp [go_sem, execOp, dd0, u0, u1]) ⟨Below.refl _ _, rfl⟩) ?_
                refine .cons (fun ρ wz hρ hJ hb hd => by
                  refine Eq.mpr (if_neg (by decide)) ?_
                  have dd0 : ρ (.tmp 106) = (Value.slice (some { block := gA, off := oA }) n0 cap0) := hd 0 _ rfl rfl
                  have dd1 : ρ (.tmp 107) = (.agg #[.int .i64 l9, .int .i64 s]) := hd 1 _ rfl rfl
                  refine step_func 12 _ _ #[Value.slice (some { block := gA, off := oA }) n0 cap0, .agg #[.int .i64 l9, .int .i64 s]] hρ rfl (enters_of Try.func12 (by kernel_rfl) rfl) (by simp [dd0, dd1]) ?_
                  refine (unhide Hb9 wz hJ).mono ?_
                  rintro r W' ⟨rfl, hb2⟩
                  exact ⟨_, rfl, hb2, rfl⟩) ?_
                refine .cons (fun ρ wz hρ hJ hb hd => by
                  refine Eq.mpr (if_neg (by decide)) ?_
                  have dd0 : ρ (.tmp 105) = (.bool A9) := hd 0 _ rfl rfl
                  have dd1 : ρ (.tmp 108) = (.bool A9) := hd 1 _ rfl rfl
                  exact step_val (v := (.bool false)) (w' := wz) (by simp [go_sem, execOp, dd0, dd1, hρ.const]) ⟨Below.refl _ _, rfl⟩) ?_
                refine .cons (fun ρ wz hρ hJ hb hd => by
                  refine Eq.mpr (if_neg (by decide)) ?_
                  have dd0 : ρ (.tmp 102) = (.bool false) := hd 0 _ rfl rfl
                  have dd1 : ρ (.tmp 109) = (.bool false) := hd 1 _ rfl rfl
                  exact step_val (v := (.bool false)) (w' := wz) (by simp [go_sem, execOp, dd0, dd1, hρ.const]) ⟨Below.refl _ _, rfl⟩) ?_
                refine .cons (fun ρ wz hρ hJ hb hd => by
                  refine Eq.mpr (if_neg (by decide)) ?_
                  have dd0 : ρ (.tmp 110) = (.bool false) := hd 0 _ rfl rfl
                  exact step_move (.tmp 110) rfl ⟨Below.refl _ _, dd0⟩) ?_
                refine .cons (fun ρ wz hρ hJ hb hd => by
                  refine Eq.mpr (if_neg (by decide)) ?_
                  have dd0 : ρ (.tmp 0) = (Value.slice (some { block := gA, off := oA }) n0 cap0) := hb (0, _) (List.mem_of_getElem? (i := 0) rfl)
                  exact step_move (.tmp 0) rfl ⟨Below.refl _ _, dd0⟩) ?_
                refine .cons (fun ρ wz hρ hJ hb hd => by
                  refine Eq.mpr (if_neg (by decide)) ?_
                  have dd0 : ρ (.tmp 10) = (Value.pointer (some { block := b10, off := 0 })) := hb (10, _) (List.mem_of_getElem? (i := 10) rfl)
                  obtain ⟨u0, u1⟩ := unhide C10 wz hJ
                  exact step_val (v := (.agg #[.int .i64 l10, .int .i64 s])) (w' := wz) (by simp [go_sem, execOp, dd0, u0, u1]) ⟨Below.refl _ _, rfl⟩) ?_
                refine .cons (fun ρ wz hρ hJ hb hd => by
                  refine Eq.mpr (if_neg (by decide)) ?_
                  have dd0 : ρ (.tmp 112) = (Value.slice (some { block := gA, off := oA }) n0 cap0) := hd 0 _ rfl rfl
                  have dd1 : ρ (.tmp 113) = (.agg #[.int .i64 l10, .int .i64 s]) := hd 1 _ rfl rfl
                  refine step_func 11 _ _ #[Value.slice (some { block := gA, off := oA }) n0 cap0, .agg #[.int .i64 l10, .int .i64 s]] hρ rfl (enters_of Try.func11 (by kernel_rfl) rfl) (by simp [dd0, dd1]) ?_
                  refine (unhide Ha10 wz hJ).mono ?_
                  rintro r W' ⟨rfl, hb2⟩
                  exact ⟨_, rfl, hb2, rfl⟩) ?_
                refine .cons (fun ρ wz hρ hJ hb hd => by
                  refine Eq.mpr (if_neg (by decide)) ?_
                  have dd0 : ρ (.tmp 0) = (Value.slice (some { block := gA, off := oA }) n0 cap0) := hb (0, _) (List.mem_of_getElem? (i := 0) rfl)
                  exact step_move (.tmp 0) rfl ⟨Below.refl _ _, dd0⟩) ?_
                refine .cons (fun ρ wz hρ hJ hb hd => by
                  refine Eq.mpr (if_neg (by decide)) ?_
                  have dd0 : ρ (.tmp 10) = (Value.pointer (some { block := b10, off := 0 })) := hb (10, _) (List.mem_of_getElem? (i := 10) rfl)
                  obtain ⟨u0, u1⟩ := unhide C10 wz hJ
                  exact step_val (v := (.agg #[.int .i64 l10, .int .i64 s])) (w' := wz) (by simp [go_sem, execOp, dd0, u0, u1]) ⟨Below.refl _ _, rfl⟩) ?_
                refine .cons (fun ρ wz hρ hJ hb hd => by
                  refine Eq.mpr (if_neg (by decide)) ?_
                  have dd0 : ρ (.tmp 115) = (Value.slice (some { block := gA, off := oA }) n0 cap0) := hd 0 _ rfl rfl
                  have dd1 : ρ (.tmp 116) = (.agg #[.int .i64 l10, .int .i64 s]) := hd 1 _ rfl rfl
                  refine step_func 12 _ _ #[Value.slice (some { block := gA, off := oA }) n0 cap0, .agg #[.int .i64 l10, .int .i64 s]] hρ rfl (enters_of Try.func12 (by kernel_rfl) rfl) (by simp [dd0, dd1]) ?_
                  refine (unhide Hb10 wz hJ).mono ?_
                  rintro r W' ⟨rfl, hb2⟩
                  exact ⟨_, rfl, hb2, rfl⟩) ?_
                refine .cons (fun ρ wz hρ hJ hb hd => by
                  refine Eq.mpr (if_neg (by decide)) ?_
                  have dd0 : ρ (.tmp 114) = (.bool A10) := hd 0 _ rfl rfl
                  have dd1 : ρ (.tmp 117) = (.bool A10) := hd 1 _ rfl rfl
                  exact step_val (v := (.bool false)) (w' := wz) (by simp [go_sem, execOp, dd0, dd1, hρ.const]) ⟨Below.refl _ _, rfl⟩) ?_
                refine .cons (fun ρ wz hρ hJ hb hd => by
                  refine Eq.mpr (if_neg (by decide)) ?_
                  have dd0 : ρ (.tmp 111) = (.bool false) := hd 0 _ rfl rfl
                  have dd1 : ρ (.tmp 118) = (.bool false) := hd 1 _ rfl rfl
                  exact step_val (v := (.bool false)) (w' := wz) (by simp [go_sem, execOp, dd0, dd1, hρ.const]) ⟨Below.refl _ _, rfl⟩) (.nil _)
              case fin =>
                intro aQ WQ hsz2 hds hb hJ hv
                obtain rfl := frame_of (((0, (Value.slice (some { block := gA, off := oA }) n0 cap0)) :: (1, (Value.slice a1 n1 cap1)) :: (2, undef) :: (3, undef) :: (4, u4) :: (5, (Value.slice (some { block := gT, off := oT }) (n0 + 1) c2)) :: (6, (Value.int IntKind.i64 (i : Int))) :: (7, (Value.int IntKind.i64 (k : Int))) :: (8, (Value.pointer (some { block := wr.heap.size, off := 0 }))) :: (9, (Value.pointer (some { block := b9, off := 0 }))) :: (10, (Value.pointer (some { block := b10, off := 0 }))) :: (11, (Value.slice (some { block := gA, off := oA }) n0 cap0)) :: (12, (Value.int IntKind.i64 (n0 : Int))) :: (13, (Value.bool false)) :: (14, (Value.bool false)) :: (15, (Value.slice a1 n1 cap1)) :: (16, (Value.int IntKind.i64 (n1 : Int))) :: (17, (Value.bool false)) :: (18, (Value.bool false)) :: (19, undef) :: (20, (Value.slice none 0 0)) :: (21, (Value.slice (some { block := gA, off := oA }) n0 cap0)) :: (22, v1) :: (23, v1) :: (24, (Value.agg #[Value.int IntKind.i64 0, Value.int IntKind.i64 0, Value.int IntKind.i64 77])) :: (25, (Value.slice (some { block := W1.heap.size, off := 0 }) 1 1)) :: (26, (Value.slice (some { block := gT, off := oT }) (n0 + 1) c2)) :: (27, (Value.slice (some { block := gT, off := oT }) (n0 + 1) c2)) :: (28, (Value.slice (some { block := gA, off := oA }) n0 cap0)) :: (29, (Value.int IntKind.i64 (n0 : Int))) :: (30, (Value.slice (some { block := gT, off := oT }) n0 c2)) :: (31, (Value.int IntKind.i64 K)) :: (32, (Value.slice (some { block := gA, off := oA }) n0 cap0)) :: (33, (Value.int IntKind.i64 K)) :: (34, (Value.bool false)) :: (35, (Value.int IntKind.i64 (i : Int))) :: (36, (Value.slice a1 n1 cap1)) :: (37, (Value.int IntKind.i64 (n1 : Int))) :: (38, (Value.bool false)) :: (39, u39) :: (40, u40) :: (41, u41) :: (42, u42) :: (43, u43) :: (44, u44) :: (45, u45) :: (46, u46) :: (47, u47) :: (48, u48) :: (49, u49) :: (50, u50) :: (51, u51) :: (52, u52) :: (53, u53) :: (54, u54) :: (55, u55) :: (56, u56) :: (57, (Value.int IntKind.i64 (k : Int))) :: (58, (Value.slice (some { block := gA, off := oA }) n0 cap0)) :: (59, (Value.int IntKind.i64 (n0 : Int))) :: (60, (Value.bool true)) :: (61, (Value.bool true)) :: (62, (Value.int IntKind.i64 (k : Int))) :: (63, (Value.bool true)) :: (64, (Value.bool true)) :: (65, u65) :: (66, u66) :: (67, (Value.slice (some { block := gA, off := oA }) n0 cap0)) :: (68, (Value.int IntKind.i64 (k : Int))) :: (69, (Value.pointer (some { block := gA, off := oA + k * 3 }))) :: (70, (Value.pointer (some { block := gA, off := oA + k * 3 }))) :: (71, (Value.agg #[Value.int IntKind.i64 f, Value.int IntKind.i64 s])) :: (72, u72) :: (73, u73) :: (74, u74) :: (75, u75) :: (76, u76) :: (77, u77) :: (78, u78) :: (79, u79) :: (80, u80) :: (81, u81) :: (82, u82) :: (83, u83) :: (84, u84) :: (85, u85) :: (86, u86) :: (87, u87) :: (88, u88) :: (89, u89) :: (90, u90) :: (91, u91) :: (92, u92) :: (93, u93) :: (94, u94) :: (120, undef) :: (121, undef) :: (122, undef) :: (123, undef) :: (124, undef) :: (125, undef) :: (126, undef) :: (127, undef) :: (128, undef) :: (129, undef) :: (130, undef) :: (131, undef) :: (132, undef) :: (133, undef) :: (134, undef) :: (135, undef) :: (136, undef) :: (137, undef) :: []) ++ ((95, (Value.slice (some { block := gA, off := oA }) n0 cap0)) :: (96, (.agg #[.int .i64 f, .int .i64 s])) :: (97, (.bool A8)) :: (98, (Value.slice (some { block := gA, off := oA }) n0 cap0)) :: (99, (.agg #[.int .i64 f, .int .i64 s])) :: (100, (.bool A8)) :: (101, (.bool false)) :: (102, (.bool false)) :: (103, (Value.slice (some { block := gA, off := oA }) n0 cap0)) :: (104, (.agg #[.int .i64 l9, .int .i64 s])) :: (105, (.bool A9)) :: (106, (Value.slice (some { block := gA, off := oA }) n0 cap0)) :: (107, (.agg #[.int .i64 l9, .int .i64 s])) :: (108, (.bool A9)) :: (109, (.bool false)) :: (110, (.bool false)) :: (111, (.bool false)) :: (112, (Value.slice (some { block := gA, off := oA }) n0 cap0)) :: (113, (.agg #[.int .i64 l10, .int .i64 s])) :: (114, (.bool A10)) :: (115, (Value.slice (some { block := gA, off := oA }) n0 cap0)) :: (116, (.agg #[.int .i64 l10, .int .i64 s])) :: (117, (.bool A10)) :: (118, (.bool false)) :: (119, (.bool false)) :: [])) ((Value.slice (some { block := gA, off := oA }) n0 cap0) :: (Value.slice a1 n1 cap1) :: undef :: undef :: u4 :: (Value.slice (some { block := gT, off := oT }) (n0 + 1) c2) :: (Value.int IntKind.i64 (i : Int)) :: (Value.int IntKind.i64 (k : Int)) :: (Value.pointer (some { block := wr.heap.size, off := 0 })) :: (Value.pointer (some { block := b9, off := 0 })) :: (Value.pointer (some { block := b10, off := 0 })) :: (Value.slice (some { block := gA, off := oA }) n0 cap0) :: (Value.int IntKind.i64 (n0 : Int)) :: (Value.bool false) :: (Value.bool false) :: (Value.slice a1 n1 cap1) :: (Value.int IntKind.i64 (n1 : Int)) :: (Value.bool false) :: (Value.bool false) :: undef :: (Value.slice none 0 0) :: (Value.slice (some { block := gA, off := oA }) n0 cap0) :: v1 :: v1 :: (Value.agg #[Value.int IntKind.i64 0, Value.int IntKind.i64 0, Value.int IntKind.i64 77]) :: (Value.slice (some { block := W1.heap.size, off := 0 }) 1 1) :: (Value.slice (some { block := gT, off := oT }) (n0 + 1) c2) :: (Value.slice (some { block := gT, off := oT }) (n0 + 1) c2) :: (Value.slice (some { block := gA, off := oA }) n0 cap0) :: (Value.int IntKind.i64 (n0 : Int)) :: (Value.slice (some { block := gT, off := oT }) n0 c2) :: (Value.int IntKind.i64 K) :: (Value.slice (some { block := gA, off := oA }) n0 cap0) :: (Value.int IntKind.i64 K) :: (Value.bool false) :: (Value.int IntKind.i64 (i : Int)) :: (Value.slice a1 n1 cap1) :: (Value.int IntKind.i64 (n1 : Int)) :: (Value.bool false) :: u39 :: u40 :: u41 :: u42 :: u43 :: u44 :: u45 :: u46 :: u47 :: u48 :: u49 :: u50 :: u51 :: u52 :: u53 :: u54 :: u55 :: u56 :: (Value.int IntKind.i64 (k : Int)) :: (Value.slice (some { block := gA, off := oA }) n0 cap0) :: (Value.int IntKind.i64 (n0 : Int)) :: (Value.bool true) :: (Value.bool true) :: (Value.int IntKind.i64 (k : Int)) :: (Value.bool true) :: (Value.bool true) :: u65 :: u66 :: (Value.slice (some { block := gA, off := oA }) n0 cap0) :: (Value.int IntKind.i64 (k : Int)) :: (Value.pointer (some { block := gA, off := oA + k * 3 })) :: (Value.pointer (some { block := gA, off := oA + k * 3 })) :: (Value.agg #[Value.int IntKind.i64 f, Value.int IntKind.i64 s]) :: u72 :: u73 :: u74 :: u75 :: u76 :: u77 :: u78 :: u79 :: u80 :: u81 :: u82 :: u83 :: u84 :: u85 :: u86 :: u87 :: u88 :: u89 :: u90 :: u91 :: u92 :: u93 :: u94 :: (Value.slice (some { block := gA, off := oA }) n0 cap0) :: (.agg #[.int .i64 f, .int .i64 s]) :: (.bool A8) :: (Value.slice (some { block := gA, off := oA }) n0 cap0) :: (.agg #[.int .i64 f, .int .i64 s]) :: (.bool A8) :: (.bool false) :: (.bool false) :: (Value.slice (some { block := gA, off := oA }) n0 cap0) :: (.agg #[.int .i64 l9, .int .i64 s]) :: (.bool A9) :: (Value.slice (some { block := gA, off := oA }) n0 cap0) :: (.agg #[.int .i64 l9, .int .i64 s]) :: (.bool A9) :: (.bool false) :: (.bool false) :: (.bool false) :: (Value.slice (some { block := gA, off := oA }) n0 cap0) :: (.agg #[.int .i64 l10, .int .i64 s]) :: (.bool A10) :: (Value.slice (some { block := gA, off := oA }) n0 cap0) :: (.agg #[.int .i64 l10, .int .i64 s]) :: (.bool A10) :: (.bool false) :: (.bool false) :: undef :: undef :: undef :: undef :: undef :: undef :: undef :: undef :: undef :: undef :: undef :: undef :: undef :: undef :: undef :: undef :: undef :: undef :: []) hsz2 hds (fun p hp => by
                  rcases List.mem_append.1 hp with h | h
                  · exact hb p h
                  · simp only [List.mem_cons, List.not_mem_nil, or_false] at h
                    rcases h with rfl | rfl | rfl | rfl | rfl | rfl | rfl | rfl | rfl | rfl | rfl | rfl | rfl | rfl | rfl | rfl | rfl | rfl | rfl | rfl | rfl | rfl | rfl | rfl | rfl
                    · exact hv 0 (by decide)
                    · exact hv 1 (by decide)
                    · exact hv 2 (by decide)
                    · exact hv 3 (by decide)
                    · exact hv 4 (by decide)
                    · exact hv 5 (by decide)
                    · exact hv 6 (by decide)
                    · exact hv 7 (by decide)
                    · exact hv 8 (by decide)
                    · exact hv 9 (by decide)
                    · exact hv 10 (by decide)
                    · exact hv 11 (by decide)
                    · exact hv 12 (by decide)
                    · exact hv 13 (by decide)
                    · exact hv 14 (by decide)
                    · exact hv 15 (by decide)
                    · exact hv 16 (by decide)
                    · exact hv 17 (by decide)
                    · exact hv 18 (by decide)
                    · exact hv 19 (by decide)
                    · exact hv 20 (by decide)
                    · exact hv 21 (by decide)
                    · exact hv 22 (by decide)
                    · exact hv 23 (by decide)
                    · exact hv 24 (by decide)) rfl
                clear hb hds hsz2 hv
                go_wp2
                go_meet
                case rel => exact ⟨rfl, hide (bnext (unhide HBX) hJ)⟩
            case rest =>
              clear C8 C9 C10 Ha8 Hb8 Ha9 Hb9 Ha10 Hb10 Hrow HBX
              obtain ⟨rfl, HB6⟩ := hcut
              go_wp2
              go_roundw
              case measure => show n0 - ((k : Int) + 1).toNat < n0 - ((k : Nat) : Int).toNat; omega
              case rel => exact ⟨k + 1, by go_num, by omega, HB6⟩
          · by_cases hkn0 : k < n0
            · have hk1 : (k : Int) < (n0 : Int) := by omega
              have hk2 : ¬ (k : Int) < 20 := by omega
              have HRu := hide (runs_in z0 z0 _ _ wr ((unhide HP).below (unhide HB5)) ((unhide H0).below (unhide HB5)) (by have := unhide E0; omega) (by have := unhide E0; omega))
              have hdd : decide (z0 = z0) = true := by simp
              rw [hdd] at HRu
              clear hdd
              go_wp2_with fail
              refine (unhide HRu).mono ?_
              rintro e W6 ⟨rfl, k6, hW6⟩
              have B6 : Hid (Below W2.heap.size W2 W6) := by rw [hW6]; exact bdrew (unhide HB5) k6
              clear hW6 HRu
              have c77 := ((unhide B6).cell (p := ⟨gT, oT + n0 * 3 + 2, none⟩) hgT).trans (unhide H77)
              have HK := hide (known_in W6)
              go_wp2_with (go_at_call 8; refine (unhide HK).mono ?_; rintro e W7 ⟨rfl, hb7⟩; replace hb7 := hide hb7)
              go_ret
              exact ⟨rfl, bnext (unhide B2) (bnext (unhide B6) (unhide hb7))⟩
            · have hk1 : ¬ (k : Int) < (n0 : Int) := by omega
              have HRu := hide (runs_in z0 z0 _ _ wr ((unhide HP).below (unhide HB5)) ((unhide H0).below (unhide HB5)) (by have := unhide E0; omega) (by have := unhide E0; omega))
              have hdd : decide (z0 = z0) = true := by simp
              rw [hdd] at HRu
              clear hdd
              go_wp2_with fail
              refine (unhide HRu).mono ?_
              rintro e W6 ⟨rfl, k6, hW6⟩
              have B6 : Hid (Below W2.heap.size W2 W6) := by rw [hW6]; exact bdrew (unhide HB5) k6
              clear hW6 HRu
              have c77 := ((unhide B6).cell (p := ⟨gT, oT + n0 * 3 + 2, none⟩) hgT).trans (unhide H77)
              have HK := hide (known_in W6)
              go_wp2_with (go_at_call 8; refine (unhide HK).mono ?_; rintro e W7 ⟨rfl, hb7⟩; replace hb7 := hide hb7)
              go_ret
              exact ⟨rfl, bnext (unhide B2) (bnext (unhide B6) (unhide hb7))⟩

theorem own : ownKnob Try.prog.godebug = none := by kernel_rfl
theorem laidOut2 : laidOutB Try.prog = true := by kernel_rfl

set_option maxRecDepth 100000 in
theorem lifted (os : Os) (started : os.Started) (H : Type) (enc : TypeId × Value → H) :
    ReturnsInHanded {} Try.checked os 3 .any (Rows.stampChecksSpec.pre6 enc Try.prog Try.f3 Rows.stampChecksRow.domain false) (Rows.stampChecksSpec.post enc Try.prog Try.f3 false true false false) := by
  refine returnsInHanded_of_change (C := Try.checked) own started (by kernel_rfl) Try.func3
    (ChangeSpec.witness6 (enc := enc) (C := Try.checked) false ⟨#[], #[.slice none 0 0, .slice none 0 0], []⟩ 8 (by kernel_rfl) (by kernel_rfl) (by kernel_rfl) (by kernel_rfl)) ?_
  intro W base args ds gs before hval0 hW hcnd _
  have hval : ∀ (j : Nat) t v, Try.f3.params[j]? = some t → args[j]? = some v → Value.okWide Try.prog W .any base t v := hval0
  have hW' := hW
  obtain ⟨p, q, hA0, hV, rfl, hfz, hnd⟩ := hW
  have hA : DataW.TrodAll enc Try.prog W 0 (fun _ => true) true Try.f3.params.toList args.toList ds p := hA0
  rw [Try.params3] at hA hval
  obtain ⟨v0, vs0, d0, ds0, p0, q0, hargs, rfl, rfl, h0, r0⟩ := trodAll_cons hA
  obtain ⟨v1, vs1, d1, ds1, p1, q1, rfl, rfl, rfl, h1, r1⟩ := trodAll_cons r0
  obtain ⟨rfl, rfl, rfl⟩ := trodAll_nil r1
  obtain rfl : args = #[v0, v1] := by cases args; simp_all
  obtain ⟨rfl, rfl⟩ := trodVars_none hV
  obtain ⟨a0, len0, cap0, rfl⟩ := okWide_slice Try.underlying22 (hval 0 22 v0 rfl rfl)
  have k0 := h0
  have lt0 : ∀ x ∈ p0, x.block < W.heap.size := by obtain ⟨m, hm⟩ := k0; exact DataW.trod_lt m _ _ _ hm
  obtain ⟨z0, w0⟩ : ∃ l : List ((Int × Int) × Int), RR W (.slice a0 len0 cap0) l ∧ l.length = len0 ∧ len0 ≤ maxLen ∧ ∀ e ∈ l, runIn e := by
    obtain ⟨fuel, hf⟩ := h0
    simp only [Value.cells] at hf
    exact open_runs hf
  obtain ⟨a1, len1, cap1, rfl⟩ := okWide_slice Try.underlying23 (hval 1 23 v1 rfl rfl)
  have k1 := h1
  have lt1 : ∀ x ∈ p1, x.block < W.heap.size := by obtain ⟨m, hm⟩ := k1; exact DataW.trod_lt m _ _ _ hm
  obtain ⟨z1, w1⟩ : ∃ l : List (Int × Int), RI W (.slice a1 len1 cap1) l ∧ l.length = len1 ∧ len1 ≤ maxLen ∧ ∀ e ∈ l, idIn e := by
    obtain ⟨fuel, hf⟩ := h1
    simp only [Value.cells] at hf
    exact open_ids hf
  clear hA0 hval0
  refine (walk a0 len0 cap0 z0 a1 len1 cap1 z1 W w0 w1).mono fun e W' ⟨he, bel⟩ => ?_
  subst he
  exact ⟨_, rfl, _, _, _, [], _, [], hW', trodAll_mk1 (shut_bool Try.underlying4 _), (trodAll_cons_mk (Below.trod laidOut2 (by kernel_rfl) (of_decide_eq_true (by kernel_rfl)) k0 bel lt0) (trodAll_cons_mk (Below.trod laidOut2 (by kernel_rfl) (of_decide_eq_true (by kernel_rfl)) k1 bel lt1) trodAll_mk0)), rfl, bel.frame _, fun h => by cases h⟩

theorem over : Rows.stampChecksRow.holds Try.pinned (OpenSpec.ofChange Rows.stampChecksSpec) :=
  OpenClaim.holds_of_wide 3 Try.f3 rfl rfl rfl rfl rfl rfl rfl ⟨rfl, rfl, rfl, rfl, rfl⟩ rfl rfl rfl rfl rfl (by kernel_rfl) Try.func3 (by kernel_rfl)
    (of_decide_eq_true (by kernel_rfl)) (by unfold Func.isWrapper; first | (rw [if_pos (by decide +kernel)]; kernel_rfl) | (rw [if_neg (by decide +kernel)]; exact ⟨rfl, rfl⟩))
    (fun os started H enc _ => lifted os started H enc)

end LStampChecks

theorem stampChecks_holds : Rows.StampChecksSaid := LStampChecks.over

end Go.Proofs.Ytgoalmkjmjikmaa
