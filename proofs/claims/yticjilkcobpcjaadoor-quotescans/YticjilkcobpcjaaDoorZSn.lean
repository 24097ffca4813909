/-
  The scanner's closure.
-/
import Derived.Test.YticjilkcobpcjaaDoorZSn0
import Derived.WalkMore
set_option linter.unusedSimpArgs false
set_option linter.unusedVariables false
set_option maxRecDepth 100000
namespace Go.Proofs.YticjilkcobpcjaaDoor
open Go.RowKit Go.Lib
namespace Sn

set_option maxHeartbeats 8000000 in
theorem scan_clo (fc : Nat) (caps : Array Value) (Bs : Nat) (s : ByteArray) (hs : s.size ≤ 1000000000) (J Jx : List It → World → Prop) (W : World)
    (he : ∀ args w, (callFunc fc args).run Tryd.prog w = .ok (.enter fc args) w)
    (hK : ∀ pre W1, J pre W1 → W1.cell? ⟨Bs, 0, none⟩ = some (.string s) ∧ Lw W1)
    (hJ : ∀ pre W1 W2, J pre W1 → Below W.heap.size W1 W2 → J pre W2)
    (hY : ∀ pre x rest W1, pre ++ x :: rest = scL s → W.heap.size < W1.heap.size → J pre W1 → Calls Tryd.prog fc (x.args ++ caps) W1 fun e W' => ∃ b, e = .returned (.bool b) ∧ (if b then J (pre ++ [x]) W' else Jx (pre ++ [x]) W') ∧ W1.heap.size ≤ W'.heap.size ∧ W'.heap[W.heap.size]? = W1.heap[W.heap.size]?)
    (h0 : J [] W) :
    Calls Tryd.prog 24 #[.func (.func fc) #[] caps, .pointer (some ⟨Bs, 0, none⟩)] W fun e W' => e = .returned (.tuple #[]) ∧ (J (scL s) W' ∨ ∃ pre rest, pre ++ rest = scL s ∧ Jx pre W') := by
  have HK := hide hK
  have HJ := hide hJ
  have HY := hide hY
  have H0 := hide h0
  have HE := hide he
  clear hK hJ hY h0 he
  go_enter Tryd.func24, Tryd.ntmps24
  go_wp2
  refine scope_five2 (SnJ fc caps Bs W.heap.size J s) (fun l a' _ => SnM s l a') rfl rfl rfl rfl rfl ?p0 ?p4 ?p1 ?p2 ?p3 ?first
  case first =>
    intro P1
    refine drop_measure (μ := fun l a' _ => SnM s l a') (M := 8 * s.size + 4) ?_
    go_wp2
    go_step3
    simp only [Exit.then]
    rename_i hKx
    refine hKx _ _ (P1 _ _ (8 * s.size + 4) ?hj ?hm)
    case hj => exact ⟨0, 1, 0, _, fr_of fc caps Bs W.heap.size 0 1 0 _ rfl rfl rfl rfl rfl rfl rfl rfl, hide ⟨⟨by omega, by omega, by omega, ⟨[], rfl, unhide HJ _ _ _ (unhide H0) ((Below.refl _ _).alloc (Nat.le_refl _) _)⟩, Box5.new _ _ _ _ _ _, by simp⟩, trivial⟩⟩
    case hm =>
      show SnM s 1 _ ≤ _
      simp [SnM, Lib.intOf]
  case p0 =>
    rintro a' w' M ⟨i, line, n, u, rfl, H⟩ hM
    simp only [SnM_fr] at hM
    rw [fr_lit]
    obtain ⟨⟨hi, hn, hl, ⟨pre, hp, hJp⟩, hbx, hB⟩, hend⟩ := unhide H
    have hend' : i < s.size → isLn (by_ s i) = true := hend
    have hbh := fun h W => hide (behindLine_in s hs i h W)
    have hbb := bhL_bounds s i
    by_cases h0 : 0 < n
    · have d0 : (0 : Int) < (n : Int) := by omega
      have hp1 : pre ++ endI i line :: (if i < s.size then scA s (bhL s i) (line + 1) false else []) = scL s := by
        rw [← hp]
        by_cases hz : i < s.size
        · rw [scA_line hz (hend' hz), if_pos hz]; simp [h0]
        · rw [scA_end hz, if_neg hz]; simp [h0]
      have hy := hide (unhide HY pre (endI i line) _ w' hp1 hB hJp)
      unfold It.args endI Wd.v wV at hy
      have Hp := hide hp1
      obtain ⟨y0, y1, y2, y3, y4, hy5⟩ := hbx
      have HE4 := hide hy5
      clear hp hp1 hJp H hend hend' h0 hy5
      go_wp2_with fail
      rw [unhide HE]
      refine (unhide hy).mono ?_
      rintro e V2 ⟨b, rfl, hb, zb, hkeep⟩
      have Hk := hide (hkeep.trans (unhide HE4))
      clear hkeep
      cases b with
      | false =>
        have Hb := hide hb
        clear hb
        go_wp2
        simp only [Jumps]
        refine bodyPost_ret (results_none rfl _ _ _) rfl ?_
        exact ⟨rfl, .inr ⟨pre ++ [endI i line], _, by rw [← unhide Hp, List.append_assoc]; rfl, unhide Hb⟩⟩
      | true =>
        have hcs := (unhide HK _ V2 hb).1
        have Hb := hide hb
        clear hb
        by_cases hz : i < s.size
        · have k3 : ((i : Int) == (s.size : Int)) = false := by rw [beq_eq_false_iff_ne]; omega
          have hbb2 := hbb hz
          have hbz := hbh hz
          have Hp2 := hide (show (pre ++ [endI i line]) ++ scA s (bhL s i) (line + 1) false = scL s by rw [← unhide Hp, if_pos hz]; simp)
          clear hbb hbh
          go_wp2_with fail
          refine (unhide (hbz _)).mono ?_
          rintro e V3 ⟨rfl, rfl⟩
          go_wp2
          go_step3
          show Jumps (· < 5) (fun l' a' w' => SnJ fc caps Bs W.heap.size J s l' a' w' ∧ SnM s l' a' < M) (fun _ _ _ => True) (.goto 1) _ _
          exact jump (i := bhL s i) (line := line + 1) (n := 0) _ _ (by decide) rfl rfl rfl rfl rfl rfl (by simp) rfl ⟨⟨hbb2.2, by omega, by omega, ⟨_, unhide Hp2, unhide Hb⟩, ⟨_, _, _, _, _, unhide Hk⟩, by omega⟩, trivial⟩ (by simp; simp at hM; omega)
        · have k3 : ((i : Int) == (s.size : Int)) = true := by rw [beq_iff_eq]; omega
          have Hp2 := hide (show pre ++ [endI i line] = scL s by rw [← unhide Hp, if_neg hz])
          clear hbb hbh
          go_wp2
          simp only [Jumps]
          refine bodyPost_ret (results_none rfl _ _ _) rfl ?_
          exact ⟨rfl, .inl (unhide Hp2 ▸ unhide Hb)⟩
    · have hn0 : n = 0 := by omega
      have d0 : decide ((0 : Int) < (n : Int)) = false := by rw [decide_eq_false_iff_not]; omega
      have dn : decide (0 < n) = false := by rw [decide_eq_false_iff_not]; omega
      rw [dn] at hp
      have hcs := (unhide HK _ w' hJp).1
      by_cases hz : i < s.size
      · have k3 : ((i : Int) == (s.size : Int)) = false := by rw [beq_eq_false_iff_ne]; omega
        have hbb2 := hbb hz
        have hbz := hbh hz
        have Hp2 := hide (show pre ++ scA s (bhL s i) (line + 1) false = scL s by rw [← hp, scA_line hz (hend' hz)]; simp)
        have HJp := hide hJp
        have Hbx := hide hbx
        clear hbb hbh hp hJp hbx H hend hend' dn h0 d0
        subst hn0
        go_wp2_with fail
        refine (unhide (hbz _)).mono ?_
        rintro e V3 ⟨rfl, rfl⟩
        go_wp2
        go_step3
        show Jumps (· < 5) (fun l' a' w' => SnJ fc caps Bs W.heap.size J s l' a' w' ∧ SnM s l' a' < M) (fun _ _ _ => True) (.goto 1) _ _
        exact jump (i := bhL s i) (line := line + 1) (n := 0) _ _ (by decide) rfl rfl rfl rfl rfl rfl (by simp) rfl ⟨⟨hbb2.2, by omega, by omega, ⟨_, unhide Hp2, unhide HJp⟩, unhide Hbx, hB⟩, trivial⟩ (by simp; simp at hM; omega)
      · have k3 : ((i : Int) == (s.size : Int)) = true := by rw [beq_iff_eq]; omega
        have Hp2 := hide (show pre = scL s by rw [← hp, scA_end hz]; simp)
        have HJp := hide hJp
        clear hbb hbh hp hJp hbx H hend hend' dn h0 d0
        subst hn0
        go_wp2
        simp only [Jumps]
        refine bodyPost_ret (results_none rfl _ _ _) rfl ?_
        exact ⟨rfl, .inl (unhide Hp2 ▸ unhide HJp)⟩
  case p4 =>
    rintro a' w' M ⟨i, line, n, u, rfl, H⟩ hM
    simp only [SnM_fr] at hM
    obtain ⟨⟨hi, hn, hl, ⟨pre, hp, hJp⟩, hbx, hB⟩, ⟨hz, hln, hb2, h35⟩, hu4, hu6, hcell⟩ := unhide H
    have hu4' : u 4 = .int .i64 ((wdAt s i).e : Int) := hu4
    have hu6' : u 6 = .int .i64 ((wdAt s i).nx : Int) := hu6
    rw [fr_lit, hu4', hu6']
    have hw := scA_word (line := line) (m := decide (0 < n)) hz hln hb2 h35
    have hnx := wdAt_nx s i hz (we_of s i (by rw [hln]; simp) (by rw [hb2]; simp) h35)
    rw [hw] at hp
    obtain ⟨X, hX⟩ : ∃ X, wdAt s i = X := ⟨_, rfl⟩
    rw [hX] at hp hcell hnx ⊢
    unfold wdC at hcell
    have f4 : w'.cell? ⟨W.heap.size, 4, none⟩ = some (.int .i64 0) := by simp [World.cell?, hcell]
    have g4 : w'.frozen? ⟨W.heap.size, 4, none⟩ = false := by simp [World.frozen?, hcell]
    have e4 := heap_setCell_same w' W.heap.size 4 _ _ (.int .i64 (line : Int)) hcell
    have B4 := hide ((Below.refl W.heap.size w').setCell (p := ⟨W.heap.size, 4, none⟩) (Nat.le_refl _) (.int .i64 (line : Int)))
    have z4 : (w'.setCell ⟨W.heap.size, 4, none⟩ (.int .i64 (line : Int))).heap.size = w'.heap.size := by simp
    obtain ⟨V, hV⟩ : ∃ V, w'.setCell ⟨W.heap.size, 4, none⟩ (.int .i64 (line : Int)) = V := ⟨_, rfl⟩
    rw [hV] at e4 B4 z4
    have E4 : V.heap[W.heap.size]? = some (.cells #[.int .i64 (X.k : Int), .string X.t, .int .i64 X.n, .int .i64 (X.a : Int), .int .i64 (line : Int)] 29 (0, 0)) := e4
    have c0 : V.cell? ⟨W.heap.size, 0, none⟩ = some (.int .i64 (X.k : Int)) := by simp [World.cell?, E4]
    have c1 : V.cell? ⟨W.heap.size, 1, none⟩ = some (.string X.t) := by simp [World.cell?, E4]
    have c2 : V.cell? ⟨W.heap.size, 2, none⟩ = some (.int .i64 X.n) := by simp [World.cell?, E4]
    have c3 : V.cell? ⟨W.heap.size, 3, none⟩ = some (.int .i64 (X.a : Int)) := by simp [World.cell?, E4]
    have c4 : V.cell? ⟨W.heap.size, 4, none⟩ = some (.int .i64 (line : Int)) := by simp [World.cell?, E4]
    have hy := hide (unhide HY pre ⟨X, line⟩ _ V hp (by omega) (unhide HJ _ _ _ hJp (unhide B4)))
    unfold It.args Wd.v wV at hy
    have HE4 := hide E4
    have Hp := hide hp
    clear hp hJp hbx H hu4 hu6 hu4' hu6' hw hX hcell e4 E4
    go_wp2_with fail
    rw [unhide HE]
    refine (unhide hy).mono ?_
    rintro e V2 ⟨b, rfl, hb, zb, hkeep⟩
    have Hk := hide (hkeep.trans (unhide HE4))
    clear hkeep
    cases b with
    | false =>
      have Hb := hide hb
      clear hb
      go_wp2
      simp only [Jumps]
      refine bodyPost_ret (results_none rfl _ _ _) rfl ?_
      exact ⟨rfl, .inr ⟨pre ++ [⟨X, line⟩], _, by rw [← unhide Hp, List.append_assoc]; rfl, (show Jx (pre ++ [⟨X, line⟩]) V2 from unhide Hb)⟩⟩
    | true =>
      have Hb := hide hb
      clear hb
      by_cases hX0 : X.e = 0
      · have q0 : ((X.e : Int) != 0) = false := by rw [hX0]; rfl
        have hnx0 := hnx hX0
        have Hp2 := hide (show (pre ++ [⟨X, line⟩]) ++ scA s X.nx line (decide (0 < n + 1)) = scL s by rw [← unhide Hp, if_pos hX0]; simp)
        clear hX0 hnx
        go_wp2
        go_step3
        show Jumps (· < 5) (fun l' a' w' => SnJ fc caps Bs W.heap.size J s l' a' w' ∧ SnM s l' a' < M) (fun _ _ _ => True) (.goto 1) _ _
        exact jump (i := X.nx) (n := n + 1) _ _ (by decide) rfl rfl rfl rfl rfl rfl rfl (by simp) ⟨⟨hnx0.2, by omega, by omega, ⟨_, unhide Hp2, unhide Hb⟩, ⟨_, _, _, _, _, unhide Hk⟩, by omega⟩, trivial⟩ (by simp; simp at hM; omega)
      · have q0 : ((X.e : Int) != 0) = true := by rw [bne_iff_ne]; omega
        have Hp2 := hide (show pre ++ [⟨X, line⟩] = scL s by rw [← unhide Hp, if_neg hX0])
        clear hX0 hnx
        go_wp2
        simp only [Jumps]
        refine bodyPost_ret (results_none rfl _ _ _) rfl ?_
        exact ⟨rfl, .inl (unhide Hp2 ▸ unhide Hb)⟩
  case p2 =>
    rintro P0 a' w' M ⟨i, line, n, u, rfl, H⟩ hM
    simp only [SnM_fr] at hM
    rw [fr_lit]
    obtain ⟨⟨hi, hn, hl, ⟨pre, hp, hJp⟩, hbx, hB⟩, hz, hln, hb2, h35⟩ := unhide H
    have hcs := (unhide HK pre w' hJp).1
    have hrm := rmE_bounds s _ i (Nat.le_refl _) hi
    have Hp := hide (show pre ++ scA s (rmE s i) line (decide (0 < n)) = scL s by rw [← hp, scA_remark hz hln hb2 h35])
    have HJp := hide hJp
    have Hbx := hide hbx
    have hM2 : 8 * (s.size - i) + 2 ≤ M := by simpa using hM
    obtain ⟨R, hR⟩ : ∃ R, rmE s i = R := ⟨_, rfl⟩
    rw [hR] at Hp hrm
    have HR := hide hR
    clear hp hJp hbx H hln hb2 h35 hM hR
    go_wp2_with fail
    go_loopw [5] (fun jv wr => ∃ j : Nat, jv = .int .i64 (j : Int) ∧ i ≤ j ∧ j ≤ s.size ∧ wr = w' ∧ Hid (rmE s j = R)) (fun jv _ => s.size - (RowKit.intOf jv).toNat)
    case atStart => exact ⟨i, rfl, Nat.le_refl _, hi, rfl, HR⟩
    case round =>
      obtain ⟨j, rfl, hj1, hj2, rfl, Hj⟩ := hrel
      have hel := fun W => hide (endsLine_in (by_ s j) W)
      by_cases hjz : j < s.size
      · have gi := by_get s j hjz
        have k1 : (j : Int) < (s.size : Int) := by omega
        have k2 : (0 : Int) ≤ (j : Int) := by omega
        cases hl2 : isLn (by_ s j) with
        | false =>
          rw [hl2] at hel
          have Hj2 := hide (show rmE s (j + 1) = R by rw [← unhide Hj, rmE_go s j hjz hl2])
          clear hl2
          go_wp2_with fail
          refine (unhide (hel _)).mono ?_
          rintro e w2 ⟨rfl, rfl⟩
          go_wp2
          go_roundw
          case rel => exact ⟨j + 1, by simp, by omega, by omega, by simp, Hj2⟩
          case measure => simp [RowKit.intOf]; omega
        | true =>
          rw [hl2] at hel
          have Hl2 := hide hl2
          have Hj2 := hide (show R = j by rw [← unhide Hj, rmE_stop s j (fun _ => hl2)])
          clear hl2
          go_wp2_with fail
          refine (unhide (hel _)).mono ?_
          rintro e w2 ⟨rfl, rfl⟩
          go_wp2
          go_step3
          simp only [Exit.then]
          rename_i hKx
          refine hKx _ _ (P0 _ _ M ?hj2 ?hm2)
          case hj2 => exact ⟨j, line, n, _, fr_of fc caps Bs W.heap.size j line n _ rfl rfl rfl rfl rfl rfl rfl rfl, hide ⟨⟨hj2, by omega, by omega, ⟨pre, by rw [← unhide Hj2]; exact unhide Hp, unhide HJp⟩, unhide Hbx, hB⟩, fun _ => unhide Hl2⟩⟩
          case hm2 =>
            show SnM s 0 _ ≤ _
            simp [SnM, Lib.intOf]
            omega
      · have k1 : decide ((j : Int) < (s.size : Int)) = false := by rw [decide_eq_false_iff_not]; omega
        have Hj2 := hide (show R = j by rw [← unhide Hj, rmE_stop s j (fun h => absurd h hjz)])
        go_wp2
        go_step3
        simp only [Exit.then]
        rename_i hKx
        refine hKx _ _ (P0 _ _ M ?hj3 ?hm3)
        case hj3 => exact ⟨j, line, n, _, fr_of fc caps Bs W.heap.size j line n _ rfl rfl rfl rfl rfl rfl rfl rfl, hide ⟨⟨hj2, by omega, by omega, ⟨pre, by rw [← unhide Hj2]; exact unhide Hp, unhide HJp⟩, unhide Hbx, hB⟩, fun h => absurd h hjz⟩⟩
        case hm3 =>
          show SnM s 0 _ ≤ _
          simp [SnM, Lib.intOf]
          omega
  case p3 =>
    rintro P4 a' w' M ⟨i, line, n, u, rfl, H⟩ hM
    simp only [SnM_fr] at hM
    rw [fr_lit]
    obtain ⟨⟨hi, hn, hl, ⟨pre, hp, hJp⟩, hbx, hB⟩, hz, h34⟩ := unhide H
    have hcs := (unhide HK pre w' hJp).1
    have hwd : wdAt s i = qdW s i := by unfold wdAt; rw [if_pos h34]
    have hqw := hide (quotedWord_in s hs i hz w')
    rw [← hwd] at hqw
    have H34 := hide h34
    have Hp := hide hp
    have HJp := hide hJp
    have Hbx := hide hbx
    obtain ⟨X, hX⟩ : ∃ X, wdAt s i = X := ⟨_, rfl⟩
    rw [hX] at hqw
    have HX := hide hX
    unfold Wd.tup Wd.v wV at hqw
    clear hp hJp hbx H h34 hwd hX
    go_wp2_with fail
    refine (unhide hqw).mono ?_
    rintro e w3 ⟨rfl, hB3⟩
    have bx3 := (unhide Hbx).below hB3 hB
    obtain ⟨⟨x0, f0⟩, ⟨x1, f1⟩, ⟨x2, f2⟩, ⟨x3, f3⟩, ⟨x4, f4⟩, g0, g1, g2, g3, g4⟩ := bx3.facts
    have S5 := hide (five_set bx3 (.int .i64 (X.k : Int)) (.string X.t) (.int .i64 X.n) (.int .i64 (X.a : Int)) (.int .i64 0))
    have B5 := hide (below_five (hB3.mono (Nat.le_of_lt hB)) (Nat.le_refl _) (.int .i64 (X.k : Int)) (.string X.t) (.int .i64 X.n) (.int .i64 (X.a : Int)) (.int .i64 0))
    have z3 := hB3.size
    clear bx3 hB3 hqw
    go_wp2
    go_step3
    simp only [Exit.then]
    rename_i hKx
    refine hKx _ _ (P4 _ _ M ?hj4 ?hm4)
    case hj4 => exact ⟨i, line, n, _, fr_of fc caps Bs W.heap.size i line n _ rfl rfl rfl rfl rfl rfl rfl rfl, hide ⟨⟨hi, hn, hl, ⟨pre, unhide Hp, unhide HJ _ _ _ (unhide HJp) (unhide B5)⟩, ⟨_, _, _, _, _, unhide S5⟩, by simp; omega⟩, ⟨hz, by rw [unhide H34]; rfl, by rw [unhide H34]; rfl, by rw [unhide H34]; decide⟩, by rw [unhide HX]; rfl, by rw [unhide HX]; rfl, by rw [unhide HX]; exact unhide S5⟩⟩
    case hm4 =>
      show SnM s 4 _ ≤ _
      simp [SnM, Lib.intOf]
      simp at hM
      omega
  case p1 =>
    rintro a' w' M ⟨i, line, n, u, rfl, H⟩ hM
    simp only [SnM_fr, if_true] at hM
    rw [fr_lit]
    obtain ⟨⟨hi, hn, hl, ⟨pre, hp, hJp⟩, hbx, hB⟩, -⟩ := unhide H
    have hcs := (unhide HK pre w' hJp).1
    have HL := hide (unhide HK pre w' hJp).2
    have hbl := fun W => hide (isBlank_in (by_ s i) W)
    have hel := fun W => hide (endsLine_in (by_ s i) W)
    have hI := (unhide H).1
    have HI := hide hI
    by_cases hz : i < s.size
    · have gi := by_get s i hz
      have k1 : (i : Int) < (s.size : Int) := by omega
      have k2 : (0 : Int) ≤ (i : Int) := by omega
      have k3 : ((i : Int) == (s.size : Int)) = false := by rw [beq_eq_false_iff_ne]; omega
      cases hln : isLn (by_ s i) with
      | true =>
        rw [hln] at hel
        have Hln := hide hln
        clear hln hp hJp hbx hB hbl HL H hI
        go_wp2_with fail
        refine (unhide (hel _)).mono ?_
        rintro e w2 ⟨rfl, rfl⟩
        go_wp2
        go_step3
        show Jumps (· < 5) (fun l' a' w' => SnJ fc caps Bs W.heap.size J s l' a' w' ∧ SnM s l' a' < M) (fun _ _ _ => True) (.goto 0) _ _
        exact jump _ _ (by decide) rfl rfl rfl rfl rfl rfl rfl rfl ⟨unhide HI, fun _ => unhide Hln⟩ (by simp; omega)
      | false =>
        rw [hln] at hel
        have Hln := hide hln
        cases hb2 : isBl (by_ s i) with
        | true =>
          rw [hb2] at hbl
          have HI2 : Hid (SnI J s W.heap.size (i + 1) line n w') := hide ⟨by omega, by omega, by omega, ⟨pre, by rw [← hp, scA_blank hz hln hb2], hJp⟩, hbx, hB⟩
          clear hln hp hJp hbx hB HL H hI hb2
          go_wp2_with fail
          refine (unhide (hel _)).mono ?_
          rintro e w2 ⟨rfl, rfl⟩
          go_wp2_with fail
          refine (unhide (hbl _)).mono ?_
          rintro e w2 ⟨rfl, rfl⟩
          go_wp2
          go_step3
          show Jumps (· < 5) (fun l' a' w' => SnJ fc caps Bs W.heap.size J s l' a' w' ∧ SnM s l' a' < M) (fun _ _ _ => True) (.goto 1) _ _
          exact jump (i := i + 1) _ _ (by decide) rfl rfl rfl rfl rfl (by simp) rfl rfl ⟨unhide HI2, trivial⟩ (by simp; omega)
        | false =>
          rw [hb2] at hbl
          have Hb2 := hide hb2
          by_cases h35 : by_ s i = 35
          · have q1 : (((by_ s i : Nat) : Int) == 35) = true := by rw [h35]; rfl
            have H35 := hide h35
            clear hln hp hJp hbx hB HL H hI hb2 h35
            go_wp2_with fail
            refine (unhide (hel _)).mono ?_
            rintro e w2 ⟨rfl, rfl⟩
            go_wp2_with fail
            refine (unhide (hbl _)).mono ?_
            rintro e w2 ⟨rfl, rfl⟩
            go_wp2
            go_step3
            show Jumps (· < 5) (fun l' a' w' => SnJ fc caps Bs W.heap.size J s l' a' w' ∧ SnM s l' a' < M) (fun _ _ _ => True) (.goto 2) _ _
            exact jump _ _ (by decide) rfl rfl rfl rfl rfl rfl rfl rfl ⟨unhide HI, hz, unhide Hln, unhide Hb2, unhide H35⟩ (by simp; omega)
          · have q1 : (((by_ s i : Nat) : Int) == 35) = false := by rw [beq_eq_false_iff_ne]; omega
            by_cases h34 : by_ s i = 34
            · have q2 : (((by_ s i : Nat) : Int) == 34) = true := by rw [h34]; rfl
              have H34 := hide h34
              clear hln hp hJp hbx hB HL H hI hb2 h35 h34
              go_wp2_with fail
              refine (unhide (hel _)).mono ?_
              rintro e w2 ⟨rfl, rfl⟩
              go_wp2_with fail
              refine (unhide (hbl _)).mono ?_
              rintro e w2 ⟨rfl, rfl⟩
              go_wp2
              go_step3
              show Jumps (· < 5) (fun l' a' w' => SnJ fc caps Bs W.heap.size J s l' a' w' ∧ SnM s l' a' < M) (fun _ _ _ => True) (.goto 3) _ _
              exact jump _ _ (by decide) rfl rfl rfl rfl rfl rfl rfl rfl ⟨unhide HI, hz, unhide H34⟩ (by simp; omega)
            · have q2 : (((by_ s i : Nat) : Int) == 34) = false := by rw [beq_eq_false_iff_ne]; omega
              have hwd : wdAt s i = bwW s i := by unfold wdAt; rw [if_neg h34]
              have hbw := hide (bareWord_in s hs i hz w' (unhide HL))
              rw [← hwd] at hbw
              have H35 := hide h35
              have Hp := hide hp
              have HJp := hide hJp
              have Hbx := hide hbx
              obtain ⟨X, hX⟩ : ∃ X, wdAt s i = X := ⟨_, rfl⟩
              rw [hX] at hbw
              have HX := hide hX
              unfold Wd.tup Wd.v wV at hbw
              clear hln hp hJp hbx HL H hI hb2 h35 h34 hwd hX
              go_wp2_with fail
              refine (unhide (hel _)).mono ?_
              rintro e w2 ⟨rfl, rfl⟩
              go_wp2_with fail
              refine (unhide (hbl _)).mono ?_
              rintro e w2 ⟨rfl, rfl⟩
              go_wp2_with fail
              refine (unhide hbw).mono ?_
              rintro e w3 ⟨rfl, hB3⟩
              have bx3 := (unhide Hbx).below hB3 hB
              obtain ⟨⟨x0, f0⟩, ⟨x1, f1⟩, ⟨x2, f2⟩, ⟨x3, f3⟩, ⟨x4, f4⟩, g0, g1, g2, g3, g4⟩ := bx3.facts
              have S5 := hide (five_set bx3 (.int .i64 (X.k : Int)) (.string X.t) (.int .i64 X.n) (.int .i64 (X.a : Int)) (.int .i64 0))
              have B5 := hide (below_five (hB3.mono (Nat.le_of_lt hB)) (Nat.le_refl _) (.int .i64 (X.k : Int)) (.string X.t) (.int .i64 X.n) (.int .i64 (X.a : Int)) (.int .i64 0))
              have z3 := hB3.size
              clear bx3 hB3 hbw
              go_wp2
              go_step3
              show Jumps (· < 5) (fun l' a' w' => SnJ fc caps Bs W.heap.size J s l' a' w' ∧ SnM s l' a' < M) (fun _ _ _ => True) (.goto 4) _ _
              refine jump _ _ (by decide) rfl rfl rfl rfl rfl rfl rfl rfl ⟨⟨hi, hn, hl, ⟨pre, unhide Hp, unhide HJ _ _ _ (unhide HJp) (unhide B5)⟩, ⟨_, _, _, _, _, unhide S5⟩, by simp; omega⟩, ⟨hz, unhide Hln, unhide Hb2, unhide H35⟩, by rw [unhide HX]; rfl, by rw [unhide HX]; rfl, by rw [unhide HX]; exact unhide S5⟩ (by simp; omega)
    · have k3 : ((i : Int) == (s.size : Int)) = true := by rw [beq_iff_eq]; omega
      clear hp hJp hbx hB hbl hel HL H hI
      go_wp2
      go_step3
      show Jumps (· < 5) (fun l' a' w' => SnJ fc caps Bs W.heap.size J s l' a' w' ∧ SnM s l' a' < M) (fun _ _ _ => True) (.goto 0) _ _
      exact jump _ _ (by decide) rfl rfl rfl rfl rfl rfl rfl rfl ⟨unhide HI, fun h => absurd h hz⟩ (by simp; omega)

end Sn
end Go.Proofs.YticjilkcobpcjaaDoor
