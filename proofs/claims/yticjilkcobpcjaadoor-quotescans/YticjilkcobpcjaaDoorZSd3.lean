/-
  The document's own plain word.
-/
import Derived.Test.YticjilkcobpcjaaDoorZXSd
import Derived.Test.YticjilkcobpcjaaDoorZQd
set_option linter.unusedSimpArgs false
set_option linter.unusedVariables false
namespace Go.Proofs.YticjilkcobpcjaaDoor
open Go.RowKit Go.Lib

def Box6 (W : World) (b : Nat) : Prop := ∃ c0 c1 c2 c3 c4 c5, W.heap[b]? = some (.cells #[c0, c1, c2, c3, c4, c5] 32 (0, 0))
theorem Box6.facts {W : World} {b : Nat} (h : Box6 W b) : (∃ v, W.cell? ⟨b, 0, none⟩ = some v) ∧ (∃ v, W.cell? ⟨b, 1, none⟩ = some v) ∧ (∃ v, W.cell? ⟨b, 2, none⟩ = some v) ∧ (∃ v, W.cell? ⟨b, 3, none⟩ = some v) ∧ (∃ v, W.cell? ⟨b, 4, none⟩ = some v) ∧ (∃ v, W.cell? ⟨b, 5, none⟩ = some v) ∧ W.frozen? ⟨b, 0, none⟩ = false ∧ W.frozen? ⟨b, 1, none⟩ = false ∧ W.frozen? ⟨b, 2, none⟩ = false ∧ W.frozen? ⟨b, 3, none⟩ = false ∧ W.frozen? ⟨b, 4, none⟩ = false ∧ W.frozen? ⟨b, 5, none⟩ = false := by
  obtain ⟨c0, c1, c2, c3, c4, c5, h⟩ := h
  refine ⟨⟨c0, ?_⟩, ⟨c1, ?_⟩, ⟨c2, ?_⟩, ⟨c3, ?_⟩, ⟨c4, ?_⟩, ⟨c5, ?_⟩, ?_, ?_, ?_, ?_, ?_, ?_⟩ <;> simp [World.cell?, World.frozen?, h]
theorem Box6.below {W W' : World} {b B : Nat} (h : Box6 W b) (hb : Below B W W') (hB : b < B) : Box6 W' b := by
  obtain ⟨c0, c1, c2, c3, c4, c5, h⟩ := h
  exact ⟨c0, c1, c2, c3, c4, c5, (hb.block b hB).trans h⟩
theorem Box6.new (W : World) (c0 c1 c2 c3 c4 c5 : Value) : Box6 (W.alloc (.cells #[c0, c1, c2, c3, c4, c5] 32)) W.heap.size := ⟨c0, c1, c2, c3, c4, c5, by show (W.heap.push _)[W.heap.size]? = _; simp⟩

/-- a word and its error, found -/
def fV (x : Wd) (line : Nat) : Value := .agg #[.int .i64 (x.k : Int), .string x.t, .int .i64 x.n, .int .i64 (x.a : Int), .int .i64 (line : Int), .int .i64 (x.e : Int)]
def fEn (x : Wd) : Int := if x.e = 0 then (x.nx : Int) else -1
/-- the byte by which a word is a number, or not -/
def fst1 (t : ByteArray) : Nat := if by_ t 0 = 45 ∧ 1 < t.size then by_ t 1 else by_ t 0
theorem bgN_fst {t : ByteArray} (h : 0 < t.size) : bgN t = decide (48 ≤ fst1 t ∧ fst1 t ≤ 57) := by
  unfold bgN fst1 dgA
  by_cases h45 : by_ t 0 = 45
  · rw [if_pos ⟨h, h45⟩]
    by_cases h1 : 1 < t.size
    · rw [if_pos ⟨h45, h1⟩]
      simp [h1]
    · rw [if_neg (fun q => h1 q.2), h45]
      simp [h1]
  · rw [if_neg (fun q => h45 q.2), if_neg (fun q => h45 q.1)]
    simp [h]
theorem fst_dash {t : ByteArray} (h : 0 < t.size) (hf : 48 ≤ fst1 t) (h45 : by_ t 0 = 45) : 1 < t.size := by
  by_cases h1 : 1 < t.size
  · exact h1
  · unfold fst1 at hf
    rw [if_neg (fun q => h1 q.2), h45] at hf
    omega
theorem dec_of {t : ByteArray} (h : 0 < t.size) (hf : 48 ≤ fst1 t) {n : Int} {b : Bool} (hn : numD t.data.toList = if b = true then some n else none) : decN t = if b = true then some n else none := by
  rw [← hn]
  refine (num_one t ?_ ?_).symm
  · intro q
    have : t.data.toList.length = 0 := by rw [q]; rfl
    have e : t.data.toList.length = t.size := rfl
    omega
  · intro q
    have h1 := fst_dash h hf ((head_by h 45 (by omega)).2 (by simpa using q))
    intro e
    have : t.data.toList.tail.length = 0 := by rw [e]; rfl
    rw [List.length_tail] at this
    have e : t.data.toList.length = t.size := rfl
    omega

set_option maxRecDepth 100000 in
set_option maxHeartbeats 8000000 in
theorem refPlain_in (s : ByteArray) (hs : s.size ≤ 1000000000) (b : Nat) (hb : b < s.size) (hwe : isWe (by_ s b) = false) (line : Nat) (w : World) :
    Calls Tryd.prog 21 #[.string s, .int .i64 (b : Int), .int .i64 (line : Int)] w fun e w' => e = .returned (.tuple #[fV (bwW s b) line, .int .i64 (fEn (bwW s b))]) ∧ Below w.heap.size w w' := by
  have hsm : s.size ≤ 140737488355328 := by omega
  have e1 : (w.alloc (.cells #[.int .i64 0, .string ⟨#[]⟩, .int .i64 0, .int .i64 0, .int .i64 0, .int .i64 0] 32)).heap.size = w.heap.size + 1 := by simp
  have X0 := hide (Box6.new w (.int .i64 0) (.string ⟨#[]⟩) (.int .i64 0) (.int .i64 0) (.int .i64 0) (.int .i64 0))
  have B0 := hide ((Below.refl w.heap.size w).alloc (Nat.le_refl _) (.cells #[.int .i64 0, .string ⟨#[]⟩, .int .i64 0, .int .i64 0, .int .i64 0, .int .i64 0] 32))
  obtain ⟨X, hX⟩ : ∃ X, bwW s b = X := ⟨_, rfl⟩
  rw [hX]
  unfold bwW at hX
  obtain ⟨A, hA⟩ : ∃ A, bwA s b = A := ⟨_, rfl⟩
  rw [hA] at hX
  have HX := hide hX
  have HA := hide hA
  have Hwe := hide hwe
  clear hX hA hwe
  go_enter Tryd.func21, Tryd.ntmps21
  go_wp2
  obtain ⟨W0, hW0⟩ : ∃ W0, w.alloc (.cells #[.int .i64 0, .string ⟨#[]⟩, .int .i64 0, .int .i64 0, .int .i64 0, .int .i64 0] 32) = W0 := ⟨_, rfl⟩
  rw [hW0] at e1 X0 B0 ⊢
  clear hW0
  go_loopw [8] (fun iv wr => ∃ (i : Nat), iv = .int .i64 (i : Int) ∧ b ≤ i ∧ i ≤ s.size ∧ Hid (bwA s i = A ∧ Below (w.heap.size + 1) W0 wr)) (fun iv _ => s.size - (RowKit.intOf iv).toNat)
  case atStart => exact ⟨b, by go_num, Nat.le_refl _, by omega, hide ⟨unhide HA, Below.refl _ _⟩⟩
  case round =>
    obtain ⟨i, rfl, hbi, his, H⟩ := hrel
    obtain ⟨hbw, hBr⟩ := unhide H
    have hsz : w.heap.size + 1 ≤ wr.heap.size := by have := hBr.size; omega
    have Bw := hide ((unhide B0).trans (hBr.mono (Nat.le_succ _)))
    have X1 := hide ((unhide X0).below hBr (Nat.lt_succ_self _))
    have Hbw := hide hbw
    have HBr := hide hBr
    have HEn := hide (refEnds_in s hs i wr his)
    clear H hbw hBr
    by_cases hp : i < s.size ∧ isWe (by_ s i) = false
    · obtain ⟨hp, hwe⟩ := hp
      have hen : enD s i = false := by unfold enD; rw [hwe, decide_eq_false (by simpa using hp)]; rfl
      rw [hen] at HEn
      have hst := (bwA_step s i hp).symm.trans (unhide Hbw)
      rw [if_neg (by rw [hwe]; simp)] at hst
      have k1 : (i : Int) < (s.size : Int) := by omega
      have k2 : (0 : Int) ≤ (i : Int) := by omega
      have gi := by_get s i hp
      clear hen hwe
      by_cases c34 : by_ s i = 34
      · have hrn : rn s i = 34 := by rw [(by_low s i (by omega)).1, c34]
        rw [if_pos hrn] at hst
        have HE := hide (show X = ⟨0, ⟨#[]⟩, 0, i, 0, 18⟩ by rw [← unhide HX, ← hst]; rfl)
        rw [c34] at gi
        obtain ⟨⟨v0, q0⟩, ⟨v1, q1⟩, ⟨v2, q2⟩, ⟨v3, q3⟩, ⟨v4, q4⟩, ⟨v5, q5⟩, f0, f1, f2, f3, f4, f5⟩ := (unhide X1).facts
        clear c34 hrn hst HBr Hbw HX
        go_wp2_with fail
        refine (unhide HEn).mono ?_
        rintro e V1 ⟨rfl, rfl⟩
        go_wp2
        refine bodyPost_ret (v := .tuple #[.agg #[.int .i64 0, .string ⟨#[]⟩, .int .i64 0, .int .i64 (i : Int), .int .i64 (line : Int), .int .i64 18], .int .i64 (-1)]) ?_ rfl ⟨by rw [unhide HE]; rfl, ?_⟩
        · simp [results, Tryd.f21, go_sem, *]
        · exact ((((((unhide Bw).setCell (Nat.le_refl _) _).setCell (Nat.le_refl _) _).setCell (Nat.le_refl _) _).setCell (Nat.le_refl _) _).setCell (Nat.le_refl _) _).setCell (Nat.le_refl _) _
      · have n34 : (((by_ s i : Nat) : Int) == 34) = false := by rw [beq_eq_false_iff_ne]; omega
        have hrn : ¬ rn s i = 34 := fun q => c34 (by rw [(rn_low s i hp (by omega)).1, q])
        rw [if_neg hrn] at hst
        have hdec := hide (refDecode_any s (i : Int) wr hsm)
        rw [dR_in s i hp, dN_in s i hp, dK_in s i hp] at hdec
        have hw := wd_le s i hp
        have hw1 := wd_pos s i hp
        clear hrn c34
        cases hr : rawB s i with
        | true =>
          rw [if_pos hr] at hst
          have HE := hide (show X = ⟨0, ⟨#[]⟩, 0, i, 0, 2⟩ by rw [← unhide HX, ← hst]; rfl)
          have hcase : Hid (okR s i = false ∨ (okR s i = true ∧ rn s i < 32) ∨ (okR s i = true ∧ rn s i = 127)) := hide (by
            unfold rawB at hr
            simp only [Bool.or_eq_true, decide_eq_true_eq, Bool.not_eq_true'] at hr
            cases ho : okR s i with
            | false => exact .inl rfl
            | true => rw [ho] at hr; rcases hr with (h | h) | h <;> simp_all)
          clear hr hst HBr Hbw HX
          go_wp2_with fail
          refine (unhide HEn).mono ?_
          rintro e V1 ⟨rfl, rfl⟩
          go_wp2_with fail
          refine (unhide hdec).mono ?_
          rintro e V1 ⟨rfl, nd, rfl⟩
          have X2 : Box6 (wr.drewN nd) w.heap.size := unhide X1
          have HBf := hide (show Below w.heap.size w (wr.drewN nd) from ⟨(unhide Bw).os, (unhide Bw).tape, (unhide Bw).output, (unhide Bw).size, (unhide Bw).block⟩)
          obtain ⟨⟨v0, q0⟩, ⟨v1, q1⟩, ⟨v2, q2⟩, ⟨v3, q3⟩, ⟨v4, q4⟩, ⟨v5, q5⟩, f0, f1, f2, f3, f4, f5⟩ := X2.facts
          clear X2 hw hw1
          rcases unhide hcase with ho | ⟨ho, hc⟩ | ⟨ho, hc⟩
          · rw [ho]
            go_wp2
            refine bodyPost_ret (v := .tuple #[.agg #[.int .i64 0, .string ⟨#[]⟩, .int .i64 0, .int .i64 (i : Int), .int .i64 (line : Int), .int .i64 2], .int .i64 (-1)]) ?_ rfl ⟨by rw [unhide HE]; rfl, ?_⟩
            · simp [results, Tryd.f21, go_sem, *]
            · exact ((((((unhide HBf).setCell (Nat.le_refl _) _).setCell (Nat.le_refl _) _).setCell (Nat.le_refl _) _).setCell (Nat.le_refl _) _).setCell (Nat.le_refl _) _).setCell (Nat.le_refl _) _
          · have e32 : ((rn s i : Nat) : Int) < 32 := by omega
            rw [ho]
            go_wp2
            refine bodyPost_ret (v := .tuple #[.agg #[.int .i64 0, .string ⟨#[]⟩, .int .i64 0, .int .i64 (i : Int), .int .i64 (line : Int), .int .i64 2], .int .i64 (-1)]) ?_ rfl ⟨by rw [unhide HE]; rfl, ?_⟩
            · simp [results, Tryd.f21, go_sem, *]
            · exact ((((((unhide HBf).setCell (Nat.le_refl _) _).setCell (Nat.le_refl _) _).setCell (Nat.le_refl _) _).setCell (Nat.le_refl _) _).setCell (Nat.le_refl _) _).setCell (Nat.le_refl _) _
          · rw [ho, hc]
            go_wp2
            refine bodyPost_ret (v := .tuple #[.agg #[.int .i64 0, .string ⟨#[]⟩, .int .i64 0, .int .i64 (i : Int), .int .i64 (line : Int), .int .i64 2], .int .i64 (-1)]) ?_ rfl ⟨by rw [unhide HE]; rfl, ?_⟩
            · simp [results, Tryd.f21, go_sem, *]
            · exact ((((((unhide HBf).setCell (Nat.le_refl _) _).setCell (Nat.le_refl _) _).setCell (Nat.le_refl _) _).setCell (Nat.le_refl _) _).setCell (Nat.le_refl _) _).setCell (Nat.le_refl _) _
        | false =>
          rw [if_neg (by rw [hr]; simp)] at hst
          have ho : okR s i = true := by unfold rawB at hr; simp at hr; exact hr.2
          have e32 : ¬ ((rn s i : Nat) : Int) < 32 := by unfold rawB at hr; simp at hr; omega
          have e127 : (((rn s i : Nat) : Int) == 127) = false := by rw [beq_eq_false_iff_ne]; unfold rawB at hr; simp at hr; omega
          rw [ho] at hdec
          have HS := hide hst
          clear hr ho hst Hbw
          obtain ⟨k, hk⟩ : ∃ k, wd s i = k := ⟨_, rfl⟩
          obtain ⟨r, hrr⟩ : ∃ r, rn s i = r := ⟨_, rfl⟩
          rw [hk] at hdec HS hw hw1
          rw [hrr] at hdec e32 e127
          have hk4 : k ≤ 4 := by omega
          have hik : i + k ≤ s.size := by omega
          clear hk hrr hw
          go_wp2_with fail
          refine (unhide HEn).mono ?_
          rintro e V1 ⟨rfl, rfl⟩
          go_wp2_with fail
          refine (unhide hdec).mono ?_
          rintro e V1 ⟨rfl, nd, rfl⟩
          go_wp2
          go_roundw
          case rel => exact ⟨i + k, by go_num, by omega, hik, hide ⟨unhide HS, ⟨(unhide HBr).os, (unhide HBr).tape, (unhide HBr).output, (unhide HBr).size, (unhide HBr).block⟩⟩⟩
          case measure => simp [RowKit.intOf]; omega
    · have hen : enD s i = true := by
        unfold enD
        by_cases q : i < s.size
        · have : isWe (by_ s i) = true := by cases h : isWe (by_ s i); exact absurd ⟨q, h⟩ hp; rfl
          rw [this]; simp
        · simp [q]
      rw [hen] at HEn
      have hAi : A = (i, 0) := by
        rw [← unhide Hbw]
        by_cases q : i < s.size
        · have : isWe (by_ s i) = true := by cases h : isWe (by_ s i); exact absurd ⟨q, h⟩ hp; rfl
          rw [bwA_step s i q, if_pos this]
        · rw [bwA_end s i q, show i = s.size by omega]
      have hgt : b < i := by
        by_cases q : i = b
        · subst q
          exact absurd ⟨hb, unhide Hwe⟩ hp
        · omega
      have hX := unhide HX
      rw [hAi] at hX
      simp only at hX
      rw [if_neg (by simp)] at hX
      obtain ⟨T, hT⟩ : ∃ T, s.extract b i = T := ⟨_, rfl⟩
      have hTs : T.size = i - b := by rw [← hT, ByteArray.size_extract]; omega
      rw [hT] at hX
      have hT0 : 0 < T.size := by omega
      rw [bgN_fst hT0] at hX
      have g0 := by_get T 0 hT0
      have HX2 := hide hX
      have k1 : (i : Int) ≤ (s.size : Int) := by omega
      have k2 : (b : Int) ≤ (i : Int) := by omega
      have k3 : (0 : Int) ≤ (b : Int) := by omega
      have k4 : (0 : Int) < (T.size : Int) := by omega
      obtain ⟨Z, hZ⟩ : ∃ Z, T.size = Z := ⟨_, rfl⟩
      have HZT := hide hT0
      have Hgt := hide hgt
      have HNm := hide (fun h1 => number_in T (by omega) hT0 h1 wr)
      clear hX HX hAi hen hp HA Hbw Hwe HBr hTs hgt
      go_wp2_with fail
      refine (unhide HEn).mono ?_
      rintro e V1 ⟨rfl, rfl⟩
      clear HEn
      go_upto_region 11 with fail
      go_cut [65] from 59 to 65 (fun v wx => v = .bool (decide (by_ T 0 = 45 ∧ 1 < Z)) ∧ wr = wx)
      case first =>
        by_cases c45 : by_ T 0 = 45
        · have q1 : (((by_ T 0 : Nat) : Int) == 45) = true := by rw [c45]; rfl
          have Hc := hide c45
          clear c45
          by_cases z1 : 1 < Z
          · have z2 : (1 : Int) < (Z : Int) := by omega
            clear HNm HX2
            go_wp2
            go_meet
            case rel => exact ⟨by simp [unhide Hc, z1], rfl⟩
          · have z2 : ¬ (1 : Int) < (Z : Int) := by omega
            clear HNm HX2
            go_wp2
            go_meet
            case rel => exact ⟨by simp [z1], rfl⟩
        · have q1 : (((by_ T 0 : Nat) : Int) == 45) = false := by rw [beq_eq_false_iff_ne]; omega
          clear HNm HX2
          go_wp2
          go_meet
          case rel => exact ⟨by simp [c45], rfl⟩
      obtain ⟨rfl, rfl⟩ := hcut
      rename_i hKx
      refine hKx _ _ ?_
      clear hKx
      go_cut [13] from 59 to 67 (fun v wx => v = .int .u8 (fst1 T : Int) ∧ wr = wx)
      case first =>
        by_cases cc : by_ T 0 = 45 ∧ 1 < Z
        · have q1 : decide (by_ T 0 = 45 ∧ 1 < Z) = true := by simp [cc]
          have hf : fst1 T = by_ T 1 := by unfold fst1; rw [hZ, if_pos cc]
          have hz1 : 1 < T.size := by omega
          have g1 := by_get T 1 hz1
          have z2 : (1 : Int) < (Z : Int) := by omega
          have Hf := hide hf
          rw [q1]
          clear HNm HX2 hf q1
          clear cc
          go_wp2
          go_meet
          case rel => exact ⟨by rw [unhide Hf], rfl⟩
        · have q1 : decide (by_ T 0 = 45 ∧ 1 < Z) = false := by simpa using cc
          have hf : fst1 T = by_ T 0 := by unfold fst1; rw [hZ, if_neg cc]
          have Hf := hide hf
          rw [q1]
          clear HNm HX2 hf q1
          clear cc
          go_wp2
          go_meet
          case rel => exact ⟨by rw [unhide Hf], rfl⟩
      case rest =>
        obtain ⟨rfl, rfl⟩ := hcut
        obtain ⟨F, hF⟩ : ∃ F, fst1 T = F := ⟨_, rfl⟩
        rw [hF] at HX2 ⊢
        have HF := hide hF
        have HBf := hide (unhide Bw)
        obtain ⟨⟨v0, q0⟩, ⟨v1, q1⟩, ⟨v2, q2⟩, ⟨v3, q3⟩, ⟨v4, q4⟩, ⟨v5, q5⟩, f0, f1, f2, f3, f4, f5⟩ := (unhide X1).facts
        clear g0 hF
        by_cases fl : F < 48
        · have fl' : (F : Int) < 48 := by omega
          have HE := hide (show X = ⟨1, T, 0, b, i, 0⟩ by rw [← unhide HX2, if_pos (by simp; omega)])
          clear HX2 HNm
          go_wp2
          refine bodyPost_ret (v := .tuple #[.agg #[.int .i64 1, .string T, .int .i64 0, .int .i64 (b : Int), .int .i64 (line : Int), .int .i64 0], .int .i64 (i : Int)]) ?_ rfl ⟨by rw [unhide HE]; rfl, ?_⟩
          · simp [results, Tryd.f21, go_sem, *]
          · exact ((((((unhide HBf).setCell (Nat.le_refl _) _).setCell (Nat.le_refl _) _).setCell (Nat.le_refl _) _).setCell (Nat.le_refl _) _).setCell (Nat.le_refl _) _).setCell (Nat.le_refl _) _
        have fl' : ¬ (F : Int) < 48 := by omega
        by_cases fh : 57 < F
        · have fh' : (57 : Int) < (F : Int) := by omega
          have HE := hide (show X = ⟨1, T, 0, b, i, 0⟩ by rw [← unhide HX2, if_pos (by simp; omega)])
          clear HX2 HNm
          go_wp2
          refine bodyPost_ret (v := .tuple #[.agg #[.int .i64 1, .string T, .int .i64 0, .int .i64 (b : Int), .int .i64 (line : Int), .int .i64 0], .int .i64 (i : Int)]) ?_ rfl ⟨by rw [unhide HE]; rfl, ?_⟩
          · simp [results, Tryd.f21, go_sem, *]
          · exact ((((((unhide HBf).setCell (Nat.le_refl _) _).setCell (Nat.le_refl _) _).setCell (Nat.le_refl _) _).setCell (Nat.le_refl _) _).setCell (Nat.le_refl _) _).setCell (Nat.le_refl _) _
        have fh' : ¬ (57 : Int) < (F : Int) := by omega
        have hX := unhide HX2
        rw [if_neg (by simp; omega)] at hX
        have HX3 := hide hX
        have HN := hide (unhide HNm (fun q => fst_dash (unhide HZT) (by rw [unhide HF]; omega) q))
        clear HX2 HNm hX
        go_wp2_with fail
        refine (unhide HN).mono ?_
        rintro e V1 ⟨⟨nn, bb, rfl, hnm⟩, rfl⟩
        have hdc := dec_of (unhide HZT) (by rw [unhide HF]; omega) hnm
        clear HN hnm
        cases bb with
        | true =>
          have HE := hide (show X = ⟨3, ⟨#[]⟩, nn, b, i, 0⟩ by rw [← unhide HX3, hdc]; rfl)
          clear HX3 hdc
          go_wp2
          refine bodyPost_ret (v := .tuple #[.agg #[.int .i64 3, .string ⟨#[]⟩, .int .i64 nn, .int .i64 (b : Int), .int .i64 (line : Int), .int .i64 0], .int .i64 (i : Int)]) ?_ rfl ⟨by rw [unhide HE]; rfl, ?_⟩
          · simp [results, Tryd.f21, go_sem, *]
          · exact ((((((unhide HBf).setCell (Nat.le_refl _) _).setCell (Nat.le_refl _) _).setCell (Nat.le_refl _) _).setCell (Nat.le_refl _) _).setCell (Nat.le_refl _) _).setCell (Nat.le_refl _) _
        | false =>
          have HE := hide (show X = ⟨0, ⟨#[]⟩, 0, b, 0, 6⟩ by rw [← unhide HX3, hdc]; rfl)
          clear HX3 hdc
          go_wp2
          refine bodyPost_ret (v := .tuple #[.agg #[.int .i64 0, .string ⟨#[]⟩, .int .i64 0, .int .i64 (b : Int), .int .i64 (line : Int), .int .i64 6], .int .i64 (-1)]) ?_ rfl ⟨by rw [unhide HE]; rfl, ?_⟩
          · simp [results, Tryd.f21, go_sem, *]
          · exact ((((((unhide HBf).setCell (Nat.le_refl _) _).setCell (Nat.le_refl _) _).setCell (Nat.le_refl _) _).setCell (Nat.le_refl _) _).setCell (Nat.le_refl _) _).setCell (Nat.le_refl _) _

end Go.Proofs.YticjilkcobpcjaaDoor
