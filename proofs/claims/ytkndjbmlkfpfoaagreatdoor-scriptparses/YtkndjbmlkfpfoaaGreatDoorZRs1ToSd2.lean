/-
  The document's own scanner: its parts.
-/
import Derived.Test.YtkndjbmlkfpfoaaGreatDoorZSp
import Derived.Test.YtkndjbmlkfpfoaaGreatDoorZNu
import Derived.Test.YtkndjbmlkfpfoaaGreatDoorZPKToSw
import Derived.Deep.CutRange
import Derived.WalkMore

set_option linter.unusedSimpArgs false
set_option linter.unusedVariables false
namespace Go.Proofs.YtkndjbmlkfpfoaaGreatDoor
open Go.RowKit Go.Lib

/-- a word ends ahead of a byte, or with the text -/
def enDs (s : ByteArray) (i : Nat) : Bool := decide (¬ i < s.size) || isWe (by_ s i)

theorem refEnds_in (s : ByteArray) (hs : s.size ≤ 1000000000) (i : Nat) (w : World) (hi : i ≤ s.size) :
    Calls Tryz.prog 63 #[.string s, .int .i64 (i : Int)] w fun e w' => e = .returned (.bool (enDs s i)) ∧ w = w' := by
  have k2 : (0 : Int) ≤ (i : Int) := by omega
  by_cases hz : i < s.size
  · have gi := by_get s i hz
    have k1 : (i : Int) < (s.size : Int) := by omega
    have k3 : decide ((s.size : Int) ≤ (i : Int)) = false := by rw [decide_eq_false_iff_not]; omega
    have k6 : decide (s.size ≤ i) = false := by rw [decide_eq_false_iff_not]; omega
    have he : enDs s i = isWe (by_ s i) := by unfold enDs; rw [decide_eq_false (by simpa using hz)]; simp
    rw [he]
    generalize by_ s i = b at *
    clear he
    by_cases h32 : b = 32
    · have hh := hide (show isWe b = true by rw [h32]; rfl)
      have q32 : ((b : Int) == 32) = true := by rw [h32]; rfl
      clear h32
      go_enter Tryz.func63, Tryz.ntmps63
      go_wp2
      go_ret
      exact ⟨by rw [unhide hh]; rfl, rfl⟩
    by_cases h9 : b = 9
    · have hh := hide (show isWe b = true by rw [h9]; rfl)
      have q32 : ((b : Int) == 32) = false := by rw [beq_eq_false_iff_ne]; omega
      have q9 : ((b : Int) == 9) = true := by rw [h9]; rfl
      clear h32 h9
      go_enter Tryz.func63, Tryz.ntmps63
      go_wp2
      go_ret
      exact ⟨by rw [unhide hh]; rfl, rfl⟩
    by_cases h35 : b = 35
    · have hh := hide (show isWe b = true by rw [h35]; rfl)
      have q32 : ((b : Int) == 32) = false := by rw [beq_eq_false_iff_ne]; omega
      have q9 : ((b : Int) == 9) = false := by rw [beq_eq_false_iff_ne]; omega
      have q35 : ((b : Int) == 35) = true := by rw [h35]; rfl
      clear h32 h9 h35
      go_enter Tryz.func63, Tryz.ntmps63
      go_wp2
      go_ret
      exact ⟨by rw [unhide hh]; rfl, rfl⟩
    by_cases h10 : b = 10
    · have hh := hide (show isWe b = true by rw [h10]; rfl)
      have q32 : ((b : Int) == 32) = false := by rw [beq_eq_false_iff_ne]; omega
      have q9 : ((b : Int) == 9) = false := by rw [beq_eq_false_iff_ne]; omega
      have q35 : ((b : Int) == 35) = false := by rw [beq_eq_false_iff_ne]; omega
      have q10 : ((b : Int) == 10) = true := by rw [h10]; rfl
      clear h32 h9 h35 h10
      go_enter Tryz.func63, Tryz.ntmps63
      go_wp2
      go_ret
      exact ⟨by rw [unhide hh]; rfl, rfl⟩
    by_cases h13 : b = 13
    · have hh := hide (show isWe b = true by rw [h13]; rfl)
      have q32 : ((b : Int) == 32) = false := by rw [beq_eq_false_iff_ne]; omega
      have q9 : ((b : Int) == 9) = false := by rw [beq_eq_false_iff_ne]; omega
      have q35 : ((b : Int) == 35) = false := by rw [beq_eq_false_iff_ne]; omega
      have q10 : ((b : Int) == 10) = false := by rw [beq_eq_false_iff_ne]; omega
      have q13 : ((b : Int) == 13) = true := by rw [h13]; rfl
      clear h32 h9 h35 h10 h13
      go_enter Tryz.func63, Tryz.ntmps63
      go_wp2
      go_ret
      exact ⟨by rw [unhide hh]; rfl, rfl⟩
    have hh := hide (show isWe b = false by simp [isWe, isBl, isLn, h32, h9, h35, h10, h13])
    have q32 : ((b : Int) == 32) = false := by rw [beq_eq_false_iff_ne]; omega
    have q9 : ((b : Int) == 9) = false := by rw [beq_eq_false_iff_ne]; omega
    have q35 : ((b : Int) == 35) = false := by rw [beq_eq_false_iff_ne]; omega
    have q10 : ((b : Int) == 10) = false := by rw [beq_eq_false_iff_ne]; omega
    have q13 : ((b : Int) == 13) = false := by rw [beq_eq_false_iff_ne]; omega
    clear h32 h9 h35 h10 h13
    go_enter Tryz.func63, Tryz.ntmps63
    go_wp2
    go_ret
    exact ⟨by rw [unhide hh]; rfl, rfl⟩
  · have k3 : (s.size : Int) ≤ (i : Int) := by omega
    have k4 : s.size ≤ i := by omega
    have k5 : decide ((s.size : Int) ≤ (i : Int)) = true := by rw [decide_eq_true_iff]; omega
    have hh := hide (show enDs s i = true by unfold enDs; rw [decide_eq_true (by simpa using hz)]; rfl)
    clear hz
    go_enter Tryz.func63, Tryz.ntmps63
    go_wp2
    go_ret
    exact ⟨by rw [unhide hh]; rfl, rfl⟩

end Go.Proofs.YtkndjbmlkfpfoaaGreatDoor

/-
  The document's own number.
-/
set_option linter.unusedSimpArgs false
set_option linter.unusedVariables false
namespace Go.Proofs.YtkndjbmlkfpfoaaGreatDoor
open Go.RowKit Go.Lib

def numB (bl : Bool) (d : List UInt8) : Option Int :=
  if bl = true then
    if d.head? = some 48 then none else match magD d with
      | none => none
      | some n => if 9223372036854775808 < n then none else some (-(n : Int))
  else match magD d with
    | none => none
    | some n => if n < 9223372036854775808 then some (n : Int) else none
def NmA (t : ByteArray) (e : Ending) : Prop := ∃ (n : Int) (b : Bool), e = .returned (.tuple #[.int .i64 n, .bool b]) ∧ numD t.data.toList = if b = true then some n else none
theorem NmA.no (t : ByteArray) (n : Int) (h : numD t.data.toList = none) : NmA t (.returned (.tuple #[.int .i64 n, .bool false])) := ⟨n, false, rfl, h⟩
theorem NmA.yes (t : ByteArray) (n : Int) (h : numD t.data.toList = some n) : NmA t (.returned (.tuple #[.int .i64 n, .bool true])) := ⟨n, true, rfl, h⟩
theorem head_by {D : ByteArray} (h : 0 < D.size) (c : Nat) (hc : c < 256) : by_ D 0 = c ↔ D.data.toList.head? = some (UInt8.ofNat c) := by
  obtain ⟨⟨l⟩⟩ := D
  cases l with
  | nil => simp [ByteArray.size] at h
  | cons a r =>
    have e : by_ (ofL (a :: r)) 0 = a.toNat := by_hd [] a r
    have e' : by_ ⟨⟨a :: r⟩⟩ 0 = a.toNat := e
    rw [e']
    simp only [List.head?_cons, Option.some.injEq]
    constructor
    · intro q; rw [← q]; simp
    · intro q; rw [q]; simp; omega
theorem numD_dash {t : ByteArray} (h : 0 < t.size) (h45 : by_ t 0 = 45) : numD t.data.toList = numB true (t.extract 1 t.size).data.toList := by
  have h1 := (head_by h 45 (by omega)).1 h45
  have e : (t.extract 1 t.size).data.toList = t.data.toList.tail := by
    obtain ⟨⟨l⟩⟩ := t
    cases l with
    | nil => simp [ByteArray.size] at h
    | cons a r => simp [ByteArray.size]
  unfold numD numB
  rw [if_pos (by simpa using h1), if_pos rfl, e]
  rfl
theorem numD_none {t : ByteArray} (h : 0 < t.size) (h45 : by_ t 0 ≠ 45) : numD t.data.toList = numB false t.data.toList := by
  unfold numD numB
  rw [if_neg (fun q => h45 ((head_by h 45 (by omega)).2 (by simpa using q))), if_neg (by simp)]
  rfl
theorem numB_long {bl : Bool} {D : ByteArray} (h : 19 < D.size) : numB bl D.data.toList = none := by
  have e : magD D.data.toList = none := by
    unfold magD
    rw [if_pos (.inl h)]
  unfold numB
  rw [e]
  simp
theorem numB_zero {bl : Bool} {D : ByteArray} (h0 : 0 < D.size) (h : 1 < D.size ∨ bl = true) (h48 : by_ D 0 = 48) : numB bl D.data.toList = none := by
  have h1 := (head_by h0 48 (by omega)).1 h48
  unfold numB
  rcases h with h | h
  · have e : magD D.data.toList = none := by
      unfold magD
      rw [if_pos (.inr ⟨h, h1⟩)]
    rw [e]
    simp
  · rw [if_pos h, if_pos (show D.data.toList.head? = some 48 from h1)]
theorem numB_dig {bl : Bool} {D : ByteArray} {i : Nat} (hi : i < D.size) (h : by_ D i < 48 ∨ 57 < by_ D i) : numB bl D.data.toList = none := by
  have e : magD D.data.toList = none := by
    unfold magD
    split
    · rfl
    · rw [if_neg]
      intro q
      rw [List.all_eq_true] at q
      have hm : D.data[i] ∈ D.data.toList := by simp
      have := q _ hm
      rw [decide_eq_true_eq] at this
      have e2 : by_ D i = D.data[i].toNat := by
        rw [← by_get D i hi]
        rfl
      omega
  unfold numB
  rw [e]
  simp
theorem numB_all {bl : Bool} {D : ByteArray} (h0 : 0 < D.size) (h1 : D.size ≤ 19) (h2 : ¬ (1 < D.size ∧ by_ D 0 = 48)) (h3 : ¬ (bl = true ∧ by_ D 0 = 48)) (h : ∀ c ∈ D.data.toList, isDg c) :
    numB bl D.data.toList = if bl = true then (if 9223372036854775808 < dv 0 D.data.toList then none else some (-(dv 0 D.data.toList : Int))) else if dv 0 D.data.toList < 9223372036854775808 then some (dv 0 D.data.toList : Int) else none := by
  have hh := head_by h0 48 (by omega)
  have e : magD D.data.toList = some (dv 0 D.data.toList) := by
    unfold magD
    rw [if_neg, if_pos]
    · rw [List.all_eq_true]
      intro c hc
      rw [decide_eq_true_eq]
      exact h c hc
    · rintro (q | ⟨q1, q2⟩)
      · have : D.data.toList.length = D.size := rfl
        omega
      · exact h2 ⟨q1, hh.2 q2⟩
  unfold numB
  rw [e]
  cases bl with
  | false => rfl
  | true => rw [if_pos rfl, if_neg (show ¬ D.data.toList.head? = some 48 from fun q => h3 ⟨rfl, hh.2 q⟩), if_pos rfl]

end Go.Proofs.YtkndjbmlkfpfoaaGreatDoor

/-
  The document's own number, walked.
-/
set_option linter.unusedSimpArgs false
set_option linter.unusedVariables false
namespace Go.Proofs.YtkndjbmlkfpfoaaGreatDoor
open Go.RowKit Go.Lib

theorem take_snoc {D : ByteArray} {i : Nat} (hi : i < D.size) : ∃ c : UInt8, D.data.toList.take (i + 1) = D.data.toList.take i ++ [c] ∧ c.toNat = by_ D i := by
  have hl : i < D.data.toList.length := hi
  refine ⟨D.data.toList[i], List.take_succ_eq_append_getElem hl, ?_⟩
  rw [← by_get D i hi]
  simp
  rfl
theorem dv_one (l : List UInt8) (c : UInt8) : dv 0 (l ++ [c]) = dv 0 l * 10 + (c.toNat - 48) := by rw [dv_append]; rfl
theorem pow18 {i : Nat} (h : i ≤ 18) : 10 ^ i ≤ 1000000000000000000 := Nat.le_trans (Nat.pow_le_pow_right (by omega) h) (by decide)

set_option maxRecDepth 100000 in
set_option maxHeartbeats 4000000 in
theorem number4_in (t : ByteArray) (hs : t.size ≤ 1000000000) (h0 : 0 < t.size) (h1 : by_ t 0 = 45 → 1 < t.size) (w : World) :
    Calls Tryz.prog 89 #[.string t] w fun e w' => NmA t e ∧ w = w' := by
  have g0 := by_get t 0 h0
  have i0 : (0 : Int) < (t.size : Int) := by omega
  go_enter Tryz.func89, Tryz.ntmps89
  go_upto_region 3 with fail
  go_cut [11] from 9 to 11 (fun v wx => v = .bool (((by_ t 0 : Nat) : Int) == 45) ∧ w = wx)
  case first =>
    go_wp2
    go_meet
    case rel => exact ⟨rfl, rfl⟩
  obtain ⟨rfl, rfl⟩ := hcut
  rename_i hKx
  refine hKx _ _ ?_
  clear hKx
  go_cut [4, 5] from 9 to 13 (fun dv_ bv wx => ∃ (D : ByteArray) (bl : Bool), dv_ = .string D ∧ bv = .bool bl ∧ Hid (0 < D.size ∧ D.size ≤ 1000000000 ∧ numD t.data.toList = numB bl D.data.toList) ∧ w = wx)
  case first =>
    by_cases c45 : by_ t 0 = 45
    · have q1 : (((by_ t 0 : Nat) : Int) == 45) = true := by rw [c45]; rfl
      have z1 := h1 c45
      have HN := hide (numD_dash h0 c45)
      have i1 : (1 : Int) ≤ (t.size : Int) := by omega
      clear c45 h1
      go_wp2
      go_meet
      case rel => exact ⟨t.extract 1 t.size, true, by first | rfl | simp, rfl, hide ⟨by rw [ByteArray.size_extract]; omega, by rw [ByteArray.size_extract]; omega, unhide HN⟩, rfl⟩
    · have q1 : (((by_ t 0 : Nat) : Int) == 45) = false := by rw [beq_eq_false_iff_ne]; omega
      have HN := hide (numD_none h0 c45)
      clear c45 h1
      go_wp2
      go_meet
      case rel => exact ⟨t, false, rfl, rfl, hide ⟨h0, hs, unhide HN⟩, rfl⟩
  case rest =>
    obtain ⟨D, bl, rfl, rfl, HD, rfl⟩ := hcut
    obtain ⟨d0, d1, hN⟩ := unhide HD
    have HN := hide hN
    clear HD hN g0 i0 h0 h1
    have gD := by_get D 0 d0
    have j0 : (0 : Int) < (D.size : Int) := by omega
    by_cases k19 : 19 < D.size
    · have e19 : (19 : Int) < (D.size : Int) := by omega
      have HF := hide (show numD t.data.toList = none by rw [unhide HN]; exact numB_long k19)
      clear HN gD
      go_wp2
      go_ret2
      exact ⟨NmA.no _ _ (unhide HF), rfl⟩
    have e19 : ¬ (19 : Int) < (D.size : Int) := by omega
    by_cases kz : by_ D 0 = 48 ∧ (1 < D.size ∨ bl = true)
    · have e48 : (((by_ D 0 : Nat) : Int) == 48) = true := by rw [kz.1]; rfl
      have HF := hide (show numD t.data.toList = none by rw [unhide HN]; exact numB_zero d0 kz.2 kz.1)
      by_cases k1 : 1 < D.size
      · have e1 : (1 : Int) < (D.size : Int) := by omega
        clear HN kz
        go_wp2
        go_ret2
        exact ⟨NmA.no _ _ (unhide HF), rfl⟩
      · have e1 : ¬ (1 : Int) < (D.size : Int) := by omega
        have hbl : bl = true := by rcases kz.2 with q | q; exact absurd q k1; exact q
        subst hbl
        clear HN kz
        go_wp2
        go_ret2
        exact ⟨NmA.no _ _ (unhide HF), rfl⟩
    have HZ := hide kz
    go_upto_region 6 with fail
    go_cut [34] from 14 to 34 (fun v wx => v = .bool false ∧ w = wx)
    case first =>
      by_cases k48 : by_ D 0 = 48
      · have e48 : (((by_ D 0 : Nat) : Int) == 48) = true := by rw [k48]; rfl
        have e1 : ¬ (1 : Int) < (D.size : Int) := by omega
        have hbl : bl = false := by cases bl; rfl; exact absurd ⟨k48, .inr rfl⟩ kz
        subst hbl
        clear kz HZ HN k48
        go_wp2
        go_meet
        case rel => exact ⟨rfl, rfl⟩
      · have e48 : (((by_ D 0 : Nat) : Int) == 48) = false := by rw [beq_eq_false_iff_ne]; omega
        clear kz HZ HN k48
        by_cases k1 : 1 < D.size
        · have e1 : (1 : Int) < (D.size : Int) := by omega
          cases bl <;>
          · go_wp2
            go_meet
            case rel => exact ⟨rfl, rfl⟩
        · have e1 : ¬ (1 : Int) < (D.size : Int) := by omega
          cases bl <;>
          · go_wp2
            go_meet
            case rel => exact ⟨rfl, rfl⟩
    obtain ⟨rfl, rfl⟩ := hcut
    clear kz gD j0
    go_wp2
    go_loopw [6, 7] (fun nv iv wr => ∃ (n i : Nat), nv = .int .u64 (n : Int) ∧ iv = .int .i64 (i : Int) ∧ i ≤ D.size ∧ Hid ((∀ c ∈ D.data.toList.take i, isDg c) ∧ dv 0 (D.data.toList.take i) = n ∧ n < 10 ^ i ∧ w = wr)) (fun _ iv _ => D.size - (RowKit.intOf iv).toNat)
    case atStart => exact ⟨0, 0, by go_num, by go_num, by omega, hide ⟨fun c hc => by simp at hc, rfl, by decide, rfl⟩⟩
    case round =>
      obtain ⟨n, i, rfl, rfl, hi, HI⟩ := hrel
      obtain ⟨hd, hv, hp, rfl⟩ := unhide HI
      have Hd := hide hd
      have Hv := hide hv
      have Hp := hide hp
      clear HI hd hv hp
      by_cases hlt : i < D.size
      · have l1 : (i : Int) < (D.size : Int) := by omega
        have l2 : (0 : Int) ≤ (i : Int) := by omega
        have gi := by_get D i hlt
        obtain ⟨b, hb⟩ : ∃ b, by_ D i = b := ⟨_, rfl⟩
        rw [hb] at gi
        by_cases b1 : b < 48
        · have c1 : (b : Int) < 48 := by omega
          have HF := hide (show numD t.data.toList = none by rw [unhide HN]; exact numB_dig hlt (.inl (by rw [hb]; exact b1)))
          clear hb Hd Hv Hp HN HZ
          go_wp2
          go_ret2
          exact ⟨NmA.no _ _ (unhide HF), rfl⟩
        have c1 : ¬ (b : Int) < 48 := by omega
        by_cases b2 : 57 < b
        · have c2 : (57 : Int) < (b : Int) := by omega
          have HF := hide (show numD t.data.toList = none by rw [unhide HN]; exact numB_dig hlt (.inr (by rw [hb]; exact b2)))
          clear hb Hd Hv Hp HN HZ
          go_wp2
          go_ret2
          exact ⟨NmA.no _ _ (unhide HF), rfl⟩
        have c2 : ¬ (57 : Int) < (b : Int) := by omega
        have hn : n < 1000000000000000000 := Nat.lt_of_lt_of_le (unhide Hp) (pow18 (by omega))
        have x1 : IntKind.u64.wrap ((n : Int) * 10) = (n : Int) * 10 := by simp only [IntKind.wrap_u64, IntKind.wrap_u8]; omega
        have x2 : IntKind.u8.wrap ((b : Int) - 48) = (b : Int) - 48 := by simp only [IntKind.wrap_u64, IntKind.wrap_u8]; omega
        have x3 : IntKind.u64.wrap ((b : Int) - 48) = (b : Int) - 48 := by simp only [IntKind.wrap_u64, IntKind.wrap_u8]; omega
        have x4 : IntKind.u64.wrap ((n : Int) * 10 + ((b : Int) - 48)) = (n : Int) * 10 + ((b : Int) - 48) := by simp only [IntKind.wrap_u64, IntKind.wrap_u8]; omega
        have HS := hide (show (∀ c ∈ D.data.toList.take (i + 1), isDg c) ∧ dv 0 (D.data.toList.take (i + 1)) = n * 10 + (b - 48) ∧ n * 10 + (b - 48) < 10 ^ (i + 1) by
          obtain ⟨c, e, hc⟩ := take_snoc hlt
          rw [hb] at hc
          rw [e]
          refine ⟨fun d hd => ?_, by rw [dv_one, unhide Hv, hc], by rw [Nat.pow_succ]; have := unhide Hp; omega⟩
          rcases List.mem_append.1 hd with q | q
          · exact unhide Hd d q
          · simp at q
            rw [q]
            unfold isDg
            omega)
        clear hb Hd Hv Hp HZ
        go_wp2
        go_roundw
        case rel => exact ⟨n * 10 + (b - 48), i + 1, by go_num, by go_num, by omega, hide ⟨(unhide HS).1, (unhide HS).2.1, (unhide HS).2.2, by first | trivial | rfl⟩⟩
        case measure => simp [RowKit.intOf]; omega
      · have l1 : ¬ (i : Int) < (D.size : Int) := by omega
        obtain rfl : i = D.size := by omega
        have ht : D.data.toList.take D.size = D.data.toList := List.take_of_length_le (Nat.le_refl _)
        have hall := numB_all (bl := bl) (D := D) d0 (by omega) (fun q => unhide HZ ⟨q.2, .inl q.1⟩) (fun q => unhide HZ ⟨q.2, .inr q.1⟩) (by rw [← ht]; exact unhide Hd)
        have hv := unhide Hv
        rw [ht] at hv
        rw [hv, ← unhide HN] at hall
        have hn : n < 10000000000000000000 := Nat.lt_of_lt_of_le (unhide Hp) (Nat.le_trans (Nat.pow_le_pow_right (by omega) (show D.size ≤ 19 by omega)) (by decide))
        have HA := hide hall
        clear ht hall hv Hd Hv Hp HZ HN
        cases bl with
        | true =>
          by_cases kb : 9223372036854775808 < n
          · have kb' : (9223372036854775808 : Int) < (n : Int) := by omega
            go_wp2
            go_ret2
            exact ⟨NmA.no _ _ (by rw [unhide HA]; simp [kb]), rfl⟩
          · have kb' : ¬ (9223372036854775808 : Int) < (n : Int) := by omega
            have x1 : IntKind.i64.wrap (IntKind.u64.wrap (-(n : Int))) = -(n : Int) := by simp only [IntKind.wrap_i64, IntKind.wrap_u64]; omega
            go_wp2
            go_ret2
            exact ⟨NmA.yes _ _ (by rw [unhide HA]; simp [kb]), rfl⟩
        | false =>
          by_cases kb : n < 9223372036854775808
          · have kb' : (n : Int) < (9223372036854775808 : Int) := by omega
            have x1 : IntKind.i64.wrap (n : Int) = (n : Int) := by simp only [IntKind.wrap_i64]; omega
            go_wp2
            go_ret2
            exact ⟨NmA.yes _ _ (by rw [unhide HA]; simp [kb]), rfl⟩
          · have kb' : ¬ (n : Int) < (9223372036854775808 : Int) := by omega
            go_wp2
            go_ret2
            exact ⟨NmA.no _ _ (by rw [unhide HA]; simp [kb]), rfl⟩

end Go.Proofs.YtkndjbmlkfpfoaaGreatDoor
