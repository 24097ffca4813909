/-
  What the document's own rules answer between two runes, by their classes.
-/
import Derived.Test.YtiakhpfljjfaeaaZRIn
set_option linter.unusedSimpArgs false
set_option linter.unusedVariables false
namespace Go.Proofs.Ytiakhpfljjfaeaa
open Go.RowKit Go.Lib

theorem take_rev {zs : List Int} {m : Nat} {c : Int} (h : zs[m]? = some c) : (zs.take (m + 1)).reverse = c :: (zs.take m).reverse := by
  rw [List.take_add_one, h]; simp

def runF : List Int → Nat
  | [] => 0
  | c :: l => if c = 6 then runF l + 1 else 0
theorem runF_ev : ∀ l, decide (runF l % 2 = 1) = !evR l
  | [] => rfl
  | c :: l => by
    have ih := runF_ev l
    unfold runF evR
    split
    · rw [Bool.not_not]
      cases he : evR l with
      | true => rw [he] at ih; simp at ih ⊢; omega
      | false => rw [he] at ih; simp at ih ⊢; omega
    · rfl
theorem runF_le : ∀ l : List Int, runF l ≤ l.length
  | [] => Nat.le_refl _
  | c :: l => by
    have ih := runF_le l
    unfold runF
    split
    · simp; omega
    · simp

set_option maxHeartbeats 400000 in
theorem hard_in (c : Int) (w : World) : Calls Try.prog 66 #[.int .i64 c] w fun e w' => e = .returned (.bool (hardC c)) ∧ w' = w := by
  go_enter Try.func66, Try.ntmps66
  go_wp2
  all_goals (go_ret; refine ⟨?_, rfl⟩; unfold hardC; simp_all)

set_option maxHeartbeats 1000000 in
theorem joined_in (v : Value) (zs : List Int) (i : Nat) (w : World) (h : RK .i64 w v zs) (hi : i < zs.length) (hl : zs.length ≤ 1000000000) :
    Calls Try.prog 67 #[v, .int .i64 i] w fun e w' => e = .returned (.bool (jnR (zs.take i).reverse)) ∧ w' = w := by
  rcases h with ⟨rfl, a, cap, rfl⟩ | ⟨b, off, cap, rfl, hc⟩
  · cases hi
  · generalize hL : zs.length = L at *
    have HL := hide hL
    have Hc := hide hc
    clear hL hc
    go_enter Try.func67, Try.ntmps67
    go_wp2
    go_loop [5] (fun kv => ∃ m : Nat, m ≤ i ∧ kv = .int .i64 ((m : Int) - 1) ∧ Hid (jnR (zs.take i).reverse = jnR (zs.take m).reverse)) (fun kv => (RowKit.intOf kv + 1).toNat)
    case atStart => exact ⟨i, by omega, rfl, hide rfl⟩
    case round =>
      obtain ⟨m, hm, rfl, hj⟩ := hrel
      rcases m with _ | m
      · have hc : Hid (jnR (zs.take i).reverse = false) := hide (by rw [unhide hj]; rfl)
        clear hj
        go_wp2
        go_ret
        exact ⟨by rw [unhide hc]; rfl, rfl⟩
      · have c1 := unhide Hc m (by omega)
        obtain ⟨c, hz⟩ : ∃ c, zs[m]? = some c := ⟨_, List.getElem?_eq_getElem (by rw [unhide HL]; omega)⟩
        have Ht := hide (take_rev hz)
        rw [hz] at c1
        simp only [Option.getD_some] at c1
        clear hz
        rw [show (((m + 1 : Nat) : Int) - 1) = (m : Int) by omega]
        have i1 : (m : Int) < (L : Int) := by omega
        have i2 : (0 : Int) ≤ (m : Int) := by omega
        by_cases q : c = 5
        · have hn : Hid (jnR (zs.take i).reverse = jnR (zs.take m).reverse) := hide (by rw [unhide hj, unhide Ht]; simp [jnR, q])
          have qb : (c == 5) = true := by rw [beq_iff_eq]; exact q
          clear q hj
          go_wp2
          go_round
          case rel => exact ⟨m, by omega, by go_num, hn⟩
          case measure => simp [RowKit.intOf]
        · have hn : Hid (jnR (zs.take i).reverse = (c == 12)) := hide (by rw [unhide hj, unhide Ht]; simp [jnR, q])
          have qb : (c == 5) = false := by rw [beq_eq_false_iff_ne]; exact q
          clear q hj
          go_wp2
          go_ret
          exact ⟨by rw [unhide hn]; rfl, rfl⟩

set_option maxHeartbeats 1000000 in
theorem odd_in (v : Value) (zs : List Int) (i : Nat) (w : World) (h : RK .i64 w v zs) (hi : i < zs.length) (hl : zs.length ≤ 1000000000) :
    Calls Try.prog 68 #[v, .int .i64 i] w fun e w' => e = .returned (.bool (!evR (zs.take (i + 1)).reverse)) ∧ w' = w := by
  rcases h with ⟨rfl, a, cap, rfl⟩ | ⟨b, off, cap, rfl, hc⟩
  · cases hi
  · have hrl := runF_le (zs.take (i + 1)).reverse
    rw [List.length_reverse, List.length_take] at hrl
    generalize hL : zs.length = L at *
    have HL := hide hL
    have Hc := hide hc
    clear hL hc
    have Hev := hide (runF_ev (zs.take (i + 1)).reverse)
    have hrl2 : runF (zs.take (i + 1)).reverse ≤ 1000000000 := by omega
    clear hrl
    go_enter Try.func68, Try.ntmps68
    go_wp2
    go_loop [1, 5] (fun kv nv => ∃ m n : Nat, m ≤ i + 1 ∧ kv = .int .i64 ((m : Int) - 1) ∧ nv = .int .i64 n ∧ n ≤ 1000000000 ∧ Hid (runF (zs.take (i + 1)).reverse = n + runF (zs.take m).reverse)) (fun kv _ => (RowKit.intOf kv + 1).toNat)
    case atStart => exact ⟨i + 1, 0, by omega, by congr 1; omega, rfl, by omega, hide (by omega)⟩
    case round =>
      obtain ⟨m, n, hm, rfl, rfl, hn9, hj⟩ := hrel
      have fin : runF (zs.take (i + 1)).reverse = n → Hid ((!evR (zs.take (i + 1)).reverse) = decide (n % 2 = 1)) := fun h => hide (by rw [← unhide Hev, h])
      have Fin := hide fin
      clear fin
      rcases m with _ | m
      · have hc := unhide Fin (by have := unhide hj; simpa [runF] using this)
        clear hj
        go_wp2
        go_ret
        refine ⟨?_, rfl⟩
        rw [unhide hc]
        congr 2
        by_cases e : n % 2 = 1
        · simp [e]; omega
        · simp [e]; omega
      · have c1 := unhide Hc m (by omega)
        obtain ⟨c, hz⟩ : ∃ c, zs[m]? = some c := ⟨_, List.getElem?_eq_getElem (by rw [unhide HL]; omega)⟩
        have Ht := hide (take_rev hz)
        rw [hz] at c1
        simp only [Option.getD_some] at c1
        clear hz
        rw [show (((m + 1 : Nat) : Int) - 1) = (m : Int) by omega]
        have i1 : (m : Int) < (L : Int) := by omega
        have i2 : (0 : Int) ≤ (m : Int) := by omega
        by_cases q : c = 6
        · have hn : Hid (runF (zs.take (i + 1)).reverse = (n + 1) + runF (zs.take m).reverse) := hide (by rw [unhide hj, unhide Ht]; simp [runF, q]; omega)
          have hn8 : n + 1 ≤ 1000000000 := by have := unhide hn; omega
          have qb : (c == 6) = true := by rw [beq_iff_eq]; exact q
          clear q hj
          go_wp2
          go_round
          case rel => exact ⟨m, n + 1, by omega, by go_num, by go_num, hn8, hn⟩
          case measure => simp [RowKit.intOf]
        · have hc := unhide Fin (by have := unhide hj; rw [unhide Ht] at this; simpa [runF, q] using this)
          have qb : (c == 6) = false := by rw [beq_eq_false_iff_ne]; exact q
          clear q hj
          go_wp2
          go_ret
          refine ⟨?_, rfl⟩
          rw [unhide hc]
          congr 2
          by_cases e : n % 2 = 1
          · simp [e]; omega
          · simp [e]; omega

end Go.Proofs.Ytiakhpfljjfaeaa
