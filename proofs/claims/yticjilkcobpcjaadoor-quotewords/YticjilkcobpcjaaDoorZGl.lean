/-
  May a text stand as a plain word: QuoteWords' own.
-/
import Derived.Test.YticjilkcobpcjaaDoorZGd2
set_option linter.unusedSimpArgs false
set_option linter.unusedVariables false
namespace Go.Proofs.YticjilkcobpcjaaDoor
open Go.RowKit Go.Lib

def offB (b : Nat) : Prop := b ≤ 32 ∨ b = 127 ∨ b = 34 ∨ b = 35
/-- it may -/
def plnB (s : ByteArray) : Prop := (∀ j, j < s.size → ¬ offB (by_ s j)) ∧ s.size ≠ 0 ∧ (∀ i ∈ allL s, okR s i = true) ∧ bgN s = false
def PlA (s : ByteArray) (e : Ending) : Prop := ∃ b : Bool, e = .returned (.bool b) ∧ (b = true → plnB s)
theorem PlA.no (s : ByteArray) : PlA s (.returned (.bool false)) := ⟨false, rfl, fun q => by cases q⟩
theorem PlA.yes {s : ByteArray} (h : plnB s) : PlA s (.returned (.bool true)) := ⟨true, rfl, fun _ => h⟩
theorem empty_list (s : ByteArray) : s.toList.isEmpty = decide (s.size = 0) := by
  rw [ByteArray.toList_eq]
  cases h : s.data.toList with
  | nil => rw [decide_eq_true (by have := congrArg List.length h; simpa using this)]; rfl
  | cons a l => rw [decide_eq_false (by have := congrArg List.length h; simp at this; omega)]; rfl
theorem PlA.dec {s : ByteArray} {c : Nat} (h1 : ¬ (c : Int) < 48) (h2 : ¬ (57 : Int) < (c : Int)) : PlA s (.returned (.bool (decide ((c : Int) < 48) || decide ((57 : Int) < (c : Int))))) := by rw [decide_eq_false h1, decide_eq_false h2]; exact PlA.no s
set_option maxRecDepth 100000 in
set_option maxHeartbeats 8000000 in
theorem plain_in (s : ByteArray) (hs : s.size ≤ 1000) (w : World) :
    Calls Tryd.prog 15 #[.string s] w fun e w' => PlA s e ∧ Below w.heap.size w w' := by
  go_enter Tryd.func15, Tryd.ntmps15
  go_wp2
  go_loopw [3] (fun iv wr => ∃ (i : Nat), iv = .int .i64 (i : Int) ∧ i ≤ s.size ∧ Hid ((∀ j, j < i → ¬ offB (by_ s j)) ∧ wr = w)) (fun iv _ => s.size - (RowKit.intOf iv).toNat)
  case atStart => exact ⟨0, by go_num, by omega, hide ⟨fun j hj => absurd hj (by omega), rfl⟩⟩
  case round =>
    obtain ⟨i, rfl, his, H⟩ := hrel
    obtain ⟨hA, rfl⟩ := unhide H
    have HA := hide hA
    clear H hA
    by_cases hp : i < s.size
    · have k1 : (i : Int) < (s.size : Int) := by omega
      have k2 : (0 : Int) ≤ (i : Int) := by omega
      have gi := by_get s i hp
      obtain ⟨b, hb⟩ : ∃ b, by_ s i = b := ⟨_, rfl⟩
      rw [hb] at gi
      by_cases h32 : b ≤ 32
      · have q1 : (b : Int) ≤ 32 := by omega
        clear HA hb
        go_wp2
        go_ret
        exact ⟨PlA.no _, Below.refl _ _⟩
      have n1 : ¬ (b : Int) ≤ 32 := by omega
      by_cases h127 : b = 127
      · have q1 : ((b : Int) == 127) = true := by rw [h127]; rfl
        clear HA hb h127
        go_wp2
        go_ret
        exact ⟨PlA.no _, Below.refl _ _⟩
      have n2 : ((b : Int) == 127) = false := by rw [beq_eq_false_iff_ne]; omega
      by_cases h34 : b = 34
      · have q1 : ((b : Int) == 34) = true := by rw [h34]; rfl
        clear HA hb h34
        go_wp2
        go_ret
        exact ⟨PlA.no _, Below.refl _ _⟩
      have n3 : ((b : Int) == 34) = false := by rw [beq_eq_false_iff_ne]; omega
      by_cases h35 : b = 35
      · have q1 : ((b : Int) == 35) = true := by rw [h35]; rfl
        clear HA hb h35
        go_wp2
        go_ret
        exact ⟨PlA.no _, Below.refl _ _⟩
      have n4 : ((b : Int) == 35) = false := by rw [beq_eq_false_iff_ne]; omega
      have HS := hide (show ∀ j, j < i + 1 → ¬ offB (by_ s j) from fun j hj => by
        by_cases q : j = i
        · subst q
          rw [hb]
          unfold offB
          omega
        · exact unhide HA j (by omega))
      clear HA hb
      go_wp2
      go_roundw
      case rel => exact ⟨i + 1, by go_num, by omega, hide ⟨unhide HS, trivial⟩⟩
      case measure => simp [RowKit.intOf]; omega
    · have k1 : ¬ (i : Int) < (s.size : Int) := by omega
      have HS := hide (show ∀ j, j < s.size → ¬ offB (by_ s j) from fun j hj => unhide HA j (by omega))
      clear HA
      have hem := empty_list s
      by_cases hz : s.size = 0
      · rw [decide_eq_true hz] at hem
        clear HS
        go_wp2
        go_ret
        exact ⟨PlA.no _, Below.refl _ _⟩
      rw [decide_eq_false hz] at hem
      by_cases hg : ∀ i ∈ allL s, okR s i = true
      · have hgd := hide (good_in s (by omega) hg wr)
        have HG := hide hg
        clear hg
        have g0 := by_get s 0 (by omega)
        have z0 : (0 : Int) < (s.size : Int) := by omega
        obtain ⟨b, hb⟩ : ∃ b, by_ s 0 = b := ⟨_, rfl⟩
        rw [hb] at g0
        have key : ∀ c : Nat, by_ s (dgA s) = c → (48 ≤ c ∧ c ≤ 57 → dgA s < s.size → False) → plnB s := fun c hc hq => ⟨unhide HS, hz, unhide HG, by
          unfold bgN
          rw [decide_eq_false]
          rintro ⟨q1, q2, q3⟩
          rw [hc] at q2 q3
          exact hq ⟨q2, q3⟩ q1⟩
        have KEY := hide key
        clear key HS HG
        by_cases h45 : b = 45
        · have e45 : ((b : Int) == 45) = true := by rw [h45]; rfl
          by_cases h1 : 1 < s.size
          · have z1 : (1 : Int) < (s.size : Int) := by omega
            have g1' := by_get s 1 h1
            obtain ⟨c, hc⟩ : ∃ c, by_ s 1 = c := ⟨_, rfl⟩
            rw [hc] at g1'
            have hdg : dgA s = 1 := by unfold dgA; rw [if_pos ⟨by omega, by omega⟩]
            have K2 := hide (unhide KEY c (by rw [hdg]; exact hc))
            clear KEY hdg hb hc h45
            by_cases c1 : c < 48
            · have y1 : (c : Int) < 48 := by omega
              go_wp2_with fail
              refine (unhide hgd).mono ?_
              rintro e w' ⟨rfl, hB⟩
              have HB := hide hB
              clear hB
              go_wp2
              go_ret
              exact ⟨PlA.yes (unhide K2 (fun q _ => by omega)), unhide HB⟩
            · have y1 : ¬ (c : Int) < 48 := by omega
              by_cases c2 : 57 < c
              · have y2 : (57 : Int) < (c : Int) := by omega
                go_wp2_with fail
                refine (unhide hgd).mono ?_
                rintro e w' ⟨rfl, hB⟩
                have HB := hide hB
                clear hB
                go_wp2
                go_ret
                exact ⟨PlA.yes (unhide K2 (fun q _ => by omega)), unhide HB⟩
              · have y2 : ¬ (57 : Int) < (c : Int) := by omega
                go_wp2_with fail
                refine (unhide hgd).mono ?_
                rintro e w' ⟨rfl, hB⟩
                have HB := hide hB
                clear hB
                go_wp2
                go_ret
                exact ⟨PlA.dec (by omega) (by omega), unhide HB⟩
          · have z1 : ¬ (1 : Int) < (s.size : Int) := by omega
            have hdg : dgA s = 1 := by unfold dgA; rw [if_pos ⟨by omega, by omega⟩]
            have K2 := hide (unhide KEY _ rfl (fun _ q => by omega))
            have y1 : (b : Int) < 48 := by omega
            clear KEY hdg hb h45
            go_wp2_with fail
            refine (unhide hgd).mono ?_
            rintro e w' ⟨rfl, hB⟩
            have HB := hide hB
            clear hB
            go_wp2
            go_ret
            exact ⟨PlA.yes (unhide K2), unhide HB⟩
        · have e45 : ((b : Int) == 45) = false := by rw [beq_eq_false_iff_ne]; omega
          have hdg : dgA s = 0 := by unfold dgA; rw [if_neg (by rw [hb]; omega)]
          have K2 := hide (unhide KEY b (by rw [hdg]; exact hb))
          clear KEY hdg hb h45
          by_cases c1 : b < 48
          · have y1 : (b : Int) < 48 := by omega
            go_wp2_with fail
            refine (unhide hgd).mono ?_
            rintro e w' ⟨rfl, hB⟩
            have HB := hide hB
            clear hB
            go_wp2
            go_ret
            exact ⟨PlA.yes (unhide K2 (fun q _ => by omega)), unhide HB⟩
          · have y1 : ¬ (b : Int) < 48 := by omega
            by_cases c2 : 57 < b
            · have y2 : (57 : Int) < (b : Int) := by omega
              go_wp2_with fail
              refine (unhide hgd).mono ?_
              rintro e w' ⟨rfl, hB⟩
              have HB := hide hB
              clear hB
              go_wp2
              go_ret
              exact ⟨PlA.yes (unhide K2 (fun q _ => by omega)), unhide HB⟩
            · have y2 : ¬ (57 : Int) < (b : Int) := by omega
              go_wp2_with fail
              refine (unhide hgd).mono ?_
              rintro e w' ⟨rfl, hB⟩
              have HB := hide hB
              clear hB
              go_wp2
              go_ret
              exact ⟨PlA.dec (by omega) (by omega), unhide HB⟩
      · have hgd := hide (good_not s (by omega) hg wr)
        clear hg HS
        go_wp2_with fail
        refine (unhide hgd).mono ?_
        rintro e w' ⟨rfl, hB⟩
        have HB := hide hB
        clear hB
        go_wp2
        go_ret
        exact ⟨PlA.no _, unhide HB⟩
theorem plnB.ok {s : ByteArray} (h : plnB s) : (Lw1.plain s.data.toList).ok := by
  obtain ⟨h1, h2, h3, h4⟩ := h
  refine ⟨⟨fun b hb => ?_, by rw [ofL_of]; exact h3⟩, fun q => h2 (by have := congrArg List.length q; simpa using this), by rw [ofL_of]; exact h4⟩
  obtain ⟨j, hj, rfl⟩ := List.getElem_of_mem hb
  have hz : s.data.toList.length = s.size := by simp
  have h := h1 j (by omega)
  have e := by_list s.data.toList j hj
  rw [ofL_of] at e
  rw [e] at h
  unfold offB at h
  omega

end Go.Proofs.YticjilkcobpcjaaDoor
