/-
  What the scanner hands on, as a list.
-/
import Derived.Test.YtkndjbmlkfpfoaaGreatDoorZSc5

set_option linter.unusedSimpArgs false
set_option linter.unusedVariables false
namespace Go.Proofs.YtkndjbmlkfpfoaaGreatDoor
open Go.RowKit Go.Lib

/-- a word and its line -/
structure It where
  w : Wd
  ln : Nat
def It.args (x : It) : Array Value := #[x.w.v x.ln, .int .i64 (x.w.e : Int)]
/-- a line's end -/
def endI (a line : Nat) : It := ⟨⟨4, ⟨#[]⟩, 0, a, 0, 0⟩, line⟩
/-- where a remark ends -/
def rmF (s : ByteArray) : Nat → Nat → Nat
  | 0, i => i
  | f + 1, i => if i < s.size ∧ isLn (by_ s i) = false then rmF s f (i + 1) else i
def rmE (s : ByteArray) (i : Nat) : Nat := rmF s (s.size - i) i
theorem rmF_fuel (s : ByteArray) : ∀ (f g i : Nat), s.size - i ≤ f → s.size - i ≤ g → rmF s f i = rmF s g i
  | 0, 0, _, _, _ => rfl
  | 0, g + 1, i, h, _ => by
    show i = rmF s (g + 1) i
    unfold rmF
    rw [if_neg (by omega)]
  | f + 1, 0, i, _, h => by
    show rmF s (f + 1) i = i
    unfold rmF
    rw [if_neg (by omega)]
  | f + 1, g + 1, i, h, h' => by
    unfold rmF
    by_cases hi : i < s.size
    · rw [rmF_fuel s f g (i + 1) (by omega) (by omega)]
    · rw [if_neg (by omega), if_neg (by omega)]
theorem rmE_go (s : ByteArray) (i : Nat) (h : i < s.size) (hl : isLn (by_ s i) = false) : rmE s i = rmE s (i + 1) := by
  unfold rmE
  obtain ⟨n, hn⟩ : ∃ n, s.size - i = n + 1 := ⟨s.size - i - 1, by omega⟩
  rw [hn]
  conv => lhs; unfold rmF
  rw [if_pos ⟨h, hl⟩, rmF_fuel s n (s.size - (i + 1)) (i + 1) (by omega) (by omega)]
theorem rmE_stop (s : ByteArray) (i : Nat) (h : i < s.size → isLn (by_ s i) = true) : rmE s i = i := by
  unfold rmE
  cases hn : s.size - i with
  | zero => rfl
  | succ n =>
    unfold rmF
    rw [if_neg (by rintro ⟨h1, h2⟩; rw [h h1] at h2; simp at h2)]
theorem rmE_bounds (s : ByteArray) : ∀ (f i : Nat), s.size - i ≤ f → i ≤ s.size → i ≤ rmE s i ∧ rmE s i ≤ s.size ∧ (rmE s i < s.size → isLn (by_ s (rmE s i)) = true)
  | f, i, hf, hi => by
    by_cases h : i < s.size
    · cases hl : isLn (by_ s i) with
      | true => rw [rmE_stop s i (fun _ => hl)]; exact ⟨Nat.le_refl _, hi, fun _ => hl⟩
      | false =>
        rw [rmE_go s i h hl]
        match f, hf with
        | 0, hf => omega
        | f + 1, hf =>
          have := rmE_bounds s f (i + 1) (by omega) (by omega)
          exact ⟨by omega, this.2.1, this.2.2⟩
    · rw [rmE_stop s i (fun h' => absurd h' h)]; exact ⟨Nat.le_refl _, hi, fun h' => absurd h' h⟩

/-- the word that begins at a byte, quoted or bare -/
def wdAt (s : ByteArray) (i : Nat) : Wd := if by_ s i = 34 then qdW s i else bwW s i
theorem qdW_nx (s : ByteArray) (i : Nat) (h : i < s.size) (he : (qdW s i).e = 0) : i < (qdW s i).nx ∧ (qdW s i).nx ≤ s.size := by
  have hb := rdA_bounds s _ (i + 1) [] (Nat.le_refl _) (by omega)
  rw [← rdA_zero] at hb
  unfold qdW at he ⊢
  split at he
  · rename_i hc
    rw [if_pos hc]
    have := hb.2.2.2.2 hc.1
    exact ⟨by show i < (rdE s (i + 1)).2.1; omega, hb.1⟩
  · simp at he
theorem bwW_nx (s : ByteArray) (i : Nat) (h : i < s.size) (hw : isWe (by_ s i) = false) (he : (bwW s i).e = 0) : i < (bwW s i).nx ∧ (bwW s i).nx ≤ s.size := by
  have hb := bwA_bounds s _ i (Nat.le_refl _) (by omega)
  have hgt : (bwA s i).2 = 0 → i < (bwA s i).1 := by
    intro h2
    have hwp := wd_pos s i h
    have hwl := wd_le s i h
    rw [bwA_step s i h, if_neg (by rw [hw]; simp)] at h2 ⊢
    split at h2
    · simp at h2
    · split at h2
      · simp at h2
      · rename_i c1 c2
        rw [if_neg c1, if_neg c2]
        have := bwA_bounds s _ (i + wd s i) (Nat.le_refl _) (by omega)
        omega
  unfold bwW at he ⊢
  split at he
  · rename_i hc; exact absurd he hc
  · rename_i hc
    have h0 : (bwA s i).2 = 0 := by simpa using hc
    rw [if_neg hc]
    split at he
    · rename_i hd
      rw [if_pos hd]
      exact ⟨hgt h0, hb.2⟩
    · rename_i hd
      rw [if_neg hd]
      split at he
      · simp at he
      · rename_i n hn
        exact ⟨hgt h0, hb.2⟩
theorem wdAt_nx (s : ByteArray) (i : Nat) (h : i < s.size) (hw : isWe (by_ s i) = false) (he : (wdAt s i).e = 0) : i < (wdAt s i).nx ∧ (wdAt s i).nx ≤ s.size := by
  unfold wdAt at he ⊢
  split at he
  · rename_i hc; rw [if_pos hc]; exact qdW_nx s i h he
  · rename_i hc; rw [if_neg hc]; exact bwW_nx s i h hw he

theorem bhL_bounds (s : ByteArray) (i : Nat) (h : i < s.size) : i < bhL s i ∧ bhL s i ≤ s.size := by
  unfold bhL; split <;> omega

/-- all that is handed on, from a byte on -/
def scF (s : ByteArray) : Nat → Nat → Nat → Bool → List It
  | 0, _, _, _ => []
  | f + 1, i, line, m =>
    if ¬ i < s.size then (if m then [endI i line] else [])
    else if isLn (by_ s i) = true then (if m then [endI i line] else []) ++ scF s f (bhL s i) (line + 1) false
    else if isBl (by_ s i) = true then scF s f (i + 1) line m
    else if by_ s i = 35 then scF s f (rmE s i) line m
    else ⟨wdAt s i, line⟩ :: (if (wdAt s i).e = 0 then scF s f (wdAt s i).nx line true else [])
def scA (s : ByteArray) (i line : Nat) (m : Bool) : List It := scF s (s.size - i + 1) i line m
def scL (s : ByteArray) : List It := scA s 0 1 false

theorem we_of (s : ByteArray) (i : Nat) (h1 : isLn (by_ s i) ≠ true) (h2 : isBl (by_ s i) ≠ true) (h3 : by_ s i ≠ 35) : isWe (by_ s i) = false := by
  unfold isWe
  simp only [Bool.not_eq_true] at h1 h2
  rw [h1, h2]
  simp [h3]
theorem scF_fuel (s : ByteArray) : ∀ (f g i line : Nat) (m : Bool), s.size - i < f → s.size - i < g → i ≤ s.size → scF s f i line m = scF s g i line m
  | 0, _, _, _, _, h, _, _ => by omega
  | _ + 1, 0, _, _, _, _, h, _ => by omega
  | f + 1, g + 1, i, line, m, h, h', hi => by
    unfold scF
    by_cases c0 : i < s.size
    · have hnn : ¬ ¬ i < s.size := fun hx => hx c0
      rw [if_neg hnn, if_neg hnn]
      have hb := bhL_bounds s i c0
      have hr := rmE_bounds s _ i (Nat.le_refl _) hi
      by_cases c1 : isLn (by_ s i) = true
      · rw [if_pos c1, if_pos c1, scF_fuel s f g (bhL s i) (line + 1) false (by omega) (by omega) hb.2]
      · rw [if_neg c1, if_neg c1]
        by_cases c2 : isBl (by_ s i) = true
        · rw [if_pos c2, if_pos c2, scF_fuel s f g (i + 1) line m (by omega) (by omega) (by omega)]
        · rw [if_neg c2, if_neg c2]
          by_cases c3 : by_ s i = 35
          · have hg : rmE s i = rmE s (i + 1) := rmE_go s i c0 (by simpa using c1)
            have hr2 := rmE_bounds s _ (i + 1) (Nat.le_refl _) (by omega)
            rw [if_pos c3, if_pos c3, hg, scF_fuel s f g (rmE s (i + 1)) line m (by omega) (by omega) hr2.2.1]
          · rw [if_neg c3, if_neg c3]
            by_cases c4 : (wdAt s i).e = 0
            · have hn := wdAt_nx s i c0 (we_of s i c1 c2 c3) c4
              rw [if_pos c4, if_pos c4, scF_fuel s f g (wdAt s i).nx line true (by omega) (by omega) hn.2]
            · rw [if_neg c4, if_neg c4]
    · rw [if_pos c0, if_pos c0]

theorem scA_end {s : ByteArray} {i line : Nat} {m : Bool} (h : ¬ i < s.size) : scA s i line m = if m then [endI i line] else [] := by
  unfold scA scF
  rw [if_pos h]
theorem scA_line {s : ByteArray} {i line : Nat} {m : Bool} (h : i < s.size) (h1 : isLn (by_ s i) = true) : scA s i line m = (if m then [endI i line] else []) ++ scA s (bhL s i) (line + 1) false := by
  have hb := bhL_bounds s i h
  conv => lhs; unfold scA scF
  rw [if_neg (by omega), if_pos h1]
  unfold scA
  rw [scF_fuel s (s.size - i) (s.size - bhL s i + 1) _ _ _ (by omega) (by omega) hb.2]
theorem scA_blank {s : ByteArray} {i line : Nat} {m : Bool} (h : i < s.size) (h1 : isLn (by_ s i) = false) (h2 : isBl (by_ s i) = true) : scA s i line m = scA s (i + 1) line m := by
  conv => lhs; unfold scA scF
  rw [if_neg (by omega), if_neg (by rw [h1]; simp), if_pos h2]
  unfold scA
  rw [scF_fuel s (s.size - i) (s.size - (i + 1) + 1) _ _ _ (by omega) (by omega) (by omega)]
theorem scA_remark {s : ByteArray} {i line : Nat} {m : Bool} (h : i < s.size) (h1 : isLn (by_ s i) = false) (h2 : isBl (by_ s i) = false) (h3 : by_ s i = 35) : scA s i line m = scA s (rmE s i) line m := by
  have hg : rmE s i = rmE s (i + 1) := rmE_go s i h h1
  have hr2 := rmE_bounds s _ (i + 1) (Nat.le_refl _) (by omega)
  conv => lhs; unfold scA scF
  rw [if_neg (by omega), if_neg (by rw [h1]; simp), if_neg (by rw [h2]; simp), if_pos h3]
  unfold scA
  rw [scF_fuel s (s.size - i) (s.size - rmE s i + 1) _ _ _ (by omega) (by omega) (by omega)]
theorem scA_word {s : ByteArray} {i line : Nat} {m : Bool} (h : i < s.size) (h1 : isLn (by_ s i) = false) (h2 : isBl (by_ s i) = false) (h3 : by_ s i ≠ 35) :
    scA s i line m = ⟨wdAt s i, line⟩ :: (if (wdAt s i).e = 0 then scA s (wdAt s i).nx line true else []) := by
  conv => lhs; unfold scA scF
  rw [if_neg (by omega), if_neg (by rw [h1]; simp), if_neg (by rw [h2]; simp), if_neg h3]
  by_cases c4 : (wdAt s i).e = 0
  · have hn := wdAt_nx s i h (we_of s i (by rw [h1]; simp) (by rw [h2]; simp) h3) c4
    rw [if_pos c4, if_pos c4]
    unfold scA
    rw [scF_fuel s (s.size - i) (s.size - (wdAt s i).nx + 1) _ _ _ (by omega) (by omega) hn.2]
  · rw [if_neg c4, if_neg c4]

end Go.Proofs.YtkndjbmlkfpfoaaGreatDoor
