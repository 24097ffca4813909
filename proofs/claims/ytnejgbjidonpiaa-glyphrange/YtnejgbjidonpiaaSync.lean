/-
  Plain facts: cut from the beginning and from the end a text has the same pieces.
-/
import Derived.Test.YtnejgbjidonpiaaUtf
import Derived.Test.YtnejgbjidonpiaaLast
set_option linter.unusedSimpArgs false
set_option linter.unusedVariables false
namespace Go.Proofs.Ytnejgbjidonpiaa
open Go.RowKit Go.Lib

/-- within a rune no rune begins -/
theorem ok_inside {s : ByteArray} {p j : Nat} (hp : p < s.size) (h1 : p < j) (h2 : j < p + wd s p) : okR s j = false := by
  have hok : okR s p = true := by
    cases ho : okR s p with
    | true => rfl
    | false => have := ok_false_iff ho; omega
  have hb : 128 ≤ by_ s j ∧ by_ s j ≤ 191 := by
    rcases ok_cases s p hp hok with ⟨_, _, hw⟩ | ⟨hc, hn, hg, hr, hw⟩ | ⟨hc, hn, hg, hg2, hr, hw⟩ | ⟨hc, hn, hg, hg2, hg3, hr, hw⟩
    · omega
    · have hr := hW2_range hc
      have hg' := g1_range (by omega) hg
      obtain rfl : j = p + 1 := by omega
      omega
    · have hr := hW3_range hc
      have hg' := g1_range (by omega) hg
      unfold g2 at hg2
      rcases (by omega : j = p + 1 ∨ j = p + 2) with rfl | rfl
      · omega
      · omega
    · have hr := hW4_range hc
      have hg' := g1_range (by omega) hg
      unfold g2 at hg2
      unfold g3 at hg3
      rcases (by omega : j = p + 1 ∨ j = p + 2 ∨ j = p + 3) with rfl | rfl | rfl
      · omega
      · omega
      · omega
  exact ok_bad (dec_bad s j (by unfold hW; rw [if_neg (by omega), if_pos (by omega)]))

/-- no rune that begins ahead of a place goes beyond it -/
def Sync (s : ByteArray) (i : Nat) : Prop := ∀ j, j < i → okR s j = true → j + wd s j ≤ i

theorem sync_zero (s : ByteArray) : Sync s 0 := fun j h _ => by omega
theorem sync_next {s : ByteArray} {i : Nat} (h : Sync s i) (hi : i < s.size) : Sync s (i + wd s i) := fun j hj ho => by
  by_cases h1 : j < i
  · have := h j h1 ho; omega
  · by_cases h2 : j = i
    · subst h2; exact Nat.le_refl _
    · rw [ok_inside hi (by omega) hj] at ho; cases ho

theorem last_sync {s : ByteArray} {i : Nat} (h : Sync s i) (hi : i < s.size) : lastW s (i + wd s i) = if okR s i then wd s i else 0 := by
  have hp := wd_pos s i hi
  have hl := wd_le s i hi
  cases ho : okR s i with
  | true =>
    rw [if_pos rfl]
    refine lastW_hit hp hl.2 ?_ (fun m h1 h2 => ?_)
    · unfold fit
      rw [decide_eq_true (by omega), show i + wd s i - wd s i = i from by omega, ho]
      simp
    · unfold fit
      rw [ok_inside hi (show i < i + wd s i - m by omega) (by omega)]
      simp
  | false =>
    rw [if_neg (by decide)]
    have hb := ok_false_iff ho
    refine lastW_none (fun m h1 h2 => ?_)
    unfold fit
    by_cases hm : m ≤ i + wd s i
    · rw [decide_eq_true ⟨h1, hm⟩]
      by_cases hm1 : m = 1
      · subst hm1
        rw [show i + wd s i - 1 = i from by omega, ho]
        rfl
      · cases hj : okR s (i + wd s i - m) with
        | false => rfl
        | true =>
          have := h (i + wd s i - m) (by omega) hj
          have hne : wd s (i + wd s i - m) ≠ m := by omega
          simp [hne]
    · rw [decide_eq_false (by omega)]; rfl

theorem lR_sync {s : ByteArray} {i : Nat} (h : Sync s i) (hi : i < s.size) : lR s ((i : Int) + (wd s i : Int)) = (rn s i : Int) := by
  have hp := wd_pos s i hi
  have hl := wd_le s i hi
  have e : ((i : Int) + (wd s i : Int)).toNat = i + wd s i := by omega
  unfold lR
  rw [if_pos (by omega), e, last_sync h hi]
  cases ho : okR s i with
  | true => rw [if_pos rfl, if_neg (by omega), show i + wd s i - wd s i = i from by omega]
  | false => simp [(ok_false_iff ho).1]
theorem lN_sync {s : ByteArray} {i : Nat} (h : Sync s i) (hi : i < s.size) : lN s ((i : Int) + (wd s i : Int)) = (wd s i : Int) := by
  have hp := wd_pos s i hi
  have hl := wd_le s i hi
  have e : ((i : Int) + (wd s i : Int)).toNat = i + wd s i := by omega
  unfold lN
  rw [if_pos (by omega), e, last_sync h hi]
  cases ho : okR s i with
  | true => rw [if_pos rfl, if_neg (by omega)]
  | false => simp [(ok_false_iff ho).2]
theorem lK_sync {s : ByteArray} {i : Nat} (h : Sync s i) (hi : i < s.size) : lK s ((i : Int) + (wd s i : Int)) = okR s i := by
  have hp := wd_pos s i hi
  have hl := wd_le s i hi
  have e : ((i : Int) + (wd s i : Int)).toNat = i + wd s i := by omega
  unfold lK
  rw [if_pos (by omega), e, last_sync h hi]
  cases ho : okR s i with
  | true => rw [if_pos rfl]; exact decide_eq_true (by omega)
  | false => rw [if_neg (by decide)]; rfl

/-- from the ends of the pieces ahead the place where one begins -/
def endsL (s : ByteArray) (l : List Nat) : List Int := l.map fun (i : Nat) => ((i : Nat) : Int) + ((wd s i : Nat) : Int)

/-- l is the beginning of a text's cut, which goes on at a place -/
def Chain (s : ByteArray) : List Nat → Nat → Prop
  | l, pos => Sync s pos ∧ (∀ i ∈ l, i < s.size ∧ Sync s i) ∧ (∀ k, k < l.length → (endsL s l)[k]? = some ((l[k + 1]?.getD pos : Nat) : Int)) ∧ l[0]?.getD pos = 0

theorem chain_nil (s : ByteArray) : Chain s [] 0 := ⟨sync_zero s, fun i h => (by cases h), fun k h => (by cases h), rfl⟩

theorem chain_next {s : ByteArray} {l : List Nat} {pos : Nat} (h : Chain s l pos) (hp : pos < s.size) : Chain s (l ++ [pos]) (pos + wd s pos) := by
  obtain ⟨h1, h2, h3, h4⟩ := h
  refine ⟨sync_next h1 hp, fun i hi => ?_, fun k hk => ?_, ?_⟩
  · rcases List.mem_append.1 hi with hi | hi
    · exact h2 i hi
    · simp at hi; subst hi; exact ⟨hp, h1⟩
  · rw [List.length_append, List.length_singleton] at hk
    by_cases hkl : k < l.length
    · have := h3 k hkl
      rw [endsL, List.map_append, List.getElem?_append_left (by simpa using hkl)]
      rw [endsL] at this
      rw [this]
      by_cases hk2 : k + 1 < l.length
      · rw [List.getElem?_append_left hk2]
        rw [List.getElem?_eq_getElem hk2]; rfl
      · have e : k + 1 = l.length := by omega
        rw [List.getElem?_append_right (by omega), List.getElem?_eq_none (by omega)]
        simp [e]
    · have e : k = l.length := by omega
      subst e
      rw [endsL, List.map_append, List.getElem?_append_right (by simp), List.getElem?_eq_none (l := l ++ [pos]) (by simp)]
      simp
  · cases l with
    | nil => simpa using h4
    | cons a l => simpa using h4

end Go.Proofs.Ytnejgbjidonpiaa
