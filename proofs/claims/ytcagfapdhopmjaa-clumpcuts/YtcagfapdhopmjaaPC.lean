/-
  Plain facts: classes of runes, the breaks of a text, its clumps.
-/
import Derived.Test.YtcagfapdhopmjaaPX
set_option linter.unusedSimpArgs false
set_option linter.unusedVariables false
namespace Go.Proofs.Ytcagfapdhopmjaa
open Go.Lib

/-- a number within one of the pairs of edges -/
def inP (r : Int) : List Int → Bool
  | lo :: hi :: l => (decide (lo ≤ r) && decide (r ≤ hi)) || inP r l
  | _ => false

def eCtl : List Int := [0, 31, 127, 159, 8232, 8233]
def eMk : List Int := [768, 879, 1155, 1161, 1425, 1469, 1611, 1631, 6832, 6911, 7616, 7679, 8204, 8204, 8400, 8447, 12330, 12335, 12441, 12442, 65024, 65039, 65056, 65071, 127995, 127999, 917536, 917631, 917760, 917999]
def eFl : List Int := [127462, 127487]
def eL : List Int := [4352, 4447, 43360, 43388]
def eV : List Int := [4448, 4519, 55216, 55238]
def eT : List Int := [4520, 4607, 55243, 55291]
def ePc : List Int := [169, 169, 174, 174, 8252, 8252, 8265, 8265, 8482, 8482, 8505, 8505, 8592, 8703, 8960, 9215, 9728, 10175, 11008, 11263, 12336, 12336, 12349, 12349, 12951, 12951, 12953, 12953, 126976, 127461, 127488, 129791]

/-- the class of a number -/
def cls (r : Int) : Int :=
  if r = 13 then 1 else if r = 10 then 2 else if inP r eCtl then 3 else if r = 8205 then 4 else if inP r eMk then 5 else if inP r eFl then 6
  else if inP r eL then 7 else if inP r eV then 8 else if inP r eT then 9
  else if 44032 ≤ r ∧ r ≤ 55203 then (if (r - 44032) % 28 = 0 then 10 else 11) else if inP r ePc then 12 else 0

theorem cls_bad : cls 65533 = 0 := by decide
theorem cls_range (r : Int) : 0 ≤ cls r ∧ cls r ≤ 12 := by
  unfold cls
  repeat' split
  all_goals omega

def hardC (c : Int) : Bool := c == 1 || c == 2 || c == 3
def hang (a b : Int) : Bool := (a == 7 && (b == 7 || b == 8 || b == 10 || b == 11)) || ((a == 10 || a == 8) && (b == 8 || b == 9)) || ((a == 11 || a == 9) && b == 9)
/-- of what stands ahead, the nearest first: a picture behind marks alone -/
def jnR : List Int → Bool
  | [] => false
  | c :: l => if c = 5 then jnR l else c == 12
/-- of what stands ahead, the nearest first: flag letters in a row are an even number -/
def evR : List Int → Bool
  | [] => true
  | c :: l => if c = 6 then !evR l else true
/-- is there a break between two runes of these classes, with these ahead of them (the nearest first)? -/
def bk (R : List Int) (a b : Int) : Bool :=
  if a == 1 && b == 2 then false else if hardC a || hardC b then true else if hang a b || b == 5 || b == 4 then false
  else if a == 4 && b == 12 then !jnR R else if a == 6 && b == 6 then !evR R else true

theorem bk_same {R R' : List Int} {a : Int} (h1 : a = 4 → jnR R = jnR R') (h2 : a = 6 → evR R = evR R') (b : Int) : bk R a b = bk R' a b := by
  unfold bk
  by_cases e4 : a = 4
  · subst e4; simp [h1 rfl]
  · by_cases e6 : a = 6
    · subst e6; simp [h2 rfl]
    · simp [e4, e6]

theorem bk_mark {R : List Int} {a b : Int} (hb : b = 4 ∨ b = 5) (h : bk R a b = true) : hardC a = true := by
  unfold bk at h
  rcases hb with rfl | rfl
  · simp [hardC] at h ⊢
    by_cases e : a = 1 ∨ a = 2 ∨ a = 3
    · omega
    · simp [show ¬ a = 1 by omega, show ¬ a = 2 by omega, show ¬ a = 3 by omega] at h
  · simp [hardC] at h ⊢
    by_cases e : a = 1 ∨ a = 2 ∨ a = 3
    · omega
    · simp [show ¬ a = 1 by omega, show ¬ a = 2 by omega, show ¬ a = 3 by omega] at h
theorem bk_flag {R : List Int} (h : bk R 6 6 = true) : evR R = false := by
  unfold bk at h
  simp [hardC, hang] at h
  exact h

/-- the breaks among places, the nearest first -/
def bq (C : Nat → Int) : List Nat → List Nat
  | [] => []
  | [i] => [i]
  | i :: j :: l => if bk (l.map C) (C j) (C i) then i :: bq C (j :: l) else bq C (j :: l)

theorem bq_sub (C : Nat → Int) : ∀ Q, ∀ x ∈ bq C Q, x ∈ Q
  | [], x, h => h
  | [i], x, h => h
  | i :: j :: l, x, h => by
    unfold bq at h
    split at h
    · rcases List.mem_cons.1 h with rfl | h
      · exact List.mem_cons_self ..
      · exact List.mem_cons_of_mem _ (bq_sub C (j :: l) x h)
    · exact List.mem_cons_of_mem _ (bq_sub C (j :: l) x h)
theorem bq_ne (C : Nat → Int) : ∀ j l, ∃ b r, bq C (j :: l) = b :: r
  | j, [] => ⟨j, [], rfl⟩
  | j, k :: l => by
    unfold bq
    split
    · exact ⟨_, _, rfl⟩
    · exact bq_ne C k l

/-- NOTHING LOOKS BACK ACROSS A BREAK. -/
theorem bk_seg (C : Nat → Int) : ∀ (l : List Nat) (j b : Nat) (r : List Nat), bq C (j :: l) = b :: r → ∃ l1 l2, l = l1 ++ l2 ∧ (j :: l1).getLast? = some b ∧
    ((C j = 4 ∨ C j = 5) → jnR (l.map C) = jnR (l1.map C)) ∧ (C j = 6 → evR (l.map C) = evR (l1.map C))
  | [], j, b, r, h => by
    simp [bq] at h
    exact ⟨[], [], rfl, by simp [h.1], fun _ => rfl, fun _ => rfl⟩
  | k :: l, j, b, r, h => by
    unfold bq at h
    split at h
    · rename_i hbk
      simp at h
      refine ⟨[], k :: l, rfl, by simp [h.1], fun hm => ?_, fun h6 => ?_⟩
      · have hh := bk_mark hm hbk
        simp [hardC] at hh
        simp only [List.map_cons, jnR, List.map_nil]
        rw [if_neg (by omega), beq_eq_false_iff_ne]
        omega
      · rw [h6] at hbk
        simp only [List.map_cons, evR, List.map_nil]
        split
        · rename_i h7
          rw [h7] at hbk
          rw [bk_flag hbk]; rfl
        · rfl
    · obtain ⟨l1, l2, rfl, hla, hj, he⟩ := bk_seg C l k b r h
      refine ⟨k :: l1, l2, rfl, by rw [List.getLast?_cons_cons]; exact hla, fun _ => ?_, fun _ => ?_⟩
      · simp only [List.map_cons, jnR]
        split
        · rename_i h5; exact hj (.inr h5)
        · rfl
      · simp only [List.map_cons, evR]
        split
        · rename_i h6; rw [he h6]
        · rfl

theorem mem_bq (C : Nat → Int) (i j : Nat) (l : List Nat) (hi : i ∉ j :: l) : ∀ q, i ∉ q → (i ∈ bq C (q ++ i :: j :: l) ↔ bk (l.map C) (C j) (C i) = true)
  | [], _ => by
    show i ∈ bq C (i :: j :: l) ↔ _
    unfold bq
    constructor
    · intro h
      split at h
      · assumption
      · exact absurd (bq_sub C _ _ h) hi
    · intro h
      rw [if_pos h]; exact List.mem_cons_self ..
  | [a], hq => by
    have hne : i ≠ a := fun e => hq (by simp [e])
    have ih := mem_bq C i j l hi [] (by simp)
    show i ∈ bq C (a :: i :: j :: l) ↔ _
    rw [List.nil_append] at ih
    rw [← ih]
    conv => lhs; unfold bq
    split
    · simp [hne]
    · rfl
  | a :: a2 :: q, hq => by
    have hne : i ≠ a := fun e => hq (by simp [e])
    have ih := mem_bq C i j l hi (a2 :: q) (fun h => hq (List.mem_cons_of_mem _ h))
    show i ∈ bq C (a :: a2 :: (q ++ i :: j :: l)) ↔ _
    rw [List.cons_append] at ih
    rw [← ih]
    conv => lhs; unfold bq
    split
    · simp [hne]
    · rfl

/-- the class of the rune at a place -/
def C (s : ByteArray) (i : Nat) : Int := cls (rn s i : Nat)

/-- the places of a text's breaks -/
def brL (s : ByteArray) : List Nat := if s.size = 0 then [0] else (bq (C s) (allL s).reverse).reverse ++ [s.size]

theorem bq_sorted (C : Nat → Int) : ∀ Q : List Nat, Q.Pairwise (· > ·) → (bq C Q).Pairwise (· > ·)
  | [], h => h
  | [i], h => h
  | i :: j :: l, h => by
    have h2 := List.pairwise_cons.1 h
    unfold bq
    split
    · exact List.Pairwise.cons (fun x hx => h2.1 x (bq_sub C _ x hx)) (bq_sorted C (j :: l) h2.2)
    · exact bq_sorted C (j :: l) h2.2

theorem bq_last (C : Nat → Int) : ∀ (Q : List Nat) (x : Nat), (bq C (Q ++ [x])).getLast? = some x
  | [], x => rfl
  | [a], x => by
    show (bq C (a :: [x])).getLast? = _
    unfold bq
    split
    · rfl
    · rfl
  | a :: b :: Q, x => by
    have ih := bq_last C (b :: Q) x
    show (bq C (a :: b :: (Q ++ [x]))).getLast? = _
    unfold bq
    rw [List.cons_append] at ih
    split
    · rw [List.getLast?_cons, ih]; rfl
    · exact ih

theorem allL_zero (s : ByteArray) (h : s.size ≠ 0) : ∃ r, allL s = 0 :: r := ⟨_, by rw [allL_frm, frm_step s 0 (by omega)]⟩

/-- where a text has its first break -/
theorem brL_zero (s : ByteArray) : ∃ r, brL s = 0 :: r := by
  unfold brL
  split
  · exact ⟨[], rfl⟩
  · rename_i h
    obtain ⟨r, hr⟩ := allL_zero s h
    have hl := bq_last (C s) r.reverse 0
    rw [hr, List.reverse_cons]
    obtain ⟨y, hy⟩ : ∃ y, bq (C s) (r.reverse ++ [0]) = y ++ [0] := by
      rw [List.getLast?_eq_some_iff] at hl
      exact hl
    rw [hy]
    exact ⟨y.reverse ++ [s.size], by simp⟩

theorem rev_sorted {l : List Nat} (h : l.Pairwise (· < ·)) : l.reverse.Pairwise (· > ·) := List.pairwise_reverse.2 h
theorem rev_sorted' {l : List Nat} (h : l.Pairwise (· > ·)) : l.reverse.Pairwise (· < ·) := List.pairwise_reverse.2 h

theorem brL_sorted (s : ByteArray) : (brL s).Pairwise (· < ·) := by
  unfold brL
  split
  · exact List.pairwise_singleton ..
  · rw [List.pairwise_append]
    refine ⟨rev_sorted' (bq_sorted _ _ (rev_sorted (allL_sorted s))), List.pairwise_singleton .., fun a ha b hb => ?_⟩
    simp at hb; subst hb
    have := bq_sub _ _ _ (List.mem_reverse.1 ha)
    exact (mem_allL.1 (List.mem_reverse.1 this)).1

/-- at a place of the cut behind another one -/
theorem mem_brL {s : ByteArray} {pre rest : List Nat} {j i : Nat} (h : allL s = pre ++ j :: i :: rest) : i ∈ brL s ↔ bk ((pre.map (C s)).reverse) (C s j) (C s i) = true := by
  have hi : i < s.size := (mem_allL.1 (by rw [h]; simp)).1
  have hso := allL_sorted s
  rw [h] at hso
  have h1 : ∀ a ∈ pre ++ [j], a < i := by
    rw [show pre ++ j :: i :: rest = (pre ++ [j]) ++ i :: rest by simp, List.pairwise_append] at hso
    exact fun a ha => hso.2.2 a ha i (by simp)
  have h2 : ∀ a ∈ rest, i < a := by
    rw [show pre ++ j :: i :: rest = (pre ++ [j]) ++ i :: rest by simp, List.pairwise_append] at hso
    exact (List.pairwise_cons.1 hso.2.1).1
  unfold brL
  rw [if_neg (by omega), List.mem_append, List.mem_reverse]
  have e : (allL s).reverse = rest.reverse ++ i :: j :: pre.reverse := by rw [h]; simp
  rw [e, List.map_reverse.symm]
  have := mem_bq (C s) i j pre.reverse (fun hm => by
    rcases List.mem_cons.1 hm with e | hm
    · have := h1 j (by simp); omega
    · have := h1 i (by simp at hm; simp [hm]); omega) rest.reverse (fun hm => by have := h2 i (by simpa using hm); omega)
  rw [this]
  constructor
  · rintro (h | h)
    · exact h
    · simp at h; omega
  · exact .inl

theorem brL_places {s : ByteArray} {i : Nat} (h : i ∈ brL s) : i = 0 ∨ i = s.size ∨ i ∈ allL s := by
  unfold brL at h
  split at h
  · simp at h; exact .inl h
  · rcases List.mem_append.1 h with h | h
    · exact .inr (.inr (by have := bq_sub _ _ _ (List.mem_reverse.1 h); simpa using this))
    · simp at h; exact .inr (.inl h)
theorem brL_le {s : ByteArray} {i : Nat} (h : i ∈ brL s) : i ≤ s.size := by
  rcases brL_places h with rfl | rfl | h
  · omega
  · omega
  · have := (mem_allL.1 h).1; omega
theorem brL_end (s : ByteArray) : s.size ∈ brL s := by
  unfold brL
  split
  · rename_i h; simp [h]
  · simp

/-- a break at a number? -/
def isBr (s : ByteArray) (a : Int) : Bool := decide (0 ≤ a ∧ a.toNat ∈ brL s)

theorem isBr_nat (s : ByteArray) (k : Nat) : isBr s (k : Int) = decide (k ∈ brL s) := by
  unfold isBr
  rw [Int.toNat_natCast]
  by_cases h : k ∈ brL s
  · rw [decide_eq_true h, decide_eq_true ⟨by omega, h⟩]
  · rw [decide_eq_false h, decide_eq_false (fun e => h e.2)]

/-- the first above a number; the last below it -/
def nxt (l : List Nat) (a : Int) (z : Nat) : Nat := (l.find? (fun k : Nat => decide (a < (k : Int)))).getD z
def prv (l : List Nat) (a : Int) : Nat := l.foldl (fun (o k : Nat) => if (k : Int) < a then k else o) 0

theorem nxt_none {l : List Nat} {a : Int} {z : Nat} (h : ∀ k ∈ l, ¬ a < (k : Int)) : nxt l a z = z := by
  unfold nxt
  rw [List.find?_eq_none.2 (fun k hk => by simpa using h k hk)]; rfl
theorem nxt_at {l r : List Nat} {i : Nat} {a : Int} {z : Nat} (h : ∀ k ∈ l, ¬ a < (k : Int)) (hi : a < (i : Int)) : nxt (l ++ i :: r) a z = i := by
  unfold nxt
  rw [List.find?_append, List.find?_eq_none.2 (fun k hk => by simpa using h k hk)]
  simp [hi]
theorem nxt_mem {l : List Nat} (hs : l.Pairwise (· < ·)) {a : Int} {z p : Nat} (hp : p ∈ l) (ha : a < (p : Int)) (hm : ∀ q ∈ l, a < (q : Int) → p ≤ q) : nxt l a z = p := by
  obtain ⟨x, y, rfl⟩ := List.append_of_mem hp
  refine nxt_at (fun k hk hak => ?_) ha
  have h1 := hm k (by simp [hk]) hak
  rw [List.pairwise_append] at hs
  have := hs.2.2 k hk p (by simp)
  omega
theorem prv_snoc (l : List Nat) (k : Nat) (a : Int) : prv (l ++ [k]) a = if (k : Int) < a then k else prv l a := by
  unfold prv; rw [List.foldl_append]; rfl
theorem snoc_ind {p : List Nat → Prop} (h0 : p []) (hs : ∀ l k, p l → p (l ++ [k])) (l : List Nat) : p l := by
  have : ∀ r : List Nat, p r.reverse := fun r => by
    induction r with
    | nil => exact h0
    | cons k r ih => rw [List.reverse_cons]; exact hs _ _ ih
  simpa using this l.reverse
theorem prv_none (l : List Nat) (a : Int) (h : ∀ k ∈ l, ¬ (k : Int) < a) : prv l a = 0 := by
  revert h
  refine snoc_ind (p := fun l => (∀ k ∈ l, ¬ ((k : Nat) : Int) < a) → prv l a = 0) (fun _ => rfl) (fun l k ih h => ?_) l
  rw [prv_snoc, if_neg (h k (by simp)), ih (fun q hq => h q (by simp [hq]))]
theorem prv_mem {l : List Nat} (hs : l.Pairwise (· < ·)) {a : Int} {p : Nat} (hp : p ∈ l) (ha : (p : Int) < a) (hm : ∀ q ∈ l, (q : Int) < a → q ≤ p) : prv l a = p := by
  obtain ⟨x, y, rfl⟩ := List.append_of_mem hp
  have hs2 := (List.pairwise_append.1 hs).2.1
  have hy : ∀ (y : List Nat), (∀ k ∈ y, ¬ (k : Int) < a) → prv (x ++ p :: y) a = p := by
    intro y
    refine snoc_ind (p := fun y => (∀ k ∈ y, ¬ ((k : Nat) : Int) < a) → prv (x ++ p :: y) a = p) (fun _ => by rw [prv_snoc, if_pos ha]) (fun y k ih h => ?_) y
    rw [show x ++ p :: (y ++ [k]) = (x ++ p :: y) ++ [k] by simp, prv_snoc, if_neg (h k (by simp)), ih (fun q hq => h q (by simp [hq]))]
  refine hy y (fun k hk hka => ?_)
  have h1 := hm k (by simp [hk]) hka
  have := (List.pairwise_cons.1 hs2).1 k hk
  omega

/-- neighbours -/
def pairs (l : List Nat) : List (Nat × Nat) := l.zip l.tail
theorem pairs_snoc : ∀ (l : List Nat) (b i : Nat), pairs (l ++ [b] ++ [i]) = pairs (l ++ [b]) ++ [(b, i)]
  | [], b, i => rfl
  | [a], b, i => rfl
  | a :: a2 :: l, b, i => by
    have ih := pairs_snoc (a2 :: l) b i
    simp [pairs] at ih ⊢
    exact ih

/-- a text's clumps: from where to where -/
def cpL (s : ByteArray) : List (Nat × Nat) := pairs (brL s)

theorem C_bad {s : ByteArray} {x : Nat} (h : okR s x = false) : C s x = 0 := by unfold C; rw [(ok_false_iff h).1]; exact cls_bad
theorem rn_lt (s : ByteArray) (x : Nat) (hx : x < s.size) : rn s x ≤ 1114111 := by
  cases ho : okR s x with
  | false => rw [(ok_false_iff ho).1]; decide
  | true =>
    have h0 := by_lt s x
    have h1 := by_lt s (x + 1)
    have h2 := by_lt s (x + 2)
    have h3 := by_lt s (x + 3)
    rcases ok_cases s x hx ho with ⟨_, hr, _⟩ | ⟨hc, _, _, hr, _⟩ | ⟨hc, _, _, _, hr, _⟩ | ⟨hc, _, hg, _, _, hr, _⟩
    · omega
    · have := hW2_range hc; omega
    · have := hW3_range hc; omega
    · have hb := hW4_range hc
      have hg' := g1_range (by omega) hg
      by_cases h4 : by_ s x = 244
      · have := hg'.2.2.2.2.2 h4; omega
      · omega


end Go.Proofs.Ytcagfapdhopmjaa
