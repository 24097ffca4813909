/-
  Things laid and taken again. Pure.
-/
import Derived.Test.YtoflfgoflpnacaaZTK
import Derived.Test.YtoflfgoflpnacaaZLY2
set_option linter.unusedSimpArgs false
set_option linter.unusedVariables false
namespace Go.Proofs.Ytoflfgoflpnacaa
open Go.RowKit Go.Lib

theorem tnL_num : ∀ (f n i s : Nat) (rest : List Nat), n < 128 ^ (f + 1) → i ≤ 8 → n < 128 ^ (9 - i) → (n ≠ 0 ∨ i = 0) → tnL i s (numF f n ++ rest) = (0, s + n * 128 ^ i, i + (numF f n).length)
  | 0, n, i, s, rest, h, hi, hn, h0 => by
    simp only [Nat.zero_add, Nat.pow_one] at h
    rw [numF, List.cons_append, tnL, if_pos h, if_neg (by rintro ⟨rfl, h1⟩; rcases h0 with h2 | h2 <;> omega), Nat.mod_eq_of_lt h]
    rfl
  | f + 1, n, i, s, rest, h, hi, hn, h0 => by
    rw [numF]
    by_cases h1 : n < 128
    · rw [if_pos h1, List.cons_append, tnL, if_pos h1, if_neg (by rintro ⟨rfl, h1⟩; rcases h0 with h2 | h2 <;> omega), Nat.mod_eq_of_lt h1]
      rfl
    · have hi8 : i ≠ 8 := fun e => by subst e; simp at hn; omega
      rw [if_neg h1, List.cons_append, tnL, if_neg (by omega), if_neg hi8]
      have e1 : (n % 128 + 128) % 128 = n % 128 := by omega
      rw [e1, tnL_num f (n / 128) (i + 1) _ rest (Nat.div_lt_of_lt_mul (by rw [Nat.mul_comm, ← Nat.pow_succ]; exact h)) (by omega) (Nat.div_lt_of_lt_mul (by rw [Nat.mul_comm, ← Nat.pow_succ, show (9 - (i + 1)).succ = 9 - i by omega]; exact hn)) (.inl (by omega))]
      have e2 : s + n % 128 * 128 ^ i + n / 128 * 128 ^ (i + 1) = s + n * 128 ^ i := by
        rw [Nat.pow_succ, Nat.mul_comm (128 ^ i) 128, ← Nat.mul_assoc, Nat.add_assoc, ← Nat.add_mul]
        congr 2
        omega
      rw [e2, List.length_cons]
      congr 2
      omega
theorem rNum_num {n : Nat} (h : n < 9223372036854775808) (rest : List Nat) : rNum (num n ++ rest) 0 = (n, rest, 0) := by
  have e := tnL_num 10 n 0 0 rest (by have : (128 : Nat) ^ 11 = 151115727451828646838272 := by decide
                                      omega) (by omega) (by have : (128 : Nat) ^ 9 = 9223372036854775808 := by decide
                                                            show n < 128 ^ 9
                                                            omega) (.inr rfl)
  unfold rNum rn0
  rw [if_neg (by simp)]
  unfold tn num
  rw [e]
  simp

theorem tnL_back : ∀ (l : List Nat) (i s V k : Nat), i ≤ 8 → (∀ b ∈ l, b < 256) → tnL i s l = (0, V, k) → ∃ m, V = s + m * 128 ^ i ∧ k = i + (num m).length ∧ l.take (num m).length = num m ∧ m < 128 ^ (9 - i) ∧ (m ≠ 0 ∨ i = 0)
  | [], i, s, V, k, _, _, h => by simp [tnL] at h
  | c :: l, i, s, V, k, hi, hb, h => by
    have hc := hb c (by simp)
    rw [tnL] at h
    by_cases h1 : c < 128
    · rw [if_pos h1] at h
      by_cases h2 : c = 0 ∧ 0 < i
      · rw [if_pos h2] at h; simp at h
      · rw [if_neg h2, Nat.mod_eq_of_lt h1] at h
        simp only [Prod.mk.injEq, true_and] at h
        refine ⟨c, h.1.symm, ?_, ?_, ?_, by omega⟩
        · rw [num_last c h1]; simp; omega
        · rw [num_last c h1]; simp
        · have h3 : 128 ^ 1 ≤ 128 ^ (9 - i) := Nat.pow_le_pow_right (by decide) (by omega)
          simp only [Nat.pow_one] at h3
          omega
    · rw [if_neg h1] at h
      by_cases h2 : i = 8
      · rw [if_pos h2] at h; simp at h
      · rw [if_neg h2] at h
        obtain ⟨m, e1, e2, e3, e4, e5⟩ := tnL_back l (i + 1) _ V k (by omega) (fun b hb' => hb b (by simp [hb'])) h
        have hm0 : m ≠ 0 := by rcases e5 with h | h; exact h; omega
        have hM : c % 128 + m * 128 < 128 ^ (9 - i) := by
          have h9 : 128 ^ (9 - i) = 128 ^ (9 - (i + 1)) * 128 := by rw [← Nat.pow_succ]; congr 1; omega
          rw [h9]
          have : (m + 1) * 128 ≤ 128 ^ (9 - (i + 1)) * 128 := Nat.mul_le_mul_right _ (by omega)
          omega
        have hM2 : c % 128 + m * 128 < 9223372036854775808 := by
          have h9 : (128 : Nat) ^ (9 - i) ≤ 128 ^ 9 := Nat.pow_le_pow_right (by decide) (by omega)
          have h10 : (128 : Nat) ^ 9 = 9223372036854775808 := by decide
          omega
        have hn : num (c % 128 + m * 128) = c :: num m := by
          rw [num_step _ hM2 (by omega), show (c % 128 + m * 128) % 128 + 128 = c by omega, show (c % 128 + m * 128) / 128 = m by omega]
        refine ⟨c % 128 + m * 128, ?_, ?_, ?_, hM, .inl (by omega)⟩
        · rw [e1, Nat.pow_succ, Nat.mul_comm (128 ^ i) 128, ← Nat.mul_assoc, Nat.add_assoc, ← Nat.add_mul]
        · rw [hn, List.length_cons]; omega
        · rw [hn, List.length_cons, List.take_succ_cons, e3]
theorem rNum_back {l : List Nat} (hb : ∀ b ∈ l, b < 256) (h : (rNum l 0).2.2 = 0) : l = num (rNum l 0).1 ++ (rNum l 0).2.1 := by
  have e : rn0 l 0 = tnL 0 0 l := by unfold rn0; rw [if_neg (by simp)]; rfl
  unfold rNum at h ⊢
  rw [e] at h ⊢
  simp only at h ⊢
  obtain ⟨E, V, k, hT⟩ : ∃ E V k, tnL 0 0 l = (E, V, k) := ⟨_, _, _, rfl⟩
  rw [hT] at h ⊢
  simp only at h ⊢
  subst h
  obtain ⟨m, e1, e2, e3, _⟩ := tnL_back l 0 0 V k (by omega) hb hT
  have hV : V = m := by rw [e1]; simp
  subst hV
  have hk : k = (num V).length := by omega
  rw [hk]
  conv => lhs; rw [← List.take_append_drop (num V).length l]
  rw [e3]

theorem rn0_num {n : Nat} (h : n < 9223372036854775808) (rest : List Nat) : rn0 (num n ++ rest) 0 = (0, n, (num n).length) := by
  have e := tnL_num 10 n 0 0 rest (by have : (128 : Nat) ^ 11 = 151115727451828646838272 := by decide
                                      omega) (by omega) (by have : (128 : Nat) ^ 9 = 9223372036854775808 := by decide
                                                            show n < 128 ^ 9
                                                            omega) (.inr rfl)
  unfold rn0
  rw [if_neg (by simp)]
  unfold tn num
  rw [e]
  simp
theorem rn0_back {l : List Nat} {V k : Nat} (hb : ∀ b ∈ l, b < 256) (h : rn0 l 0 = (0, V, k)) : k = (num V).length ∧ l.take k = num V := by
  have e : rn0 l 0 = tnL 0 0 l := by unfold rn0; rw [if_neg (by simp)]; rfl
  rw [e] at h
  obtain ⟨m, e1, e2, e3, _⟩ := tnL_back l 0 0 V k (by omega) hb h
  have hV : V = m := by rw [e1]; simp
  subst hV
  have hk : k = (num V).length := by omega
  exact ⟨hk, by rw [hk]; exact e3⟩

/-- the bytes of a thing, and the thing as it is taken -/
def eIt (x : Bool × Int × ByteArray) : List Nat := if x.1 then num x.2.2.size ++ sB x.2.2 else num x.2.1.toNat
def nrm (x : Bool × Int × ByteArray) : Bool × Int × ByteArray := if x.1 then (true, 0, x.2.2) else (false, x.2.1, ByteArray.empty)
def okI (x : Bool × Int × ByteArray) : Prop := (x.1 = false → 0 ≤ x.2.1 ∧ x.2.1 ≤ 9223372036854775807) ∧ x.2.2.size ≤ 50000
theorem rItm_eIt {x : Bool × Int × ByteArray} (hx : okI x) (rest : List Nat) : rItm (eIt x ++ rest) 0 x.1 = (nrm x, (eIt x).length, 0) := by
  obtain ⟨t, n, s⟩ := x
  obtain ⟨h1, h2⟩ := hx
  simp only at h1 h2
  cases t with
  | true =>
    have e : eIt (true, n, s) = num s.size ++ sB s := rfl
    have e2 : rn0 (eIt (true, n, s) ++ rest) 0 = (0, s.size, (num s.size).length) := by rw [e, List.append_assoc]; exact rn0_num (by omega) _
    have e3 : ¬ (eIt (true, n, s) ++ rest).length - (num s.size).length < s.size := by rw [e]; simp only [List.length_append, sB_len]; omega
    show ((true, (0 : Int), (rTxt (eIt (true, n, s) ++ rest) 0).1), rTxtW (eIt (true, n, s) ++ rest) 0, (rTxt (eIt (true, n, s) ++ rest) 0).2.2) = ((true, 0, s), (eIt (true, n, s)).length, 0)
    unfold rTxt rTxtW
    rw [e2]
    simp only [ne_eq, not_true, if_false]
    rw [if_neg e3, if_neg e3, e]
    simp only [List.length_append, sB_len, Prod.mk.injEq, true_and, and_true]
    have e4 : ((num s.size ++ sB s ++ rest).drop (num s.size).length).take s.size = sB s := by
      rw [List.append_assoc, List.drop_left, List.take_append_of_le_length (by rw [sB_len]; omega), List.take_of_length_le (by rw [sB_len]; omega)]
    rw [e4]
    exact txt_sB s
  | false =>
    obtain ⟨h3, h4⟩ := h1 rfl
    have e2 : rn0 (eIt (false, n, s) ++ rest) 0 = (0, n.toNat, (num n.toNat).length) := rn0_num (n := n.toNat) (by omega) _
    show ((false, ((rn0 (eIt (false, n, s) ++ rest) 0).2.1 : Int), ByteArray.empty), (rn0 (eIt (false, n, s) ++ rest) 0).2.2, (rn0 (eIt (false, n, s) ++ rest) 0).1) = ((false, n, ByteArray.empty), (num n.toNat).length, 0)
    rw [e2]
    simp only [Prod.mk.injEq, true_and, and_true]
    omega

theorem rItm_err {l : List Nat} {t : Bool} (h : (rItm l 0 t).2.2 ≠ 0) : (rItm l 0 t).2.1 = 0 := by
  cases t with
  | true =>
    have h' : (rTxt l 0).2.2 ≠ 0 := h
    show rTxtW l 0 = 0
    unfold rTxt at h'
    unfold rTxtW
    split
    · rfl
    · rename_i h1
      rw [if_neg h1] at h'
      split
      · rfl
      · rename_i h2
        rw [if_neg h2] at h'
        exact absurd rfl h'
  | false =>
    have h' : (rn0 l 0).1 ≠ 0 := h
    show (rn0 l 0).2.2 = 0
    have e : rn0 l 0 = tnL 0 0 l := by unfold rn0; rw [if_neg (by simp)]; rfl
    rw [e] at h' ⊢
    exact (tnL_err l 0 0 h').2
/-- what was taken is laid again as it was -/
theorem rItm_back {l : List Nat} {t : Bool} (hb : ∀ b ∈ l, b < 256) (h : (rItm l 0 t).2.2 = 0) (hl : l.length ≤ 50000) : eIt (rItm l 0 t).1 = l.take (rItm l 0 t).2.1 ∧ okI (rItm l 0 t).1 ∧ in64 (rItm l 0 t).1.2.1 := by
  obtain ⟨E, V, k, hT⟩ : ∃ E V k, rn0 l 0 = (E, V, k) := ⟨_, _, _, rfl⟩
  have hlt := rn0_lt l 0
  have hwd := rn0_width l 0
  cases t with
  | true =>
    have e1 : rItm l 0 true = ((true, 0, (rTxt l 0).1), rTxtW l 0, (rTxt l 0).2.2) := rfl
    rw [e1] at h ⊢
    simp only at h ⊢
    unfold rTxt at h ⊢
    unfold rTxtW
    rw [hT] at h hlt hwd ⊢
    simp only at h hlt hwd ⊢
    by_cases hE : E = 0
    · subst hE
      simp only [ne_eq, not_true, if_false] at h ⊢
      by_cases h2 : l.length - k < V
      · rw [if_pos h2] at h; simp at h
      · rw [if_neg h2, if_neg h2]
        obtain ⟨b1, b2⟩ := rn0_back hb hT
        have hlen : ((l.drop k).take V).length = V := by rw [List.length_take, List.length_drop]; omega
        have hsz : (txt ((l.drop k).take V)).size = V := by rw [txt_size, hlen]
        refine ⟨?_, ⟨(fun h => by cases h), by simp only; omega⟩, by show in64 0; unfold in64; omega⟩
        show num (txt ((l.drop k).take V)).size ++ sB (txt ((l.drop k).take V)) = l.take (k + V)
        rw [hsz, sB_txt _ (fun b h => hb b (List.mem_of_mem_drop (List.mem_of_mem_take h))), ← b2, List.take_add]
    · rw [if_pos hE] at h
      exact absurd h hE
  | false =>
    have e1 : rItm l 0 false = ((false, ((rn0 l 0).2.1 : Int), ByteArray.empty), (rn0 l 0).2.2, (rn0 l 0).1) := rfl
    rw [e1] at h ⊢
    rw [hT] at h hlt hwd ⊢
    simp only at h hlt hwd ⊢
    subst h
    obtain ⟨b1, b2⟩ := rn0_back hb hT
    refine ⟨?_, ⟨(fun _ => ⟨by simp only; omega, by simp only; omega⟩), by simp only; show (0 : Nat) ≤ 50000; omega⟩, by unfold in64; omega⟩
    show num ((V : Int)).toNat = l.take k
    rw [Int.toNat_natCast, b2]

theorem wNum_pos (L : List Nat) {n : Int} (h : 0 ≤ n) : wNum (L, 0) n = (L ++ num n.toNat, 0) := by
  unfold wNum
  rw [if_neg (by simp), if_neg (by omega)]
def wAll (l : List (Bool × Int × ByteArray)) (i : Nat) : List Nat × Int := (l.take i).foldl wItm ([], 0)
theorem wAll_step {l : List (Bool × Int × ByteArray)} {i : Nat} {x : Bool × Int × ByteArray} (h : l[i]? = some x) : wAll l (i + 1) = wItm (wAll l i) x := by
  unfold wAll
  rw [List.take_add_one, h, List.foldl_append]
  rfl
theorem wItm_ok (L : List Nat) {x : Bool × Int × ByteArray} (h : x.1 = false → 0 ≤ x.2.1) : wItm (L, 0) x = (L ++ eIt x, 0) := by
  obtain ⟨t, n, s⟩ := x
  cases t with
  | true =>
    show wTxt (L, 0) s = (L ++ (num s.size ++ sB s), 0)
    unfold wTxt
    rw [if_neg (by simp), List.append_assoc]
  | false => exact wNum_pos L (h rfl)
theorem wItm_bad (L : List Nat) {x : Bool × Int × ByteArray} (h : ¬ (x.1 = false → 0 ≤ x.2.1)) : wItm (L, 0) x = (L, 1) := by
  obtain ⟨t, n, s⟩ := x
  cases t with
  | true => exact absurd (fun h => by cases h) h
  | false =>
    show wNum (L, 0) n = (L, 1)
    unfold wNum
    rw [if_neg (by simp), if_pos (by simp at h; omega)]
/-- all that was laid as long as nothing went wrong -/
theorem wAll_ok : ∀ (l : List (Bool × Int × ByteArray)) (i : Nat), (∀ x ∈ l.take i, x.1 = false → 0 ≤ x.2.1) → wAll l i = ((l.take i).flatMap eIt, 0) := by
  intro l i h
  unfold wAll
  have gen : ∀ (m : List (Bool × Int × ByteArray)) (L : List Nat), (∀ x ∈ m, x.1 = false → 0 ≤ x.2.1) → m.foldl wItm (L, 0) = (L ++ m.flatMap eIt, 0) := by
    intro m
    induction m with
    | nil => intro L _; simp
    | cons x m ih =>
      intro L hm
      rw [List.foldl_cons, wItm_ok L (hm x (List.mem_cons_self ..)), ih _ (fun y hy => hm y (List.mem_cons_of_mem _ hy)), List.flatMap_cons, List.append_assoc]
  rw [gen _ _ h, List.nil_append]
theorem num_pre {u v : Nat} (hu : u < 9223372036854775808) (hv : v < 9223372036854775808) : (num v).length ≤ (num u).length ∧ num v = (num u).take (num v).length ↔ u = v := by
  constructor
  · rintro ⟨_, h⟩
    have e1 := rNum_num hv ((num u).drop (num v).length)
    rw [show num v ++ (num u).drop (num v).length = num u from by conv => lhs; rw [h]
                                                                  rw [List.length_take]
                                                                  rw [show min (num v).length (num u).length = (num v).length from by omega]
                                                                  exact List.take_append_drop _ _] at e1
    have e2 := rNum_num hu []
    rw [List.append_nil] at e2
    rw [e1] at e2
    simp at e2
    exact e2.1.symm
  · rintro rfl
    exact ⟨Nat.le_refl _, by rw [List.take_of_length_le (Nat.le_refl _)]⟩

end Go.Proofs.Ytoflfgoflpnacaa
