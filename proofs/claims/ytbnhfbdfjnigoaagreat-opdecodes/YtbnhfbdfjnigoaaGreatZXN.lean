/-
  Numbers and vectors as bytes, laid and taken again. Pure.
-/
import Derived.Test.YtbnhfbdfjnigoaaGreatZV7
import Derived.Test.YtbnhfbdfjnigoaaGreatZXP7

set_option linter.unusedSimpArgs false
set_option linter.unusedVariables false
namespace Go.Proofs.YtbnhfbdfjnigoaaGreat
open Go.RowKit Go.Lib

theorem tnL_num : ∀ (f n i s : Nat) (rest : List Nat), n < 128 ^ (f + 1) → i ≤ 8 → n < 128 ^ (9 - i) → (n ≠ 0 ∨ i = 0) → tnL i s (numF f n ++ rest) = (0, s + n * 128 ^ i, i + (numF f n).length)
  | 0, n, i, s, rest, h, hi, hn, h0 => by
    simp only [Nat.zero_add, Nat.pow_one] at h
    rw [numF, List.cons_append, tnL, if_pos h, if_neg (by rintro ⟨rfl, h1⟩; rcases h0 with h2 | h2 <;> omega), Nat.mod_eq_of_lt h]
    rfl
  | f + 1, n, i, s, rest, h, hi, hn, h0 => by
    rw [numF]
    by_cases h1 : n < 128
    · rw [if_pos h1, List.cons_append, tnL, if_pos h1, if_neg (by rintro ⟨rfl, h1⟩; rcases h0 with h2 | h2 <;> omega), Nat.mod_eq_of_lt h1]
      rfl
    · have hi8 : i ≠ 8 := fun e => by subst e; simp at hn; omega
      rw [if_neg h1, List.cons_append, tnL, if_neg (by omega), if_neg hi8]
      have e1 : (n % 128 + 128) % 128 = n % 128 := by omega
      rw [e1, tnL_num f (n / 128) (i + 1) _ rest (Nat.div_lt_of_lt_mul (by rw [Nat.mul_comm, ← Nat.pow_succ]; exact h)) (by omega) (Nat.div_lt_of_lt_mul (by rw [Nat.mul_comm, ← Nat.pow_succ, show (9 - (i + 1)).succ = 9 - i by omega]; exact hn)) (.inl (by omega))]
      have e2 : s + n % 128 * 128 ^ i + n / 128 * 128 ^ (i + 1) = s + n * 128 ^ i := by
        rw [Nat.pow_succ, Nat.mul_comm (128 ^ i) 128, ← Nat.mul_assoc, Nat.add_assoc, ← Nat.add_mul]
        congr 2
        omega
      rw [e2, List.length_cons]
      congr 2
      omega
theorem rNum_num {n : Nat} (h : n < 9223372036854775808) (rest : List Nat) : rNum (num n ++ rest) 0 = (n, rest, 0) := by
  have e := tnL_num 10 n 0 0 rest (by have : (128 : Nat) ^ 11 = 151115727451828646838272 := by decide
                                      omega) (by omega) (by have : (128 : Nat) ^ 9 = 9223372036854775808 := by decide
                                                            show n < 128 ^ 9
                                                            omega) (.inr rfl)
  unfold rNum rn0
  rw [if_neg (by simp)]
  unfold tn num
  rw [e]
  simp

/-- what is laid of Dots, as bytes -/
def pb (d : List (Int × Int)) : List Nat := d.flatMap fun x => num x.1.toNat ++ num x.2.toNat
theorem wNum_pos (L : List Nat) {n : Int} (h : 0 ≤ n) : wNum (L, 0) n = (L ++ num n.toNat, 0) := by
  unfold wNum
  rw [if_neg (by simp), if_neg (by omega)]
theorem putS_pb : ∀ (d : List (Int × Int)) (L : List Nat), (∀ x ∈ d, 0 ≤ x.1 ∧ 0 ≤ x.2) → putS (L, 0) d = (L ++ pb d, 0)
  | [], L, _ => by simp [putS, pb]
  | x :: d, L, h => by
    have hx := h x (by simp)
    show putS (wNum (wNum (L, 0) x.1) x.2) d = _
    rw [wNum_pos L hx.1, wNum_pos _ hx.2, putS_pb d _ (fun y hy => h y (by simp [hy]))]
    simp [pb, List.append_assoc]
theorem putV_pb (d : List (Int × Int)) (L : List Nat) (h : ∀ x ∈ d, 0 ≤ x.1 ∧ 0 ≤ x.2) : putV (L, 0) d = (L ++ num d.length ++ pb d, 0) := by
  unfold putV
  rw [wNum_pos L (by omega), putS_pb d _ h]
  simp
theorem tkN_num {n : Nat} (rest : List Nat) {least most : Int} (h1 : least ≤ (n : Int)) (h2 : (n : Int) ≤ most) (h3 : n < 9223372036854775808) : tkN (num n ++ rest, 0) least most = ((n, 0), (rest, 0)) := by
  unfold tkN
  simp only
  rw [rNum_num h3]
  simp only
  rw [if_neg (by simp), if_neg (by omega)]

theorem tkL_pb : ∀ (d acc : List (Int × Int)) (site : Int) (rest : List Nat), 0 ≤ site → chkF site d = 0 → tkL d.length site acc (pb d ++ rest, 0) = ((acc ++ d, 0), (rest, 0))
  | [], acc, site, rest, _, _ => by simp [tkL, pb]
  | x :: d, acc, site, rest, hs, h => by
    obtain ⟨x0, x1⟩ := x
    rw [chkF] at h
    by_cases h1 : 1 ≤ x0 ∧ x0 ≤ 16
    · rw [if_neg (by simpa using h1)] at h
      by_cases h2 : 1 ≤ x1 ∧ x1 ≤ 2147483647
      · rw [if_neg (by simpa using h2)] at h
        by_cases h3 : x0 ≤ site
        · rw [if_pos h3] at h; simp at h
        · rw [if_neg h3] at h
          obtain ⟨a, rfl⟩ : ∃ a : Nat, x0 = (a : Int) := ⟨x0.toNat, by omega⟩
          obtain ⟨b, rfl⟩ : ∃ b : Nat, x1 = (b : Int) := ⟨x1.toNat, by omega⟩
          have e : pb (((a : Int), (b : Int)) :: d) ++ rest = num a ++ (num b ++ (pb d ++ rest)) := by simp [pb, List.append_assoc]
          rw [e, List.length_cons, tkL_good (tkN_num _ (by omega) (by omega) (by omega)) (tkN_num _ (by omega) (by omega) (by omega)), tkL_pb d _ _ rest (by omega) h]
          simp
      · rw [if_pos (by simpa using h2)] at h; simp at h
    · rw [if_pos (by simpa using h1)] at h; simp at h
/-- what was laid of a vector is taken again -/
theorem takeV_back {s : Nat → Int} (hg : Good s) (rest : List Nat) : takeV (num (vec s).length ++ pb (vec s) ++ rest, 0) = ((vec s, 0), (rest, 0)) := by
  have hl : (vec s).length ≤ 16 := by
    have h1 : vec s = vecN s 17 := rfl
    have : (vecN s 17).length ≤ 16 := by
      have h17 : ∀ k, (vecN s (k + 1)).length ≤ k := by
        intro k
        induction k with
        | zero => rw [vecN_neg (by rw [hg.zero]; omega)]; simp [vecN]
        | succ k ih => rw [vecN_step]; split <;> simp <;> omega
      exact h17 16
    rw [h1]; exact this
  have e := tkN_num (n := (vec s).length) (pb (vec s) ++ rest) (least := 0) (most := 16) (by omega) (by omega) (by omega)
  rw [List.append_assoc]
  unfold takeV
  rw [e]
  simp only
  rw [if_neg (by simp), tkL_pb (vec s) [] 0 rest (by omega) (chk_vec hg)]
  simp

end Go.Proofs.YtbnhfbdfjnigoaaGreat

/-
  What is taken is laid again as it was. Pure.
-/
set_option linter.unusedSimpArgs false
set_option linter.unusedVariables false
namespace Go.Proofs.YtbnhfbdfjnigoaaGreat
open Go.RowKit Go.Lib

theorem tnL_back : ∀ (l : List Nat) (i s V k : Nat), i ≤ 8 → (∀ b ∈ l, b < 256) → tnL i s l = (0, V, k) → ∃ m, V = s + m * 128 ^ i ∧ k = i + (num m).length ∧ l.take (num m).length = num m ∧ m < 128 ^ (9 - i) ∧ (m ≠ 0 ∨ i = 0)
  | [], i, s, V, k, _, _, h => by simp [tnL] at h
  | c :: l, i, s, V, k, hi, hb, h => by
    have hc := hb c (by simp)
    rw [tnL] at h
    by_cases h1 : c < 128
    · rw [if_pos h1] at h
      by_cases h2 : c = 0 ∧ 0 < i
      · rw [if_pos h2] at h; simp at h
      · rw [if_neg h2, Nat.mod_eq_of_lt h1] at h
        simp only [Prod.mk.injEq, true_and] at h
        refine ⟨c, h.1.symm, ?_, ?_, ?_, by omega⟩
        · rw [num_last c h1]; simp; omega
        · rw [num_last c h1]; simp
        · have h3 : 128 ^ 1 ≤ 128 ^ (9 - i) := Nat.pow_le_pow_right (by decide) (by omega)
          simp only [Nat.pow_one] at h3
          omega
    · rw [if_neg h1] at h
      by_cases h2 : i = 8
      · rw [if_pos h2] at h; simp at h
      · rw [if_neg h2] at h
        obtain ⟨m, e1, e2, e3, e4, e5⟩ := tnL_back l (i + 1) _ V k (by omega) (fun b hb' => hb b (by simp [hb'])) h
        have hm0 : m ≠ 0 := by rcases e5 with h | h; exact h; omega
        have hM : c % 128 + m * 128 < 128 ^ (9 - i) := by
          have h9 : 128 ^ (9 - i) = 128 ^ (9 - (i + 1)) * 128 := by rw [← Nat.pow_succ]; congr 1; omega
          rw [h9]
          have : (m + 1) * 128 ≤ 128 ^ (9 - (i + 1)) * 128 := Nat.mul_le_mul_right _ (by omega)
          omega
        have hM2 : c % 128 + m * 128 < 9223372036854775808 := by
          have h9 : (128 : Nat) ^ (9 - i) ≤ 128 ^ 9 := Nat.pow_le_pow_right (by decide) (by omega)
          have h10 : (128 : Nat) ^ 9 = 9223372036854775808 := by decide
          omega
        have hn : num (c % 128 + m * 128) = c :: num m := by
          rw [num_step _ hM2 (by omega), show (c % 128 + m * 128) % 128 + 128 = c by omega, show (c % 128 + m * 128) / 128 = m by omega]
        refine ⟨c % 128 + m * 128, ?_, ?_, ?_, hM, .inl (by omega)⟩
        · rw [e1, Nat.pow_succ, Nat.mul_comm (128 ^ i) 128, ← Nat.mul_assoc, Nat.add_assoc, ← Nat.add_mul]
        · rw [hn, List.length_cons]; omega
        · rw [hn, List.length_cons, List.take_succ_cons, e3]
theorem rNum_back {l : List Nat} (hb : ∀ b ∈ l, b < 256) (h : (rNum l 0).2.2 = 0) : l = num (rNum l 0).1 ++ (rNum l 0).2.1 := by
  have e : rn0 l 0 = tnL 0 0 l := by unfold rn0; rw [if_neg (by simp)]; rfl
  unfold rNum at h ⊢
  rw [e] at h ⊢
  simp only at h ⊢
  obtain ⟨E, V, k, hT⟩ : ∃ E V k, tnL 0 0 l = (E, V, k) := ⟨_, _, _, rfl⟩
  rw [hT] at h ⊢
  simp only at h ⊢
  subst h
  obtain ⟨m, e1, e2, e3, _⟩ := tnL_back l 0 0 V k (by omega) hb hT
  have hV : V = m := by rw [e1]; simp
  subst hV
  have hk : k = (num V).length := by omega
  rw [hk]
  conv => lhs; rw [← List.take_append_drop (num V).length l]
  rw [e3]
theorem tkN_back {l rest : List Nat} {least most e : Int} {n : Nat} (hb : ∀ b ∈ l, b < 256) (h : tkN (l, 0) least most = ((n, 0), (rest, e))) : l = num n ++ rest ∧ e = 0 ∧ least ≤ (n : Int) ∧ (n : Int) ≤ most := by
  have hk := tkN_ok (st := (l, 0)) (least := least) (most := most) (by rw [h])
  rw [h] at hk
  unfold tkN at h
  simp only at h
  by_cases h1 : (rNum l 0).2.2 = 0
  · rw [if_neg (by simpa using h1)] at h
    split at h
    · simp at h
    · simp only [Prod.mk.injEq, and_true] at h
      have hr := rNum_back hb h1
      refine ⟨?_, ?_, hk⟩
      · rw [← h.1, show rest = (rNum l 0).2.1 by rw [h.2]]
        exact hr
      · rw [h.2] at h1; exact h1
  · rw [if_pos h1] at h
    simp only [Prod.mk.injEq] at h
    exact absurd h.1.2 h1
theorem tkL_back : ∀ (n : Nat) (site : Int) (acc : List (Int × Int)) (l : List Nat) (R : List (Int × Int)) (rest : List Nat) (e : Int), (∀ b ∈ l, b < 256) → TkI acc site → tkL n site acc (l, 0) = ((R, 0), (rest, e)) → ∃ d, R = acc ++ d ∧ d.length = n ∧ l = pb d ++ rest ∧ e = 0 ∧ vec (sy R) = R
  | 0, site, acc, l, R, rest, e, hb, hI, h => by
    simp only [tkL, Prod.mk.injEq, and_true] at h
    obtain ⟨rfl, rfl, rfl⟩ := h
    exact ⟨[], by simp, rfl, by simp [pb], rfl, hI.same⟩
  | n + 1, site, acc, l, R, rest, e, hb, hI, h => by
    obtain ⟨⟨⟨a, ea⟩, st2⟩, hA⟩ : ∃ A, tkN (l, 0) (site + 1) 16 = A := ⟨_, rfl⟩
    by_cases hea : ea = 0
    · subst hea
      obtain ⟨l2, e2⟩ := st2
      obtain ⟨q1, q2, q3, q4⟩ := tkN_back hb hA
      subst q2
      have hb2 : ∀ x ∈ l2, x < 256 := fun x hx => hb x (by rw [q1]; simp [hx])
      obtain ⟨⟨⟨b, eb⟩, st3⟩, hB⟩ : ∃ B, tkN (l2, 0) 1 2147483647 = B := ⟨_, rfl⟩
      by_cases heb : eb = 0
      · subst heb
        obtain ⟨l3, e3⟩ := st3
        obtain ⟨r1, r2, r3, r4⟩ := tkN_back hb2 hB
        subst r2
        rw [tkL_good hA hB] at h
        obtain ⟨d, s1, s2, s3, s4, s5⟩ := tkL_back n _ _ l3 R rest e (fun x hx => hb2 x (by rw [r1]; simp [hx])) (hI.next q3 q4 r3 r4) h
        refine ⟨((a : Int), (b : Int)) :: d, by rw [s1]; simp, by simp [s2], ?_, s4, s5⟩
        rw [q1, r1, s3]
        simp [pb, List.append_assoc]
      · rw [tkL_bad2 hA hB heb] at h
        simp only [Prod.mk.injEq] at h
        exact absurd h.1.2 heb
    · rw [tkL_bad1 hA hea] at h
      simp only [Prod.mk.injEq] at h
      exact absurd h.1.2 hea
theorem takeV_form {l rest : List Nat} {R : List (Int × Int)} {e : Int} (hb : ∀ b ∈ l, b < 256) (h : takeV (l, 0) = ((R, 0), (rest, e))) : l = num R.length ++ pb R ++ rest ∧ e = 0 ∧ vec (sy R) = R := by
  obtain ⟨⟨⟨a, ea⟩, st2⟩, hA⟩ : ∃ A, tkN (l, 0) 0 16 = A := ⟨_, rfl⟩
  unfold takeV at h
  rw [hA] at h
  simp only at h
  by_cases hea : ea = 0
  · subst hea
    rw [if_neg (by simp)] at h
    obtain ⟨l2, e2⟩ := st2
    obtain ⟨q1, q2, q3, q4⟩ := tkN_back hb hA
    subst q2
    obtain ⟨d, s1, s2, s3, s4, s5⟩ := tkL_back a 0 [] l2 R rest e (fun x hx => hb x (by rw [q1]; simp [hx])) TkI.none h
    rw [List.nil_append] at s1
    subst s1
    refine ⟨?_, s4, s5⟩
    rw [q1, s3, s2]
    simp [List.append_assoc]
  · rw [if_pos hea] at h
    simp only [Prod.mk.injEq] at h
    exact absurd h.1.2 hea

end Go.Proofs.YtbnhfbdfjnigoaaGreat

/-
  Operations as bytes, laid and taken again. Pure.
-/
set_option linter.unusedSimpArgs false
set_option linter.unusedVariables false
namespace Go.Proofs.YtbnhfbdfjnigoaaGreat
open Go.RowKit Go.Lib

theorem chk_TkI : ∀ (d acc : List (Int × Int)) (site : Int), TkI acc site → chkF site d = 0 → ∃ s', TkI (acc ++ d) s'
  | [], acc, site, h, _ => ⟨site, by simpa using h⟩
  | x :: d, acc, site, hI, h => by
    obtain ⟨x0, x1⟩ := x
    rw [chkF] at h
    by_cases h1 : 1 ≤ x0 ∧ x0 ≤ 16
    · rw [if_neg (by simpa using h1)] at h
      by_cases h2 : 1 ≤ x1 ∧ x1 ≤ 2147483647
      · rw [if_neg (by simpa using h2)] at h
        by_cases h3 : x0 ≤ site
        · rw [if_pos h3] at h; simp at h
        · rw [if_neg h3] at h
          obtain ⟨a, rfl⟩ : ∃ a : Nat, x0 = (a : Int) := ⟨x0.toNat, by omega⟩
          obtain ⟨b, rfl⟩ : ∃ b : Nat, x1 = (b : Int) := ⟨x1.toNat, by omega⟩
          have := chk_TkI d (acc ++ [((a : Int), (b : Int))]) a (hI.next (by omega) (by omega) (by omega) (by omega)) h
          simpa using this
      · rw [if_pos (by simpa using h2)] at h; simp at h
    · rw [if_pos (by simpa using h1)] at h; simp at h
theorem vec_of_chk {l : List (Int × Int)} (h : chk l = 0) : vec (sy l) = l := by
  obtain ⟨s, hI⟩ := chk_TkI l [] 0 TkI.none h
  have := hI.same
  simpa using this
theorem chkF_pos : ∀ (d : List (Int × Int)) (site : Int), chkF site d = 0 → ∀ x ∈ d, 0 ≤ x.1 ∧ 0 ≤ x.2
  | [], _, _ => fun x hx => by cases hx
  | y :: d, site, h => by
    rw [chkF] at h
    by_cases h1 : 1 ≤ y.1 ∧ y.1 ≤ 16
    · rw [if_neg (by simpa using h1)] at h
      by_cases h2 : 1 ≤ y.2 ∧ y.2 ≤ 2147483647
      · rw [if_neg (by simpa using h2)] at h
        by_cases h3 : y.1 ≤ site
        · rw [if_pos h3] at h; simp at h
        · rw [if_neg h3] at h
          intro x hx
          rcases List.mem_cons.1 hx with rfl | hx
          · omega
          · exact chkF_pos d _ h x hx
      · rw [if_pos (by simpa using h2)] at h; simp at h
    · rw [if_pos (by simpa using h1)] at h; simp at h

/-- the bytes of runs, of a kind, of an operation -/
def gb (g : List ((Int × Int) × Int)) : List Nat := g.flatMap fun r => num r.1.1.toNat ++ (num r.1.2.toNat ++ num r.2.toNat)
def kb (o : Opn) : List Nat := if o.kind = 1 then num o.it.toNat ++ (num o.rt.toNat ++ (num o.rs.toNat ++ (num o.text.size ++ sB o.text))) else if o.kind = 2 then num o.gone.length ++ gb o.gone else if o.kind = 3 then num o.site.toNat else []
def ob (o : Opn) : List Nat := num o.kind.toNat ++ (num o.ds.toNat ++ (num o.dq.toNat ++ ((num o.deps.length ++ pb o.deps) ++ kb o)))

theorem putG_gb : ∀ (g : List ((Int × Int) × Int)) (L : List Nat), (∀ r ∈ g, 0 ≤ r.1.1 ∧ 0 ≤ r.1.2 ∧ 0 ≤ r.2) → putG (L, 0) g = (L ++ gb g, 0)
  | [], L, _ => by simp [putG, gb]
  | r :: g, L, h => by
    obtain ⟨h1, h2, h3⟩ := h r (by simp)
    show putG (wNum (wNum (wNum (L, 0) r.1.1) r.1.2) r.2) g = _
    rw [wNum_pos L h1, wNum_pos _ h2, wNum_pos _ h3, putG_gb g _ (fun y hy => h y (by simp [hy]))]
    simp [gb, List.append_assoc]

/-- what an operation's being one says of its numbers -/
structure OkN (o : Opn) : Prop where
  kind : o.kind = 1 ∨ o.kind = 2 ∨ o.kind = 3 ∨ o.kind = 4
  ds : 1 ≤ o.ds ∧ o.ds ≤ 16
  dq : 1 ≤ o.dq ∧ o.dq ≤ 2147483647
  deps : chk o.deps = 0
  ins : o.kind = 1 → o.is = o.ds ∧ (1 ≤ o.it ∧ o.it ≤ 2147483647) ∧ (0 ≤ o.rt ∧ o.rt ≤ 2147483647) ∧ (0 ≤ o.rs ∧ o.rs ≤ 16) ∧ o.gone = [] ∧ o.site = 0
  del : o.kind = 2 → o.it = 0 ∧ o.is = 0 ∧ o.rt = 0 ∧ o.rs = 0 ∧ o.text = ⟨#[]⟩ ∧ o.site = 0 ∧ o.gone.length ≤ 1024 ∧ (∀ r ∈ o.gone, isR r = true)
  join : o.kind = 3 → o.it = 0 ∧ o.is = 0 ∧ o.rt = 0 ∧ o.rs = 0 ∧ o.text = ⟨#[]⟩ ∧ o.gone = [] ∧ 1 ≤ o.site ∧ o.site ≤ 16
  leave : o.kind = 4 → o.it = 0 ∧ o.is = 0 ∧ o.rt = 0 ∧ o.rs = 0 ∧ o.text = ⟨#[]⟩ ∧ o.gone = [] ∧ o.site = 0
theorem bareO_iff {o : Opn} (h : bareO o = true) : o.it = 0 ∧ o.is = 0 ∧ o.rt = 0 ∧ o.rs = 0 ∧ o.text = ⟨#[]⟩ := by
  unfold bareO at h
  rw [← text_empty] at h
  simp at h
  exact ⟨h.1.1.1.1, h.1.1.1.2, h.1.1.2, h.1.2, h.2⟩
theorem isR_full {r : (Int × Int) × Int} (h : isR r = true) : (1 ≤ r.1.1 ∧ r.1.1 ≤ 2147483647) ∧ (1 ≤ r.1.2 ∧ r.1.2 ≤ 16) ∧ (1 ≤ r.2 ∧ r.2 ≤ 2147483647) := by
  unfold isR isI at h
  simp at h
  omega
theorem OkN.of {o : Opn} (h : okO o = true) : OkN o := by
  have hk := okO_kind h
  have hh := okO_hold h
  unfold okO at h
  simp only [Bool.and_eq_true] at h
  obtain ⟨⟨⟨_, hf⟩, ha⟩, _⟩ := h
  unfold folO isT at hf
  simp at hf
  refine ⟨hk, by omega, by omega, hf.1.2, fun h1 => ?_, fun h2 => ?_, fun h3 => ?_, fun h4 => ?_⟩
  · unfold holdO at hh
    unfold aloneO at ha
    rw [if_pos h1] at hh ha
    unfold insO refO at hh
    simp only [Bool.and_eq_true, decide_eq_true_eq, Bool.or_eq_true, Prod.mk.injEq] at hh ha
    have i1 := isR_full hh.1.2
    simp only at i1
    have i2 : (0 ≤ o.rt ∧ o.rt ≤ 2147483647) ∧ (0 ≤ o.rs ∧ o.rs ≤ 16) := by
      rcases hh.2.1 with e | e
      · omega
      · have := isR_full e; simp only at this; omega
    exact ⟨hh.1.1.2, i1.1, i2.1, i2.2, List.eq_nil_of_length_eq_zero ha.1, ha.2⟩
  · have n1 : ¬ o.kind = 1 := by omega
    unfold holdO at hh
    unfold aloneO at ha
    rw [if_neg n1, if_pos h2] at hh ha
    simp only [Bool.and_eq_true, decide_eq_true_eq] at ha
    obtain ⟨b0, b1, b2, b3, b4⟩ := bareO_iff ha.1
    unfold delO at hh
    simp only [Bool.and_eq_true, decide_eq_true_eq] at hh
    exact ⟨b0, b1, b2, b3, b4, ha.2, hh.1.2, chkA_all o.gone [] hh.2⟩
  · have n1 : ¬ o.kind = 1 := by omega
    have n2 : ¬ o.kind = 2 := by omega
    unfold holdO at hh
    unfold aloneO at ha
    rw [if_neg n1, if_neg n2, if_pos h3] at hh ha
    simp only [Bool.and_eq_true, decide_eq_true_eq] at ha
    obtain ⟨b0, b1, b2, b3, b4⟩ := bareO_iff ha.1
    unfold isT at hh
    simp at hh
    exact ⟨b0, b1, b2, b3, b4, List.eq_nil_of_length_eq_zero ha.2, hh.1, hh.2⟩
  · have n1 : ¬ o.kind = 1 := by omega
    have n2 : ¬ o.kind = 2 := by omega
    have n3 : ¬ o.kind = 3 := by omega
    unfold aloneO at ha
    rw [if_neg n1, if_neg n2, if_neg n3] at ha
    simp only [Bool.and_eq_true, decide_eq_true_eq] at ha
    obtain ⟨b0, b1, b2, b3, b4⟩ := bareO_iff ha.1.1
    exact ⟨b0, b1, b2, b3, b4, List.eq_nil_of_length_eq_zero ha.1.2, ha.2⟩

theorem wTxt_pos (L : List Nat) (t : ByteArray) : wTxt (L, 0) t = (L ++ num t.size ++ sB t, 0) := by
  unfold wTxt
  simp
theorem putO_ob {o : Opn} (h : okO o = true) (L : List Nat) : putO (L, 0) o = (L ++ ob o, 0) := by
  have k := OkN.of h
  have hd := chkF_pos o.deps 0 k.deps
  unfold putO
  rw [if_pos h]
  unfold putH
  rw [vec_of_chk k.deps, wNum_pos L (by rcases k.kind with e | e | e | e <;> omega), wNum_pos _ (by have := k.ds; omega), wNum_pos _ (by have := k.dq; omega), putV_pb _ _ hd]
  unfold putK ob kb
  rcases k.kind with e | e | e | e
  · obtain ⟨_, i1, i2, i3, _⟩ := k.ins e
    rw [if_pos e, if_pos e, wNum_pos _ (by omega), wNum_pos _ (by omega), wNum_pos _ (by omega), wTxt_pos]
    simp [List.append_assoc]
  · obtain ⟨_, _, _, _, _, _, _, i⟩ := k.del e
    rw [if_neg (by omega), if_pos e, if_neg (by omega), if_pos e, wNum_pos _ (by omega), putG_gb _ _ (fun r hr => by have := isR_full (i r hr); omega)]
    simp [List.append_assoc]
  · obtain ⟨_, _, _, _, _, _, i, _⟩ := k.join e
    rw [if_neg (by omega), if_neg (by omega), if_pos e, if_neg (by omega), if_neg (by omega), if_pos e, wNum_pos _ (by omega)]
    simp [List.append_assoc]
  · rw [if_neg (by omega), if_neg (by omega), if_neg (by omega), if_neg (by omega), if_neg (by omega), if_neg (by omega)]
    simp [List.append_assoc]
theorem encL_ob {o : Opn} (h : okO o = true) : encL o = ob o := by
  unfold encL
  rw [if_pos h, putO_ob h]
  simp

end Go.Proofs.YtbnhfbdfjnigoaaGreat

/-
  Operations as bytes: what was laid is taken again, what is taken is laid again. Pure.
-/
set_option linter.unusedSimpArgs false
set_option linter.unusedVariables false
namespace Go.Proofs.YtbnhfbdfjnigoaaGreat
open Go.RowKit Go.Lib

theorem rn0_num {n : Nat} (h : n < 9223372036854775808) (rest : List Nat) : rn0 (num n ++ rest) 0 = (0, n, (num n).length) := by
  have e := tnL_num 10 n 0 0 rest (by have : (128 : Nat) ^ 11 = 151115727451828646838272 := by decide
                                      omega) (by omega) (by have : (128 : Nat) ^ 9 = 9223372036854775808 := by decide
                                                            show n < 128 ^ 9
                                                            omega) (.inr rfl)
  unfold rn0
  rw [if_neg (by simp)]
  unfold tn num
  rw [e]
  simp
theorem rTxt_text (t : ByteArray) (h : t.size < 9223372036854775808) (rest : List Nat) : rTxt (num t.size ++ (sB t ++ rest)) 0 = (t, rest, 0) := by
  unfold rTxt
  rw [rn0_num h]
  simp only
  rw [if_neg (by simp), if_neg (by simp [sB_len])]
  have e1 : (num t.size ++ (sB t ++ rest)).drop (num t.size).length = sB t ++ rest := List.drop_left
  have e2 : (sB t ++ rest).take t.size = sB t := by rw [← sB_len t]; exact List.take_left
  have e3 : (num t.size ++ (sB t ++ rest)).drop ((num t.size).length + t.size) = rest := by
    rw [← List.drop_drop, e1, ← sB_len t]; exact List.drop_left
  rw [e1, e2, e3, txt_sB]
theorem tk3_num {a b c : Nat} (ha : a < 9223372036854775808) (hb : b < 9223372036854775808) (hc : c < 9223372036854775808) (rest : List Nat) : tk3 (num a ++ (num b ++ (num c ++ rest)), 0) = (((((a : Int), (b : Int)), (c : Int)), 0), (rest, 0)) := by
  rcases tk3_ways (st := (num a ++ (num b ++ (num c ++ rest)), 0)) (s1 := (num b ++ (num c ++ rest), 0)) (s2 := (num c ++ rest, 0)) (s3 := (rest, 0)) (rNum_num ha _) (rNum_num hb _) (rNum_num hc _) with ⟨k, _⟩ | ⟨_, k, _⟩ | ⟨_, _, e⟩
  · exact absurd rfl k
  · exact absurd rfl k
  · exact e
theorem tkG_gb : ∀ (g acc : List ((Int × Int) × Int)) (rest : List Nat), (∀ r ∈ g, isR r = true) → tkG g.length acc (gb g ++ rest, 0) = ((acc ++ g, 0), (rest, 0))
  | [], acc, rest, _ => by simp [tkG, gb]
  | r :: g, acc, rest, h => by
    obtain ⟨⟨x, y⟩, z⟩ := r
    have hr := isR_full (h ((x, y), z) (by simp))
    simp only at hr
    obtain ⟨a, rfl⟩ : ∃ a : Nat, x = (a : Int) := ⟨x.toNat, by omega⟩
    obtain ⟨b, rfl⟩ : ∃ b : Nat, y = (b : Int) := ⟨y.toNat, by omega⟩
    obtain ⟨c, rfl⟩ : ∃ c : Nat, z = (c : Int) := ⟨z.toNat, by omega⟩
    have e : gb ((((a : Int), (b : Int)), (c : Int)) :: g) ++ rest = num a ++ (num b ++ (num c ++ (gb g ++ rest))) := by simp [gb, List.append_assoc]
    have e3 := tk3_num (a := a) (b := b) (c := c) (by omega) (by omega) (by omega) (gb g ++ rest)
    rw [e, List.length_cons, tkG_good (by rw [e3]), e3]
    simp only
    rw [tkG_gb g _ rest (fun q hq => h q (by simp [hq]))]
    simp

theorem takeO_back {o : Opn} (h : okO o = true) (ht : o.text.size < 9223372036854775808) (rest : List Nat) : takeO (ob o ++ rest, 0) = ((o, 0), (rest, 0)) := by
  have k := OkN.of h
  have hv := takeV_back (sy_good o.deps) (kb o ++ rest)
  rw [vec_of_chk k.deps] at hv
  have e0 : ob o ++ rest = num o.kind.toNat ++ (num o.ds.toNat ++ (num o.dq.toNat ++ (num o.deps.length ++ pb o.deps ++ (kb o ++ rest)))) := by unfold ob; simp [List.append_assoc]
  have hk := k.kind
  have hds := k.ds
  have hdq := k.dq
  rw [e0]
  rcases takeO_ways (st := (num o.kind.toNat ++ (num o.ds.toNat ++ (num o.dq.toNat ++ (num o.deps.length ++ pb o.deps ++ (kb o ++ rest)))), 0)) (s1 := (num o.ds.toNat ++ (num o.dq.toNat ++ (num o.deps.length ++ pb o.deps ++ (kb o ++ rest))), 0)) (s2 := (num o.dq.toNat ++ (num o.deps.length ++ pb o.deps ++ (kb o ++ rest)), 0)) (s3 := (num o.deps.length ++ pb o.deps ++ (kb o ++ rest), 0)) (s4 := (kb o ++ rest, 0)) (d := o.deps) (e := 0)
    (rNum_num (n := o.kind.toNat) (by omega) _) (rNum_num (n := o.ds.toNat) (by omega) _) (rNum_num (n := o.dq.toNat) (by omega) _) hv with ⟨q, _⟩ | ⟨_, q, _⟩ | ⟨_, _, q, _⟩ | ⟨_, _, _, q, _⟩ | ⟨_, _, _, _, q, _⟩ | ⟨_, _, _, _, _, e⟩
  · exact absurd rfl q
  · omega
  · exact absurd rfl q
  · exact absurd rfl q
  · exact absurd rfl q
  rw [e]
  unfold takeK
  have fin : ∀ (p : Opn) (s : List Nat × Int), p = o → finO p s = ((o, 0), s) := by rintro p s rfl; unfold finO; rw [if_pos h]
  have cds : ((o.ds.toNat : Nat) : Int) = o.ds := by omega
  have cdq : ((o.dq.toNat : Nat) : Int) = o.dq := by omega
  rcases hk with e | e | e | e
  · obtain ⟨i0, i1, i2, i3, i4, i5⟩ := k.ins e
    have ekb : kb o = num o.it.toNat ++ (num o.rt.toNat ++ (num o.rs.toNat ++ (num o.text.size ++ sB o.text))) := by unfold kb; rw [if_pos e]
    rw [if_pos (by omega), ekb]
    have e3 := tk3_num (a := o.it.toNat) (b := o.rt.toNat) (c := o.rs.toNat) (by omega) (by omega) (by omega) (num o.text.size ++ (sB o.text ++ rest))
    have eI : tkI (num o.it.toNat ++ (num o.rt.toNat ++ (num o.rs.toNat ++ (num o.text.size ++ sB o.text))) ++ rest, 0) = ((((((o.it.toNat : Int), (o.rt.toNat : Int)), (o.rs.toNat : Int)), o.text), 0), (rest, 0)) := by
      unfold tkI
      rw [show num o.it.toNat ++ (num o.rt.toNat ++ (num o.rs.toNat ++ (num o.text.size ++ sB o.text))) ++ rest = num o.it.toNat ++ (num o.rt.toNat ++ (num o.rs.toNat ++ (num o.text.size ++ (sB o.text ++ rest)))) by simp [List.append_assoc], e3]
      simp only
      rw [if_neg (by simp), rTxt_text _ ht]
    rw [eI]
    simp only
    rw [if_neg (by simp)]
    refine fin _ _ ?_
    obtain ⟨ds, dq, deps, kind, it, is, rt, rs, text, gone, site⟩ := o
    simp only at *
    simp only [Opn.mk.injEq, true_and, and_true]
    refine ⟨by omega, by omega, by omega, by omega, by omega, by omega, by omega, i4.symm, by omega⟩
  · obtain ⟨b0, b1, b2, b3, b4, b5, b6, b7⟩ := k.del e
    have ekb : kb o = num o.gone.length ++ gb o.gone := by unfold kb; rw [if_neg (by omega), if_pos e]
    rw [if_neg (by omega), if_pos (by omega), ekb]
    have eD : tkD (num o.gone.length ++ gb o.gone ++ rest, 0) = ((o.gone, 0), (rest, 0)) := by
      unfold tkD
      rw [List.append_assoc, rNum_num (by omega)]
      simp only
      rw [if_neg (by simp), if_neg (by omega), tkG_gb o.gone [] rest b7]
      simp
    rw [eD]
    simp only
    rw [if_neg (by simp)]
    refine fin _ _ ?_
    obtain ⟨ds, dq, deps, kind, it, is, rt, rs, text, gone, site⟩ := o
    simp only at *
    simp only [Opn.mk.injEq, true_and, and_true]
    refine ⟨by omega, by omega, by omega, by omega, by omega, by omega, by omega, b4.symm, by omega⟩
  · obtain ⟨b0, b1, b2, b3, b4, b5, b6, b7⟩ := k.join e
    have ekb : kb o = num o.site.toNat := by unfold kb; rw [if_neg (by omega), if_neg (by omega), if_pos e]
    rw [if_neg (by omega), if_neg (by omega), if_pos (by omega), ekb, rNum_num (by omega)]
    simp only
    rw [if_neg (by simp)]
    refine fin _ _ ?_
    obtain ⟨ds, dq, deps, kind, it, is, rt, rs, text, gone, site⟩ := o
    simp only at *
    simp only [Opn.mk.injEq, true_and, and_true]
    refine ⟨by omega, by omega, by omega, by omega, by omega, by omega, by omega, b4.symm, b5.symm, by omega⟩
  · obtain ⟨b0, b1, b2, b3, b4, b5, b6⟩ := k.leave e
    have ekb : kb o = [] := by unfold kb; rw [if_neg (by omega), if_neg (by omega), if_neg (by omega)]
    rw [if_neg (by omega), if_neg (by omega), if_neg (by omega), ekb, List.nil_append]
    refine fin _ _ ?_
    obtain ⟨ds, dq, deps, kind, it, is, rt, rs, text, gone, site⟩ := o
    simp only at *
    simp only [Opn.mk.injEq, true_and, and_true]
    refine ⟨by omega, by omega, by omega, by omega, by omega, by omega, by omega, b4.symm, b5.symm, by omega⟩

theorem decO_back {o : Opn} (h : okO o = true) (ht : o.text.size < 9223372036854775808) : decO (ob o) = (o, 0) := by
  have e := takeO_back h ht []
  rw [List.append_nil] at e
  unfold decO
  rw [e]
  simp [rEnd]
/-- no one's bytes are the beginning of another's -/
theorem ob_prefix {o x : Opn} (h : okO o = true) (k : okO x = true) (ht : o.text.size < 9223372036854775808) (kt : x.text.size < 9223372036854775808) {rest : List Nat} (e : ob x = ob o ++ rest) : o = x ∧ rest = [] := by
  have e1 := takeO_back h ht rest
  have e2 := takeO_back k kt []
  rw [List.append_nil, e, e1] at e2
  simp only [Prod.mk.injEq, and_true] at e2
  exact e2

end Go.Proofs.YtbnhfbdfjnigoaaGreat

/-
  Operations as bytes: what is taken is laid again as it was. Pure.
-/
set_option linter.unusedSimpArgs false
set_option linter.unusedVariables false
namespace Go.Proofs.YtbnhfbdfjnigoaaGreat
open Go.RowKit Go.Lib

theorem rn0_back {l : List Nat} (hb : ∀ b ∈ l, b < 256) (h : (rn0 l 0).1 = 0) : (rn0 l 0).2.2 = (num (rn0 l 0).2.1).length ∧ l = num (rn0 l 0).2.1 ++ l.drop (rn0 l 0).2.2 := by
  have e := rNum_back hb (show (rNum l 0).2.2 = 0 from h)
  have e2 : l = num (rn0 l 0).2.1 ++ l.drop (rn0 l 0).2.2 := e
  refine ⟨?_, e2⟩
  have hl := congrArg List.length e2
  have hw := rn0_width l 0
  simp at hl
  omega
theorem rTxt_form {l rest : List Nat} {t : ByteArray} {e : Int} (hb : ∀ b ∈ l, b < 256) (h : rTxt l 0 = (t, rest, 0)) : l = num t.size ++ (sB t ++ rest) := by
  unfold rTxt at h
  by_cases h1 : (rn0 l 0).1 = 0
  · rw [if_neg (by simpa using h1)] at h
    split at h
    · simp at h
    · rename_i h2
      obtain ⟨k1, k2⟩ := rn0_back hb h1
      generalize hV : (rn0 l 0).2.1 = V at *
      generalize hW : (rn0 l 0).2.2 = W at *
      simp only [Prod.mk.injEq, and_true] at h
      obtain ⟨rfl, rfl⟩ := h
      have hlen : ((l.drop W).take V).length = V := by
        rw [List.length_take, List.length_drop]
        omega
      rw [txt_size, hlen, sB_txt _ (fun b hb' => hb b (List.mem_of_mem_drop (List.mem_of_mem_take hb')))]
      rw [← List.drop_drop, List.take_append_drop]
      exact k2
  · rw [if_pos h1] at h
    simp only [Prod.mk.injEq] at h
    exact absurd h.2.2 h1
theorem tk3_form {l rest : List Nat} {r : (Int × Int) × Int} {e : Int} (hb : ∀ b ∈ l, b < 256) (h : tk3 (l, 0) = ((r, 0), (rest, e))) : l = num r.1.1.toNat ++ (num r.1.2.toNat ++ (num r.2.toNat ++ rest)) ∧ e = 0 ∧ (0 ≤ r.1.1 ∧ 0 ≤ r.1.2 ∧ 0 ≤ r.2) := by
  obtain ⟨a, s1, e1⟩ : ∃ a s1, rNum l 0 = (a, s1) := ⟨_, _, rfl⟩
  obtain ⟨b, s2, e2⟩ : ∃ b s2, rNum s1.1 s1.2 = (b, s2) := ⟨_, _, rfl⟩
  obtain ⟨c, s3, e3⟩ : ∃ c s3, rNum s2.1 s2.2 = (c, s3) := ⟨_, _, rfl⟩
  rcases tk3_ways (st := (l, 0)) e1 e2 e3 with ⟨k, q⟩ | ⟨_, k, q⟩ | ⟨k1, k2, q⟩
  · rw [q] at h; simp only [Prod.mk.injEq] at h; exact absurd h.1.2 k
  · rw [q] at h; simp only [Prod.mk.injEq] at h; exact absurd h.1.2 k
  · rw [q] at h
    simp only [Prod.mk.injEq] at h
    obtain ⟨⟨rfl, k3⟩, h2⟩ := h
    have f1 := rNum_back hb (show (rNum l 0).2.2 = 0 by rw [e1]; exact k1)
    rw [e1] at f1
    simp only at f1
    have hb1 : ∀ x ∈ s1.1, x < 256 := fun x hx => hb x (by rw [f1]; simp [hx])
    rw [k1] at e2
    have f2 := rNum_back hb1 (show (rNum s1.1 0).2.2 = 0 by rw [e2]; exact k2)
    rw [e2] at f2
    simp only at f2
    have hb2 : ∀ x ∈ s2.1, x < 256 := fun x hx => hb1 x (by rw [f2]; simp [hx])
    rw [k2] at e3
    have f3 := rNum_back hb2 (show (rNum s2.1 0).2.2 = 0 by rw [e3]; exact k3)
    rw [e3] at f3
    simp only at f3
    refine ⟨?_, ?_, Int.natCast_nonneg _, Int.natCast_nonneg _, Int.natCast_nonneg _⟩
    · rw [show s3.1 = rest by rw [h2]] at f3
      simp only [Int.toNat_natCast]
      rw [← f3, ← f2]
      exact f1
    · rw [h2] at k3; exact k3
theorem tkG_form : ∀ (n : Nat) (acc : List ((Int × Int) × Int)) (l : List Nat) (R : List ((Int × Int) × Int)) (rest : List Nat) (e : Int), (∀ b ∈ l, b < 256) → tkG n acc (l, 0) = ((R, 0), (rest, e)) → ∃ d, R = acc ++ d ∧ d.length = n ∧ l = gb d ++ rest ∧ e = 0
  | 0, acc, l, R, rest, e, hb, h => by
    simp only [tkG, Prod.mk.injEq, and_true] at h
    obtain ⟨rfl, rfl, rfl⟩ := h
    exact ⟨[], by simp, rfl, by simp [gb], rfl⟩
  | n + 1, acc, l, R, rest, e, hb, h => by
    obtain ⟨⟨⟨r, er⟩, l2, e2⟩, hT⟩ : ∃ T, tk3 (l, 0) = T := ⟨_, rfl⟩
    by_cases he : er = 0
    · subst he
      obtain ⟨q1, rfl, _⟩ := tk3_form hb hT
      rw [tkG_good (by rw [hT]), hT] at h
      simp only at h
      obtain ⟨d, s1, s2, s3, s4⟩ := tkG_form n _ l2 R rest e (fun x hx => hb x (by rw [q1]; simp [hx])) h
      refine ⟨r :: d, by rw [s1]; simp, by simp [s2], ?_, s4⟩
      rw [q1, s3]
      simp [gb, List.append_assoc]
    · rw [tkG_bad (by rw [hT]; exact he), hT] at h
      simp only [Prod.mk.injEq] at h
      exact absurd h.1.2 he
theorem finO_ok {p o : Opn} {s : List Nat × Int} {rest : List Nat} {e : Int} (h : finO p s = ((o, 0), (rest, e))) : p = o ∧ okO o = true ∧ s = (rest, e) := by
  unfold finO at h
  split at h
  · rename_i hk
    simp only [Prod.mk.injEq, and_true] at h
    exact ⟨h.1, by rw [← h.1]; exact hk, h.2⟩
  · simp at h

theorem takeO_form {l rest : List Nat} {o : Opn} {e : Int} (hb : ∀ b ∈ l, b < 256) (h : takeO (l, 0) = ((o, 0), (rest, e))) : okO o = true ∧ l = ob o ++ rest ∧ e = 0 := by
  obtain ⟨n, s1, e1⟩ : ∃ n s1, rNum l 0 = (n, s1) := ⟨_, _, rfl⟩
  obtain ⟨a, s2, e2⟩ : ∃ a s2, rNum s1.1 s1.2 = (a, s2) := ⟨_, _, rfl⟩
  obtain ⟨b, s3, e3⟩ : ∃ b s3, rNum s2.1 s2.2 = (b, s3) := ⟨_, _, rfl⟩
  obtain ⟨d, ed, s4, e4⟩ : ∃ d ed s4, takeV s3 = ((d, ed), s4) := ⟨_, _, _, rfl⟩
  rcases takeO_ways (st := (l, 0)) e1 e2 e3 e4 with ⟨k, q⟩ | ⟨_, k, q⟩ | ⟨_, _, k, q⟩ | ⟨_, _, _, k, q⟩ | ⟨_, _, _, _, k, q⟩ | ⟨k1, kn, k2, k3, k4, q⟩
  · rw [q] at h; simp only [Prod.mk.injEq] at h; exact absurd h.1.2 k
  · rw [q] at h; simp at h
  · rw [q] at h; simp only [Prod.mk.injEq] at h; exact absurd h.1.2 k
  · rw [q] at h; simp only [Prod.mk.injEq] at h; exact absurd h.1.2 k
  · rw [q] at h; simp only [Prod.mk.injEq] at h; exact absurd h.1.2 k
  rw [q] at h
  have f1 := rNum_back hb (show (rNum l 0).2.2 = 0 by rw [e1]; exact k1)
  rw [e1] at f1
  simp only at f1
  have hb1 : ∀ x ∈ s1.1, x < 256 := fun x hx => hb x (by rw [f1]; simp [hx])
  rw [k1] at e2
  have f2 := rNum_back hb1 (show (rNum s1.1 0).2.2 = 0 by rw [e2]; exact k2)
  rw [e2] at f2
  simp only at f2
  have hb2 : ∀ x ∈ s2.1, x < 256 := fun x hx => hb1 x (by rw [f2]; simp [hx])
  rw [k2] at e3
  have f3 := rNum_back hb2 (show (rNum s2.1 0).2.2 = 0 by rw [e3]; exact k3)
  rw [e3] at f3
  simp only at f3
  have hb3 : ∀ x ∈ s3.1, x < 256 := fun x hx => hb2 x (by rw [f3]; simp [hx])
  obtain ⟨l3, x3⟩ := s3
  obtain ⟨l4, x4⟩ := s4
  simp only at *
  subst k3 k4
  obtain ⟨f4, rfl, _⟩ := takeV_form hb3 e4
  have hb4 : ∀ x ∈ l4, x < 256 := fun x hx => hb3 x (by rw [f4]; simp [hx])
  have hl : l = num n ++ (num a ++ (num b ++ (num d.length ++ pb d ++ l4))) := by rw [← f4, ← f3, ← f2]; exact f1
  unfold takeK at h
  have hn : n = 1 ∨ n = 2 ∨ n = 3 ∨ n = 4 := by omega
  rcases hn with rfl | rfl | rfl | rfl
  · rw [if_pos rfl] at h
    obtain ⟨⟨⟨T, tx⟩, ei⟩, l5, x5, hI⟩ : ∃ (q : (((Int × Int) × Int) × ByteArray) × Int) (l5 : List Nat) (x5 : Int), tkI (l4, 0) = (q, (l5, x5)) := ⟨_, _, _, rfl⟩
    rw [hI] at h
    simp only at h
    by_cases he : ei = 0
    · subst he
      rw [if_neg (by simp)] at h
      obtain ⟨rfl, hok, hs⟩ := finO_ok h
      simp only [Prod.mk.injEq] at hs
      obtain ⟨rfl, rfl⟩ := hs
      unfold tkI at hI
      by_cases ht : (tk3 (l4, 0)).1.2 = 0
      · rw [if_neg (by simpa using ht)] at hI
        obtain ⟨⟨⟨r, er⟩, l6, x6⟩, hT⟩ : ∃ T, tk3 (l4, 0) = T := ⟨_, rfl⟩
        rw [hT] at hI ht
        simp only at hI ht
        subst ht
        obtain ⟨g1, rfl, g2⟩ := tk3_form hb4 hT
        simp only [Prod.mk.injEq] at hI
        obtain ⟨⟨⟨rfl, h5⟩, h6⟩, h7⟩ := hI
        have hx : x5 = 0 := by
          have := congrArg Prod.snd h7
          simp only at this
          rw [← this]; exact h6
        subst hx
        have g3 := rTxt_form (e := 0) (fun x hx => hb4 x (by rw [g1]; simp [hx])) (show rTxt l6 0 = (tx, l5, 0) from Prod.ext h5 h7)
        refine ⟨hok, ?_, rfl⟩
        rw [hl, g1, g3]
        unfold ob kb
        simp [List.append_assoc]
      · rw [if_pos ht] at hI
        simp only [Prod.mk.injEq] at hI
        exact absurd hI.1.2 ht
    · rw [if_pos he] at h
      simp only [Prod.mk.injEq] at h
      exact absurd h.1.2 he
  · rw [if_neg (by decide), if_pos rfl] at h
    obtain ⟨⟨G, ei⟩, l5, x5, hI⟩ : ∃ (q : List ((Int × Int) × Int) × Int) (l5 : List Nat) (x5 : Int), tkD (l4, 0) = (q, (l5, x5)) := ⟨_, _, _, rfl⟩
    rw [hI] at h
    simp only at h
    by_cases he : ei = 0
    · subst he
      rw [if_neg (by simp)] at h
      obtain ⟨rfl, hok, hs⟩ := finO_ok h
      simp only [Prod.mk.injEq] at hs
      obtain ⟨rfl, rfl⟩ := hs
      unfold tkD at hI
      obtain ⟨m, s5, e5⟩ : ∃ m s5, rNum l4 0 = (m, s5) := ⟨_, _, rfl⟩
      rw [e5] at hI
      simp only at hI
      by_cases ht : s5.2 = 0
      · rw [if_neg (by simpa using ht)] at hI
        by_cases hm : 1024 < m
        · rw [if_pos hm] at hI; simp at hI
        · rw [if_neg hm] at hI
          have g0 := rNum_back hb4 (show (rNum l4 0).2.2 = 0 by rw [e5]; exact ht)
          rw [e5] at g0
          simp only at g0
          obtain ⟨l6, x6⟩ := s5
          simp only at *
          subst ht
          obtain ⟨dd, t1, t2, t3, t4⟩ := tkG_form m [] l6 G l5 x5 (fun x hx => hb4 x (by rw [g0]; simp [hx])) hI
          rw [List.nil_append] at t1
          subst t1 t4
          refine ⟨hok, ?_, rfl⟩
          rw [hl, g0, t3, ← t2]
          unfold ob kb
          simp [List.append_assoc]
      · rw [if_pos ht] at hI
        simp only [Prod.mk.injEq] at hI
        exact absurd hI.1.2 ht
    · rw [if_pos he] at h
      simp only [Prod.mk.injEq] at h
      exact absurd h.1.2 he
  · rw [if_neg (by decide), if_neg (by decide), if_pos rfl] at h
    obtain ⟨m, l5, x5, e5⟩ : ∃ (m : Nat) (l5 : List Nat) (x5 : Int), rNum l4 0 = (m, (l5, x5)) := ⟨_, _, _, rfl⟩
    rw [e5] at h
    simp only at h
    by_cases he : x5 = 0
    · subst he
      rw [if_neg (by simp)] at h
      obtain ⟨rfl, hok, hs⟩ := finO_ok h
      simp only [Prod.mk.injEq] at hs
      obtain ⟨rfl, rfl⟩ := hs
      have g0 := rNum_back hb4 (show (rNum l4 0).2.2 = 0 by rw [e5])
      rw [e5] at g0
      simp only at g0
      refine ⟨hok, ?_, rfl⟩
      rw [hl, g0]
      unfold ob kb
      simp [List.append_assoc]
    · rw [if_pos he] at h
      simp only [Prod.mk.injEq] at h
      exact absurd h.1.2 he
  · rw [if_neg (by decide), if_neg (by decide), if_neg (by decide)] at h
    obtain ⟨rfl, hok, hs⟩ := finO_ok h
    simp only [Prod.mk.injEq] at hs
    obtain ⟨rfl, rfl⟩ := hs
    refine ⟨hok, ?_, rfl⟩
    rw [hl]
    unfold ob kb
    simp [List.append_assoc]

theorem decO_form {l : List Nat} (hb : ∀ b ∈ l, b < 256) (h : (decO l).2 = 0) : okO (decO l).1 = true ∧ l = ob (decO l).1 := by
  obtain ⟨⟨⟨o, er⟩, l2, e2⟩, hT⟩ : ∃ T, takeO (l, 0) = T := ⟨_, rfl⟩
  unfold decO at h ⊢
  rw [hT] at h ⊢
  simp only at h ⊢
  by_cases he : er = 0
  · subst he
    rw [if_neg (by simp)] at h ⊢
    obtain ⟨hok, hl, rfl⟩ := takeO_form hb hT
    by_cases hE : rEnd l2 0 = 0
    · rw [if_neg (by simpa using hE)]
      unfold rEnd at hE
      by_cases h0 : 0 < l2.length
      · rw [if_pos ⟨rfl, h0⟩] at hE; simp at hE
      · have : l2 = [] := List.eq_nil_of_length_eq_zero (by omega)
        rw [this, List.append_nil] at hl
        exact ⟨hok, hl⟩
    · rw [if_pos hE] at h
      exact absurd h hE
  · rw [if_pos he] at h
    exact absurd h he
theorem decO_zero (l : List Nat) (h : (decO l).2 ≠ 0) : (decO l).1 = zO := by
  unfold decO at h ⊢
  split
  · rfl
  · rename_i h1
    rw [if_neg h1] at h
    split
    · rfl
    · rename_i h2
      rw [if_neg h2] at h
      exact absurd rfl h

end Go.Proofs.YtbnhfbdfjnigoaaGreat
