/-
  Numbers and vectors as bytes, laid and taken again. Pure.
-/
import Derived.Test.YtfkdpkckbmbmdaaGreatZV7
import Derived.Test.YtfkdpkckbmbmdaaGreatZXP7

set_option linter.unusedSimpArgs false
set_option linter.unusedVariables false
namespace Go.Proofs.YtfkdpkckbmbmdaaGreat
open Go.RowKit Go.Lib

theorem tnL_num : ∀ (f n i s : Nat) (rest : List Nat), n < 128 ^ (f + 1) → i ≤ 8 → n < 128 ^ (9 - i) → (n ≠ 0 ∨ i = 0) → tnL i s (numF f n ++ rest) = (0, s + n * 128 ^ i, i + (numF f n).length)
  | 0, n, i, s, rest, h, hi, hn, h0 => by
    simp only [Nat.zero_add, Nat.pow_one] at h
    rw [numF, List.cons_append, tnL, if_pos h, if_neg (by rintro ⟨rfl, h1⟩; rcases h0 with h2 | h2 <;> omega), Nat.mod_eq_of_lt h]
    rfl
  | f + 1, n, i, s, rest, h, hi, hn, h0 => by
    rw [numF]
    by_cases h1 : n < 128
    · rw [if_pos h1, List.cons_append, tnL, if_pos h1, if_neg (by rintro ⟨rfl, h1⟩; rcases h0 with h2 | h2 <;> omega), Nat.mod_eq_of_lt h1]
      rfl
    · have hi8 : i ≠ 8 := fun e => by subst e; simp at hn; omega
      rw [if_neg h1, List.cons_append, tnL, if_neg (by omega), if_neg hi8]
      have e1 : (n % 128 + 128) % 128 = n % 128 := by omega
      rw [e1, tnL_num f (n / 128) (i + 1) _ rest (Nat.div_lt_of_lt_mul (by rw [Nat.mul_comm, ← Nat.pow_succ]; exact h)) (by omega) (Nat.div_lt_of_lt_mul (by rw [Nat.mul_comm, ← Nat.pow_succ, show (9 - (i + 1)).succ = 9 - i by omega]; exact hn)) (.inl (by omega))]
      have e2 : s + n % 128 * 128 ^ i + n / 128 * 128 ^ (i + 1) = s + n * 128 ^ i := by
        rw [Nat.pow_succ, Nat.mul_comm (128 ^ i) 128, ← Nat.mul_assoc, Nat.add_assoc, ← Nat.add_mul]
        congr 2
        omega
      rw [e2, List.length_cons]
      congr 2
      omega
theorem rNum_num {n : Nat} (h : n < 9223372036854775808) (rest : List Nat) : rNum (num n ++ rest) 0 = (n, rest, 0) := by
  have e := tnL_num 10 n 0 0 rest (by have : (128 : Nat) ^ 11 = 151115727451828646838272 := by decide
                                      omega) (by omega) (by have : (128 : Nat) ^ 9 = 9223372036854775808 := by decide
                                                            show n < 128 ^ 9
                                                            omega) (.inr rfl)
  unfold rNum rn0
  rw [if_neg (by simp)]
  unfold tn num
  rw [e]
  simp

/-- what is laid of Dots, as bytes -/
def pb (d : List (Int × Int)) : List Nat := d.flatMap fun x => num x.1.toNat ++ num x.2.toNat
theorem wNum_pos (L : List Nat) {n : Int} (h : 0 ≤ n) : wNum (L, 0) n = (L ++ num n.toNat, 0) := by
  unfold wNum
  rw [if_neg (by simp), if_neg (by omega)]
theorem putS_pb : ∀ (d : List (Int × Int)) (L : List Nat), (∀ x ∈ d, 0 ≤ x.1 ∧ 0 ≤ x.2) → putS (L, 0) d = (L ++ pb d, 0)
  | [], L, _ => by simp [putS, pb]
  | x :: d, L, h => by
    have hx := h x (by simp)
    show putS (wNum (wNum (L, 0) x.1) x.2) d = _
    rw [wNum_pos L hx.1, wNum_pos _ hx.2, putS_pb d _ (fun y hy => h y (by simp [hy]))]
    simp [pb, List.append_assoc]
theorem putV_pb (d : List (Int × Int)) (L : List Nat) (h : ∀ x ∈ d, 0 ≤ x.1 ∧ 0 ≤ x.2) : putV (L, 0) d = (L ++ num d.length ++ pb d, 0) := by
  unfold putV
  rw [wNum_pos L (by omega), putS_pb d _ h]
  simp
theorem tkN_num {n : Nat} (rest : List Nat) {least most : Int} (h1 : least ≤ (n : Int)) (h2 : (n : Int) ≤ most) (h3 : n < 9223372036854775808) : tkN (num n ++ rest, 0) least most = ((n, 0), (rest, 0)) := by
  unfold tkN
  simp only
  rw [rNum_num h3]
  simp only
  rw [if_neg (by simp), if_neg (by omega)]

theorem tkL_pb : ∀ (d acc : List (Int × Int)) (site : Int) (rest : List Nat), 0 ≤ site → chkF site d = 0 → tkL d.length site acc (pb d ++ rest, 0) = ((acc ++ d, 0), (rest, 0))
  | [], acc, site, rest, _, _ => by simp [tkL, pb]
  | x :: d, acc, site, rest, hs, h => by
    obtain ⟨x0, x1⟩ := x
    rw [chkF] at h
    by_cases h1 : 1 ≤ x0 ∧ x0 ≤ 16
    · rw [if_neg (by simpa using h1)] at h
      by_cases h2 : 1 ≤ x1 ∧ x1 ≤ 2147483647
      · rw [if_neg (by simpa using h2)] at h
        by_cases h3 : x0 ≤ site
        · rw [if_pos h3] at h; simp at h
        · rw [if_neg h3] at h
          obtain ⟨a, rfl⟩ : ∃ a : Nat, x0 = (a : Int) := ⟨x0.toNat, by omega⟩
          obtain ⟨b, rfl⟩ : ∃ b : Nat, x1 = (b : Int) := ⟨x1.toNat, by omega⟩
          have e : pb (((a : Int), (b : Int)) :: d) ++ rest = num a ++ (num b ++ (pb d ++ rest)) := by simp [pb, List.append_assoc]
          rw [e, List.length_cons, tkL_good (tkN_num _ (by omega) (by omega) (by omega)) (tkN_num _ (by omega) (by omega) (by omega)), tkL_pb d _ _ rest (by omega) h]
          simp
      · rw [if_pos (by simpa using h2)] at h; simp at h
    · rw [if_pos (by simpa using h1)] at h; simp at h
/-- what was laid of a vector is taken again -/
theorem takeV_back {s : Nat → Int} (hg : Good s) (rest : List Nat) : takeV (num (vec s).length ++ pb (vec s) ++ rest, 0) = ((vec s, 0), (rest, 0)) := by
  have hl : (vec s).length ≤ 16 := by
    have h1 : vec s = vecN s 17 := rfl
    have : (vecN s 17).length ≤ 16 := by
      have h17 : ∀ k, (vecN s (k + 1)).length ≤ k := by
        intro k
        induction k with
        | zero => rw [vecN_neg (by rw [hg.zero]; omega)]; simp [vecN]
        | succ k ih => rw [vecN_step]; split <;> simp <;> omega
      exact h17 16
    rw [h1]; exact this
  have e := tkN_num (n := (vec s).length) (pb (vec s) ++ rest) (least := 0) (most := 16) (by omega) (by omega) (by omega)
  rw [List.append_assoc]
  unfold takeV
  rw [e]
  simp only
  rw [if_neg (by simp), tkL_pb (vec s) [] 0 rest (by omega) (chk_vec hg)]
  simp

end Go.Proofs.YtfkdpkckbmbmdaaGreat

/-
  What is taken is laid again as it was. Pure.
-/
set_option linter.unusedSimpArgs false
set_option linter.unusedVariables false
namespace Go.Proofs.YtfkdpkckbmbmdaaGreat
open Go.RowKit Go.Lib

theorem tnL_back : ∀ (l : List Nat) (i s V k : Nat), i ≤ 8 → (∀ b ∈ l, b < 256) → tnL i s l = (0, V, k) → ∃ m, V = s + m * 128 ^ i ∧ k = i + (num m).length ∧ l.take (num m).length = num m ∧ m < 128 ^ (9 - i) ∧ (m ≠ 0 ∨ i = 0)
  | [], i, s, V, k, _, _, h => by simp [tnL] at h
  | c :: l, i, s, V, k, hi, hb, h => by
    have hc := hb c (by simp)
    rw [tnL] at h
    by_cases h1 : c < 128
    · rw [if_pos h1] at h
      by_cases h2 : c = 0 ∧ 0 < i
      · rw [if_pos h2] at h; simp at h
      · rw [if_neg h2, Nat.mod_eq_of_lt h1] at h
        simp only [Prod.mk.injEq, true_and] at h
        refine ⟨c, h.1.symm, ?_, ?_, ?_, by omega⟩
        · rw [num_last c h1]; simp; omega
        · rw [num_last c h1]; simp
        · have h3 : 128 ^ 1 ≤ 128 ^ (9 - i) := Nat.pow_le_pow_right (by decide) (by omega)
          simp only [Nat.pow_one] at h3
          omega
    · rw [if_neg h1] at h
      by_cases h2 : i = 8
      · rw [if_pos h2] at h; simp at h
      · rw [if_neg h2] at h
        obtain ⟨m, e1, e2, e3, e4, e5⟩ := tnL_back l (i + 1) _ V k (by omega) (fun b hb' => hb b (by simp [hb'])) h
        have hm0 : m ≠ 0 := by rcases e5 with h | h; exact h; omega
        have hM : c % 128 + m * 128 < 128 ^ (9 - i) := by
          have h9 : 128 ^ (9 - i) = 128 ^ (9 - (i + 1)) * 128 := by rw [← Nat.pow_succ]; congr 1; omega
          rw [h9]
          have : (m + 1) * 128 ≤ 128 ^ (9 - (i + 1)) * 128 := Nat.mul_le_mul_right _ (by omega)
          omega
        have hM2 : c % 128 + m * 128 < 9223372036854775808 := by
          have h9 : (128 : Nat) ^ (9 - i) ≤ 128 ^ 9 := Nat.pow_le_pow_right (by decide) (by omega)
          have h10 : (128 : Nat) ^ 9 = 9223372036854775808 := by decide
          omega
        have hn : num (c % 128 + m * 128) = c :: num m := by
          rw [num_step _ hM2 (by omega), show (c % 128 + m * 128) % 128 + 128 = c by omega, show (c % 128 + m * 128) / 128 = m by omega]
        refine ⟨c % 128 + m * 128, ?_, ?_, ?_, hM, .inl (by omega)⟩
        · rw [e1, Nat.pow_succ, Nat.mul_comm (128 ^ i) 128, ← Nat.mul_assoc, Nat.add_assoc, ← Nat.add_mul]
        · rw [hn, List.length_cons]; omega
        · rw [hn, List.length_cons, List.take_succ_cons, e3]
theorem rNum_back {l : List Nat} (hb : ∀ b ∈ l, b < 256) (h : (rNum l 0).2.2 = 0) : l = num (rNum l 0).1 ++ (rNum l 0).2.1 := by
  have e : rn0 l 0 = tnL 0 0 l := by unfold rn0; rw [if_neg (by simp)]; rfl
  unfold rNum at h ⊢
  rw [e] at h ⊢
  simp only at h ⊢
  obtain ⟨E, V, k, hT⟩ : ∃ E V k, tnL 0 0 l = (E, V, k) := ⟨_, _, _, rfl⟩
  rw [hT] at h ⊢
  simp only at h ⊢
  subst h
  obtain ⟨m, e1, e2, e3, _⟩ := tnL_back l 0 0 V k (by omega) hb hT
  have hV : V = m := by rw [e1]; simp
  subst hV
  have hk : k = (num V).length := by omega
  rw [hk]
  conv => lhs; rw [← List.take_append_drop (num V).length l]
  rw [e3]
theorem tkN_back {l rest : List Nat} {least most e : Int} {n : Nat} (hb : ∀ b ∈ l, b < 256) (h : tkN (l, 0) least most = ((n, 0), (rest, e))) : l = num n ++ rest ∧ e = 0 ∧ least ≤ (n : Int) ∧ (n : Int) ≤ most := by
  have hk := tkN_ok (st := (l, 0)) (least := least) (most := most) (by rw [h])
  rw [h] at hk
  unfold tkN at h
  simp only at h
  by_cases h1 : (rNum l 0).2.2 = 0
  · rw [if_neg (by simpa using h1)] at h
    split at h
    · simp at h
    · simp only [Prod.mk.injEq, and_true] at h
      have hr := rNum_back hb h1
      refine ⟨?_, ?_, hk⟩
      · rw [← h.1, show rest = (rNum l 0).2.1 by rw [h.2]]
        exact hr
      · rw [h.2] at h1; exact h1
  · rw [if_pos h1] at h
    simp only [Prod.mk.injEq] at h
    exact absurd h.1.2 h1
theorem tkL_back : ∀ (n : Nat) (site : Int) (acc : List (Int × Int)) (l : List Nat) (R : List (Int × Int)) (rest : List Nat) (e : Int), (∀ b ∈ l, b < 256) → TkI acc site → tkL n site acc (l, 0) = ((R, 0), (rest, e)) → ∃ d, R = acc ++ d ∧ d.length = n ∧ l = pb d ++ rest ∧ e = 0 ∧ vec (sy R) = R
  | 0, site, acc, l, R, rest, e, hb, hI, h => by
    simp only [tkL, Prod.mk.injEq, and_true] at h
    obtain ⟨rfl, rfl, rfl⟩ := h
    exact ⟨[], by simp, rfl, by simp [pb], rfl, hI.same⟩
  | n + 1, site, acc, l, R, rest, e, hb, hI, h => by
    obtain ⟨⟨⟨a, ea⟩, st2⟩, hA⟩ : ∃ A, tkN (l, 0) (site + 1) 16 = A := ⟨_, rfl⟩
    by_cases hea : ea = 0
    · subst hea
      obtain ⟨l2, e2⟩ := st2
      obtain ⟨q1, q2, q3, q4⟩ := tkN_back hb hA
      subst q2
      have hb2 : ∀ x ∈ l2, x < 256 := fun x hx => hb x (by rw [q1]; simp [hx])
      obtain ⟨⟨⟨b, eb⟩, st3⟩, hB⟩ : ∃ B, tkN (l2, 0) 1 2147483647 = B := ⟨_, rfl⟩
      by_cases heb : eb = 0
      · subst heb
        obtain ⟨l3, e3⟩ := st3
        obtain ⟨r1, r2, r3, r4⟩ := tkN_back hb2 hB
        subst r2
        rw [tkL_good hA hB] at h
        obtain ⟨d, s1, s2, s3, s4, s5⟩ := tkL_back n _ _ l3 R rest e (fun x hx => hb2 x (by rw [r1]; simp [hx])) (hI.next q3 q4 r3 r4) h
        refine ⟨((a : Int), (b : Int)) :: d, by rw [s1]; simp, by simp [s2], ?_, s4, s5⟩
        rw [q1, r1, s3]
        simp [pb, List.append_assoc]
      · rw [tkL_bad2 hA hB heb] at h
        simp only [Prod.mk.injEq] at h
        exact absurd h.1.2 heb
    · rw [tkL_bad1 hA hea] at h
      simp only [Prod.mk.injEq] at h
      exact absurd h.1.2 hea
theorem takeV_form {l rest : List Nat} {R : List (Int × Int)} {e : Int} (hb : ∀ b ∈ l, b < 256) (h : takeV (l, 0) = ((R, 0), (rest, e))) : l = num R.length ++ pb R ++ rest ∧ e = 0 ∧ vec (sy R) = R := by
  obtain ⟨⟨⟨a, ea⟩, st2⟩, hA⟩ : ∃ A, tkN (l, 0) 0 16 = A := ⟨_, rfl⟩
  unfold takeV at h
  rw [hA] at h
  simp only at h
  by_cases hea : ea = 0
  · subst hea
    rw [if_neg (by simp)] at h
    obtain ⟨l2, e2⟩ := st2
    obtain ⟨q1, q2, q3, q4⟩ := tkN_back hb hA
    subst q2
    obtain ⟨d, s1, s2, s3, s4, s5⟩ := tkL_back a 0 [] l2 R rest e (fun x hx => hb x (by rw [q1]; simp [hx])) TkI.none h
    rw [List.nil_append] at s1
    subst s1
    refine ⟨?_, s4, s5⟩
    rw [q1, s3, s2]
    simp [List.append_assoc]
  · rw [if_pos hea] at h
    simp only [Prod.mk.injEq] at h
    exact absurd h.1.2 hea

end Go.Proofs.YtfkdpkckbmbmdaaGreat

/-
  Operations as bytes, laid and taken again. Pure.
-/
set_option linter.unusedSimpArgs false
set_option linter.unusedVariables false
namespace Go.Proofs.YtfkdpkckbmbmdaaGreat
open Go.RowKit Go.Lib

theorem chk_TkI : ∀ (d acc : List (Int × Int)) (site : Int), TkI acc site → chkF site d = 0 → ∃ s', TkI (acc ++ d) s'
  | [], acc, site, h, _ => ⟨site, by simpa using h⟩
  | x :: d, acc, site, hI, h => by
    obtain ⟨x0, x1⟩ := x
    rw [chkF] at h
    by_cases h1 : 1 ≤ x0 ∧ x0 ≤ 16
    · rw [if_neg (by simpa using h1)] at h
      by_cases h2 : 1 ≤ x1 ∧ x1 ≤ 2147483647
      · rw [if_neg (by simpa using h2)] at h
        by_cases h3 : x0 ≤ site
        · rw [if_pos h3] at h; simp at h
        · rw [if_neg h3] at h
          obtain ⟨a, rfl⟩ : ∃ a : Nat, x0 = (a : Int) := ⟨x0.toNat, by omega⟩
          obtain ⟨b, rfl⟩ : ∃ b : Nat, x1 = (b : Int) := ⟨x1.toNat, by omega⟩
          have := chk_TkI d (acc ++ [((a : Int), (b : Int))]) a (hI.next (by omega) (by omega) (by omega) (by omega)) h
          simpa using this
      · rw [if_pos (by simpa using h2)] at h; simp at h
    · rw [if_pos (by simpa using h1)] at h; simp at h
theorem vec_of_chk {l : List (Int × Int)} (h : chk l = 0) : vec (sy l) = l := by
  obtain ⟨s, hI⟩ := chk_TkI l [] 0 TkI.none h
  have := hI.same
  simpa using this
theorem chkF_pos : ∀ (d : List (Int × Int)) (site : Int), chkF site d = 0 → ∀ x ∈ d, 0 ≤ x.1 ∧ 0 ≤ x.2
  | [], _, _ => fun x hx => by cases hx
  | y :: d, site, h => by
    rw [chkF] at h
    by_cases h1 : 1 ≤ y.1 ∧ y.1 ≤ 16
    · rw [if_neg (by simpa using h1)] at h
      by_cases h2 : 1 ≤ y.2 ∧ y.2 ≤ 2147483647
      · rw [if_neg (by simpa using h2)] at h
        by_cases h3 : y.1 ≤ site
        · rw [if_pos h3] at h; simp at h
        · rw [if_neg h3] at h
          intro x hx
          rcases List.mem_cons.1 hx with rfl | hx
          · omega
          · exact chkF_pos d _ h x hx
      · rw [if_pos (by simpa using h2)] at h; simp at h
    · rw [if_pos (by simpa using h1)] at h; simp at h

/-- the bytes of runs, of a kind, of an operation -/
def gb (g : List ((Int × Int) × Int)) : List Nat := g.flatMap fun r => num r.1.1.toNat ++ (num r.1.2.toNat ++ num r.2.toNat)
def kb (o : Opn) : List Nat := if o.kind = 1 then num o.it.toNat ++ (num o.rt.toNat ++ (num o.rs.toNat ++ (num o.text.size ++ sB o.text))) else if o.kind = 2 then num o.gone.length ++ gb o.gone else if o.kind = 3 then num o.site.toNat else []
def ob (o : Opn) : List Nat := num o.kind.toNat ++ (num o.ds.toNat ++ (num o.dq.toNat ++ ((num o.deps.length ++ pb o.deps) ++ kb o)))

theorem putG_gb : ∀ (g : List ((Int × Int) × Int)) (L : List Nat), (∀ r ∈ g, 0 ≤ r.1.1 ∧ 0 ≤ r.1.2 ∧ 0 ≤ r.2) → putG (L, 0) g = (L ++ gb g, 0)
  | [], L, _ => by simp [putG, gb]
  | r :: g, L, h => by
    obtain ⟨h1, h2, h3⟩ := h r (by simp)
    show putG (wNum (wNum (wNum (L, 0) r.1.1) r.1.2) r.2) g = _
    rw [wNum_pos L h1, wNum_pos _ h2, wNum_pos _ h3, putG_gb g _ (fun y hy => h y (by simp [hy]))]
    simp [gb, List.append_assoc]

/-- what an operation's being one says of its numbers -/
structure OkN (o : Opn) : Prop where
  kind : o.kind = 1 ∨ o.kind = 2 ∨ o.kind = 3 ∨ o.kind = 4
  ds : 1 ≤ o.ds ∧ o.ds ≤ 16
  dq : 1 ≤ o.dq ∧ o.dq ≤ 2147483647
  deps : chk o.deps = 0
  ins : o.kind = 1 → o.is = o.ds ∧ (1 ≤ o.it ∧ o.it ≤ 2147483647) ∧ (0 ≤ o.rt ∧ o.rt ≤ 2147483647) ∧ (0 ≤ o.rs ∧ o.rs ≤ 16) ∧ o.gone = [] ∧ o.site = 0
  del : o.kind = 2 → o.it = 0 ∧ o.is = 0 ∧ o.rt = 0 ∧ o.rs = 0 ∧ o.text = ⟨#[]⟩ ∧ o.site = 0 ∧ o.gone.length ≤ 1024 ∧ (∀ r ∈ o.gone, isR r = true)
  join : o.kind = 3 → o.it = 0 ∧ o.is = 0 ∧ o.rt = 0 ∧ o.rs = 0 ∧ o.text = ⟨#[]⟩ ∧ o.gone = [] ∧ 1 ≤ o.site ∧ o.site ≤ 16
  leave : o.kind = 4 → o.it = 0 ∧ o.is = 0 ∧ o.rt = 0 ∧ o.rs = 0 ∧ o.text = ⟨#[]⟩ ∧ o.gone = [] ∧ o.site = 0
theorem bareO_iff {o : Opn} (h : bareO o = true) : o.it = 0 ∧ o.is = 0 ∧ o.rt = 0 ∧ o.rs = 0 ∧ o.text = ⟨#[]⟩ := by
  unfold bareO at h
  rw [← text_empty] at h
  simp at h
  exact ⟨h.1.1.1.1, h.1.1.1.2, h.1.1.2, h.1.2, h.2⟩
theorem isR_full {r : (Int × Int) × Int} (h : isR r = true) : (1 ≤ r.1.1 ∧ r.1.1 ≤ 2147483647) ∧ (1 ≤ r.1.2 ∧ r.1.2 ≤ 16) ∧ (1 ≤ r.2 ∧ r.2 ≤ 2147483647) := by
  unfold isR isI at h
  simp at h
  omega
theorem OkN.of {o : Opn} (h : okO o = true) : OkN o := by
  have hk := okO_kind h
  have hh := okO_hold h
  unfold okO at h
  simp only [Bool.and_eq_true] at h
  obtain ⟨⟨⟨_, hf⟩, ha⟩, _⟩ := h
  unfold folO isT at hf
  simp at hf
  refine ⟨hk, by omega, by omega, hf.1.2, fun h1 => ?_, fun h2 => ?_, fun h3 => ?_, fun h4 => ?_⟩
  · unfold holdO at hh
    unfold aloneO at ha
    rw [if_pos h1] at hh ha
    unfold insO refO at hh
    simp only [Bool.and_eq_true, decide_eq_true_eq, Bool.or_eq_true, Prod.mk.injEq] at hh ha
    have i1 := isR_full hh.1.2
    simp only at i1
    have i2 : (0 ≤ o.rt ∧ o.rt ≤ 2147483647) ∧ (0 ≤ o.rs ∧ o.rs ≤ 16) := by
      rcases hh.2.1 with e | e
      · omega
      · have := isR_full e; simp only at this; omega
    exact ⟨hh.1.1.2, i1.1, i2.1, i2.2, List.eq_nil_of_length_eq_zero ha.1, ha.2⟩
  · have n1 : ¬ o.kind = 1 := by omega
    unfold holdO at hh
    unfold aloneO at ha
    rw [if_neg n1, if_pos h2] at hh ha
    simp only [Bool.and_eq_true, decide_eq_true_eq] at ha
    obtain ⟨b0, b1, b2, b3, b4⟩ := bareO_iff ha.1
    unfold delO at hh
    simp only [Bool.and_eq_true, decide_eq_true_eq] at hh
    exact ⟨b0, b1, b2, b3, b4, ha.2, hh.1.2, chkA_all o.gone [] hh.2⟩
  · have n1 : ¬ o.kind = 1 := by omega
    have n2 : ¬ o.kind = 2 := by omega
    unfold holdO at hh
    unfold aloneO at ha
    rw [if_neg n1, if_neg n2, if_pos h3] at hh ha
    simp only [Bool.and_eq_true, decide_eq_true_eq] at ha
    obtain ⟨b0, b1, b2, b3, b4⟩ := bareO_iff ha.1
    unfold isT at hh
    simp at hh
    exact ⟨b0, b1, b2, b3, b4, List.eq_nil_of_length_eq_zero ha.2, hh.1, hh.2⟩
  · have n1 : ¬ o.kind = 1 := by omega
    have n2 : ¬ o.kind = 2 := by omega
    have n3 : ¬ o.kind = 3 := by omega
    unfold aloneO at ha
    rw [if_neg n1, if_neg n2, if_neg n3] at ha
    simp only [Bool.and_eq_true, decide_eq_true_eq] at ha
    obtain ⟨b0, b1, b2, b3, b4⟩ := bareO_iff ha.1.1
    exact ⟨b0, b1, b2, b3, b4, List.eq_nil_of_length_eq_zero ha.1.2, ha.2⟩

theorem wTxt_pos (L : List Nat) (t : ByteArray) : wTxt (L, 0) t = (L ++ num t.size ++ sB t, 0) := by
  unfold wTxt
  simp
theorem putO_ob {o : Opn} (h : okO o = true) (L : List Nat) : putO (L, 0) o = (L ++ ob o, 0) := by
  have k := OkN.of h
  have hd := chkF_pos o.deps 0 k.deps
  unfold putO
  rw [if_pos h]
  unfold putH
  rw [vec_of_chk k.deps, wNum_pos L (by rcases k.kind with e | e | e | e <;> omega), wNum_pos _ (by have := k.ds; omega), wNum_pos _ (by have := k.dq; omega), putV_pb _ _ hd]
  unfold putK ob kb
  rcases k.kind with e | e | e | e
  · obtain ⟨_, i1, i2, i3, _⟩ := k.ins e
    rw [if_pos e, if_pos e, wNum_pos _ (by omega), wNum_pos _ (by omega), wNum_pos _ (by omega), wTxt_pos]
    simp [List.append_assoc]
  · obtain ⟨_, _, _, _, _, _, _, i⟩ := k.del e
    rw [if_neg (by omega), if_pos e, if_neg (by omega), if_pos e, wNum_pos _ (by omega), putG_gb _ _ (fun r hr => by have := isR_full (i r hr); omega)]
    simp [List.append_assoc]
  · obtain ⟨_, _, _, _, _, _, i, _⟩ := k.join e
    rw [if_neg (by omega), if_neg (by omega), if_pos e, if_neg (by omega), if_neg (by omega), if_pos e, wNum_pos _ (by omega)]
    simp [List.append_assoc]
  · rw [if_neg (by omega), if_neg (by omega), if_neg (by omega), if_neg (by omega), if_neg (by omega), if_neg (by omega)]
    simp [List.append_assoc]
theorem encL_ob {o : Opn} (h : okO o = true) : encL o = ob o := by
  unfold encL
  rw [if_pos h, putO_ob h]
  simp

end Go.Proofs.YtfkdpkckbmbmdaaGreat
