/-
  Plain facts: what is read of a text in quotes is the text; no beginning of it is one; it is good and of one line.
-/
import Derived.Test.YticjilkcobpcjaaDoorZPB
set_option linter.unusedSimpArgs false
set_option linter.unusedVariables false
namespace Go.Proofs.YticjilkcobpcjaaDoor
open Go.Lib

theorem hxD_nat (n : Nat) (h : n < 16) : (hxD n).toNat = if n < 10 then 48 + n else 87 + n := by
  unfold hxD; exact u8n _ (by split <;> omega)
theorem dgV_hxD (n : Nat) (h : n < 16) : dgV (hxD n).toNat = n := by
  rw [hxD_nat n h]; unfold dgV; split <;> (repeat' split) <;> omega

/-- the digits of a number, as numbers -/
def dgF : Nat → Nat → List Nat
  | 0, _ => []
  | f + 1, n => if n = 0 then [] else dgF f (n / 16) ++ [n % 16]
theorem hxF_map : ∀ (f n : Nat), hxF f n = (dgF f n).map hxD
  | 0, n => rfl
  | f + 1, n => by
    unfold hxF dgF
    split
    · rfl
    · rw [hxF_map f (n / 16)]; simp
theorem dgF_lt : ∀ (f n : Nat), ∀ d ∈ dgF f n, d < 16
  | 0, n, d, h => by cases h
  | f + 1, n, d, h => by
    unfold dgF at h
    split at h
    · cases h
    · rcases List.mem_append.1 h with h | h
      · exact dgF_lt f _ d h
      · simp at h; omega
def valF (l : List Nat) (n : Nat) : Nat := l.foldl (fun a d => 16 * a + d) n
theorem valF_append (l m : List Nat) (n : Nat) : valF (l ++ m) n = valF m (valF l n) := by simp [valF]
theorem dgF_val : ∀ (f n : Nat), n ≤ f → valF (dgF f n) 0 = n
  | 0, n, h => by simp [dgF, valF]; omega
  | f + 1, n, h => by
    unfold dgF
    split
    · rename_i h0; simp [valF, h0]
    · rw [valF_append, dgF_val f (n / 16) (by omega)]
      simp [valF]; omega
theorem dgF_len : ∀ (f n k : Nat), n < 16 ^ k → (dgF f n).length ≤ k
  | 0, n, k, h => by simp [dgF]
  | f + 1, n, k, h => by
    unfold dgF
    split
    · simp
    · cases k with
      | zero => simp at h; omega
      | succ k =>
        rw [Nat.pow_succ] at h
        have := dgF_len f (n / 16) k (by omega)
        simp; omega
theorem dgF_head : ∀ (f n : Nat), n ≠ 0 → n ≤ f → ∃ d l, dgF f n = d :: l ∧ d ≠ 0
  | 0, n, h, hf => by omega
  | f + 1, n, h, hf => by
    unfold dgF
    rw [if_neg h]
    by_cases h0 : n / 16 = 0
    · refine ⟨n % 16, [], ?_, by omega⟩
      have : dgF f (n / 16) = [] := by rw [h0]; cases f <;> simp [dgF]
      rw [this]; rfl
    · obtain ⟨d, l, e, hd⟩ := dgF_head f (n / 16) h0 (by omega)
      exact ⟨d, l ++ [n % 16], by rw [e]; rfl, hd⟩

/-- what is read of digits that were laid -/
theorem hxR_laid (p rest : List UInt8) : ∀ (ds : List Nat) (q : List UInt8) (f n : Nat), (∀ d ∈ ds, d < 16) → ds.length ≤ f → (f = ds.length ∨ ∃ c r, rest = c :: r ∧ 16 ≤ dgV c.toNat ∨ rest = []) →
    hxR (ofL (p ++ (q ++ (ds.map hxD ++ rest)))) p.length f n q.length = (valF ds n, q.length + ds.length)
  | [], q, f, n, hd, hf, hr => by
    cases f with
    | zero => simp [hxR, valF]
    | succ f =>
      unfold hxR
      rw [if_neg]
      · simp [valF]
      · rintro ⟨h1, h2⟩
        rcases hr with hr | ⟨c, r, ⟨rfl, hc⟩ | rfl⟩
        · simp at hr
        · have e : p.length + q.length = (p ++ q).length := by simp
          rw [e, show p ++ (q ++ (([] : List Nat).map hxD ++ c :: r)) = (p ++ q) ++ c :: r by simp, ← Nat.add_zero (p ++ q).length, by_at (p ++ q) (c :: r) 0 (by simp)] at h2
          simp at h2; omega
        · rw [ofL_size] at h1; simp at h1
  | d :: ds, q, f, n, hd, hf, hr => by
    cases f with
    | zero => simp at hf
    | succ f =>
      have hd0 := hd d (List.mem_cons_self ..)
      have eL : p ++ (q ++ ((d :: ds).map hxD ++ rest)) = (p ++ q) ++ (hxD d :: (ds.map hxD ++ rest)) := by simp
      have hb : by_ (ofL (p ++ (q ++ ((d :: ds).map hxD ++ rest)))) (p.length + q.length) = (hxD d).toNat := by
        rw [eL, show p.length + q.length = (p ++ q).length + 0 by simp, by_at _ _ 0 (by simp)]; rfl
      unfold hxR
      rw [hb, dgV_hxD d hd0, if_pos ⟨by rw [ofL_size]; simp, hd0⟩]
      have ih := hxR_laid p rest ds (q ++ [hxD d]) f (16 * n + d) (fun x hx => hd x (List.mem_cons_of_mem _ hx)) (by simp at hf; omega) (by
        rcases hr with hr | hr
        · left; simp at hr; omega
        · exact .inr hr)
      have e2 : p ++ (q ++ ((d :: ds).map hxD ++ rest)) = p ++ ((q ++ [hxD d]) ++ (ds.map hxD ++ rest)) := by simp
      rw [e2, show q.length + 1 = (q ++ [hxD d]).length by simp, ih]
      simp [valF]; omega

end Go.Proofs.YticjilkcobpcjaaDoor
