/-
  Plain facts: a text in quotes is good, of one line, and no beginning of it is one.
-/
import Derived.Test.YticjilkcobpcjaaDoorZPK
set_option linter.unusedSimpArgs false
set_option linter.unusedVariables false
namespace Go.Proofs.YticjilkcobpcjaaDoor
open Go.Lib

def startsL : Nat → List Int → List Nat
  | _, [] => []
  | i, n :: ns => i :: startsL (i + (encL n).length) ns

theorem posL_laid : ∀ (ns : List Int) (p : List UInt8) (f : Nat), (ns.flatMap encL).length ≤ f →
    posL (ofL (p ++ ns.flatMap encL)) f p.length = startsL p.length ns
  | [], p, f, _ => by rw [posL_end _ _ _ (by rw [ofL_size]; simp)]; rfl
  | n :: ns, p, f, hf => by
    have hp := encL_pos n
    rw [List.flatMap_cons] at hf ⊢
    rw [List.length_append] at hf
    obtain ⟨g, rfl⟩ : ∃ g, f = g + 1 := ⟨f - 1, by omega⟩
    have hd := (dec_enc p (ns.flatMap encL) n).1
    rw [posL_step _ _ _ (by rw [ofL_size]; simp; omega), wd_of hd]
    have ih := posL_laid ns (p ++ encL n) g (by omega)
    rw [List.append_assoc, List.length_append] at ih
    rw [ih]; rfl

theorem rn_laid : ∀ (ns : List Int) (p : List UInt8), (startsL p.length ns).map (fun i => (rn (ofL (p ++ ns.flatMap encL)) i : Int)) = ns.map (fun n => (fixN n : Int)) ∧ ∀ i ∈ startsL p.length ns, okR (ofL (p ++ ns.flatMap encL)) i = true
  | [], p => by simp [startsL]
  | n :: ns, p => by
    have hd := dec_enc p (ns.flatMap encL) n
    have ih := rn_laid ns (p ++ encL n)
    rw [List.append_assoc, List.length_append] at ih
    rw [List.flatMap_cons]
    constructor
    · rw [show startsL p.length (n :: ns) = p.length :: startsL (p.length + (encL n).length) ns from rfl, List.map_cons, List.map_cons, ih.1, rn_of hd.1]
    · intro i hi
      rcases List.mem_cons.1 hi with rfl | hi
      · exact hd.2
      · exact ih.2 i hi


/-- a text that is runes encoded -/
def Gd (l : List UInt8) : Prop := ∃ ns : List Int, l = ns.flatMap encL
theorem Gd.nil : Gd [] := ⟨[], rfl⟩
theorem Gd.app {a b : List UInt8} (h : Gd a) (k : Gd b) : Gd (a ++ b) := by
  obtain ⟨ns, rfl⟩ := h
  obtain ⟨ms, rfl⟩ := k
  exact ⟨ns ++ ms, by simp⟩
theorem Gd.low (x : UInt8) (h : x.toNat < 128) : Gd [x] := ⟨[(x.toNat : Int)], by simp [enc1 x.toNat h]⟩
theorem Gd.lows : ∀ (l : List UInt8), (∀ x ∈ l, x.toNat < 128) → Gd l
  | [], _ => Gd.nil
  | x :: l, h => Gd.app (a := [x]) (Gd.low x (h x (List.mem_cons_self ..))) (Gd.lows l (fun y hy => h y (List.mem_cons_of_mem _ hy)))
theorem Gd.enc (n : Int) : Gd (encL n) := ⟨[n], by simp⟩
theorem hxD_low (n : Nat) (h : n < 16) : 32 ≤ (hxD n).toNat ∧ (hxD n).toNat < 127 := by rw [hxD_nat n h]; split <;> omega

/-- what may stand on one line -/
def Ln (x : UInt8) : Prop := 32 ≤ x.toNat ∧ x.toNat ≠ 127
theorem ln_dec (n : Nat) (h : 32 ≤ n ∧ n ≠ 127 ∧ n < 256) : Ln (UInt8.ofNat n) := by unfold Ln; rw [u8n n h.2.2]; omega
theorem ux_low (r : Nat) : ∀ x ∈ uxL r, Ln x ∧ x.toNat < 128 := by
  intro x hx
  unfold uxL at hx
  simp only [List.mem_cons, List.mem_append, List.not_mem_nil, or_false] at hx
  rcases hx with rfl | rfl | rfl | hx | rfl
  · exact ⟨⟨by decide, by decide⟩, by decide⟩
  · exact ⟨⟨by decide, by decide⟩, by decide⟩
  · exact ⟨⟨by decide, by decide⟩, by decide⟩
  · unfold hxL at hx
    rw [hxF_map] at hx
    obtain ⟨d, hd, rfl⟩ := List.mem_map.1 hx
    have := hxD_low d (dgF_lt _ _ d hd)
    exact ⟨⟨by omega, by omega⟩, by omega⟩
  · exact ⟨⟨by decide, by decide⟩, by decide⟩
theorem bx_low (b : Nat) (h : b < 256) : ∀ x ∈ bxL b, Ln x ∧ x.toNat < 128 := by
  intro x hx
  unfold bxL at hx
  simp only [List.mem_cons, List.not_mem_nil, or_false] at hx
  rcases hx with rfl | rfl | rfl | rfl
  · exact ⟨⟨by decide, by decide⟩, by decide⟩
  · exact ⟨⟨by decide, by decide⟩, by decide⟩
  · have := hxD_low (b / 16) (by omega)
    exact ⟨⟨by omega, by omega⟩, by omega⟩
  · have := hxD_low (b % 16) (by omega)
    exact ⟨⟨by omega, by omega⟩, by omega⟩
theorem enc_ln (c : Nat) (hv : c < 55296 ∨ (57344 ≤ c ∧ c ≤ 1114111)) (h : 32 ≤ c ∧ c ≠ 127) : ∀ x ∈ encL (c : Int), Ln x := by
  intro x hx
  by_cases h1 : c < 128
  · rw [enc1 c h1] at hx
    simp only [List.mem_cons, List.not_mem_nil, or_false] at hx
    subst hx; exact ln_dec c (by omega)
  · by_cases h2 : c < 2048
    · rw [enc2 c h1 h2] at hx
      simp only [List.mem_cons, List.not_mem_nil, or_false] at hx
      rcases hx with rfl | rfl <;> exact ln_dec _ (by omega)
    · by_cases h3 : c < 65536
      · rw [enc3 c h2 h3 (by omega)] at hx
        simp only [List.mem_cons, List.not_mem_nil, or_false] at hx
        rcases hx with rfl | rfl | rfl <;> exact ln_dec _ (by omega)
      · rw [enc4 c h3 (by omega)] at hx
        simp only [List.mem_cons, List.not_mem_nil, or_false] at hx
        rcases hx with rfl | rfl | rfl | rfl <;> exact ln_dec _ (by omega)
theorem qP_good (s : ByteArray) (i : Nat) (hi : i < s.size) : Gd (qP s i) ∧ ∀ x ∈ qP s i, Ln x := by
  unfold qP
  split
  · rename_i h
    have hc : ltN (rn s i) = 34 ∨ ltN (rn s i) = 92 ∨ ltN (rn s i) = 110 ∨ ltN (rn s i) = 114 ∨ ltN (rn s i) = 116 := by unfold ltN at *; (repeat' split at h) <;> simp_all
    have hl : ∀ x ∈ ([92, UInt8.ofNat (ltN (rn s i))] : List UInt8), Ln x ∧ x.toNat < 128 := by
      intro x hx
      simp only [List.mem_cons, List.not_mem_nil, or_false] at hx
      rcases hx with rfl | rfl
      · exact ⟨⟨by decide, by decide⟩, by decide⟩
      · refine ⟨ln_dec _ (by omega), ?_⟩
        rw [u8n _ (by omega)]; omega
    exact ⟨Gd.lows _ (fun x hx => (hl x hx).2), fun x hx => (hl x hx).1⟩
  · split
    · exact ⟨Gd.lows _ (fun x hx => (bx_low _ (by_lt s i) x hx).2), fun x hx => (bx_low _ (by_lt s i) x hx).1⟩
    · rename_i hr
      split
      · exact ⟨Gd.lows _ (fun x hx => (ux_low _ x hx).2), fun x hx => (ux_low _ x hx).1⟩
      · unfold rawB at hr
        simp at hr
        exact ⟨Gd.enc _, enc_ln _ (rn_valid s i hi) (by omega)⟩
theorem qL_good (s : ByteArray) : ∀ (l : List Nat), (∀ i ∈ l, i < s.size) → Gd (qL s l) ∧ ∀ x ∈ qL s l, Ln x
  | [], _ => ⟨Gd.nil, fun x hx => by cases hx⟩
  | i :: l, h => by
    have h1 := qP_good s i (h i (List.mem_cons_self ..))
    have h2 := qL_good s l (fun j hj => h j (List.mem_cons_of_mem _ hj))
    refine ⟨Gd.app (a := qP s i) h1.1 h2.1, fun x hx => ?_⟩
    rcases List.mem_append.1 (show x ∈ qP s i ++ qL s l from hx) with h3 | h3
    · exact h1.2 x h3
    · exact h2.2 x h3
theorem qT_good (s : ByteArray) : (∃ ns : List Int, qT s = ofL (ns.flatMap encL)) ∧ ∀ j, j < (qT s).size → 32 ≤ by_ (qT s) j ∧ by_ (qT s) j ≠ 127 := by
  have h := qL_good s (allL s) (fun i hi => (mem_allL.1 hi).1)
  have hq : ∀ x ∈ (34 :: (qL s (allL s) ++ [34])), Ln x := by
    intro x hx
    simp only [List.mem_cons, List.mem_append, List.not_mem_nil, or_false] at hx
    rcases hx with rfl | hx | rfl
    · exact ⟨by decide, by decide⟩
    · exact h.2 x hx
    · exact ⟨by decide, by decide⟩
  refine ⟨?_, fun j hj => ?_⟩
  · obtain ⟨ns, hns⟩ := Gd.app (a := [34]) (Gd.low 34 (by decide)) (Gd.app h.1 (Gd.low 34 (by decide)))
    exact ⟨ns, by unfold qT; rw [← hns]; rfl⟩
  · unfold qT at hj ⊢
    rw [ofL_size] at hj
    rw [by_list _ j hj]
    exact hq _ (List.getElem_mem hj)
theorem ok_all (ns : List Int) : ∀ i ∈ allL (ofL (ns.flatMap encL)), okR (ofL (ns.flatMap encL)) i = true := by
  have h1 := posL_laid ns [] (ofL (ns.flatMap encL)).size (by rw [ofL_size]; exact Nat.le_refl _)
  have h2 := (rn_laid ns []).2
  simp only [List.nil_append, List.length_nil] at h1 h2
  intro i hi
  unfold allL at hi
  rw [h1] at hi
  exact h2 i hi
theorem qT_ok (s : ByteArray) : ∀ i ∈ allL (qT s), okR (qT s) i = true := by
  obtain ⟨ns, e⟩ := (qT_good s).1
  rw [e]; exact ok_all ns

/-- a beginning of a text -/
theorem pre_by (q : ByteArray) (n j : Nat) (h : j < n) (hn : n ≤ q.size) : by_ (q.extract 0 n) j = by_ q j := by
  have := by_ext q 0 n j hn (by omega)
  rwa [Nat.zero_add] at this
theorem hxR_pre (q : ByteArray) (n i : Nat) (hn : n ≤ q.size) : ∀ (f m k : Nat), (i + (hxR (q.extract 0 n) i f m k).2 < n ∨ (hxR (q.extract 0 n) i f m k).2 = k + f) → hxR q i f m k = hxR (q.extract 0 n) i f m k
  | 0, m, k, _ => rfl
  | f + 1, m, k, h => by
    have hz : (q.extract 0 n).size = n := by rw [size_ext q 0 n hn]; omega
    by_cases hc : i + k < n ∧ dgV (by_ (q.extract 0 n) (i + k)) < 16
    · have e : hxR (q.extract 0 n) i (f + 1) m k = hxR (q.extract 0 n) i f (16 * m + dgV (by_ (q.extract 0 n) (i + k))) (k + 1) := hxR_step (by rw [hz]; exact hc.1) hc.2
      rw [e] at h ⊢
      have hb := pre_by q n (i + k) hc.1 hn
      rw [hxR_step (by omega) (by rw [← hb]; exact hc.2), ← hb]
      exact hxR_pre q n i hn f _ _ (by omega)
    · have e : hxR (q.extract 0 n) i (f + 1) m k = (m, k) := hxR_stop (by rw [hz]; exact hc)
      rw [e] at h ⊢
      simp only at h
      have hlt : i + k < n := by omega
      exact hxR_stop (fun x => hc ⟨hlt, by rw [pre_by q n (i + k) hlt hn]; exact x.2⟩)
theorem escE_pre {q : ByteArray} {n i : Nat} (hn : n ≤ q.size) {x : List UInt8} {k : Nat} (h : escE (q.extract 0 n) i = some (x, k)) : escE q i = some (x, k) := by
  have hz : (q.extract 0 n).size = n := by rw [size_ext q 0 n hn]; omega
  have hk := escE_n h
  rw [hz] at hk
  unfold escE at h ⊢
  rw [hz] at h
  have h1 : i + 1 < n := by omega
  rw [if_pos h1] at h
  rw [if_pos (by omega)]
  rw [pre_by q n (i + 1) h1 hn] at h
  by_cases c1 : by_ q (i + 1) = 34
  · rw [if_pos c1] at h ⊢; exact h
  rw [if_neg c1] at h ⊢
  by_cases c2 : by_ q (i + 1) = 92
  · rw [if_pos c2] at h ⊢; exact h
  rw [if_neg c2] at h ⊢
  by_cases c3 : by_ q (i + 1) = 110
  · rw [if_pos c3] at h ⊢; exact h
  rw [if_neg c3] at h ⊢
  by_cases c4 : by_ q (i + 1) = 114
  · rw [if_pos c4] at h ⊢; exact h
  rw [if_neg c4] at h ⊢
  by_cases c5 : by_ q (i + 1) = 116
  · rw [if_pos c5] at h ⊢; exact h
  rw [if_neg c5] at h ⊢
  by_cases c6 : by_ q (i + 1) = 120
  · rw [if_pos c6] at h ⊢
    unfold byteE at h ⊢
    by_cases c7 : (hxR (q.extract 0 n) (i + 2) 2 0 0).2 = 2
    · rw [hxR_pre q n (i + 2) hn 2 0 0 (.inr (by omega))]; exact h
    · rw [if_neg c7] at h; cases h
  rw [if_neg c6] at h ⊢
  by_cases c7 : by_ q (i + 1) = 117 ∧ i + 2 < n ∧ by_ (q.extract 0 n) (i + 2) = 123
  · rw [if_pos c7] at h
    have hb2 := pre_by q n (i + 2) c7.2.1 hn
    rw [if_pos ⟨c7.1, by omega, by rw [← hb2]; exact c7.2.2⟩]
    unfold runeE at h ⊢
    simp only [hz] at h ⊢
    by_cases c8 : (hxR (q.extract 0 n) (i + 3) 6 0 0).2 = 0 ∨ (1 < (hxR (q.extract 0 n) (i + 3) 6 0 0).2 ∧ by_ (q.extract 0 n) (i + 3) = 48)
    · rw [if_pos c8] at h; cases h
    · rw [if_neg c8] at h
      by_cases c9 : i + 3 + (hxR (q.extract 0 n) (i + 3) 6 0 0).2 < n ∧ by_ (q.extract 0 n) (i + 3 + (hxR (q.extract 0 n) (i + 3) 6 0 0).2) = 125 ∧ Utf8.valid ((hxR (q.extract 0 n) (i + 3) 6 0 0).1 : Int) = true
      · rw [if_pos c9] at h
        have e := hxR_pre q n (i + 3) hn 6 0 0 (.inl c9.1)
        rw [e]
        have hb3 := pre_by q n (i + 3) (by omega) hn
        have hbk := pre_by q n (i + 3 + (hxR (q.extract 0 n) (i + 3) 6 0 0).2) c9.1 hn
        rw [if_neg (by rw [← hb3]; exact c8), if_pos ⟨by omega, by rw [← hbk]; exact c9.2.1, c9.2.2⟩]
        exact h
      · rw [if_neg c9] at h; cases h
  · rw [if_neg c7] at h; cases h
theorem rdA_pre {q : ByteArray} {n : Nat} (hn : n ≤ q.size) (f : Nat) : ∀ (i : Nat) (acc x : List UInt8) (e : Nat), n - i ≤ f → rdA (q.extract 0 n) i acc = (x, e, true) → rdA q i acc = (x, e, true) := by
  have hz : (q.extract 0 n).size = n := by rw [size_ext q 0 n hn]; omega
  induction f with
  | zero =>
    intro i acc x e h hr
    rw [rdA_end (by rw [hz]; omega)] at hr
    cases hr
  | succ f IH =>
    intro i acc x e h hr
    by_cases hi : i < n
    · have hi' : i < (q.extract 0 n).size := by rw [hz]; exact hi
      have hb := pre_by q n i hi hn
      by_cases c34 : by_ q i = 34
      · rw [rdA_quote hi' (by rw [hb]; exact c34)] at hr
        rw [rdA_quote (by omega) c34]; exact hr
      · by_cases c92 : by_ q i = 92
        · cases he : escE (q.extract 0 n) i with
          | none => rw [rdA_none hi' (by rw [hb]; exact c92) he] at hr; cases hr
          | some v =>
            obtain ⟨y, k⟩ := v
            have hk := escE_n he
            rw [rdA_some hi' (by rw [hb]; exact c92) he] at hr
            rw [rdA_some (by omega) c92 (escE_pre hn he)]
            exact IH _ _ _ _ (by omega) hr
        · cases hrw : rawB (q.extract 0 n) i with
          | true => rw [rdA_raw hi' (by rw [hb]; exact c34) (by rw [hb]; exact c92) hrw] at hr; cases hr
          | false =>
            have ho : okR (q.extract 0 n) i = true := by unfold rawB at hrw; simp at hrw; exact hrw.2
            have hd := dec_up q 0 n i hn (by omega) ho
            rw [Nat.zero_add] at hd
            have hrn : rn (q.extract 0 n) i = rn q i := by unfold rn; rw [hd]
            have hwd : wd (q.extract 0 n) i = wd q i := by unfold wd; rw [hd]
            have hok : okR (q.extract 0 n) i = okR q i := by unfold okR; rw [hrn, hwd]
            have hraw2 : rawB q i = false := by unfold rawB at hrw ⊢; rw [← hrn, ← hok]; exact hrw
            have hw := wd_pos (q.extract 0 n) i hi'
            rw [rdA_rune hi' (by rw [hb]; exact c34) (by rw [hb]; exact c92) hrw, hrn, hwd] at hr
            rw [rdA_rune (by omega) c34 c92 hraw2]
            exact IH _ _ _ _ (by omega) hr
    · rw [rdA_end (by rw [hz]; exact hi)] at hr
      cases hr
/-- NO BEGINNING OF A TEXT IN QUOTES IS ONE. -/
theorem uq_pre (s : ByteArray) (n : Nat) (hn : n < (qT s).size) : uqT ((qT s).extract 0 n) = ofL [] ∧ uqN ((qT s).extract 0 n) ≤ n ∧ uqE ((qT s).extract 0 n) = 18 := by
  have hz : ((qT s).extract 0 n).size = n := by rw [size_ext (qT s) 0 n (by omega)]; omega
  have hO : uqOk ((qT s).extract 0 n) = false := by
    cases h : uqOk ((qT s).extract 0 n) with
    | false => rfl
    | true =>
      unfold uqOk at h
      simp only [Bool.and_eq_true, decide_eq_true_eq] at h
      obtain ⟨⟨⟨h1, h2⟩, h3⟩, h4⟩ := h
      obtain ⟨x, e, o, hx⟩ : ∃ x e o, rdE ((qT s).extract 0 n) 1 = (x, e, o) := ⟨_, _, _, rfl⟩
      rw [hx] at h3 h4
      simp only at h3 h4
      subst h3
      have := rdA_pre (q := qT s) (n := n) (by omega) n 1 [] x e (by omega) hx
      rw [← rdA_zero, rd_quoted] at this
      have e2 : (qT s).size = e := by injection this with _ h; injection h
      rw [hz] at h4
      omega
  refine ⟨by unfold uqT; rw [hO]; rfl, ?_, by unfold uqE; rw [hO]; rfl⟩
  unfold uqN
  rw [hO]
  simp only [Bool.false_eq_true, if_false]
  split
  · rename_i h0
    have hb := rdA_bounds ((qT s).extract 0 n) n 1 [] (by rw [hz]; omega) (by omega)
    rw [← rdA_zero, hz] at hb
    exact hb.1
  · exact Nat.zero_le _

end Go.Proofs.YticjilkcobpcjaaDoor
