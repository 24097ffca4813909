/-
  Plain facts: a text that is cut at a break has the clumps of its two parts; a line's end between two texts.
-/
import Derived.Test.YtiakhpfljjfaeaaZXClump
import Derived.Test.YtiakhpfljjfaeaaZPrt
import Derived.Test.YtiakhpfljjfaeaaZXReg
import Derived.Test.YtiakhpfljjfaeaaZRBr
set_option linter.unusedSimpArgs false
set_option linter.unusedVariables false
namespace Go.Proofs.Ytiakhpfljjfaeaa
open Go.RowKit Go.Lib

theorem sync_up {s : ByteArray} {a b i : Nat} (ha : Sync s a) (hb : Sync s b) (hbs : b ≤ s.size) (hi : i ∈ allL (s.extract a b)) : Sync s (a + i) := fun q hq ho => by
  have hi := mem_allL.1 hi
  have hz := size_ext s a b hbs
  by_cases hqa : q < a
  · have := ha q hqa ho; omega
  · have hqb : q + wd s q ≤ b := hb q (by omega) ho
    have hd := dec_down s a b (q - a) hbs (by omega) (by rw [show a + (q - a) = q by omega]; exact ho) (by rw [show a + (q - a) = q by omega]; exact hqb)
    rw [show a + (q - a) = q by omega] at hd
    have := hi.2 (q - a) (by omega) (by rw [ok_same hd]; exact ho)
    rw [wd_same hd] at this
    omega

theorem zero_brL (s : ByteArray) : 0 ∈ brL s := by obtain ⟨r, hr⟩ := brL_zero s; rw [hr]; simp

/-- the breaks of a part between two breaks -/
theorem mem_part {s : ByteArray} {x e : Nat} (hx : x ∈ brL s) (he : e ∈ brL s) (hxe : x ≤ e) (i : Nat) : i ∈ brL (s.extract x e) ↔ x + i ∈ brL s ∧ x + i ≤ e := by
  have hes := brL_le he
  have hz := size_ext s x e hes
  by_cases h0 : i = 0
  · subst h0
    exact ⟨fun _ => ⟨hx, by omega⟩, fun _ => zero_brL _⟩
  · by_cases h1 : i = e - x
    · subst h1
      refine ⟨fun _ => ?_, fun _ => ?_⟩
      · rw [show x + (e - x) = e by omega]; exact ⟨he, Nat.le_refl _⟩
      · have := brL_end (s.extract x e); rw [hz] at this; exact this
    · by_cases h2 : e - x < i
      · refine ⟨fun h => ?_, fun h => ?_⟩
        · have := brL_le h; omega
        · omega
      · refine ⟨fun h => ?_, fun h => ?_⟩
        · have hall : i ∈ allL (s.extract x e) := by
            rcases brL_places h with h | h | h
            · exact absurd h h0
            · omega
            · exact h
          have hs := sync_up (brL_sync hx) (brL_sync he) hes hall
          have := br_part hx (brL_sync he) hes (show x < x + i by omega) (by omega) hs
          rw [show x + i - x = i by omega] at this
          exact ⟨this.1 h, by omega⟩
        · have := br_part hx (brL_sync he) hes (show x < x + i by omega) (by omega) (brL_sync h.1)
          rw [show x + i - x = i by omega] at this
          exact this.2 h.1

theorem sorted_ext : ∀ (l l' : List Nat), l.Pairwise (· < ·) → l'.Pairwise (· < ·) → (∀ x, x ∈ l ↔ x ∈ l') → l = l'
  | [], [], _, _, _ => rfl
  | [], b :: l', _, _, h => by have := (h b).2 (by simp); cases this
  | a :: l, [], _, _, h => by have := (h a).1 (by simp); cases this
  | a :: l, b :: l', h1, h2, h => by
    obtain ⟨p1, q1⟩ := List.pairwise_cons.1 h1
    obtain ⟨p2, q2⟩ := List.pairwise_cons.1 h2
    have hab : a = b := by
      have ha := (h a).1 (by simp)
      have hb := (h b).2 (by simp)
      rcases List.mem_cons.1 ha with e | ha
      · exact e
      · rcases List.mem_cons.1 hb with e | hb
        · exact e.symm
        · have := p2 a ha; have := p1 b hb; omega
    subst hab
    congr 1
    refine sorted_ext l l' q1 q2 (fun x => ⟨fun hx => ?_, fun hx => ?_⟩)
    · rcases List.mem_cons.1 ((h x).1 (by simp [hx])) with e | e
      · have := p1 x hx; omega
      · exact e
    · rcases List.mem_cons.1 ((h x).2 (by simp [hx])) with e | e
      · have := p2 x hx; omega
      · exact e

theorem pairs_cut (A : List Nat) (x : Nat) (B : List Nat) : pairs (A ++ x :: B) = pairs (A ++ [x]) ++ pairs (x :: B) := by
  cases B with
  | nil => simp [pairs]
  | cons i ex => rw [pairs_append, pairs_cons]
theorem mem_pairs {l : List Nat} {c : Nat × Nat} (h : c ∈ pairs l) : c.1 ∈ l ∧ c.2 ∈ l := by
  obtain ⟨a, b⟩ := c
  have := List.of_mem_zip h
  exact ⟨this.1, List.mem_of_mem_tail this.2⟩
theorem pairs_map (f : Nat → Nat) (l : List Nat) : pairs (l.map f) = (pairs l).map (fun c => (f c.1, f c.2)) := by
  unfold pairs
  rw [show (l.map f).tail = l.tail.map f by cases l <;> rfl, List.zip_map]
  rfl

/-- a text's clumps, as texts -/
def tx (s : ByteArray) : List ByteArray := (cpL s).map fun c => s.extract c.1 c.2
theorem tx_cpC (s : ByteArray) : cpC s (cpL s) = (tx s).map Value.string := by unfold cpC tx; rw [List.map_map]; rfl
theorem tx_length (s : ByteArray) : (tx s).length = (cpL s).length := by simp [tx]

theorem ext_ext (s : ByteArray) (x e a b : Nat) (h : x + b ≤ e) : (s.extract x e).extract a b = s.extract (x + a) (x + b) := by
  rw [ByteArray.extract_extract]
  congr 1
  omega

theorem tx_cut {s : ByteArray} {x : Nat} (hx : x ∈ brL s) : tx s = tx (s.extract 0 x) ++ tx (s.extract x s.size) := by
  have hxs := brL_le hx
  obtain ⟨A, B, hAB⟩ := List.append_of_mem hx
  have hso := brL_sorted s
  rw [hAB, List.pairwise_append] at hso
  obtain ⟨sA, sB, sAB⟩ := hso
  obtain ⟨sx, sB'⟩ := List.pairwise_cons.1 sB
  have h1 : brL (s.extract 0 x) = A ++ [x] := by
    refine sorted_ext _ _ (brL_sorted _) ?_ (fun q => ?_)
    · rw [List.pairwise_append]
      exact ⟨sA, by simp, fun a ha b hb => sAB a ha b (by simp at hb; simp [hb])⟩
    · rw [mem_part (zero_brL s) hx (by omega), hAB, Nat.zero_add]
      refine ⟨fun h => ?_, fun h => ?_⟩
      · rcases List.mem_append.1 h.1 with h' | h'
        · simp [h']
        · rcases List.mem_cons.1 h' with e | h'
          · simp [e]
          · have := sx q h'; omega
      · rcases List.mem_append.1 h with h' | h'
        · exact ⟨by simp [h'], Nat.le_of_lt (sAB q h' x (by simp))⟩
        · simp at h'; subst h'; exact ⟨by simp, Nat.le_refl _⟩
  have h2 : (brL (s.extract x s.size)).map (x + ·) = x :: B := by
    refine sorted_ext _ _ ?_ sB (fun q => ?_)
    · rw [List.pairwise_map]
      exact (brL_sorted _).imp (fun h => by omega)
    · rw [List.mem_map]
      refine ⟨fun ⟨i, hi, e⟩ => ?_, fun h => ?_⟩
      · subst e
        have := ((mem_part hx (brL_end s) hxs i).1 hi).1
        rw [hAB] at this
        rcases List.mem_append.1 this with h' | h'
        · have := sAB _ h' x (by simp); omega
        · exact h'
      · have hq : x ≤ q := by
          rcases List.mem_cons.1 h with e | h
          · omega
          · have := sx q h; omega
        have hqs : q ∈ brL s := by rw [hAB]; exact List.mem_append.2 (.inr h)
        refine ⟨q - x, (mem_part hx (brL_end s) hxs _).2 ⟨by rw [show x + (q - x) = q by omega]; exact hqs, by have := brL_le hqs; omega⟩, by omega⟩
  unfold tx cpL
  rw [h1, hAB, pairs_cut, List.map_append]
  congr 1
  · refine List.map_congr_left (fun c hc => ?_)
    have hm := (mem_pairs hc).2
    have hle : c.2 ≤ x := by
      rcases List.mem_append.1 hm with h' | h'
      · exact Nat.le_of_lt (sAB _ h' x (by simp))
      · simp at h'; omega
    rw [ext_ext s 0 x c.1 c.2 (by omega), Nat.zero_add, Nat.zero_add]
  · rw [← h2, pairs_map, List.map_map]
    refine List.map_congr_left (fun c hc => ?_)
    have hm := brL_le (mem_pairs hc).2
    rw [size_ext s x s.size (Nat.le_refl _)] at hm
    rw [ext_ext s x s.size c.1 c.2 (by omega)]
    rfl

/-- a text without a break in it -/
theorem tx_one {t : ByteArray} (hz : 0 < t.size) (h : ∀ q ∈ brL t, q = 0 ∨ q = t.size) : (tx t).length = 1 := by
  have : brL t = [0, t.size] := by
    refine sorted_ext _ _ (brL_sorted t) (by simp; omega) (fun q => ⟨fun hq => by simpa using h q hq, fun hq => ?_⟩)
    simp at hq
    rcases hq with rfl | rfl
    · exact zero_brL t
    · exact brL_end t
  rw [tx_length]
  unfold cpL
  rw [this]
  rfl

theorem ascii_dec {t : ByteArray} {k : Nat} (h : by_ t k ≤ 127) : rn t k = by_ t k ∧ wd t k = 1 := ⟨rn_of (dec_one t k h), wd_of (dec_one t k h)⟩
theorem ascii_sync {t : ByteArray} {k : Nat} (hk : k < t.size) (h : by_ t k ≤ 127) : Sync t k := fun j hj ho => by
  rcases ok_cases t j (by omega) ho with ⟨_, _, hw⟩ | ⟨hc, _, hg, _, hw⟩ | ⟨hc, _, hg, hg2, _, hw⟩ | ⟨hc, _, hg, hg2, hg3, _, hw⟩
  · omega
  · have hb := hW2_range hc
    have hr := g1_range (by omega) hg
    rcases (by omega : k = j + 1 ∨ j + 2 ≤ k) with e | e
    · subst e; omega
    · omega
  · have hb := hW3_range hc
    have hr := g1_range (by omega) hg
    unfold g2 at hg2
    rcases (by omega : k = j + 1 ∨ k = j + 2 ∨ j + 3 ≤ k) with e | e | e
    · subst e; omega
    · subst e; omega
    · omega
  · have hb := hW4_range hc
    have hr := g1_range (by omega) hg
    unfold g2 at hg2
    unfold g3 at hg3
    rcases (by omega : k = j + 1 ∨ k = j + 2 ∨ k = j + 3 ∨ j + 4 ≤ k) with e | e | e | e
    · subst e; omega
    · subst e; omega
    · subst e; omega
    · omega

theorem prev_of {u : ByteArray} {i : Nat} (hi : i ∈ allL u) (h0 : i ≠ 0) : ∃ pre j rest, allL u = pre ++ j :: i :: rest ∧ j + wd u j = i ∧ j < u.size := by
  obtain ⟨P, rest, hP⟩ := List.append_of_mem hi
  rcases List.eq_nil_or_concat P with rfl | ⟨pre, j, rfl⟩
  · have hne : u.size ≠ 0 := by have := (mem_allL.1 hi).1; omega
    obtain ⟨r, hr⟩ := allL_zero u hne
    rw [hr] at hP
    simp at hP
    exact absurd hP.1.symm h0
  · rw [List.concat_eq_append, List.append_assoc] at hP
    simp only [List.singleton_append] at hP
    obtain ⟨f1, _, f3⟩ := frm_split u pre 0 j (i :: rest) (by rw [← allL_frm]; exact hP)
    refine ⟨pre, j, rest, hP, ?_, f1⟩
    by_cases h : j + wd u j < u.size
    · rw [frm_step u _ h] at f3
      simp at f3
      exact f3.1.symm
    · rw [frm_end u _ h] at f3; cases f3

theorem C_of {u : ByteArray} {i b : Nat} (hb : by_ u i = b) (h : b ≤ 127) : C u i = cls (b : Int) := by
  unfold C
  rw [(ascii_dec (by omega)).1, hb]

theorem break_cr {u : ByteArray} {i : Nat} (hi : i < u.size) (hb : by_ u i = 13) : i ∈ brL u := by
  by_cases h0 : i = 0
  · subst h0; exact zero_brL u
  · obtain ⟨pre, j, rest, h1, h2, h3⟩ := prev_of (mem_allL.2 ⟨hi, ascii_sync hi (by omega)⟩) h0
    rw [mem_brL h1, C_of hb (by omega), show cls ((13 : Nat) : Int) = 1 by decide]
    unfold bk
    simp [hardC]
theorem break_lf {u : ByteArray} {i : Nat} (hi : i < u.size) (hb : by_ u i = 10) (hne : i ≠ 0 → ¬ by_ u (i - 1) = 13) : i ∈ brL u := by
  by_cases h0 : i = 0
  · subst h0; exact zero_brL u
  · obtain ⟨pre, j, rest, h1, h2, h3⟩ := prev_of (mem_allL.2 ⟨hi, ascii_sync hi (by omega)⟩) h0
    rw [mem_brL h1, C_of hb (by omega), show cls ((10 : Nat) : Int) = 2 by decide]
    have hc : ¬ C u j = 1 := fun e => by
      have hr := cls_one (show cls (rn u j : Nat) = 1 from e)
      obtain ⟨b1, w1⟩ := small_rune h3 (by omega)
      refine hne h0 ?_
      rw [show i - 1 = j by omega]
      omega
    unfold bk
    simp [hardC, hc]
theorem break_after_lf {u : ByteArray} {i : Nat} (hi : i < u.size) (hb : by_ u i = 10) : i + 1 ∈ brL u := by
  by_cases he : i + 1 = u.size
  · rw [he]; exact brL_end u
  · have hsy := ascii_sync hi (show by_ u i ≤ 127 by omega)
    obtain ⟨A, hA, hf⟩ := allL_at hi hsy
    rw [(ascii_dec (show by_ u i ≤ 127 by omega)).2, frm_step u (i + 1) (by omega)] at hf
    rw [hf] at hA
    rw [mem_brL hA, C_of hb (by omega), show cls ((10 : Nat) : Int) = 2 by decide]
    unfold bk
    simp [hardC]

/-- CR and LF alone -/
theorem crlf_one {m : ByteArray} (hz : m.size = 2) (h0 : by_ m 0 = 13) (h1 : by_ m 1 = 10) : (tx m).length = 1 := by
  refine tx_one (by omega) (fun q hq => ?_)
  have hle := brL_le hq
  rcases (by omega : q = 0 ∨ q = 1 ∨ q = 2) with rfl | rfl | rfl
  · exact .inl rfl
  · exfalso
    have hf : allL m = [] ++ 0 :: 1 :: [] := by
      rw [allL_frm, frm_step m 0 (by omega), (ascii_dec (show by_ m 0 ≤ 127 by omega)).2, frm_step m (0 + 1) (by omega), (ascii_dec (show by_ m (0 + 1) ≤ 127 by rw [show 0 + 1 = 1 from rfl]; omega)).2, frm_end m _ (by omega)]
      rfl
    rw [mem_brL hf, C_of h0 (by omega), C_of h1 (by omega), show cls ((13 : Nat) : Int) = 1 by decide, show cls ((10 : Nat) : Int) = 2 by decide] at hq
    simp [bk] at hq
  · exact .inr hz.symm
theorem one_one {m : ByteArray} (hz : m.size = 1) : (tx m).length = 1 := by
  refine tx_one (by omega) (fun q hq => ?_)
  have hle := brL_le hq
  omega

/-- a text cut at two breaks -/
theorem tx_cut2 {u : ByteArray} {p e : Nat} (hp : p ∈ brL u) (he : e ∈ brL u) (hpe : p ≤ e) : tx u = tx (u.extract 0 p) ++ (tx (u.extract p e) ++ tx (u.extract e u.size)) := by
  have hes := brL_le he
  rw [tx_cut hp]
  congr 1
  have hz := size_ext u p u.size (Nat.le_refl _)
  have hm : e - p ∈ brL (u.extract p u.size) := (mem_part hp (brL_end u) (by omega) _).2 ⟨by rw [show p + (e - p) = e by omega]; exact he, by omega⟩
  rw [tx_cut hm, hz, ext_ext u p u.size 0 (e - p) (by omega), ext_ext u p u.size (e - p) (u.size - p) (by omega)]
  rw [show p + 0 = p by omega, show p + (e - p) = e by omega, show p + (u.size - p) = u.size by omega]

theorem by_append_left (s t : ByteArray) (i : Nat) (h : i < s.size) : by_ (s ++ t) i = by_ s i := by
  rw [← by_get s i h, ← by_get (s ++ t) i (by rw [ByteArray.size_append]; omega)]
  congr 1
  exact ByteArray.getElem_append_left h
theorem by_append_right (s t : ByteArray) (i : Nat) (h : i < t.size) : by_ (s ++ t) (s.size + i) = by_ t i := by
  rw [← by_get t i h, ← by_get (s ++ t) (s.size + i) (by rw [ByteArray.size_append]; omega)]
  congr 1
  rw [ByteArray.getElem_append_right (by omega)]
  congr 1
  omega

/-- the line's end -/
def nl : ByteArray := ⟨#[10]⟩
theorem nl_by : by_ nl 0 = 10 := by decide
theorem nl_size : nl.size = 1 := rfl

/-- A LINE'S END BETWEEN TWO TEXTS. -/
theorem tx_nl (s t : ByteArray) (n : Nat) (hn : n = if 0 < s.size ∧ by_ s (s.size - 1) = 13 then (tx s).length - 1 else (tx s).length) :
    n ≤ (tx s).length ∧ (tx (s ++ nl ++ t)).length = n + 1 + (tx t).length ∧ (tx (s ++ nl ++ t)).take n = (tx s).take n ∧ (tx (s ++ nl ++ t)).drop (n + 1) = tx t := by
  obtain ⟨u, hu⟩ : ∃ u, s ++ nl ++ t = u := ⟨_, rfl⟩
  have hz : u.size = s.size + 1 + t.size := by rw [← hu, ByteArray.size_append, ByteArray.size_append, nl_size]
  have b1 : ∀ i, i < s.size → by_ u i = by_ s i := fun i hi => by
    rw [← hu, by_append_left _ _ _ (by rw [ByteArray.size_append]; omega), by_append_left _ _ _ hi]
  have b2 : by_ u s.size = 10 := by
    rw [← hu, by_append_left _ _ _ (by rw [ByteArray.size_append, nl_size]; omega)]
    have := by_append_right s nl 0 (by rw [nl_size]; omega)
    rw [Nat.add_zero] at this
    rw [this, nl_by]
  have x1 : u.extract 0 s.size = s := by
    rw [← hu, ByteArray.append_assoc, ByteArray.extract_append_eq_left rfl]
  have x2 : u.extract (s.size + 1) u.size = t := by
    rw [hz, ← hu]
    exact ByteArray.extract_append_eq_right (by rw [ByteArray.size_append, nl_size]) (by rw [ByteArray.size_append, nl_size])
  have hlf := break_after_lf (u := u) (i := s.size) (by omega) b2
  rw [hu]
  by_cases hc : 0 < s.size ∧ by_ s (s.size - 1) = 13
  · rw [if_pos hc] at hn
    have hcr : s.size - 1 ∈ brL u := break_cr (by omega) (by rw [b1 _ (by omega)]; exact hc.2)
    have hcs : s.size - 1 ∈ brL s := break_cr (by omega) hc.2
    have e1 := tx_cut2 hcr hlf (by omega)
    have e2 := tx_cut hcs
    have m1 : (tx (s.extract (s.size - 1) s.size)).length = 1 := one_one (by rw [size_ext s _ _ (Nat.le_refl _)]; omega)
    have m2 : (tx (u.extract (s.size - 1) (s.size + 1))).length = 1 := by
      refine crlf_one (by rw [size_ext u _ _ (by omega)]; omega) ?_ ?_
      · rw [by_ext u _ _ 0 (by omega) (by omega), Nat.add_zero, b1 _ (by omega)]; exact hc.2
      · rw [by_ext u _ _ 1 (by omega) (by omega), show s.size - 1 + 1 = s.size by omega]; exact b2
    have x3 : u.extract 0 (s.size - 1) = s.extract 0 (s.size - 1) := by
      have := ext_ext u 0 s.size 0 (s.size - 1) (by omega)
      rw [x1] at this
      rw [this, Nat.zero_add, Nat.zero_add]
    rw [x2, x3] at e1
    have l2 := congrArg List.length e2
    rw [List.length_append, m1] at l2
    have hn2 : n = (tx (s.extract 0 (s.size - 1))).length := by omega
    have l1 := congrArg List.length e1
    rw [List.length_append, List.length_append, m2] at l1
    refine ⟨by omega, by omega, ?_, ?_⟩
    · rw [e1, e2, hn2, List.take_left, List.take_left]
    · rw [e1, ← List.append_assoc, List.drop_left' (by rw [List.length_append, m2]; omega)]
  · rw [if_neg hc] at hn
    have hs : s.size ∈ brL u := break_lf (by omega) b2 (fun h0 e => hc ⟨by omega, by rw [← b1 _ (by omega)]; exact e⟩)
    have e1 := tx_cut2 hs hlf (by omega)
    have m2 : (tx (u.extract s.size (s.size + 1))).length = 1 := one_one (by rw [size_ext u _ _ (by omega)]; omega)
    rw [x1, x2] at e1
    have l1 := congrArg List.length e1
    rw [List.length_append, List.length_append, m2] at l1
    refine ⟨by omega, by omega, ?_, ?_⟩
    · rw [e1, hn, List.take_left, List.take_length]
    · rw [e1, ← List.append_assoc, List.drop_left' (by rw [List.length_append, m2]; omega)]

end Go.Proofs.Ytiakhpfljjfaeaa
