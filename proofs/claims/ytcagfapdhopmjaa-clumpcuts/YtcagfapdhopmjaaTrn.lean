/-
  Plain facts: a part of a text that begins at a break has the breaks that lie in it.
-/
import Derived.Test.YtcagfapdhopmjaaCP
set_option linter.unusedSimpArgs false
set_option linter.unusedVariables false
namespace Go.Proofs.Ytcagfapdhopmjaa
open Go.RowKit Go.Lib

/-- nothing looks back across a break: cx is the class of what stands at it, y of what stands ahead -/
theorem trunc (y : Int) (R2 : List Int) : ∀ (R1 : List Int) (cj cx : Int), (cj :: R1).getLast? = some cx → bk R2 y cx = true →
    ((cj = 4 ∨ cj = 5) → jnR (R1 ++ y :: R2) = jnR R1) ∧ (cj = 6 → evR (R1 ++ y :: R2) = evR R1)
  | [], cj, cx, hl, hb => by
    simp at hl
    subst hl
    refine ⟨fun hm => ?_, fun h6 => ?_⟩
    · have hh := bk_mark hm hb
      simp [hardC] at hh
      show jnR (y :: R2) = jnR []
      unfold jnR
      rw [if_neg (by omega), beq_eq_false_iff_ne]
      omega
    · rw [h6] at hb
      show (if y = 6 then !evR R2 else true) = true
      split
      · rename_i h7
        rw [h7] at hb
        rw [bk_flag hb]; rfl
      · rfl
  | c :: R1, cj, cx, hl, hb => by
    rw [List.getLast?_cons_cons] at hl
    obtain ⟨h1, h2⟩ := trunc y R2 R1 c cx hl hb
    refine ⟨fun _ => ?_, fun _ => ?_⟩
    · show jnR (c :: (R1 ++ y :: R2)) = jnR (c :: R1)
      rw [jnR, jnR]
      split
      · rename_i h5; exact h1 (.inr h5)
      · rfl
    · show evR (c :: (R1 ++ y :: R2)) = evR (c :: R1)
      rw [evR, evR]
      split
      · rename_i h6; rw [h2 h6]
      · rfl

theorem bk_trunc {y : Int} {R2 R1 : List Int} {cj cx : Int} (hl : (cj :: R1).getLast? = some cx) (hb : bk R2 y cx = true) (b : Int) : bk (R1 ++ y :: R2) cj b = bk R1 cj b :=
  bk_same (fun e => (trunc y R2 R1 cj cx hl hb).1 (.inl e)) (fun e => (trunc y R2 R1 cj cx hl hb).2 e) b

theorem C_ext {s : ByteArray} {b e i : Nat} (hs : Sync s e) (he : e ≤ s.size) (hi : i ∈ allL (s.extract b e)) : C (s.extract b e) i = C s (b + i) := by
  unfold C; rw [rn_ext hs he hi]

theorem sync_size (s : ByteArray) : Sync s s.size := fun j hj ho => (wd_le s j hj).1
theorem brL_sync {s : ByteArray} {x : Nat} (h : x ∈ brL s) : Sync s x := by
  rcases brL_places h with rfl | rfl | h
  · exact sync_zero s
  · exact sync_size s
  · exact (mem_allL.1 h).2

/-- the cut of a text at a place of it -/
theorem allL_at {s : ByteArray} {x : Nat} (hx : x < s.size) (h : Sync s x) : ∃ A, allL s = A ++ frm s x ∧ frm s x = x :: frm s (x + wd s x) := by
  obtain ⟨A, r, hA⟩ := List.append_of_mem (mem_allL.2 ⟨hx, h⟩)
  have := (frm_split s A 0 x r (by rw [← allL_frm]; exact hA)).2.1
  exact ⟨A, by rw [← this]; exact hA, frm_step s x hx⟩

/-- WITHIN A PART THAT BEGINS AT A BREAK THE BREAKS ARE THOSE OF THE TEXT. -/
theorem br_part {s : ByteArray} {x e i : Nat} (hx : x ∈ brL s) (hes : Sync s e) (he : e ≤ s.size) (hxi : x < i) (hie : i < e) (hi : Sync s i) : (i - x ∈ brL (s.extract x e) ↔ i ∈ brL s) := by
  obtain ⟨A, hA, hfx⟩ := allL_at (show x < s.size by omega) (brL_sync hx)
  have hext := allL_ext hes he (show x ≤ e by omega)
  have hz := size_ext s x e he
  have hit : i - x ∈ allL (s.extract x e) := sync_down he (by omega) (by rw [show x + (i - x) = i by omega]; exact hi)
  obtain ⟨T1, T2, hT⟩ := List.append_of_mem hit
  rcases List.eq_nil_or_concat T1 with rfl | ⟨T0, jt, rfl⟩
  · obtain ⟨r, hr⟩ := allL_zero (s.extract x e) (by omega)
    rw [hr] at hT
    simp at hT
    omega
  · rw [List.concat_eq_append, List.append_assoc] at hT
    simp only [List.singleton_append] at hT
    have hjt : jt ∈ allL (s.extract x e) := by rw [hT]; simp
    have hall : allL s = (A ++ T0.map (x + ·)) ++ (x + jt) :: i :: (T2.map (x + ·) ++ frm s e) := by
      rw [hA, hext, hT]
      simp [show x + (i - x) = i by omega]
    have m1 := mem_brL hT
    have m2 := mem_brL hall
    rw [m1, m2]
    have hCi : C (s.extract x e) (i - x) = C s i := by rw [C_ext hes he hit, show x + (i - x) = i by omega]
    have hCj : C (s.extract x e) jt = C s (x + jt) := C_ext hes he hjt
    have hT0 : T0.map (C (s.extract x e)) = (T0.map (x + ·)).map (C s) := by
      rw [List.map_map]
      exact List.map_congr_left (fun q hq => C_ext hes he (by rw [hT]; simp [hq]))
    rw [hCi, hCj, hT0, List.map_append, List.reverse_append]
    rcases List.eq_nil_or_concat A with rfl | ⟨A', y, rfl⟩
    · simp
    · rw [List.concat_eq_append] at hA ⊢
      have hbx : bk (A'.map (C s)).reverse (C s y) (C s x) = true := (mem_brL (s := s) (pre := A') (j := y) (i := x) (rest := frm s (x + wd s x)) (by rw [hA, hfx]; simp)).1 hx
      have hfirst : ((C s (x + jt)) :: ((T0.map (x + ·)).map (C s)).reverse).getLast? = some (C s x) := by
        have h0 : (T0 ++ [jt])[0]? = some 0 := by
          obtain ⟨r, hr⟩ := allL_zero (s.extract x e) (by omega)
          have := congrArg (fun l => l[0]?) hT
          rw [hr] at this
          cases T0 with
          | nil => simpa using this.symm
          | cons q T0 => simpa using this.symm
        have : (C s (x + jt)) :: ((T0.map (x + ·)).map (C s)).reverse = (((T0 ++ [jt]).map (x + ·)).map (C s)).reverse := by simp
        rw [this, List.getLast?_reverse, List.head?_eq_getElem?, List.getElem?_map, List.getElem?_map, h0]
        simp
      rw [List.map_append, List.reverse_append]
      show _ ↔ bk (((T0.map (x + ·)).map (C s)).reverse ++ (C s y :: (A'.map (C s)).reverse)) _ _ = true
      rw [bk_trunc hfirst hbx]

end Go.Proofs.Ytcagfapdhopmjaa
