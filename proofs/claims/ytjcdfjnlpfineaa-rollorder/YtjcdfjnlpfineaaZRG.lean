/-
  fill and Load.
-/
import Derived.Test.YtjcdfjnlpfineaaZRF
set_option linter.unusedSimpArgs false
set_option linter.unusedVariables false
namespace Go.Proofs.Ytjcdfjnlpfineaa
open Go.RowKit Go.Lib Go.Shelf

/-- the word that fill makes -/
def fillW (m : Wd) : List Int → Option Wd
  | [] => some m
  | x :: l => if uI (bitW x) ≤ uI m then none else fillW (m ||| bitW x) l
def orL (m : Wd) (l : List Int) : Wd := l.foldl (fun m x => m ||| bitW x) m
theorem fillW_or : ∀ (l : List Int) (m J : Wd), fillW m l = some J → J = orL m l
  | [], m, J, h => by simp [fillW] at h; exact h.symm
  | x :: l, m, J, h => by
    unfold fillW at h
    split at h
    · cases h
    · exact fillW_or l _ J h
theorem orL_ok : ∀ (l : List Int) (m : Wd), OkW m → OkW (orL m l)
  | [], m, h => h
  | x :: l, m, h => orL_ok l _ (h.or x)
theorem ok0 : OkW 0#32 := fun i h => by simp at h
theorem fill_ok {l : List Int} {J : Wd} (h : fillW 0#32 l = some J) : OkW J := by rw [fillW_or l _ _ h]; exact orL_ok l _ ok0

set_option maxRecDepth 100000 in
set_option maxHeartbeats 4000000 in
theorem fill_in {w0 w : World} {b k : Nat} {T : TypeId} {vs : Array Value} {m : Wd} {v : Value} {l : List Int} (hb : Below w0.heap.size w0 w) (hx : Bx w b T vs) (hl : w0.heap.size ≤ b) (hk : vs[k]? = some (.int .u32 (uI m))) (hr : RN w0 v l) (hn : l.length ≤ 1000000) :
    Calls Try.prog 40 #[.pointer (some ⟨b, k, none⟩), v] w fun e W => e = .returned (.bool (fillW m l).isSome) ∧ ∃ m', Bx W b T (vs.setIfInBounds k (.int .u32 (uI m'))) ∧ (∀ J, fillW m l = some J → m' = J) ∧ Kp (fun i => i = b) w W := by
  obtain ⟨a, c, rfl⟩ := hr.form
  have HR := hide hr
  have HB := hide hb
  have HBit := hide (fun x W => bit_in x W)
  have hks : k < vs.size := (Array.getElem?_eq_some_iff.1 hk).1
  obtain ⟨n, hln⟩ : ∃ n, l.length = n := ⟨_, rfl⟩
  have HL := hide hln
  rw [hln]
  rw [hln] at hn
  obtain ⟨R, hR⟩ : ∃ R, fillW m l = R := ⟨_, rfl⟩
  have HF := hide hR
  rw [hR]
  have H0 : Hid (Bx w b T (vs.setIfInBounds k (.int .u32 (uI m)))) := by
    have : vs.setIfInBounds k (.int .u32 (uI m)) = vs := by
      apply Array.ext_getElem?
      intro j
      rw [Array.getElem?_setIfInBounds]
      split
      · rename_i e; subst e; rw [hk]
      · rfl
    rw [this]; exact hx
  have lx := Bx.lt hx
  clear hln hR hr hb hx
  go_enter Try.func40, Try.ntmps40
  go_wp2
  go_loopw [10] (fun iv wr => ∃ (i : Nat) (q : Wd), i ≤ n ∧ iv = .int .i64 (i : Nat) ∧ Hid (Bx wr b T (vs.setIfInBounds k (.int .u32 (uI q))) ∧ Kp (fun j => j = b) w wr ∧ fillW q (l.drop i) = R)) (fun iv _ => n - (RowKit.intOf iv).toNat)
  case atStart => exact ⟨0, m, Nat.zero_le _, rfl, hide ⟨unhide H0, Kp.refl _ _, by rw [List.drop_zero]; exact unhide HF⟩⟩
  case round =>
    obtain ⟨i, q, hi, rfl, HI⟩ := hrel
    clear H0
    obtain ⟨hx, hkp, hf⟩ := unhide HI
    by_cases hlt : i < n
    · have hlt' : (i : Int) < (n : Int) := by omega
      have hi1 : i < l.length := by rw [unhide HL]; exact hlt
      have hbw := hkp.below (unhide HB) (fun j e => by omega)
      have hrow := (unhide HR).below hbw
      rw [show (Value.slice a l.length c) = .slice a n c by rw [unhide HL]] at hrow
      obtain ⟨b1, o1, rfl, _, k1⟩ := RN.at hrow (List.getElem?_eq_getElem hi1)
      rw [List.drop_eq_getElem_cons hi1] at hf
      generalize l[i] = x at *
      have cq : wr.cell? ⟨b, k, none⟩ = some (.int .u32 (uI q)) := hx.cell k _ (by rw [Array.getElem?_setIfInBounds, if_pos rfl, if_pos hks])
      have fq := hx.frozen k
      have lq := Bx.lt hx
      have hb1 := unhide HBit x
      unfold fillW at hf
      by_cases hle : uI (bitW x) ≤ uI q
      · rw [if_pos hle] at hf
        have HF2 := hide hf
        have hb2 := hide hb1
        have hu := u_or q (bitW x)
        generalize uI (bitW x) = y at *
        clear hf hbw hrow hb1 hx hkp
        go_wp2_with fail
        refine (unhide hb2 _).mono ?_
        rintro e W2 ⟨rfl, rfl⟩
        go_wp2
        go_ret
        have hf := unhide HF2
        subst hf
        exact ⟨rfl, q, (unhide HI).1, fun J h => (by cases h), (unhide HI).2.1⟩
      · rw [if_neg hle] at hf
        have hu := u_or q (bitW x)
        have K2 := hide (hkp.trans (Kp.set (N := fun j => j = b) wr ⟨b, k, none⟩ (.int .u32 (uI (q ||| bitW x))) rfl) (fun j hj => .inl hj))
        have X2 : Hid (Bx (wr.setCell ⟨b, k, none⟩ (.int .u32 (uI (q ||| bitW x)))) b T (vs.setIfInBounds k (.int .u32 (uI (q ||| bitW x))))) := by
          have := hx.set k (.int .u32 (uI (q ||| bitW x)))
          rw [Array.setIfInBounds_setIfInBounds] at this
          exact this
        have HF2 := hide hf
        have hb2 := hide hb1
        obtain ⟨z, hz⟩ : ∃ z, uI (q ||| bitW x) = z := ⟨_, rfl⟩
        have Hz := hide hz
        rw [hz] at hu K2 X2
        generalize uI (bitW x) = y at *
        clear hf hbw hrow hb1 hx hkp hz HI
        go_wp2_with fail
        refine (unhide hb2 _).mono ?_
        rintro e W2 ⟨rfl, rfl⟩
        go_wp2
        go_roundw
        case rel => exact ⟨i + 1, q ||| bitW x, by omega, by go_num, hide ⟨by rw [unhide Hz]; exact unhide X2, unhide K2, unhide HF2⟩⟩
        case measure => show n - ((i : Int) + 1).toNat < n - ((i : Nat) : Int).toNat; omega
    · obtain rfl : i = n := by omega
      have hlt' : ¬ (i : Int) < (i : Int) := by omega
      rw [List.drop_of_length_le (by rw [unhide HL]; exact Nat.le_refl _)] at hf
      have HF2 := hide hf
      clear hf hx hkp
      go_wp2
      go_ret
      have hf := unhide HF2
      unfold fillW at hf
      subst hf
      exact ⟨rfl, q, (unhide HI).1, fun J h => (by cases h; rfl), (unhide HI).2.1⟩

end Go.Proofs.Ytjcdfjnlpfineaa
