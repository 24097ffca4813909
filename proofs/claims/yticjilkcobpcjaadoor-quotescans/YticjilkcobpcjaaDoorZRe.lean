/-
  What the document's own escape answers.
-/
import Derived.Test.YticjilkcobpcjaaDoorZRf
import Derived.Test.YticjilkcobpcjaaDoorZRefEnc
import Derived.Test.YticjilkcobpcjaaDoorZRd
import Derived.Test.YticjilkcobpcjaaDoorZRefDec
import Derived.Test.YticjilkcobpcjaaDoorZXReg
set_option linter.unusedSimpArgs false
set_option linter.unusedVariables false
namespace Go.Proofs.YticjilkcobpcjaaDoor
open Go.RowKit Go.Lib

def vaI (b : Nat) : Int := if dgV b < 16 then (dgV b : Int) else -1
set_option maxHeartbeats 400000 in
theorem value_in (r : Nat) (hr : r < 256) (w : World) :
    Calls Tryd.prog 57 #[.int .u8 (r : Int)] w fun e w' => e = .returned (.int .i64 (vaI r)) ∧ w = w' := by
  rcases (by omega : r < 48 ∨ (48 ≤ r ∧ r ≤ 57) ∨ (57 < r ∧ r < 97) ∨ (97 ≤ r ∧ r ≤ 102) ∨ 102 < r) with h | ⟨h, h'⟩ | ⟨h, h'⟩ | ⟨h, h'⟩ | h
  · have hd := hide (show vaI r = -1 by unfold vaI dgV; (repeat' split) <;> omega)
    have i1 : ¬ (48 : Int) ≤ (r : Int) := by omega
    have i2 : ¬ (97 : Int) ≤ (r : Int) := by omega
    clear h
    go_enter Tryd.func57, Tryd.ntmps57
    go_wp2
    go_ret
    exact ⟨by rw [unhide hd]; rfl, rfl⟩
  · have hd := hide (show vaI r = (r : Int) - 48 by unfold vaI dgV; (repeat' split) <;> omega)
    have i1 : (48 : Int) ≤ (r : Int) := by omega
    have i2 : (r : Int) ≤ 57 := by omega
    clear h h'
    go_enter Tryd.func57, Tryd.ntmps57
    go_wp2
    go_ret
    refine ⟨?_, rfl⟩
    rw [unhide hd]
    go_num
  · have hd := hide (show vaI r = -1 by unfold vaI dgV; (repeat' split) <;> omega)
    have i1 : (48 : Int) ≤ (r : Int) := by omega
    have i2 : ¬ (r : Int) ≤ 57 := by omega
    have i3 : ¬ (97 : Int) ≤ (r : Int) := by omega
    clear h h'
    go_enter Tryd.func57, Tryd.ntmps57
    go_wp2
    go_ret
    exact ⟨by rw [unhide hd]; rfl, rfl⟩
  · have hd := hide (show vaI r = (r : Int) - 97 + 10 by unfold vaI dgV; (repeat' split) <;> omega)
    have i1 : (48 : Int) ≤ (r : Int) := by omega
    have i2 : ¬ (r : Int) ≤ 57 := by omega
    have i3 : (97 : Int) ≤ (r : Int) := by omega
    have i4 : (r : Int) ≤ 102 := by omega
    clear h h'
    go_enter Tryd.func57, Tryd.ntmps57
    go_wp2
    go_ret
    refine ⟨?_, rfl⟩
    rw [unhide hd]
    go_num
  · have hd := hide (show vaI r = -1 by unfold vaI dgV; (repeat' split) <;> omega)
    have i1 : (48 : Int) ≤ (r : Int) := by omega
    have i2 : ¬ (r : Int) ≤ 57 := by omega
    have i3 : (97 : Int) ≤ (r : Int) := by omega
    have i4 : ¬ (r : Int) ≤ 102 := by omega
    clear h
    go_enter Tryd.func57, Tryd.ntmps57
    go_wp2
    go_ret
    exact ⟨by rw [unhide hd]; rfl, rfl⟩

theorem vaI_yes {b : Nat} (h : dgV b < 16) : vaI b = (dgV b : Int) := by unfold vaI; rw [if_pos h]
theorem vaI_no {b : Nat} (h : ¬ dgV b < 16) : vaI b = -1 := by unfold vaI; rw [if_neg h]
theorem byteE_yes {s : ByteArray} {i : Nat} (h : i + 1 < s.size) (h1 : dgV (by_ s i) < 16) (h2 : dgV (by_ s (i + 1)) < 16) : byteE s i = some ([UInt8.ofNat (16 * dgV (by_ s i) + dgV (by_ s (i + 1)))], 4) := by
  have e : hxR s i 2 0 0 = (16 * dgV (by_ s i) + dgV (by_ s (i + 1)), 2) := by
    rw [hxR_step (by omega) (by rw [Nat.add_zero]; exact h1), hxR_step (by omega) h2]
    simp [hxR]
  unfold byteE; rw [e]; rfl
theorem byteE_no {s : ByteArray} {i : Nat} (h : ¬ (i + 1 < s.size ∧ dgV (by_ s i) < 16 ∧ dgV (by_ s (i + 1)) < 16)) : byteE s i = none := by
  unfold byteE
  rw [if_neg]
  by_cases h1 : i < s.size ∧ dgV (by_ s i) < 16
  · rw [hxR_step (by omega) (by rw [Nat.add_zero]; exact h1.2)]
    rw [hxR_stop (by intro x; exact h ⟨x.1, h1.2, x.2⟩)]
    simp
  · rw [hxR_stop (by rw [Nat.add_zero]; exact h1)]
    simp

theorem ext_sub4 (s : ByteArray) (i n : Nat) : (s.extract i (i + n)).data.toList = subL s i n := by
  unfold subL; simp
theorem ext_one (s : ByteArray) (i : Nat) (h : i < s.size) : s.extract i (i + 1) = ofL [UInt8.ofNat (by_ s i)] := by
  apply toList_inj
  have := ext_sub4 s i 1
  rw [this, subL_1 s i (by omega), ofL_list, by_ofNat]

set_option maxRecDepth 100000 in
set_option maxHeartbeats 4000000 in
theorem refEsc_easy (s : ByteArray) (hs : s.size ≤ 1000000000) (i : Nat) (hi : i < s.size) (hx : ¬ (i + 1 < s.size ∧ (by_ s (i + 1) = 120 ∨ by_ s (i + 1) = 117))) (w : World) :
    Calls Tryd.prog 44 #[.string s, .int .i64 (i : Int)] w fun e w' => e = .returned (.tuple #[.string (resE (escE s i)).1, .int .i64 ((resE (escE s i)).2 : Int)]) ∧ Below w.heap.size w w' := by
  by_cases h1 : i + 1 < s.size
  · have hE : escE s i = if by_ s (i + 1) = 34 then some ([34], 2) else if by_ s (i + 1) = 92 then some ([92], 2)
      else if by_ s (i + 1) = 110 then some ([10], 2) else if by_ s (i + 1) = 114 then some ([13], 2) else if by_ s (i + 1) = 116 then some ([9], 2)
      else none := by unfold escE; rw [if_pos h1]; simp only [show ¬ by_ s (i + 1) = 120 from fun e => hx ⟨h1, .inl e⟩, show ¬ by_ s (i + 1) = 117 from fun e => hx ⟨h1, .inr e⟩, if_false, false_and]
    have hget := by_get s (i + 1) h1
    have hext := ext_one s (i + 1) h1
    have i1 : ¬ (s.size : Int) ≤ (i : Int) + 1 := by omega
    have i2 : (i : Int) + 1 < (s.size : Int) := by omega
    have i3 : (0 : Int) ≤ (i : Int) + 1 := by omega
    have i4 : (i : Int) + 2 ≤ (s.size : Int) := by omega
    have i5 : (i : Int) + 1 ≤ (i : Int) + 2 := by omega
    have t1 : ((i : Int) + 1).toNat = i + 1 := by omega
    have t2 : ((i : Int) + 2).toNat = i + 2 := by omega
    by_cases h34 : by_ s (i + 1) = 34
    · rw [show escE s i = some ([34], 2) by rw [hE, h34]; rfl, res_some]
      rw [h34] at hget hext
      clear hE hx
      go_enter Tryd.func44, Tryd.ntmps44
      go_wp2
      go_ret2
      exact ⟨by first | rfl | (rw [show i + 2 = i + 1 + 1 from rfl, hext]; rfl), Below.refl _ _⟩
    · have e34 : (((by_ s (i + 1) : Nat) : Int) == 34) = false := by rw [beq_eq_false_iff_ne]; omega
      by_cases h92 : by_ s (i + 1) = 92
      · rw [show escE s i = some ([92], 2) by rw [hE, h92]; rfl, res_some]
        rw [h92] at hget hext
        clear hE hx
        go_enter Tryd.func44, Tryd.ntmps44
        go_wp2
        go_ret2
        exact ⟨by first | rfl | (rw [show i + 2 = i + 1 + 1 from rfl, hext]; rfl), Below.refl _ _⟩
      · have e92 : (((by_ s (i + 1) : Nat) : Int) == 92) = false := by rw [beq_eq_false_iff_ne]; omega
        by_cases h110 : by_ s (i + 1) = 110
        · rw [show escE s i = some ([10], 2) by rw [hE, h110]; rfl, res_some]
          rw [h110] at hget hext
          clear hE hx
          go_enter Tryd.func44, Tryd.ntmps44
          go_wp2
          go_ret2
          exact ⟨rfl, Below.refl _ _⟩
        · have e110 : (((by_ s (i + 1) : Nat) : Int) == 110) = false := by rw [beq_eq_false_iff_ne]; omega
          by_cases h114 : by_ s (i + 1) = 114
          · rw [show escE s i = some ([13], 2) by rw [hE, h114]; rfl, res_some]
            rw [h114] at hget hext
            clear hE hx
            go_enter Tryd.func44, Tryd.ntmps44
            go_wp2
            go_ret2
            exact ⟨rfl, Below.refl _ _⟩
          · have e114 : (((by_ s (i + 1) : Nat) : Int) == 114) = false := by rw [beq_eq_false_iff_ne]; omega
            by_cases h116 : by_ s (i + 1) = 116
            · rw [show escE s i = some ([9], 2) by rw [hE, h116]; rfl, res_some]
              rw [h116] at hget hext
              clear hE hx
              go_enter Tryd.func44, Tryd.ntmps44
              go_wp2
              go_ret2
              exact ⟨rfl, Below.refl _ _⟩
            · have e116 : (((by_ s (i + 1) : Nat) : Int) == 116) = false := by rw [beq_eq_false_iff_ne]; omega
              have e120 : (((by_ s (i + 1) : Nat) : Int) == 120) = false := by rw [beq_eq_false_iff_ne]; intro e; exact hx ⟨h1, .inl (by omega)⟩
              have e117 : (((by_ s (i + 1) : Nat) : Int) == 117) = false := by rw [beq_eq_false_iff_ne]; intro e; exact hx ⟨h1, .inr (by omega)⟩
              rw [show escE s i = none by rw [hE]; simp only [h34, h92, h110, h114, h116, if_false]]
              clear hE hx h34 h92 h110 h114 h116
              go_enter Tryd.func44, Tryd.ntmps44
              go_wp2
              go_ret2
              exact ⟨rfl, Below.refl _ _⟩
  · have hE : escE s i = none := by unfold escE; rw [if_neg h1]
    rw [hE]
    have i1 : (s.size : Int) ≤ (i : Int) + 1 := by omega
    clear hE hx
    go_enter Tryd.func44, Tryd.ntmps44
    go_wp2
    go_ret2
    exact ⟨rfl, Below.refl _ _⟩

end Go.Proofs.YticjilkcobpcjaaDoor
