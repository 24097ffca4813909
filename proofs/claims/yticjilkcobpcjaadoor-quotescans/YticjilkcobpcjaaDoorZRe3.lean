/-
  What the document's own escape answers: a rune's number; and all ways together.
-/
import Derived.Test.YticjilkcobpcjaaDoorZRe2
set_option linter.unusedSimpArgs false
set_option linter.unusedVariables false
namespace Go.Proofs.YticjilkcobpcjaaDoor
open Go.RowKit Go.Lib

set_option maxRecDepth 100000 in
set_option maxHeartbeats 4000000 in
theorem refEsc_rune (s : ByteArray) (hs : s.size ≤ 1000000000) (i : Nat) (hi : i + 1 < s.size) (h1 : by_ s (i + 1) = 117) (w : World) :
    Calls Tryd.prog 44 #[.string s, .int .i64 (i : Int)] w fun e w' => e = .returned (.tuple #[.string (resE (escE s i)).1, .int .i64 ((resE (escE s i)).2 : Int)]) ∧ Below w.heap.size w w' := by
  have hE : escE s i = if i + 2 < s.size ∧ by_ s (i + 2) = 123 then runeE s (i + 3) else none := by unfold escE; rw [if_pos hi]; simp only [h1]; simp
  have hget := by_get s (i + 1) hi
  rw [h1] at hget
  have i1 : ¬ (s.size : Int) ≤ (i : Int) + 1 := by omega
  have i2 : (i : Int) + 1 < (s.size : Int) := by omega
  have i3 : (0 : Int) ≤ (i : Int) + 1 := by omega
  have t1 : ((i : Int) + 1).toNat = i + 1 := by omega
  by_cases h2 : i + 2 < s.size
  · have g2 := by_get s (i + 2) h2
    have j2 : (i : Int) + 2 < (s.size : Int) := by omega
    have j3 : (0 : Int) ≤ (i : Int) + 2 := by omega
    have j4 : ¬ (s.size : Int) ≤ (i : Int) + 2 := by omega
    have t2 : ((i : Int) + 2).toNat = i + 2 := by omega
    by_cases h3 : by_ s (i + 2) = 123
    · rw [if_pos ⟨h2, h3⟩] at hE
      rw [hE]
      rw [h3] at g2
      have hb := hxR_snd s (i + 3) 6 0 0
      obtain ⟨A, hA⟩ : ∃ A, hxR s (i + 3) 6 0 0 = A := ⟨_, rfl⟩
      have hRE : runeE s (i + 3) = (if A.2 = 0 ∨ (1 < A.2 ∧ by_ s (i + 3) = 48) then none
        else if i + 3 + A.2 < s.size ∧ by_ s (i + 3 + A.2) = 125 ∧ Utf8.valid (A.1 : Int) = true then some (encL (A.1 : Int), A.2 + 4) else none) := by rw [← hA]; rfl
      have HA := hide hA
      have HRE := hide hRE
      clear hE h3 hb hA hRE h1
      go_enter Tryd.func44, Tryd.ntmps44
      go_wp2
      go_loopw [6, 7] (fun a b wr => ∃ (n c : Nat), a = .int .i64 ((i + 3 + c : Nat) : Int) ∧ b = .int .i64 (n : Int) ∧ c ≤ 6 ∧ i + 3 + c ≤ s.size ∧ n < 16 ^ c ∧ Hid (hxR s (i + 3) (6 - c) n c = A) ∧ wr = w) (fun a _ _ => s.size - (Lib.intOf a).toNat)
      case atStart => exact ⟨0, 0, by go_num, rfl, by omega, by omega, by simp, hide (unhide HA), rfl⟩
      case round =>
        obtain ⟨n, c, rfl, rfl, hc, hcs, hn, H, rfl⟩ := hrel
        have hn24 : n < 16777216 := by
          have : 16 ^ c ≤ 16 ^ 6 := Nat.pow_le_pow_right (by decide) hc
          omega
        by_cases hgo : i + 3 + c < s.size ∧ c < 6 ∧ dgV (by_ s (i + 3 + c)) < 16
        · obtain ⟨kk, hkk⟩ : ∃ kk, i + 3 + c = kk := ⟨_, rfl⟩
          have hstep : hxR s (i + 3) (6 - (c + 1)) (16 * n + dgV (by_ s kk)) (c + 1) = A := by
            have h5 := unhide H
            obtain ⟨g, hg⟩ : ∃ g, 6 - c = g + 1 := ⟨6 - c - 1, by omega⟩
            rw [hg, hxR_step hgo.1 hgo.2.2, hkk] at h5
            rw [show 6 - (c + 1) = g by omega]
            exact h5
          have Hs := hide hstep
          rw [hkk] at hgo ⊢
          have hk1 : kk < s.size := hgo.1
          have gk := by_get s kk hk1
          have hvk := by_lt s kk
          obtain ⟨d, hd⟩ : ∃ d, by_ s kk = d := ⟨_, rfl⟩
          rw [hd] at gk hvk hgo Hs
          have vk := vaI_yes hgo.2.2
          have hd16 := hgo.2.2
          have k1 : (kk : Int) < (s.size : Int) := by omega
          have k2 : (kk : Int) < (i : Int) + 9 := by omega
          have k3 : (0 : Int) ≤ (kk : Int) := by omega
          have k4 : (0 : Int) ≤ (dgV d : Int) := by omega
          have hc6 : c < 6 := hgo.2.1
          clear hgo hd hstep
          go_wp2_with (go_at_call 57; refine (value_in _ (by exact hvk) _).mono ?_; rintro e w' ⟨rfl, rfl⟩)
          go_roundw
          case rel =>
            exact ⟨16 * n + dgV d, c + 1, by go_num, by go_num, by omega, by omega, by rw [Nat.pow_succ]; omega, Hs, by first | rfl | trivial⟩
          case measure => simp [Lib.intOf]; omega
        · have HR := hide (show A = (n, c) by
            rw [← unhide H]
            by_cases h6 : c = 6
            · subst h6; rfl
            · exact hxR_stop (fun x => hgo ⟨x.1, by omega, x.2⟩))
          have HF := hide (show runeE s (i + 3) = (if c = 0 ∨ (1 < c ∧ by_ s (i + 3) = 48) then none
            else if i + 3 + c < s.size ∧ by_ s (i + 3 + c) = 125 ∧ Utf8.valid (n : Int) = true then some (encL (n : Int), c + 4) else none) by rw [unhide HRE, unhide HR])
          obtain ⟨kk, hkk⟩ : ∃ kk, i + 3 + c = kk := ⟨_, rfl⟩
          rw [hkk] at hcs hgo HF ⊢
          clear HA HRE HR H
          have hcI : (kk : Int) - (i : Int) - 3 = (c : Int) := by omega
          have hir : ∀ (V : Bool), Utf8.valid (n : Int) = V → ∀ W, Hid (Calls Tryd.prog 58 #[.int .i32 (n : Int)] W fun e w' => e = .returned (.bool V) ∧ W = w') := fun V hV W => hide (by rw [← hV]; exact isRune_any _ W)
          have henc := fun W => hide (refEncode_any (n : Int) W)
          have E9 := hide (show (kk : Int) + 1 - (i : Int) = ((c + 4 : Nat) : Int) by omega)
          have k3 : (0 : Int) ≤ (kk : Int) := by omega
          by_cases hA1 : kk < s.size
          · have gk := by_get s kk hA1
            have hvk := by_lt s kk
            have v125 : ∀ W, Hid (Calls Tryd.prog 57 #[.int .u8 125] W fun e w' => e = .returned (.int .i64 (-1)) ∧ W = w') := fun W => hide (value_in 125 (by omega) W)
            obtain ⟨d, hd⟩ : ∃ d, by_ s kk = d := ⟨_, rfl⟩
            have k1 : (kk : Int) < (s.size : Int) := by omega
            have k5 : ¬ (s.size : Int) ≤ (kk : Int) := by omega
            rw [hd] at gk hvk hgo
            by_cases h6 : c = 6
            · have k2 : ¬ (kk : Int) < (i : Int) + 9 := by omega
              · have hc0 : c ≠ 0 := by omega
                have cz : ¬ (c : Int) < 1 := by omega
                have h33 : i + 3 < s.size := by omega
                have g33 := by_get s (i + 3) h33
                have j33 : (i : Int) + 3 < (s.size : Int) := by omega
                have j34 : (0 : Int) ≤ (i : Int) + 3 := by omega
                have t33 : ((i : Int) + 3).toNat = i + 3 := by omega
                by_cases h125 : d = 125
                · subst h125
                  have h1c : 1 < c := by omega
                  have i1c : (1 : Int) < (c : Int) := by omega
                  by_cases h48 : by_ s (i + 3) = 48
                  · have HX := hide (show runeE s (i + 3) = none by rw [unhide HF]; rw [if_pos (.inr ⟨h1c, h48⟩)])
                    rw [h48] at g33
                    clear HF hir henc h48
                    go_wp2
                    go_ret2
                    refine ⟨?_, Below.refl _ _⟩
                    rw [unhide HX, res_none]
                    rfl
                  · have e48 : (((by_ s (i + 3) : Nat) : Int) == 48) = false := by rw [beq_eq_false_iff_ne]; omega
                    cases hV : Utf8.valid (n : Int) with
                    | true =>
                      replace hir := hir true hV
                      have HX := hide (show runeE s (i + 3) = some (encL (n : Int), c + 4) by rw [unhide HF]; rw [if_neg (by omega), if_pos ⟨hA1, hd, hV⟩])
                      clear HF hV
                      go_wp2_with (first | (go_at_call 58; refine (unhide (hir _)).mono ?_; rintro e w' ⟨rfl, rfl⟩) | (go_at_call 59; refine (unhide (henc _)).mono ?_; rintro e w' ⟨rfl, hB2⟩))
                      go_ret2
                      refine ⟨?_, hB2⟩
                      rw [unhide HX, res_some, enc_back]
                      show Ending.returned (.tuple #[.string (Utf8.encode (n : Int)), .int .i64 ((kk : Int) + 1 - (i : Int))]) = _
                      rw [unhide E9]
                    | false =>
                      replace hir := hir false hV
                      have HX := hide (show runeE s (i + 3) = none by rw [unhide HF]; rw [if_neg (by omega), if_neg (fun x => by rw [hV] at x; cases x.2.2)])
                      clear HF hV henc
                      go_wp2_with (first | (go_at_call 58; refine (unhide (hir _)).mono ?_; rintro e w' ⟨rfl, rfl⟩))
                      go_ret2
                      refine ⟨?_, Below.refl _ _⟩
                      rw [unhide HX, res_none]
                      rfl
                · have e125 : ((d : Int) != 125) = true := by rw [bne_iff_ne]; omega
                  have HX := hide (show runeE s (i + 3) = none by rw [unhide HF]; split <;> first | rfl | exact if_neg (fun x => h125 (by rw [← hd]; exact x.2.1)))
                  clear HF hir henc
                  go_wp2
                  go_ret2
                  refine ⟨?_, Below.refl _ _⟩
                  rw [unhide HX, res_none]
                  rfl
            · have k2 : (kk : Int) < (i : Int) + 9 := by omega
              have vk := vaI_no (fun x => hgo ⟨hA1, by omega, x⟩)
              by_cases hc0 : c = 0
              · have HX := hide (show runeE s (i + 3) = none by rw [unhide HF]; rw [if_pos (.inl hc0)])
                have cz : (c : Int) < 1 := by omega
                clear HF hir henc
                go_wp2_with (first | (go_at_call 57; refine (value_in _ (by exact hvk) _).mono ?_; rintro e w' ⟨rfl, rfl⟩))
                go_ret2
                refine ⟨?_, Below.refl _ _⟩
                rw [unhide HX, res_none]
                rfl
              · have cz : ¬ (c : Int) < 1 := by omega
                have h33 : i + 3 < s.size := by omega
                have g33 := by_get s (i + 3) h33
                have j33 : (i : Int) + 3 < (s.size : Int) := by omega
                have j34 : (0 : Int) ≤ (i : Int) + 3 := by omega
                have t33 : ((i : Int) + 3).toNat = i + 3 := by omega
                by_cases h125 : d = 125
                · subst h125
                  by_cases h1c : 1 < c
                  · have i1c : (1 : Int) < (c : Int) := by omega
                    by_cases h48 : by_ s (i + 3) = 48
                    · have HX := hide (show runeE s (i + 3) = none by rw [unhide HF]; rw [if_pos (.inr ⟨h1c, h48⟩)])
                      rw [h48] at g33
                      clear HF hir henc h48
                      go_wp2_with (first | (go_at_call 57; refine (unhide (v125 _)).mono ?_; rintro e w' ⟨rfl, rfl⟩))
                      go_ret2
                      refine ⟨?_, Below.refl _ _⟩
                      rw [unhide HX, res_none]
                      rfl
                    · have e48 : (((by_ s (i + 3) : Nat) : Int) == 48) = false := by rw [beq_eq_false_iff_ne]; omega
                      cases hV : Utf8.valid (n : Int) with
                      | true =>
                        replace hir := hir true hV
                        have HX := hide (show runeE s (i + 3) = some (encL (n : Int), c + 4) by rw [unhide HF]; rw [if_neg (by omega), if_pos ⟨hA1, hd, hV⟩])
                        clear HF hV
                        go_wp2_with (first | (go_at_call 57; refine (unhide (v125 _)).mono ?_; rintro e w' ⟨rfl, rfl⟩) | (go_at_call 58; refine (unhide (hir _)).mono ?_; rintro e w' ⟨rfl, rfl⟩) | (go_at_call 59; refine (unhide (henc _)).mono ?_; rintro e w' ⟨rfl, hB2⟩))
                        go_ret2
                        refine ⟨?_, hB2⟩
                        rw [unhide HX, res_some, enc_back]
                        show Ending.returned (.tuple #[.string (Utf8.encode (n : Int)), .int .i64 ((kk : Int) + 1 - (i : Int))]) = _
                        rw [unhide E9]
                      | false =>
                        replace hir := hir false hV
                        have HX := hide (show runeE s (i + 3) = none by rw [unhide HF]; rw [if_neg (by omega), if_neg (fun x => by rw [hV] at x; cases x.2.2)])
                        clear HF hV henc
                        go_wp2_with (first | (go_at_call 57; refine (unhide (v125 _)).mono ?_; rintro e w' ⟨rfl, rfl⟩) | (go_at_call 58; refine (unhide (hir _)).mono ?_; rintro e w' ⟨rfl, rfl⟩))
                        go_ret2
                        refine ⟨?_, Below.refl _ _⟩
                        rw [unhide HX, res_none]
                        rfl
                  · have i1c : ¬ (1 : Int) < (c : Int) := by omega
                    cases hV : Utf8.valid (n : Int) with
                    | true =>
                      replace hir := hir true hV
                      have HX := hide (show runeE s (i + 3) = some (encL (n : Int), c + 4) by rw [unhide HF]; rw [if_neg (by omega), if_pos ⟨hA1, hd, hV⟩])
                      clear HF hV
                      go_wp2_with (first | (go_at_call 57; refine (unhide (v125 _)).mono ?_; rintro e w' ⟨rfl, rfl⟩) | (go_at_call 58; refine (unhide (hir _)).mono ?_; rintro e w' ⟨rfl, rfl⟩) | (go_at_call 59; refine (unhide (henc _)).mono ?_; rintro e w' ⟨rfl, hB2⟩))
                      go_ret2
                      refine ⟨?_, hB2⟩
                      rw [unhide HX, res_some, enc_back]
                      show Ending.returned (.tuple #[.string (Utf8.encode (n : Int)), .int .i64 ((kk : Int) + 1 - (i : Int))]) = _
                      rw [unhide E9]
                    | false =>
                      replace hir := hir false hV
                      have HX := hide (show runeE s (i + 3) = none by rw [unhide HF]; rw [if_neg (by omega), if_neg (fun x => by rw [hV] at x; cases x.2.2)])
                      clear HF hV henc
                      go_wp2_with (first | (go_at_call 57; refine (unhide (v125 _)).mono ?_; rintro e w' ⟨rfl, rfl⟩) | (go_at_call 58; refine (unhide (hir _)).mono ?_; rintro e w' ⟨rfl, rfl⟩))
                      go_ret2
                      refine ⟨?_, Below.refl _ _⟩
                      rw [unhide HX, res_none]
                      rfl
                · have e125 : ((d : Int) != 125) = true := by rw [bne_iff_ne]; omega
                  have HX := hide (show runeE s (i + 3) = none by rw [unhide HF]; split <;> first | rfl | exact if_neg (fun x => h125 (by rw [← hd]; exact x.2.1)))
                  clear HF hir henc
                  go_wp2_with (first | (go_at_call 57; refine (value_in _ (by exact hvk) _).mono ?_; rintro e w' ⟨rfl, rfl⟩))
                  go_ret2
                  refine ⟨?_, Below.refl _ _⟩
                  rw [unhide HX, res_none]
                  rfl
          · have k1 : ¬ (kk : Int) < (s.size : Int) := by omega
            have k5 : (s.size : Int) ≤ (kk : Int) := by omega
            by_cases hc0 : c = 0
            · have HX := hide (show runeE s (i + 3) = none by rw [unhide HF]; rw [if_pos (.inl hc0)])
              have cz : (c : Int) < 1 := by omega
              clear HF hir henc
              go_wp2
              go_ret2
              refine ⟨?_, Below.refl _ _⟩
              rw [unhide HX, res_none]
              rfl
            · have cz : ¬ (c : Int) < 1 := by omega
              have HX := hide (show runeE s (i + 3) = none by rw [unhide HF]; split <;> first | rfl | exact if_neg (fun x => hA1 x.1))
              clear HF hir henc
              go_wp2
              go_ret2
              refine ⟨?_, Below.refl _ _⟩
              rw [unhide HX, res_none]
              rfl
    · have e3 : (((by_ s (i + 2) : Nat) : Int) != 123) = true := by rw [bne_iff_ne]; omega
      rw [hE, if_neg (fun x => h3 x.2), res_none]
      clear hE h3 h1
      go_enter Tryd.func44, Tryd.ntmps44
      go_wp2
      go_ret2
      exact ⟨rfl, Below.refl _ _⟩
  · have j4 : (s.size : Int) ≤ (i : Int) + 2 := by omega
    rw [hE, if_neg (by omega), res_none]
    clear hE h1
    go_enter Tryd.func44, Tryd.ntmps44
    go_wp2
    go_ret2
    exact ⟨rfl, Below.refl _ _⟩

theorem refEsc_in (s : ByteArray) (hs : s.size ≤ 1000000000) (i : Nat) (hi : i < s.size) (w : World) :
    Calls Tryd.prog 44 #[.string s, .int .i64 (i : Int)] w fun e w' => e = .returned (.tuple #[.string (resE (escE s i)).1, .int .i64 ((resE (escE s i)).2 : Int)]) ∧ Below w.heap.size w w' := by
  by_cases h : i + 1 < s.size ∧ (by_ s (i + 1) = 120 ∨ by_ s (i + 1) = 117)
  · rcases h.2 with h2 | h2
    · exact refEsc_byte s hs i h.1 h2 w
    · exact refEsc_rune s hs i h.1 h2 w
  · exact refEsc_easy s hs i hi h w

end Go.Proofs.YticjilkcobpcjaaDoor
