/-
  The document's own Load.
-/
import Derived.Test.YtjcdfjnlpfineaaZRZ
set_option linter.unusedSimpArgs false
set_option linter.unusedVariables false
namespace Go.Proofs.Ytjcdfjnlpfineaa
open Go.RowKit Go.Lib
variable {w W W' : World}

def LoadD (W : World) (c : Nat) (jl ll : List Int) (e : Int) (p : Value) : Prop :=
  (errL jl ll e ≠ 0 ∧ p = .pointer none) ∨ (errL jl ll e = 0 ∧ p = .pointer (some ⟨c, 0, none⟩) ∧ ∃ J L, fillW 0#32 jl = some J ∧ fillW 0#32 ll = some L ∧ DB W c ⟨J, L, e⟩)
theorem ris_site : ∀ (l : List Int) (p : Int), risB p l = true → ∀ x ∈ l, siteB x = true
  | [], p, h, x, hx => by cases hx
  | y :: l, p, h, x, hx => by
    unfold risB at h
    rw [Bool.and_eq_true, Bool.and_eq_true] at h
    rcases List.mem_cons.1 hx with rfl | hx
    · exact h.1.1
    · exact ris_site l y h.2 x hx
theorem fill_of_ris {l : List Int} (h : risB 0 l = true) : fillW 0#32 l = some (orL 0#32 l) := by
  rw [← fill_rising] at h
  cases e : fillW 0#32 l with
  | none => rw [e] at h; cases h
  | some J => rw [fillW_or l _ _ e]
theorem fill_not_ris {l : List Int} (h : risB 0 l = false) : fillW 0#32 l = none := by
  rw [← fill_rising] at h
  cases e : fillW 0#32 l with
  | none => rfl
  | some J => rw [e] at h; cases h
theorem orL_take {l : List Int} {i : Nat} {x : Int} (h : l[i]? = some x) (m : Wd) : orL m (l.take (i + 1)) = orL m (l.take i) ||| bitW x := by
  rw [List.take_add_one, h, orL_app]; rfl

set_option maxRecDepth 100000 in
set_option maxHeartbeats 16000000 in
theorem rLoad_in {vj vl : Value} {jl ll : List Int} (hj : RN w vj jl) (hl : RN w vl ll) (hnj : jl.length ≤ 1000000) (hnl : ll.length ≤ 1000000) (e : Int) (he : in64 e) :
    Calls Try.prog 19 #[vj, vl, .int .i64 e] w fun r W => ∃ p, r = .returned (.tuple #[p, .int .i64 (errL jl ll e)]) ∧ ∃ c, w.heap.size ≤ c ∧ LoadD W c jl ll e p ∧ Below w.heap.size w W := by
  obtain ⟨aj, cj, rfl⟩ := hj.form
  obtain ⟨al, cl, rfl⟩ := hl.form
  have H1 := hide (rising_in hj hnj)
  have H2 := hide (fun W (hb : Below w.heap.size w W) => rising_in (hl.below hb) hnl)
  have HJ := hide hj
  have HL := hide hl
  obtain ⟨nj, hlj⟩ : ∃ n, jl.length = n := ⟨_, rfl⟩
  obtain ⟨nl, hll⟩ : ∃ n, ll.length = n := ⟨_, rfl⟩
  have NJ := hide hlj
  have NL := hide hll
  rw [hlj] at hnj H1 ⊢
  rw [hll] at hnl H2 ⊢
  unfold in64 at he
  obtain ⟨E, hE⟩ : ∃ E, errL jl ll e = E := ⟨_, rfl⟩
  have HE := hide hE
  rw [hE]
  unfold errL at hE
  clear hj hl hlj hll
  cases eJ : risB 0 jl with
  | false =>
    rw [eJ] at H1
    rw [fill_not_ris eJ] at hE
    simp only at hE
    subst hE
    clear H2
    go_enter Try.func19, Try.ntmps19
    go_wp2_with fail
    refine (unhide H1).mono ?_
    rintro r W1 ⟨rfl, b1⟩
    have B1 := hide b1
    clear b1
    go_wp2
    refine bodyPost_ret (results_tmp2 rfl _ _ _) rfl ?_
    exact ⟨_, rfl, w.heap.size, Nat.le_refl _, Or.inl ⟨by rw [unhide HE]; omega, rfl⟩, unhide B1⟩
  | true =>
    rw [eJ] at H1
    rw [fill_of_ris eJ] at hE
    have FJ := hide (fill_of_ris eJ)
    have SJ := hide (ris_site jl 0 eJ)
    cases eL : risB 0 ll with
    | false =>
      rw [eL] at H2
      rw [fill_not_ris eL] at hE
      simp only at hE
      subst hE
      go_enter Try.func19, Try.ntmps19
      go_wp2_with fail
      refine (unhide H1).mono ?_
      rintro r W1 ⟨rfl, b1⟩
      have B1 := hide b1
      clear b1
      go_wp2_with fail
      refine (unhide H2 _ (unhide B1)).mono ?_
      rintro r W2 ⟨rfl, b2⟩
      have B2 := hide (bnext (unhide B1) b2)
      clear b2
      go_wp2
      refine bodyPost_ret (results_tmp2 rfl _ _ _) rfl ?_
      exact ⟨_, rfl, w.heap.size, Nat.le_refl _, Or.inl ⟨by rw [unhide HE]; omega, rfl⟩, unhide B2⟩
    | true =>
      rw [eL] at H2
      rw [fill_of_ris eL] at hE
      have FL := hide (fill_of_ris eL)
      have SL := hide (ris_site ll 0 eL)
      simp only at hE
      by_cases he0 : e < 0
      · rw [if_pos he0] at hE
        subst hE
        go_enter Try.func19, Try.ntmps19
        go_wp2_with fail
        refine (unhide H1).mono ?_
        rintro r W1 ⟨rfl, b1⟩
        have B1 := hide b1
        clear b1
        go_wp2_with fail
        refine (unhide H2 _ (unhide B1)).mono ?_
        rintro r W2 ⟨rfl, b2⟩
        have B2 := hide (bnext (unhide B1) b2)
        clear b2
        go_wp2
        refine bodyPost_ret (results_tmp2 rfl _ _ _) rfl ?_
        exact ⟨_, rfl, w.heap.size, Nat.le_refl _, Or.inl ⟨by rw [unhide HE]; omega, rfl⟩, unhide B2⟩
      · rw [if_neg he0] at hE
        clear eJ eL
        obtain ⟨J, hJ⟩ : ∃ J, orL 0#32 jl = J := ⟨_, rfl⟩
        obtain ⟨L, hL⟩ : ∃ L, orL 0#32 ll = L := ⟨_, rfl⟩
        rw [hJ, hL] at hE
        have QJ := hide hJ
        have QL := hide hL
        have hE' := hide hE
        clear hJ hL hE
        go_enter Try.func19, Try.ntmps19
        go_wp2_with fail
        refine (unhide H1).mono ?_
        rintro r W1 ⟨rfl, b1⟩
        have B1 := hide b1
        clear b1 H1
        go_wp2_with fail
        refine (unhide H2 _ (unhide B1)).mono ?_
        rintro r W2 ⟨rfl, b2⟩
        have B2 := hide (bnext (unhide B1) b2)
        obtain ⟨X, hX⟩ : ∃ X, W2.alloc (.cells #[.bool false, .bool false, .bool false, .bool false, .bool false, .bool false, .bool false, .bool false, .bool false, .bool false, .bool false, .bool false, .bool false, .bool false, .bool false, .bool false, .bool false, .bool false, .bool false, .bool false, .bool false, .bool false, .bool false, .bool false, .bool false, .bool false, .bool false, .bool false, .bool false, .bool false, .bool false, .bool false, .bool false, .bool false, .int .i64 e] 53) = X := ⟨_, rfl⟩
        obtain ⟨cc, hcc⟩ : ∃ cc, W2.heap.size = cc := ⟨_, rfl⟩
        have dX : DB X cc ⟨0#32, 0#32, e⟩ := by
          rw [← hX, ← hcc]
          have := DB.nil W2 e
          rw [arr35_zero] at this
          exact this
        have bX : Below w.heap.size w X := by rw [← hX]; exact bnext (unhide B2) (ballc (Below.refl _ _) _)
        have hlo : w.heap.size ≤ cc := by rw [← hcc]; exact (unhide B2).size
        have DX := hide dX
        have BX := hide bX
        clear b2 H2 B1 dX bX B2
        go_wp2
        go_loopw [9] (fun iv wr => ∃ i : Nat, iv = .int .i64 (i : Nat) ∧ i ≤ nj ∧ Hid (DB wr cc ⟨orL 0#32 (jl.take i), 0#32, e⟩ ∧ Below w.heap.size w wr)) (fun iv _ => nj - (RowKit.intOf iv).toNat)
        case atStart => exact ⟨0, rfl, Nat.zero_le _, hide ⟨by rw [List.take_zero]; rw [hcc] at *; exact unhide DX, unhide BX⟩⟩
        case round =>
          obtain ⟨i, rfl, hi, HI⟩ := hrel
          clear DX BX hX
          by_cases hlt : i < nj
          · have hlt' : (i : Int) < (nj : Int) := by omega
            obtain ⟨x, hx⟩ : ∃ x, jl[i]? = some x := ⟨_, List.getElem?_eq_getElem (by rw [unhide NJ]; exact hlt)⟩
            obtain ⟨d0, bb⟩ := unhide HI
            have hrow := (unhide HJ).below bb
            rw [show (Value.slice aj jl.length cj) = .slice aj nj cj by rw [unhide NJ]] at hrow
            obtain ⟨b1, o1, rfl, _, k1⟩ := RN.at hrow hx
            have hs := unhide SJ x (List.mem_of_getElem? hx)
            have hs' := siteB_iff.1 hs
            have X2 : Hid (DB (wr.setCell ⟨cc, x.toNat, none⟩ (.bool true)) cc ⟨orL 0#32 (jl.take (i + 1)), 0#32, e⟩ ∧ Below w.heap.size w (wr.setCell ⟨cc, x.toNat, none⟩ (.bool true))) := by
              refine ⟨?_, bset bb _ hlo _⟩
              have := Bx.set d0 x.toNat (.bool true)
              rw [arr35_sj _ hs] at this
              rw [orL_take hx]
              exact this
            obtain ⟨k, rfl⟩ : ∃ k : Nat, x = (k : Int) := ⟨x.toNat, by omega⟩
            rw [Int.toNat_natCast] at X2
            have hk1 : 1 ≤ k := by omega
            have hk2 : k ≤ 16 := by omega
            have cq := d0.j k (by omega)
            have fq := Bx.frozen d0 k
            have lq := Bx.lt d0
            clear d0 bb hrow hs hs' hx HI
            go_wp2_with fail
            go_region_with (fail)
            all_goals (
              go_wp2
              go_roundw
              case rel => exact ⟨i + 1, by go_num, by omega, hide ⟨Bx.below (unhide X2).1 (Below.refl _ _).drew, (unhide X2).2.drew⟩⟩
              case measure => show nj - ((i : Int) + 1).toNat < nj - ((i : Nat) : Int).toNat; omega)
          · obtain rfl : i = nj := by omega
            have hlt' : ¬ (i : Int) < (i : Int) := by omega
            have HI2 : Hid (DB wr cc ⟨J, 0#32, e⟩ ∧ Below w.heap.size w wr) := by
              have := unhide HI
              rw [List.take_of_length_le (by rw [unhide NJ]; exact Nat.le_refl _), unhide QJ] at this
              exact this
            clear HI
            go_wp2
            go_loopw [10] (fun iv wr => ∃ i : Nat, iv = .int .i64 (i : Nat) ∧ i ≤ nl ∧ Hid (DB wr cc ⟨J, orL 0#32 (ll.take i), e⟩ ∧ Below w.heap.size w wr)) (fun iv _ => nl - (RowKit.intOf iv).toNat)
            case atStart => exact ⟨0, rfl, Nat.zero_le _, HI2⟩
            case round =>
              obtain ⟨i2, rfl, hi2, HI⟩ := hrel
              clear HI2
              by_cases hlt2 : i2 < nl
              · have hlt2' : (i2 : Int) < (nl : Int) := by omega
                obtain ⟨x, hx⟩ : ∃ x, ll[i2]? = some x := ⟨_, List.getElem?_eq_getElem (by rw [unhide NL]; exact hlt2)⟩
                obtain ⟨d0, bb⟩ := unhide HI
                have hrow := (unhide HL).below bb
                rw [show (Value.slice al ll.length cl) = .slice al nl cl by rw [unhide NL]] at hrow
                obtain ⟨b1, o1, rfl, _, k1⟩ := RN.at hrow hx
                have hs := unhide SL x (List.mem_of_getElem? hx)
                have hs' := siteB_iff.1 hs
                have X2 : Hid (DB (wr.setCell ⟨cc, 17 + x.toNat, none⟩ (.bool true)) cc ⟨J, orL 0#32 (ll.take (i2 + 1)), e⟩ ∧ Below w.heap.size w (wr.setCell ⟨cc, 17 + x.toNat, none⟩ (.bool true))) := by
                  refine ⟨?_, bset bb _ hlo _⟩
                  have := Bx.set d0 (17 + x.toNat) (.bool true)
                  rw [arr35_sl _ hs] at this
                  rw [orL_take hx]
                  exact this
                obtain ⟨k, rfl⟩ : ∃ k : Nat, x = (k : Int) := ⟨x.toNat, by omega⟩
                rw [Int.toNat_natCast] at X2
                have hk1 : 1 ≤ k := by omega
                have hk2 : k ≤ 16 := by omega
                have cq := d0.l k (by omega)
                have fq := Bx.frozen d0 (17 + k)
                have lq := Bx.lt d0
                clear d0 bb hrow hs hs' hx HI
                go_wp2_with fail
                go_region_with (fail)
                all_goals (
                  go_wp2
                  go_roundw
                  case rel => exact ⟨i2 + 1, by go_num, by omega, hide ⟨Bx.below (unhide X2).1 (Below.refl _ _).drew, (unhide X2).2.drew⟩⟩
                  case measure => show nl - ((i2 : Int) + 1).toNat < nl - ((i2 : Nat) : Int).toNat; omega)
              · obtain rfl : i2 = nl := by omega
                have hlt2' : ¬ (i2 : Int) < (i2 : Int) := by omega
                have HI3 : Hid (DB wr cc ⟨J, L, e⟩ ∧ Below w.heap.size w wr) := by
                  have := unhide HI
                  rw [List.take_of_length_le (by rw [unhide NL]; exact Nat.le_refl _), unhide QL] at this
                  exact this
                clear HI
                go_wp2
                go_loopw [11, 12] (fun bv iv wr => ∃ k : Nat, k ≤ 16 ∧ iv = .int .i64 ((k + 1 : Nat) : Int) ∧ bv = .int .i64 (((lsN (J &&& L) k).length : Nat) : Int) ∧ Hid (DB wr cc ⟨J, L, e⟩ ∧ Below w.heap.size w wr)) (fun _ iv _ => 20 - (RowKit.intOf iv).toNat)
                case atStart => exact ⟨0, Nat.zero_le _, rfl, rfl, HI3⟩
                case round =>
                  obtain ⟨k, hk, rfl, rfl, HI⟩ := hrel
                  clear HI3
                  by_cases hk6 : k < 16
                  · have hsucc := lsN_succ (J &&& L) k
                    have hlen := lsN_len (J &&& L) k
                    rw [BitVec.getLsbD_and] at hsucc
                    have q1 := (unhide HI).1.j (k + 1) (by omega)
                    have q2 := (unhide HI).1.l (k + 1) (by omega)
                    simp only at q1 q2
                    obtain ⟨y, hy⟩ : ∃ y : Nat, k + 1 = y := ⟨_, rfl⟩
                    have y1 : 1 ≤ y := by omega
                    have y2 : y ≤ 16 := by omega
                    rw [hy] at q1 q2 hsucc ⊢
                    cases hp : J.getLsbD y with
                    | false =>
                      rw [hp] at q1 hsucc
                      simp only [Bool.false_and, Bool.false_eq_true, if_false, List.append_nil] at hsucc
                      have hls : Hid ((lsN (J &&& L) k).length = (lsN (J &&& L) y).length) := by rw [hsucc]; rfl
                      generalize (lsN (J &&& L) k).length = n0 at *
                      clear hsucc hp
                      go_wp2
                      go_roundw
                      case rel => exact ⟨y, by omega, by go_num, by rw [unhide hls], HI⟩
                      case measure => show 20 - ((y : Int) + 1).toNat < 20 - ((y : Nat) : Int).toNat; omega
                    | true =>
                      rw [hp] at q1 hsucc
                      cases hq : L.getLsbD y with
                      | false =>
                        rw [hq] at q2 hsucc
                        simp only [Bool.true_and, Bool.false_eq_true, if_false, List.append_nil] at hsucc
                        have hls : Hid ((lsN (J &&& L) k).length = (lsN (J &&& L) y).length) := by rw [hsucc]; rfl
                        generalize (lsN (J &&& L) k).length = n0 at *
                        clear hsucc hp hq
                        go_wp2
                        go_roundw
                        case rel => exact ⟨y, by omega, by go_num, by rw [unhide hls], HI⟩
                        case measure => show 20 - ((y : Int) + 1).toNat < 20 - ((y : Nat) : Int).toNat; omega
                      | true =>
                        rw [hq] at q2 hsucc
                        simp only [Bool.true_and, if_true] at hsucc
                        have hls : Hid ((lsN (J &&& L) y).length = (lsN (J &&& L) k).length + 1) := by refine hide ?_; rw [hsucc]; simp
                        generalize (lsN (J &&& L) k).length = n0 at *
                        clear hsucc hp hq
                        go_wp2
                        go_roundw
                        case rel => exact ⟨y, by omega, by go_num, by rw [unhide hls]; simp, HI⟩
                        case measure => show 20 - ((y : Int) + 1).toNat < 20 - ((y : Nat) : Int).toNat; omega
                  · obtain rfl : k = 16 := by omega
                    have HM := hide (rMembers_in (unhide HI).1)
                    unfold Told at HM
                    have hE := unhide hE'
                    unfold formB at hE
                    have c1 := cnt_le (memW J L)
                    have c2 := cnt_le (J &&& L)
                    have e1 : (lsW (St.m ⟨J, L, e⟩)).length = cnt (memW J L) := rfl
                    have e2 : (lsN (J &&& L) 16).length = cnt (J &&& L) := rfl
                    rw [e1] at HM
                    rw [e2]
                    generalize cnt (memW J L) = n1 at *
                    generalize cnt (J &&& L) = n2 at *
                    clear e1 e2 hE'
                    obtain ⟨g, hg0⟩ : ∃ g, e - (n1 : Int) = g := ⟨_, rfl⟩
                    rw [hg0] at hE
                    by_cases g0 : g < 0
                    · have hf : ¬ (0 ≤ g ∧ g % 2 = 0 ∧ g ≤ 2 * (n2 : Int)) := fun h => by omega
                      rw [decide_eq_false hf] at hE
                      simp only [Bool.false_eq_true, if_false] at hE
                      subst hE
                      clear hf
                      go_wp2_with fail
                      refine (unhide HM).mono ?_
                      rintro r W7 ⟨a7, c7, rfl, o7, b7⟩
                      have R7 := hide (show DB W7 cc ⟨J, L, e⟩ ∧ Below w.heap.size w W7 from ⟨(unhide HI).1.below b7, bnext (unhide HI).2 b7⟩)
                      clear o7 b7 HM HI
                      go_wp2
                      refine bodyPost_ret (results_tmp2 rfl _ _ _) rfl ?_
                      exact ⟨_, rfl, cc, hlo, Or.inl ⟨by rw [unhide HE]; omega, rfl⟩, (unhide R7).2⟩
                    · have gt : g.tmod 2 = g % 2 := Int.tmod_eq_emod_of_nonneg (by omega)
                      by_cases g1 : g % 2 = 0
                      · by_cases g2 : 2 * (n2 : Int) < g
                        · have hf : ¬ (0 ≤ g ∧ g % 2 = 0 ∧ g ≤ 2 * (n2 : Int)) := fun h => by omega
                          rw [decide_eq_false hf] at hE
                          simp only [Bool.false_eq_true, if_false] at hE
                          subst hE
                          clear hf
                          go_wp2_with fail
                          refine (unhide HM).mono ?_
                          rintro r W7 ⟨a7, c7, rfl, o7, b7⟩
                          have R7 := hide (show DB W7 cc ⟨J, L, e⟩ ∧ Below w.heap.size w W7 from ⟨(unhide HI).1.below b7, bnext (unhide HI).2 b7⟩)
                          clear o7 b7 HM HI
                          go_wp2
                          refine bodyPost_ret (results_tmp2 rfl _ _ _) rfl ?_
                          exact ⟨_, rfl, cc, hlo, Or.inl ⟨by rw [unhide HE]; omega, rfl⟩, (unhide R7).2⟩
                        · have hf : 0 ≤ g ∧ g % 2 = 0 ∧ g ≤ 2 * (n2 : Int) := by omega
                          rw [decide_eq_true hf] at hE
                          simp only [if_true] at hE
                          subst hE
                          clear hf
                          go_wp2_with fail
                          refine (unhide HM).mono ?_
                          rintro r W7 ⟨a7, c7, rfl, o7, b7⟩
                          have R7 := hide (show DB W7 cc ⟨J, L, e⟩ ∧ Below w.heap.size w W7 from ⟨(unhide HI).1.below b7, bnext (unhide HI).2 b7⟩)
                          clear o7 b7 HM HI
                          go_wp2
                          refine bodyPost_ret (results_tmp2 rfl _ _ _) rfl ?_
                          exact ⟨_, rfl, cc, hlo, Or.inr ⟨unhide HE, rfl, J, L, by rw [unhide FJ, unhide QJ], by rw [unhide FL, unhide QL], (unhide R7).1⟩, (unhide R7).2⟩
                      · have hf : ¬ (0 ≤ g ∧ g % 2 = 0 ∧ g ≤ 2 * (n2 : Int)) := fun h => by omega
                        rw [decide_eq_false hf] at hE
                        simp only [Bool.false_eq_true, if_false] at hE
                        subst hE
                        clear hf
                        go_wp2_with fail
                        refine (unhide HM).mono ?_
                        rintro r W7 ⟨a7, c7, rfl, o7, b7⟩
                        have R7 := hide (show DB W7 cc ⟨J, L, e⟩ ∧ Below w.heap.size w W7 from ⟨(unhide HI).1.below b7, bnext (unhide HI).2 b7⟩)
                        clear o7 b7 HM HI
                        go_wp2
                        refine bodyPost_ret (results_tmp2 rfl _ _ _) rfl ?_
                        exact ⟨_, rfl, cc, hlo, Or.inl ⟨by rw [unhide HE]; omega, rfl⟩, (unhide R7).2⟩

end Go.Proofs.Ytjcdfjnlpfineaa
