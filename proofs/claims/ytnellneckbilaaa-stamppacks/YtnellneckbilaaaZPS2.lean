/-
  The document's own sorted, in memory.
-/
import Derived.Test.YtnellneckbilaaaZPS1
set_option linter.unusedSimpArgs false
set_option linter.unusedVariables false
namespace Go.Proofs.Ytnellneckbilaaa
open Go.RowKit Go.Lib Go.Sort

set_option maxRecDepth 100000 in
set_option maxHeartbeats 4000000 in
theorem refSorted_in (v : Value) (l : List (Int × Int)) (w : World) (h : RI w v l) (hl : l.length ≤ 1000) :
    Calls Try.prog 48 #[v] w fun e W => ∃ v', e = .returned v' ∧ W.ownsRow w.heap.size 23 2 v' (canS l).length (flat encI (canS l)) ∧ Below w.heap.size w W := by
  have mixed : Try.prog.follows .mixedOrders = true := by kernel_rfl
  have e10 : ∀ args w, (callFunc 10 args).run Try.prog w = .ok (.enter 10 args) w := enters_of Try.func10 (by kernel_rfl) rfl
  obtain ⟨a, cap, rfl⟩ := RC.form h
  have H := hide h
  obtain ⟨n, hn⟩ : ∃ n, l.length = n := ⟨_, rfl⟩
  rw [hn] at H hl ⊢
  have Hn := hide hn
  clear h hn
  go_enter Try.func48, Try.ntmps48
  go_wp2
  go_loopw [3, 4] (fun rv iv wr => ∃ (i : Nat) (acc : List (Int × Int)), iv = .int .i64 (i : Nat) ∧ i ≤ n ∧ Hid (SoFar l w wr i rv acc)) (fun _ iv _ => n - (Lib.intOf iv).toNat)
  case atStart => exact ⟨0, [], rfl, by omega, hide ⟨List.Pairwise.nil, fun x => by simp, World.ownsRow_nil _ _ _ _, Below.refl _ _, by simp⟩⟩
  case round =>
    obtain ⟨i, acc, rfl, hin, HS⟩ := hrel
    by_cases hlt : i < n
    · have hlt' : (i : Int) < (n : Int) := by omega
      obtain ⟨x, hx⟩ : ∃ x, l[i]? = some x := ⟨_, List.getElem?_eq_getElem (by have := unhide Hn; omega)⟩
      obtain ⟨b0, off, rfl, hb0, c0, c1⟩ := RI.at ((unhide H).below (unhide HS).bel) hx
      obtain ⟨ar, cr, hrv⟩ := owns_form (unhide HS).row
      subst hrv
      obtain ⟨t, s⟩ := x
      simp only at c0 c1
      have Hx := hide hx
      have hlen := (unhide HS).len
      have HC := hide (fun W => refIsID_in t s W)
      clear hx
      cases hI : isI (t, s) with
      | false =>
        rw [hI] at HC
        have S2 := hide ((unhide HS).skip (unhide Hx) (ballc (Below.refl _ wr) (.cells #[.int .i64 t, .int .i64 s] 23)) (.inl hI))
        clear hI
        go_wp2_with (go_at_call 41; refine (unhide HC _).mono ?_; rintro e W2 ⟨rfl, rfl⟩)
        go_roundw
        case measure => show n - ((i : Int) + 1).toNat < n - ((i : Nat) : Int).toNat; omega
        case rel => exact ⟨i + 1, acc, by go_num, by omega, S2⟩
      | true =>
        rw [hI] at HC
        have HI := hide hI
        clear hI
        go_wp2_with fail
        refine (unhide HC _).mono ?_
        rintro e W1 ⟨rfl, hW1⟩
        have hb1 : Below wr.heap.size wr W1 := by rw [hW1]; exact ballc (Below.refl _ _) _
        have B1 := hide hb1
        clear hW1 hb1 HC c0 c1
        go_wp2
        go_loopw [5] (fun kv wq => ∃ k : Nat, kv = .int .i64 (k : Nat) ∧ k ≤ acc.length ∧ Hid (∀ (j : Nat) y, k ≤ j → acc[j]? = some y → lexLt (t, s) y) ∧ Hid (Below wr.heap.size wr wq)) (fun kv _ => (Lib.intOf kv).toNat)
        case atStart => exact ⟨acc.length, rfl, by omega, hide (fun j y hj hy => by have := (List.getElem?_eq_some_iff.1 hy).1; omega), B1⟩
        case round =>
          obtain ⟨k, rfl, hk, Hhi, HQ⟩ := hrel
          by_cases hk0 : 0 < k
          · obtain ⟨j, rfl⟩ : ∃ j, k = j + 1 := ⟨k - 1, by omega⟩
            obtain ⟨y, hy⟩ : ∃ y, acc[j]? = some y := ⟨_, List.getElem?_eq_getElem (by omega)⟩
            obtain ⟨g0, rfl⟩ : ∃ g, ar = some ⟨g, 0, none⟩ := by
              obtain ⟨_, (⟨e1, e2⟩ | ⟨g, cap', cur, e1, _⟩)⟩ := (unhide HS).row
              · simp at e1; omega
              · simp at e1; exact ⟨g, e1.1⟩
            have hrow := owns_kp (N := fun _ => False) (unhide HS).row (Kp.of_below (unhide HQ)) (fun _ _ h => h)
            have cj0 := (hrow.cellAt (j * 2) (by omega)).trans (flat_get encI_len acc j 0 y hy (by omega))
            have cj1 := (hrow.cellAt (j * 2 + 1) (by omega)).trans (flat_get encI_len acc j 1 y hy (by omega))
            obtain ⟨b5, off5, e5, hb5, d0, d1⟩ := RI.at ((unhide H).below (bnext (unhide HS).bel (unhide HQ))) (unhide Hx)
            simp only [Option.some.injEq, Addr.mk.injEq, and_true] at e5
            obtain ⟨rfl, rfl⟩ := e5
            obtain ⟨yt, ys⟩ := y
            simp only [encI, List.getElem?_cons_zero, List.getElem?_cons_succ] at cj0 cj1 d0 d1
            have hwj : IntKind.i64.wrap (j : Int) = (j : Int) := IntWalk.i64_in _ (by omega)
            have hjl : (j : Int) < (acc.length : Int) := by omega
            have HCm := hide (fun W => refCompare_in yt ys t s W)
            obtain ⟨cm, hcme⟩ : ∃ cm, cmpI (yt, ys) (t, s) = cm := ⟨_, rfl⟩
            rw [hcme] at HCm
            have Hcme := hide hcme
            have k0 := fun n os => cell_grown (cell_lt cj0) cj0 n os
            have k1 := fun n os => cell_grown (cell_lt cj1) cj1 n os
            have k2 := fun n os => cell_grown (cell_lt d0) d0 n os
            have k3 := fun n os => cell_grown (cell_lt d1) d1 n os
            have Hy := hide hy
            clear hrow hcme hy hb5 hk0
            by_cases hcm : 0 < cm
            · have Hhi2 := hide (show ∀ (p : Nat) y, j ≤ p → acc[p]? = some y → lexLt (t, s) y from fun p y hp hy => by
                by_cases hpj : p = j
                · subst hpj
                  rw [unhide Hy] at hy
                  simp at hy
                  subst hy
                  have h1 : cmpI (yt, ys) (t, s) = 1 := by
                    have h2 := unhide Hcme
                    have := @cmpI_le (yt, ys) (t, s)
                    have h3 := @cmpI_pos (yt, ys) (t, s)
                    refine h3.2 ?_
                    by_cases h4 : (t, s).1 < (yt, ys).1 ∨ ((yt, ys).1 = (t, s).1 ∧ (t, s).2 < (yt, ys).2)
                    · exact h4
                    · have := this.2 h4; omega
                  have := (@cmpI_pos (yt, ys) (t, s)).1 h1
                  unfold lexLt
                  rcases this with h | ⟨h, h'⟩
                  · exact .inl h
                  · exact .inr ⟨h.symm, h'⟩
                · exact unhide Hhi p y (by omega) hy)
              go_wp2
              go_quiet_grown (first | (go_at_call 10; refine Calls.grown_of (unhide HCm _)) | (refine Calls.grown_of (unhide HCm _)))
              have hgw : GrW wr (grow (wr.drewN nq) osq) := ⟨nq, osq, rfl⟩
              have HQ2 := hide (bnext (unhide HQ) hgw.below)
              clear hgw
              go_wp2
              go_roundw
              case measure => show ((j : Int)).toNat < (((j + 1 : Nat) : Nat) : Int).toNat; omega
              case rel => exact ⟨j, by go_num, by omega, Hhi2, HQ2⟩
            · go_wp2
              go_quiet_grown (first | (go_at_call 10; refine Calls.grown_of (unhide HCm _)) | (refine Calls.grown_of (unhide HCm _)))
              have hgw : GrW wr (grow (wr.drewN nq) osq) := ⟨nq, osq, rfl⟩
              have HQ2 := hide (bnext (unhide HQ) hgw.below)
              have cj0 := hgw.cell cj0
              have cj1 := hgw.cell cj1
              have d0 := hgw.cell d0
              have d1 := hgw.cell d1
              clear hgw k0 k1 k2 k3
              generalize grow (wr.drewN nq) osq = WP at *
              have heq := fun W => eqI yt ys t s W
              by_cases hye : (yt, ys) = (t, s)
              · have hd : decide ((yt, ys) = (t, s)) = true := by simpa using hye
                rw [hd] at heq
                have S2 := hide ((unhide HS).skip (unhide Hx) (bdrew (unhide HQ2) 1) (.inr (by rw [← hye]; exact List.mem_of_getElem? (unhide Hy))))
                have S2' : ∀ q, Hid (SoFar l w (WP.drewN q) (i + 1) (.slice (some ⟨g0, 0, none⟩) acc.length cr) acc) := fun q => (unhide HS).skip (unhide Hx) (bdrew (unhide HQ2) q) (.inr (by rw [← hye]; exact List.mem_of_getElem? (unhide Hy)))
                clear hye hd S2
                go_wp2
                go_quiet (fail)
                go_wp2
                go_roundw
                case measure => show n - ((i : Int) + 1).toNat < n - ((i : Nat) : Int).toNat; omega
                case rel => exact ⟨i + 1, acc, by go_num, by omega, S2' _⟩
              · have hd : decide ((yt, ys) = (t, s)) = false := by simpa using hye
                rw [hd] at heq
                have Hlo := hide (show ∀ (p : Nat) y, p < j + 1 → acc[p]? = some y → lexLt y (t, s) from fun p y hp hy => by
                  have hyt : lexLt (yt, ys) (t, s) := by
                    rcases lex_tri (yt, ys) (t, s) with k | k | k
                    · exact k
                    · exact absurd k hye
                    · exfalso
                      have h1 : cmpI (yt, ys) (t, s) = 1 := (@cmpI_pos (yt, ys) (t, s)).2 (by
                        unfold lexLt at k
                        rcases k with k | ⟨k, k'⟩
                        · exact .inl k
                        · exact .inr ⟨k.symm, k'⟩)
                      have := unhide Hcme
                      omega
                  by_cases hpj : p = j
                  · subst hpj
                    rw [unhide Hy] at hy
                    simp at hy
                    subst hy
                    exact hyt
                  · have hpl : p < j := by omega
                    refine lex_trans ?_ hyt
                    have hjl := (List.getElem?_eq_some_iff.1 (unhide Hy)).1
                    have e1 := (List.getElem?_eq_some_iff.1 hy).2
                    have e2 := (List.getElem?_eq_some_iff.1 (unhide Hy)).2
                    rw [← e1, ← e2]
                    exact List.pairwise_iff_getElem.1 (unhide HS).strict p j (by omega) hjl hpl)
                clear hye hd
                go_wp2
                go_quiet (fail)
                have HSb := bnext (unhide HQ2) (bdrew (Below.refl _ WP) nq)
                have HSrow := owns_kp (N := fun _ => False) (unhide HS).row (Kp.of_below HSb) (fun _ _ h => h)
                have HSbel := bnext (unhide HS).bel HSb
                have hNs := HSbel.size
                clear cj0 cj1 d0 d1 heq HSb hwj
                generalize WP.drewN nq = WQ at *
                obtain ⟨v2, W2, hap, ho2, hg2⟩ := append_id WQ 28 w.heap.size _ acc 0 0 HSrow hNs (by omega)
                obtain ⟨a2, c2, hv2⟩ := owns_form ho2
                subst hv2
                have hb2 : Below w.heap.size w W2 := (ballc HSbel _).grown hg2 (ballc HSbel _).size (fun k hk => (HSrow.lt k hk).1)
                have hl2 : (acc ++ [((0 : Int), (0 : Int))]).length = acc.length + 1 := by simp
                obtain ⟨g, rfl⟩ : ∃ g, a2 = some ⟨g, 0, none⟩ := by
                  obtain ⟨_, (⟨e1, e2⟩ | ⟨g, cap', cur, e1, _⟩)⟩ := ho2
                  · omega
                  · simp at e1; exact ⟨g, e1.1⟩
                have hgw : w.heap.size ≤ g := (ho2.lt g rfl).1
                rw [hl2] at hap ho2
                have hcx := ho2.2
                rw [← shf_all] at ho2
                obtain ⟨m, em⟩ : ∃ m, acc.length = m := ⟨_, rfl⟩
                have Hrow2 := hide (show W2.ownsRow w.heap.size 23 2 (.slice (some ⟨g, 0, none⟩) (acc.length + 1) c2) (acc.length + 1) (flat encI (shf acc acc.length)) ∧ Below w.heap.size w W2 from ⟨ho2, hb2⟩)
                rw [em] at hap Hrow2 ⊢
                have Em := hide em
                have hml : (m : Int) ≤ 1000 := by have := unhide Em; omega
                have hkm0 : j + 1 ≤ m := by have := unhide Em; omega
                have hmw : IntKind.i64.wrap (m : Int) = (m : Int) := IntWalk.i64_in _ (by omega)
                replace hap := hide hap
                clear hg2 hb2 hl2 ho2 hcx HSrow HSbel em
                go_wp2_with (at_builtin; refine wpList_append_eq rfl _ _ 28 rfl _ _ _ _ rfl rfl (unhide hap) ?_)
                clear hap
                go_loopw [6] (fun jv wz => ∃ jj : Nat, jv = .int .i64 (jj : Nat) ∧ j + 1 ≤ jj ∧ jj ≤ m ∧ Hid (wz.ownsRow w.heap.size 23 2 (.slice (some ⟨g, 0, none⟩) (m + 1) c2) (m + 1) (flat encI (shf acc jj)) ∧ Below w.heap.size w wz)) (fun jv _ => (Lib.intOf jv).toNat)
                case atStart => exact ⟨m, by go_num, by have := unhide Em; omega, by omega, Hrow2⟩
                case round =>
                  obtain ⟨jj, rfl, hkj, hjm, HZ⟩ := hrel
                  by_cases hjk : j + 1 < jj
                  · have hjk' : ((j + 1 : Nat) : Int) < (jj : Int) := by omega
                    (try push_cast at hjk')
                    obtain ⟨p, rfl⟩ : ∃ p, jj = p + 1 := ⟨jj - 1, by omega⟩
                    obtain ⟨y, hy⟩ : ∃ y, acc[p]? = some y := ⟨_, List.getElem?_eq_getElem (by have := unhide Em; omega)⟩
                    have hpm : p < acc.length := (List.getElem?_eq_some_iff.1 hy).1
                    have hrw := (unhide HZ).1
                    have hsl : (shf acc (p + 1)).length = m + 1 := by rw [shf_len acc (p + 1) (by omega), unhide Em]
                    have cp0 := (hrw.cellAt (p * 2) (by omega)).trans (flat_get encI_len (shf acc (p + 1)) p 0 y (by rw [shf_get acc p hpm]; exact hy) (by omega))
                    have cp1 := (hrw.cellAt (p * 2 + 1) (by omega)).trans (flat_get encI_len (shf acc (p + 1)) p 1 y (by rw [shf_get acc p hpm]; exact hy) (by omega))
                    have cz0 : ∃ u, wr.cell? ⟨g, (p + 1) * 2, none⟩ = some u := ⟨_, (hrw.cellAt ((p + 1) * 2) (by omega)).trans (List.getElem?_eq_getElem (by rw [flat_len encI_len, hsl]; omega))⟩
                    have cz1 : ∃ u, wr.cell? ⟨g, (p + 1) * 2 + 1, none⟩ = some u := ⟨_, (hrw.cellAt ((p + 1) * 2 + 1) (by omega)).trans (List.getElem?_eq_getElem (by rw [flat_len encI_len, hsl]; omega))⟩
                    obtain ⟨u0, cz0⟩ := cz0
                    obtain ⟨u1, cz1⟩ := cz1
                    have fz0 := hrw.frozenAt ((p + 1) * 2)
                    have fz1 := hrw.frozenAt ((p + 1) * 2 + 1)
                    obtain ⟨yt, ys⟩ := y
                    rw [← hsl] at hrw
                    obtain ⟨o3, g3⟩ := owns_setI hrw (p + 1) yt ys (by omega)
                    rw [shf_step acc p _ hy, hsl] at o3
                    have b3 := (unhide HZ).2.grown g3 (unhide HZ).2.size (fun k hk => by simp at hk; omega)
                    have H3 := hide (And.intro o3 b3)
                    have hpm' : (p : Int) < (m : Int) := by have := unhide Em; omega
                    simp only [encI, List.getElem?_cons_zero, List.getElem?_cons_succ] at cp0 cp1
                    clear hrw o3 b3 g3 hsl hy
                    go_wp2
                    go_roundw
                    case measure => show ((p : Int)).toNat < (((p + 1 : Nat) : Nat) : Int).toNat; omega
                    case rel => exact ⟨p, by go_num, by omega, by omega, H3⟩
                  · obtain rfl : jj = j + 1 := by omega
                    have hrw := (unhide HZ).1
                    have hkl : j + 1 ≤ acc.length := by have := unhide Em; omega
                    have hsl : (shf acc (j + 1)).length = m + 1 := by rw [shf_len acc _ hkl, unhide Em]
                    have cz0 : ∃ u, wr.cell? ⟨g, (j + 1) * 2, none⟩ = some u := ⟨_, (hrw.cellAt ((j + 1) * 2) (by omega)).trans (List.getElem?_eq_getElem (by rw [flat_len encI_len, hsl]; omega))⟩
                    have cz1 : ∃ u, wr.cell? ⟨g, (j + 1) * 2 + 1, none⟩ = some u := ⟨_, (hrw.cellAt ((j + 1) * 2 + 1) (by omega)).trans (List.getElem?_eq_getElem (by rw [flat_len encI_len, hsl]; omega))⟩
                    obtain ⟨u0, cz0⟩ := cz0
                    obtain ⟨u1, cz1⟩ := cz1
                    have fz0 := hrw.frozenAt ((j + 1) * 2)
                    have fz1 := hrw.frozenAt ((j + 1) * 2 + 1)
                    obtain ⟨b5, off5, e5, hb5, d0, d1⟩ := RI.at ((unhide H).below (unhide HZ).2) (unhide Hx)
                    simp only [Option.some.injEq, Addr.mk.injEq, and_true] at e5
                    obtain ⟨rfl, rfl⟩ := e5
                    rw [← hsl] at hrw
                    obtain ⟨o3, g3⟩ := owns_setI hrw (j + 1) t s (by omega)
                    rw [shf_put acc _ (t, s) hkl] at o3
                    have hnl : (shf acc (j + 1)).length = (acc.take (j + 1) ++ (t, s) :: acc.drop (j + 1)).length := by rw [hsl]; have := unhide Em; simp; omega
                    rw [hnl] at o3
                    have b3 := (unhide HZ).2.grown g3 (unhide HZ).2.size (fun k hk => by simp at hk; omega)
                    have S3 := hide ((unhide HS).put (k := j + 1) (unhide Hx) (unhide HI) (unhide Hlo) (unhide Hhi) o3 b3)
                    rw [← hnl, hsl] at S3
                    have hkm : ((j + 1 : Nat) : Int) ≤ (m : Int) := by omega
                    (try push_cast at hkm)
                    clear hrw o3 b3 g3 hsl hnl hb5
                    go_wp2
                    go_roundw
                    case measure => show n - ((i : Int) + 1).toNat < n - ((i : Nat) : Int).toNat; omega
                    case rel => exact ⟨i + 1, _, by go_num, by omega, S3⟩
          · obtain rfl : k = 0 := by omega
            have Hlo := hide (show ∀ (p : Nat) y, p < 0 → acc[p]? = some y → lexLt y (t, s) from fun p y hp => absurd hp (Nat.not_lt_zero _))
            clear hk0
            go_wp2
            go_quiet (fail)
            have HQ2 := hide (bnext (unhide HQ) (bdrew (Below.refl _ wr) nq))
            generalize wr.drewN nq = WP at *
            go_wp2
            go_quiet (fail)
            have HSb := bnext (unhide HQ2) (bdrew (Below.refl _ WP) nq)
            have HSrow := owns_kp (N := fun _ => False) (unhide HS).row (Kp.of_below HSb) (fun _ _ h => h)
            have HSbel := bnext (unhide HS).bel HSb
            have hNs := HSbel.size
            clear HSb
            generalize WP.drewN nq = WQ at *
            obtain ⟨v2, W2, hap, ho2, hg2⟩ := append_id WQ 28 w.heap.size _ acc 0 0 HSrow hNs (by omega)
            obtain ⟨a2, c2, hv2⟩ := owns_form ho2
            subst hv2
            have hb2 : Below w.heap.size w W2 := (ballc HSbel _).grown hg2 (ballc HSbel _).size (fun k hk => (HSrow.lt k hk).1)
            have hl2 : (acc ++ [((0 : Int), (0 : Int))]).length = acc.length + 1 := by simp
            obtain ⟨g, rfl⟩ : ∃ g, a2 = some ⟨g, 0, none⟩ := by
              obtain ⟨_, (⟨e1, e2⟩ | ⟨g, cap', cur, e1, _⟩)⟩ := ho2
              · omega
              · simp at e1; exact ⟨g, e1.1⟩
            have hgw : w.heap.size ≤ g := (ho2.lt g rfl).1
            rw [hl2] at hap ho2
            have hcx := ho2.2
            rw [← shf_all] at ho2
            obtain ⟨m, em⟩ : ∃ m, acc.length = m := ⟨_, rfl⟩
            have Hrow2 := hide (show W2.ownsRow w.heap.size 23 2 (.slice (some ⟨g, 0, none⟩) (acc.length + 1) c2) (acc.length + 1) (flat encI (shf acc acc.length)) ∧ Below w.heap.size w W2 from ⟨ho2, hb2⟩)
            rw [em] at hap Hrow2 ⊢
            have Em := hide em
            have hml : (m : Int) ≤ 1000 := by have := unhide Em; omega
            have hkm0 : 0 ≤ m := by have := unhide Em; omega
            have hmw : IntKind.i64.wrap (m : Int) = (m : Int) := IntWalk.i64_in _ (by omega)
            replace hap := hide hap
            clear hg2 hb2 hl2 ho2 hcx HSrow HSbel em
            go_wp2_with (at_builtin; refine wpList_append_eq rfl _ _ 28 rfl _ _ _ _ rfl rfl (unhide hap) ?_)
            clear hap
            go_loopw [6] (fun jv wz => ∃ jj : Nat, jv = .int .i64 (jj : Nat) ∧ 0 ≤ jj ∧ jj ≤ m ∧ Hid (wz.ownsRow w.heap.size 23 2 (.slice (some ⟨g, 0, none⟩) (m + 1) c2) (m + 1) (flat encI (shf acc jj)) ∧ Below w.heap.size w wz)) (fun jv _ => (Lib.intOf jv).toNat)
            case atStart => exact ⟨m, by go_num, by have := unhide Em; omega, by omega, Hrow2⟩
            case round =>
              obtain ⟨jj, rfl, hkj, hjm, HZ⟩ := hrel
              by_cases hjk : 0 < jj
              · have hjk' : ((0 : Nat) : Int) < (jj : Int) := by omega
                (try push_cast at hjk')
                obtain ⟨p, rfl⟩ : ∃ p, jj = p + 1 := ⟨jj - 1, by omega⟩
                obtain ⟨y, hy⟩ : ∃ y, acc[p]? = some y := ⟨_, List.getElem?_eq_getElem (by have := unhide Em; omega)⟩
                have hpm : p < acc.length := (List.getElem?_eq_some_iff.1 hy).1
                have hrw := (unhide HZ).1
                have hsl : (shf acc (p + 1)).length = m + 1 := by rw [shf_len acc (p + 1) (by omega), unhide Em]
                have cp0 := (hrw.cellAt (p * 2) (by omega)).trans (flat_get encI_len (shf acc (p + 1)) p 0 y (by rw [shf_get acc p hpm]; exact hy) (by omega))
                have cp1 := (hrw.cellAt (p * 2 + 1) (by omega)).trans (flat_get encI_len (shf acc (p + 1)) p 1 y (by rw [shf_get acc p hpm]; exact hy) (by omega))
                have cz0 : ∃ u, wr.cell? ⟨g, (p + 1) * 2, none⟩ = some u := ⟨_, (hrw.cellAt ((p + 1) * 2) (by omega)).trans (List.getElem?_eq_getElem (by rw [flat_len encI_len, hsl]; omega))⟩
                have cz1 : ∃ u, wr.cell? ⟨g, (p + 1) * 2 + 1, none⟩ = some u := ⟨_, (hrw.cellAt ((p + 1) * 2 + 1) (by omega)).trans (List.getElem?_eq_getElem (by rw [flat_len encI_len, hsl]; omega))⟩
                obtain ⟨u0, cz0⟩ := cz0
                obtain ⟨u1, cz1⟩ := cz1
                have fz0 := hrw.frozenAt ((p + 1) * 2)
                have fz1 := hrw.frozenAt ((p + 1) * 2 + 1)
                obtain ⟨yt, ys⟩ := y
                rw [← hsl] at hrw
                obtain ⟨o3, g3⟩ := owns_setI hrw (p + 1) yt ys (by omega)
                rw [shf_step acc p _ hy, hsl] at o3
                have b3 := (unhide HZ).2.grown g3 (unhide HZ).2.size (fun k hk => by simp at hk; omega)
                have H3 := hide (And.intro o3 b3)
                have hpm' : (p : Int) < (m : Int) := by have := unhide Em; omega
                simp only [encI, List.getElem?_cons_zero, List.getElem?_cons_succ] at cp0 cp1
                clear hrw o3 b3 g3 hsl hy
                go_wp2
                go_roundw
                case measure => show ((p : Int)).toNat < (((p + 1 : Nat) : Nat) : Int).toNat; omega
                case rel => exact ⟨p, by go_num, by omega, by omega, H3⟩
              · obtain rfl : jj = 0 := by omega
                have hrw := (unhide HZ).1
                have hkl : 0 ≤ acc.length := by have := unhide Em; omega
                have hsl : (shf acc (0)).length = m + 1 := by rw [shf_len acc _ hkl, unhide Em]
                have cz0 : ∃ u, wr.cell? ⟨g, (0) * 2, none⟩ = some u := ⟨_, (hrw.cellAt ((0) * 2) (by omega)).trans (List.getElem?_eq_getElem (by rw [flat_len encI_len, hsl]; omega))⟩
                have cz1 : ∃ u, wr.cell? ⟨g, (0) * 2 + 1, none⟩ = some u := ⟨_, (hrw.cellAt ((0) * 2 + 1) (by omega)).trans (List.getElem?_eq_getElem (by rw [flat_len encI_len, hsl]; omega))⟩
                obtain ⟨u0, cz0⟩ := cz0
                obtain ⟨u1, cz1⟩ := cz1
                have fz0 := hrw.frozenAt ((0) * 2)
                have fz1 := hrw.frozenAt ((0) * 2 + 1)
                obtain ⟨b5, off5, e5, hb5, d0, d1⟩ := RI.at ((unhide H).below (unhide HZ).2) (unhide Hx)
                simp only [Option.some.injEq, Addr.mk.injEq, and_true] at e5
                obtain ⟨rfl, rfl⟩ := e5
                rw [← hsl] at hrw
                obtain ⟨o3, g3⟩ := owns_setI hrw (0) t s (by omega)
                rw [shf_put acc _ (t, s) hkl] at o3
                have hnl : (shf acc (0)).length = (acc.take (0) ++ (t, s) :: acc.drop (0)).length := by rw [hsl]; have := unhide Em; simp; omega
                rw [hnl] at o3
                have b3 := (unhide HZ).2.grown g3 (unhide HZ).2.size (fun k hk => by simp at hk; omega)
                have S3 := hide ((unhide HS).put (k := 0) (unhide Hx) (unhide HI) (unhide Hlo) (unhide Hhi) o3 b3)
                rw [← hnl, hsl] at S3
                have hkm : ((0 : Nat) : Int) ≤ (m : Int) := by omega
                (try push_cast at hkm)
                clear hrw o3 b3 g3 hsl hnl hb5
                go_wp2
                go_roundw
                case measure => show n - ((i : Int) + 1).toNat < n - ((i : Nat) : Int).toNat; omega
                case rel => exact ⟨i + 1, _, by go_num, by omega, S3⟩
    · have hlt' : ¬ (i : Int) < (n : Int) := by omega
      have hce := hide (canS_eq (l := l) (unhide HS).strict (fun x => by rw [(unhide HS).mem x, List.take_of_length_le (by have := unhide Hn; omega)]))
      go_wp2
      go_ret
      rw [← unhide hce]
      exact ⟨_, rfl, (unhide HS).row, (unhide HS).bel⟩

end Go.Proofs.Ytnellneckbilaaa
