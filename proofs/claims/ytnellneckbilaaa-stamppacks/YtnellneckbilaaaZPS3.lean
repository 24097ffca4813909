/-
  The document's own Pack.
-/
import Derived.Test.YtnellneckbilaaaZPS2
set_option linter.unusedSimpArgs false
set_option linter.unusedVariables false
namespace Go.Proofs.Ytnellneckbilaaa
open Go.RowKit Go.Lib Go.Sort

theorem dd_len : ∀ (m : List (Int × Int)) (last : Int × Int), (dd last m).length ≤ m.length
  | [], _ => by simp [dd]
  | x :: m, last => by
    rw [dd]
    split
    · have := dd_len m last; simp; omega
    · have := dd_len m x; simp; omega
theorem canS_len (l : List (Int × Int)) : (canS l).length ≤ l.length := by
  have h1 := dd_len (sortI l) (0, 0)
  rw [(sortI_perm l).length_eq] at h1
  exact h1

/-- Pack of the document has come to place i of the sorted row -/
structure RSt (m : List (Int × Int)) (W1 W : World) (i : Nat) (v : Value) (out : List ((Int × Int) × Int)) : Prop where
  eq : (m.take i).foldl growI [] = out
  inv : ∃ last, PInv out last i ∧ ∀ x, m[i]? = some x → lexLt last x
  row : W.ownsRow W1.heap.size 35 3 v out.length (flat encR out)
  bel : Below W1.heap.size W1 W
theorem RSt.next {m : List (Int × Int)} {W1 W W' : World} {i : Nat} {v v' : Value} {out : List ((Int × Int) × Int)} (h : RSt m W1 W i v out) (hm : m.Pairwise lexLt) {x : Int × Int} (hx : m[i]? = some x) (hi : isI x = true)
    (hr : W'.ownsRow W1.heap.size 35 3 v' (growI out x).length (flat encR (growI out x))) (hb : Below W1.heap.size W1 W') : RSt m W1 W' (i + 1) v' (growI out x) := by
  obtain ⟨last, hp, hl⟩ := h.inv
  refine ⟨?_, ⟨x, (hp.grown (hl x hx) hi).1, fun y hy => ?_⟩, hr, hb⟩
  · rw [List.take_add_one, hx, List.foldl_append, h.eq]
    rfl
  · have h1 := (List.getElem?_eq_some_iff.1 hx)
    have h2 := (List.getElem?_eq_some_iff.1 hy)
    obtain ⟨a1, b1⟩ := h1
    obtain ⟨a2, b2⟩ := h2
    rw [← b1, ← b2]
    exact List.pairwise_iff_getElem.1 hm i (i + 1) a1 a2 (by omega)
theorem RSt.below {m : List (Int × Int)} {W1 W W' : World} {i : Nat} {v : Value} {out : List ((Int × Int) × Int)} (h : RSt m W1 W i v out) (hb : Below W.heap.size W W') : RSt m W1 W' i v out :=
  ⟨h.eq, h.inv, owns_kp (N := fun _ => False) h.row (Kp.of_below hb) (fun _ _ h => h), bnext h.bel hb⟩

set_option maxRecDepth 100000 in
set_option maxHeartbeats 4000000 in
theorem refPack_in (v : Value) (l : List (Int × Int)) (w : World) (h : RI w v l) (hl : l.length ≤ 1000) :
    Calls Try.prog 16 #[v] w fun e W => ∃ v', e = .returned v' ∧ W.ownsRow w.heap.size 35 3 v' (packF l).length (flat encR (packF l)) ∧ Below w.heap.size w W := by
  have mixed : Try.prog.follows .mixedOrders = true := by kernel_rfl
  obtain ⟨a, cap, rfl⟩ := RC.form h
  have HS := hide (refSorted_in _ l w h hl)
  have hcl := canS_len l
  obtain ⟨hmp, hmi⟩ := canS_spec l
  obtain ⟨P, hP⟩ : ∃ P, packF l = P := ⟨_, rfl⟩
  rw [hP]
  unfold packF at hP
  generalize canS l = m at *
  have HP := hide hP
  have HM := hide hmp
  have HI := hide (show ∀ x ∈ m, isI x = true from fun x hx => ((hmi x).1 hx).2)
  obtain ⟨n, hn⟩ : ∃ n, m.length = n := ⟨_, rfl⟩
  obtain ⟨n0, hn0⟩ : ∃ n, l.length = n := ⟨_, rfl⟩
  rw [hn0] at hcl hl HS ⊢
  rw [hn] at hcl HS
  have hnl : (n : Int) ≤ 1000 := by omega
  have Hn := hide hn
  clear h hP hmp hmi hn hn0
  go_enter Try.func16, Try.ntmps16
  go_wp2_with fail
  refine (unhide HS).mono ?_
  rintro e W1 ⟨v1, rfl, ho1, hb1⟩
  have hri : RI W1 v1 m := by unfold RI; rw [unhide Hn]; exact RC.of_owns ho1
  have HR := hide hri
  obtain ⟨a1, c1, rfl⟩ := RC.form hri
  rw [unhide Hn] at HR ⊢
  have HB1 := hide hb1
  have Hs0 : Hid (RSt m W1 W1 0 (.slice none 0 0) []) := ⟨rfl, ⟨(0, 0), PInv.nil _, fun x hx => by
    have := isI_range (t := x.1) (s := x.2) (unhide HI x (List.mem_of_getElem? hx))
    unfold lexLt
    simp only
    omega⟩, World.ownsRow_nil _ _ _ _, Below.refl _ _⟩
  clear hri hb1 HS ho1
  go_wp2
  go_loopw [4, 5] (fun rv iv wr => ∃ (i : Nat) (out : List ((Int × Int) × Int)), iv = .int .i64 (i : Nat) ∧ i ≤ n ∧ Hid (RSt m W1 wr i rv out)) (fun _ iv _ => n - (Lib.intOf iv).toNat)
  case atStart => exact ⟨0, [], rfl, by omega, Hs0⟩
  case round =>
    obtain ⟨i, out, rfl, hin, HA⟩ := hrel
    by_cases hlt : i < n
    · have hlt' : (i : Int) < (n : Int) := by omega
      obtain ⟨x, hx⟩ : ∃ x, m[i]? = some x := ⟨_, List.getElem?_eq_getElem (by have := unhide Hn; omega)⟩
      obtain ⟨b0, off, rfl, hb0, _, _⟩ := RI.at (unhide HR) hx
      obtain ⟨ar, cr, hrv⟩ := owns_form (unhide HA).row
      subst hrv
      obtain ⟨t, s⟩ := x
      have hi := unhide HI _ (List.mem_of_getElem? hx)
      obtain ⟨g1, g2, g3, g4⟩ := isI_range hi
      obtain ⟨last, hp, hlx⟩ := (unhide HA).inv
      have Hp := hide hp
      have hq0 := hp.len
      obtain ⟨q, hq⟩ : ∃ q, out.length = q := ⟨_, rfl⟩
      rw [hq] at hq0 ⊢
      have Hq := hide hq
      have Hx := hide hx
      have Hi := hide hi
      clear hx hi hp hlx hq
      go_wp2
      go_loopw [6, 7] (fun gv kv wq => ∃ k : Nat, kv = .int .i64 (k : Nat) ∧ k ≤ q ∧ ((gv = .bool false ∧ Hid (Below wr.heap.size wr wq) ∧ Hid (∀ (j : Nat) r, j < k → out[j]? = some r → ¬ (r.1.2 = s ∧ r.1.1 + r.2 = t))) ∨ (gv = .bool true ∧ Hid (RSt m W1 wq (i + 1) (.slice ar q cr) (growI out (t, s)))))) (fun _ kv _ => q - (Lib.intOf kv).toNat)
      case atStart => exact ⟨0, rfl, by omega, .inl ⟨rfl, hide (Below.refl _ _), hide (fun j r hj => absurd hj (Nat.not_lt_zero _))⟩⟩
      case round =>
        obtain ⟨k, rfl, hk, (⟨rfl, HQ, HN⟩ | ⟨rfl, HG⟩)⟩ := hrel
        · have HA2 := hide ((unhide HA).below (unhide HQ))
          obtain ⟨b5, off5, e5, hb5, d0, d1⟩ := RI.at ((unhide HR).below (unhide HA2).bel) (unhide Hx)
          simp only [Option.some.injEq, Addr.mk.injEq, and_true] at e5
          obtain ⟨rfl, rfl⟩ := e5
          simp only at d0 d1
          by_cases hkq : k < q
          · have hkq' : (k : Int) < (q : Int) := by omega
            obtain ⟨r, hr⟩ : ∃ r, out[k]? = some r := ⟨_, List.getElem?_eq_getElem (by have := unhide Hq; omega)⟩
            have hrow := (unhide HA2).row
            obtain ⟨g, rfl⟩ : ∃ g, ar = some ⟨g, 0, none⟩ := by
              obtain ⟨_, (⟨e1, e2⟩ | ⟨g, cap', cur, e1, _⟩)⟩ := hrow
              · have := unhide Hq; omega
              · simp at e1; exact ⟨g, e1.1⟩
            have hgw : W1.heap.size ≤ g := (hrow.lt g rfl).1
            have hkl : k < out.length := by have := unhide Hq; omega
            have cr0 := (hrow.cellAt (k * 3) (by omega)).trans (flat_get encR_len out k 0 r hr (by omega))
            have cr1 := (hrow.cellAt (k * 3 + 1) (by omega)).trans (flat_get encR_len out k 1 r hr (by omega))
            have cr2 := (hrow.cellAt (k * 3 + 2) (by omega)).trans (flat_get encR_len out k 2 r hr (by omega))
            have hpos := (unhide Hp).pos r (List.mem_of_getElem? hr)
            have hrid := isI_range (t := r.1.1) (s := r.1.2) ((unhide Hp).ids r (List.mem_of_getElem? hr))
            obtain ⟨⟨rt, rs⟩, rc⟩ := r
            simp only [encR, List.getElem?_cons_zero, List.getElem?_cons_succ] at cr0 cr1 cr2 hpos hrid
            obtain ⟨f1, f2, f3, f4⟩ := hrid
            obtain ⟨f5, f6⟩ := hpos
            have hwr : IntKind.i64.wrap (rt + rc) = rt + rc := IntWalk.i64_in _ (by omega)
            have hrc : rc ≤ 1000 := by omega
            have Hr := hide hr
            clear hr hb5
            by_cases h1 : rs = s
            · have hd1 : decide (rs = s) = true := by simpa using h1
              by_cases h2 : rt + rc = t
              · have hd2 : decide (rt + rc = t) = true := by simpa using h2
                have hef := (endF_iff (unhide Hp).dist (x := (t, s))).2 ⟨_, unhide Hr, h1, h2⟩
                obtain ⟨r', hr1, _, _, hr4⟩ := growI_some hef
                rw [unhide Hr] at hr1
                simp at hr1
                subst hr1
                simp only at hr4
                have hN1 := fun nq => hide ((unhide HA2).below (bdrew (Below.refl _ wr) nq))
                clear HN
                have Hr4 := hide hr4
                clear hr4 hef hrow
                go_wp2
                go_quiet (fail)
                have HA3 := hN1 nq
                have hrow := (unhide HA3).row
                have cz := (hrow.cellAt (k * 3 + 2) (by omega)).trans (flat_get encR_len out k 2 _ (unhide Hr) (by omega))
                have fz := hrow.frozenAt (k * 3 + 2)
                simp only [encR, List.getElem?_cons_zero, List.getElem?_cons_succ] at cz
                generalize wr.drewN nq = WP at *
                obtain ⟨ho4, hg4⟩ := hrow.stored (k * 3 + 2) (.int .i64 (rc + 1))
                rw [flat_set out k _ (rc + 1) (unhide Hr)] at ho4
                have hb4 := (unhide HA3).bel.grown hg4 (unhide HA3).bel.size (fun k hk => by simp at hk; omega)
                have hlg : (growI out (t, s)).length = q := by rw [unhide Hr4, List.length_set]; exact unhide Hq
                have HF : Hid (RSt m W1 (WP.setCell ⟨g, k * 3 + 2, none⟩ (.int .i64 (rc + 1))) (i + 1) (.slice (some ⟨g, 0, none⟩) q cr) (growI out (t, s))) := (unhide HA3).next (unhide HM) (unhide Hx) (unhide Hi) (by
                  rw [hlg, unhide Hr4]
                  rw [unhide Hq] at ho4
                  exact ho4) hb4
                clear hrow ho4 hg4 hb4 hlg hN1 cr0 cr1 cr2 d0 d1
                go_wp2
                go_roundw
                case measure => show q - ((k : Int) + 1).toNat < q - ((k : Nat) : Int).toNat; omega
                case rel => exact ⟨k + 1, by go_num, by omega, .inr ⟨rfl, HF⟩⟩
              · have hd2 : decide (rt + rc = t) = false := by simpa using h2
                have HN2 := hide (show ∀ (j : Nat) r, j < k + 1 → out[j]? = some r → ¬ (r.1.2 = s ∧ r.1.1 + r.2 = t) from fun j r hj hr => by
                  by_cases hjk : j = k
                  · subst hjk
                    rw [unhide Hr] at hr
                    simp at hr
                    subst hr
                    exact fun h => h2 h.2
                  · exact unhide HN j r (by omega) hr)
                have hN1 := fun nq => hide (bdrew (unhide HQ) nq)
                clear hrow HN
                go_wp2
                go_quiet (fail)
                have HQ3 := hN1 nq
                generalize wr.drewN nq = WP at *
                go_wp2
                go_roundw
                case measure => show q - ((k : Int) + 1).toNat < q - ((k : Nat) : Int).toNat; omega
                case rel => exact ⟨k + 1, by go_num, by omega, .inl ⟨rfl, HQ3, HN2⟩⟩
            · have hd1 : decide (rs = s) = false := by simpa using h1
              have HN2 := hide (show ∀ (j : Nat) r, j < k + 1 → out[j]? = some r → ¬ (r.1.2 = s ∧ r.1.1 + r.2 = t) from fun j r hj hr => by
                by_cases hjk : j = k
                · subst hjk
                  rw [unhide Hr] at hr
                  simp at hr
                  subst hr
                  exact fun h => h1 h.1
                · exact unhide HN j r (by omega) hr)
              have hN1 := fun nq => hide (bdrew (unhide HQ) nq)
              clear hrow HN
              go_wp2
              go_quiet (fail)
              have HQ3 := hN1 nq
              generalize wr.drewN nq = WP at *
              go_wp2
              go_roundw
              case measure => show q - ((k : Int) + 1).toNat < q - ((k : Nat) : Int).toNat; omega
              case rel => exact ⟨k + 1, by go_num, by omega, .inl ⟨rfl, HQ3, HN2⟩⟩
          · obtain rfl : k = q := by omega
            have hef : endF out (t, s) = none := by
              cases he : endF out (t, s) with
              | none => rfl
              | some j =>
                exfalso
                obtain ⟨r, h1, h2, h3, _⟩ := growI_some he
                have := (List.getElem?_eq_some_iff.1 h1).1
                exact unhide HN j r (by have := unhide Hq; omega) h1 ⟨h2, h3⟩
            have hg := growI_none hef
            have hrow := (unhide HA2).row
            have hNs := (unhide HA2).bel.size
            obtain ⟨v3, W3, hap, ho3, hg3, _⟩ := append_run wr 29 W1.heap.size _ out t s 1 hrow hNs (by have := unhide Hq; omega)
            have hb3 := (ballc (unhide HA2).bel (.cells #[.int .i64 t, .int .i64 s, .int .i64 1] 35)).grown hg3 (ballc (unhide HA2).bel _).size (fun j hj => (hrow.lt j hj).1)
            rw [← hg] at ho3
            have HF := hide ((unhide HA2).next (unhide HM) (unhide Hx) (unhide Hi) ho3 hb3)
            replace hap := hide hap
            rw [unhide Hq] at hap
            clear hef hg hrow ho3 hg3 hb3 HN hb5
            go_wp2_with (at_builtin; refine wpList_append_eq rfl _ _ 29 rfl _ _ _ _ rfl rfl (unhide hap) ?_)
            go_roundw
            case measure => show n - ((i : Int) + 1).toNat < n - ((i : Nat) : Int).toNat; omega
            case rel => exact ⟨i + 1, _, by go_num, by omega, HF⟩
        · by_cases hkq : k < q
          · have hkq' : (k : Int) < (q : Int) := by omega
            go_wp2
            go_roundw
            case measure => show n - ((i : Int) + 1).toNat < n - ((i : Nat) : Int).toNat; omega
            case rel => exact ⟨i + 1, _, by go_num, by omega, HG⟩
          · obtain rfl : k = q := by omega
            go_wp2
            go_roundw
            case measure => show n - ((i : Int) + 1).toNat < n - ((i : Nat) : Int).toNat; omega
            case rel => exact ⟨i + 1, _, by go_num, by omega, HG⟩
    · have hlt' : ¬ (i : Int) < (n : Int) := by omega
      have HE := hide (show out = P by rw [← (unhide HA).eq, List.take_of_length_le (by have := unhide Hn; omega)]; exact unhide HP)
      go_wp2
      go_ret
      have hst := unhide HA
      rw [unhide HE] at hst
      refine ⟨_, rfl, ?_, bnext (unhide HB1) hst.bel⟩
      obtain ⟨h1, h2⟩ := hst.row
      refine ⟨h1, h2.imp id ?_⟩
      rintro ⟨g, cap, cur, e1, e2, e3⟩
      exact ⟨g, cap, cur, e1, by have := (unhide HB1).size; omega, e3⟩

end Go.Proofs.Ytnellneckbilaaa
