/-
  The law's follows: each behind all that it depends on, from a vector to another.
-/
import Derived.Test.YtgfkpgogfahdaaaZLM2
import Derived.Test.YtgfkpgogfahdaaaZU3
set_option linter.unusedSimpArgs false
set_option linter.unusedVariables false
namespace Go.Proofs.Ytgfkpgogfahdaaa
open Go.RowKit Go.Lib

theorem chk_len {l : List (Int × Int)} (h : chk l = 0) : l.length ≤ 17 := by
  have := vec_len (sy l)
  rwa [vec_of_chk h] at this
theorem mrg_dot {s : Nat → Int} (g : Good s) {a b : Int} (h1 : 1 ≤ a ∧ a ≤ 16) (h2 : b = s a.toNat + 1) (h3 : b ≤ 2147483647) : mrg s (sy [(a, b)]) = put1 s a.toNat b := by
  have gl := g.lo a.toNat
  have e : sy [(a, b)] = put1 (fun _ => 0) a.toNat b := by
    show syF (fun _ => 0) (a, b) = _
    unfold syF
    rw [if_pos ((okD_iff _).2 ⟨h1, by show 1 ≤ b; omega, h3⟩)]
    show put1 _ a.toNat (max 0 b) = _
    rw [show max 0 b = b by omega]
  rw [e]
  funext j
  have := g.lo j
  unfold mrg put1
  split
  · rename_i e; subst e; omega
  · show max (s j) 0 = s j
    omega

set_option maxRecDepth 100000 in
set_option maxHeartbeats 8000000 in
theorem lfollows_in {P : Nat → Prop} {w : World} (v vf vt : Value) (os : List Opn) (f t : List (Int × Int)) (hr : RL P w v os) (hn : os.length ≤ 1000000) (hf : RI w vf f) (ht : RI w vt t) (nf : chk f = 0) (nt : chk t = 0) (hs : SQ (sy f) os (sy t)) :
    Calls Try.prog 20 #[v, vf, vt] w fun e W => e = .returned (.bool true) ∧ Below w.heap.size w W := by
  obtain ⟨ops, ho, hre, _, rfl⟩ := hr
  obtain ⟨a, c, rfl⟩ := owns_form ho
  obtain ⟨af, cf, rfl⟩ := hf.form
  obtain ⟨at', ct, rfl⟩ := ht.form
  have Hrow : Hid (RO w (.slice a ops.length c) ops) := hide (RC.of_owns ho)
  have HRE := hide hre
  have HT := hide ht
  have HF := hide hf
  have HS := hide hs
  have NT := hide nt
  have NF := hide nf
  obtain ⟨L, hL⟩ : ∃ L, ops.length = L := ⟨_, rfl⟩
  rw [List.length_map] at hn
  rw [hL] at hn Hrow ⊢
  have HL := hide hL
  have tl := chk_len nt
  clear ho hre hf ht hs nf nt hL
  go_enter Try.func20, Try.ntmps20
  go_wp2
  go_loopw [1, 7] (fun fv iv wr => ∃ (i : Nat) (g : List (Int × Int)), iv = .int .i64 (i : Nat) ∧ i ≤ L ∧ (∃ ag cg, fv = .slice ag g.length cg) ∧ g.length ≤ 17 ∧ Hid (RI wr fv g) ∧ Hid (chk g = 0) ∧ Hid (SQ (sy g) ((ops.map Prod.fst).drop i) (sy t)) ∧ Hid (Below w.heap.size w wr)) (fun _ iv _ => L - (RowKit.intOf iv).toNat)
  case atStart => exact ⟨0, f, rfl, by omega, ⟨_, _, rfl⟩, chk_len (unhide NF), HF, NF, HS, hide (Below.refl _ _)⟩
  case round =>
    obtain ⟨i, g, rfl, hi, ⟨ag, cg, rfl⟩, gl, HG, NG, HSQ, HB⟩ := hrel
    by_cases hlt : i < L
    · have hlt' : (i : Int) < (L : Int) := by omega
      have hls : i < ops.length := by rw [unhide HL]; exact hlt
      obtain ⟨e, hx⟩ : ∃ e, ops[i]? = some e := ⟨_, List.getElem?_eq_getElem hls⟩
      have hdr : (ops.map Prod.fst).drop i = e.1 :: (ops.map Prod.fst).drop (i + 1) := by
        rw [List.drop_eq_getElem_cons (by simpa using hls)]
        congr 1
        rw [List.getElem_map]
        congr 1
        exact Option.some.inj ((List.getElem?_eq_getElem hls).symm.trans hx)
      obtain ⟨b0, off, rfl, hb0, hcell⟩ := RO.at (RC.below (unhide Hrow) (unhide HB)) hx
      have hoe := (unhide HRE e (List.mem_of_getElem? hx)).below (unhide HB)
      have hsq := unhide HSQ
      rw [hdr] at hsq
      obtain ⟨k1, k2, k3, k4, k5⟩ := hsq
      obtain ⟨o, vd, vg⟩ := e
      obtain ⟨ad, cd, hvd⟩ := OwD.form hoe.d
      simp only at hvd k1 k2 k3 k4 k5 hoe
      subst hvd
      have dl := hoe.s1
      have hdr2 := hoe.d.row
      simp only at dl hdr2
      have c0 := hcell 0 _ rfl
      have c1 := hcell 1 _ rfl
      have c2 := hcell 2 _ rfl
      simp only [Nat.add_zero] at c0 c1 c2
      have g0 := (sy_good g).lo o.ds.toNat
      have hhas : hasV g (o.ds, o.dq) = false := by rw [has_site k1 (by omega), decide_eq_false (by omega)]
      have hmg := mrg_dot (sy_good g) k1 k2 k3
      have gm := (sy_good g).put (i := o.ds.toNat) (x := o.dq) (by omega) (by omega) (by omega) k3
      have KS5 : Hid (SQ (sy (vec (put1 (sy g) o.ds.toNat o.dq))) ((ops.map Prod.fst).drop (i + 1)) (sy t)) := hide (by rw [sy_vec gm]; exact k5)
      have NG2 := hide (chk_vec gm)
      have HCo := hide (refCovers_in _ _ g o.deps wr (unhide HG) hdr2 (by omega) (by omega))
      rw [k4] at HCo
      have HHa := hide (fun (W : World) (hb : Below wr.heap.size wr W) => refHas_in _ g o.ds o.dq W ((unhide HG).below hb) (by omega))
      rw [hhas] at HHa
      have HMe := hide (fun (W : World) (hb : Below wr.heap.size wr W) => refMerge_in _ (.slice (some ⟨W.heap.size, 0, none⟩) 1 1) g [(o.ds, o.dq)] (W.alloc (.cells #[.int .i64 o.ds, .int .i64 o.dq] 23)) ((unhide HG).below (ballc hb _)) (RC.lit W 23 #[.int .i64 o.ds, .int .i64 o.dq] 1) (by omega) (by simp))
      rw [hmg] at HMe
      obtain ⟨g2, hg2⟩ : ∃ g2, vec (put1 (sy g) o.ds.toNat o.dq) = g2 := ⟨_, rfl⟩
      rw [hg2] at HMe KS5 NG2
      have g2l : g2.length ≤ 17 := chk_len (unhide NG2)
      generalize o.ds = ds at *
      generalize o.dq = dq at *
      clear hcell hx hdr hoe hhas hmg gm hdr2 k1 k2 k3 k4 k5 g0 hg2 HSQ HG NG
      go_wp2_with fail
      refine (unhide HCo).mono ?_
      rintro r W1 ⟨rfl, hb1⟩
      have H1 := hide (unhide HHa W1 hb1)
      have z1 := hb1.size
      have d0 := cell_below c0 hb1
      have d1 := cell_below c1 hb1
      have BB := hide hb1
      clear HCo HHa hb1
      go_wp2_with fail
      refine (unhide H1).mono ?_
      rintro r W2 ⟨rfl, hb2⟩
      have B2 := bnext (unhide BB) hb2
      have H2 := hide (unhide HMe W2 B2)
      have z2 := hb2.size
      have e0 := cell_below d0 hb2
      have e1 := cell_below d1 hb2
      replace BB := hide B2
      clear H1 HMe hb2 B2 d0 d1 c0 c1 c2
      go_wp2_with fail
      refine (unhide H2).mono ?_
      rintro r W3 ⟨v3, rfl, ho3, hb3⟩
      obtain ⟨a3, c3, rfl⟩ := ho3.form
      have O3 := hide ho3.row
      have B3 := hide (bnext (unhide HB) (bnext (ballc (unhide BB) _) hb3))
      clear H2 hb3 ho3 BB HB e0 e1
      go_wp2
      go_roundw
      case measure => simp [RowKit.intOf]; omega
      case rel => exact ⟨i + 1, g2, by go_num, by omega, ⟨_, _, rfl⟩, g2l, O3, NG2, KS5, B3⟩
    · have hlt' : ¬ (i : Int) < (L : Int) := by omega
      have heq : g = t := by
        have h := unhide HSQ
        rw [List.drop_eq_nil_of_le (by rw [List.length_map, unhide HL]; omega)] at h
        have h' : sy g = sy t := h
        rw [← vec_of_chk (unhide NG), h', vec_of_chk (unhide NT)]
      have HV := hide (vectors_in g t _ _ wr (unhide HG) ((unhide HT).below (unhide HB)) (by omega) (by omega))
      rw [decide_eq_true heq] at HV
      clear heq HSQ HG NG HT
      go_wp2_with fail
      refine (unhide HV).mono ?_
      rintro r W1 ⟨rfl, nq, rfl⟩
      clear HV
      go_wp2
      go_ret
      exact ⟨rfl, bdrew (unhide HB) _⟩

end Go.Proofs.Ytgfkpgogfahdaaa
