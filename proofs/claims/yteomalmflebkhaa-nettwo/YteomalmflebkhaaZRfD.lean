/-
  The document's own Net: Send, Double.
-/
import Derived.Test.YteomalmflebkhaaZRfC
set_option linter.unusedSimpArgs false
set_option linter.unusedVariables false
namespace Go.Proofs.Yteomalmflebkhaa
open Go.RowKit Go.Lib

variable {P N : Nat → Prop} {w W W' X : World} {b p f q : Nat} {c : Cp} {s : Stn} {v u : Value} {e : Ending} {L : List (Cp × Value × Value)} {frm to sent : Int} {cl : List Int}
theorem CH.from (hb : Below w.heap.size w X) (h : CH P X b s u e W) : CH P w b s u e W := ⟨h.1, h.2.1.mono (fun i hi => by have := hb.size; rcases hi with e | e; exact .inl e; exact .inr (by omega)), (Kp.of_below hb).trans h.2.2 (fun i hi => .inl hi)⟩
theorem fnd_plc {l : List Cp} (hp : l.Pairwise (fun a b => a.num < b.num)) {k : Int} {i : Nat} (h : plc l k = some i) : ∃ c, l[i]? = some c ∧ fnd l k = some c := by
  obtain ⟨c, h1, h2, _⟩ := plc_some h
  subst h2
  exact ⟨c, h1, fnd_of hp (List.mem_of_getElem? h1)⟩
theorem fnd_plcn {l : List Cp} {k : Int} (h : plc l k = none) : fnd l k = none := by
  cases e : fnd l k with
  | none => rfl
  | some c => exact absurd (fnd_num e) (plc_none h c (fnd_mem e))
set_option maxRecDepth 100000 in
set_option maxHeartbeats 2000000 in
theorem rSend_in (h : HM P w b v L s) (x y k : Int) (a : Option Addr) (c : Nat) (d : List Int) (hd : RB w (.slice a d.length c) d) (hfr : d ≠ [] → ∀ i, (Value.slice a d.length c).ownBlock = some i → ¬ (i = b ∨ v.ownBlock = some i)) (hl : d.length ≤ 1000000) : Calls Try.prog 27 #[.pointer (some ⟨b, 0, none⟩), .int .i64 x, .int .i64 y, .slice a d.length c, .int .i64 k] w (CH P w b (sndS s x y d k) (two (sndN s x y k) (sndE s x y k))) := by
  have HL := hide (show HL P w b s from ⟨_, _, h⟩)
  have S1 := hide (rsite_in x w)
  have S2 := hide (rsite_in y w)
  by_cases hb : sndB x y k = true
  · rw [show sndS s x y d k = layS s x y d k by unfold sndS; rw [if_pos hb], show sndN s x y k = layN s by unfold sndN; rw [if_pos hb], show sndE s x y k = layE s by unfold sndE; rw [if_pos hb]]
    unfold sndB at hb
    obtain ⟨hx, hy, hxy, hk⟩ := of_decide_eq_true hb
    rw [decide_eq_true hx] at S1
    rw [decide_eq_true hy] at S2
    have hk' : ¬ k < 0 := by omega
    have hxy' : (x == y) = false := by rw [beq_eq_false_iff_ne]; exact hxy
    have HM := hide (rmore_in (frm := x) (to := y) (sent := k) h a c hd hfr hl)
    unfold two at *
    generalize layS s x y d k = s' at *
    generalize layN s = n1 at *
    generalize layE s = n2 at *
    clear h hd hfr hl hb hx hy hk hxy
    go_enter Try.func27, Try.ntmps27
    go_wp2_with fail
    refine (unhide S1).mono ?_
    rintro e W1 ⟨rfl, rfl⟩
    clear S1
    go_wp2_with fail
    refine (unhide S2).mono ?_
    rintro e W1 ⟨rfl, rfl⟩
    clear S2
    go_wp2_with fail
    refine (unhide HM).mono ?_
    rintro e W2 ⟨rfl, hq⟩
    replace hq := hide hq
    clear HM
    go_wp2
    refine bodyPost_ret (results_tmp2 rfl _ _ _) rfl ?_
    exact ⟨rfl, unhide hq⟩
  · rw [show sndS s x y d k = s by unfold sndS; rw [if_neg hb], show sndN s x y k = 0 by unfold sndN; rw [if_neg hb], show sndE s x y k = 1 by unfold sndE; rw [if_neg hb]]
    unfold sndB at hb
    have hb' : ¬ ((1 ≤ x ∧ x ≤ 16) ∧ (1 ≤ y ∧ y ≤ 16) ∧ x ≠ y ∧ 0 ≤ k) := fun e => hb (decide_eq_true e)
    unfold two
    obtain ⟨n, hn⟩ : ∃ n, d.length = n := ⟨_, rfl⟩
    rw [hn]
    clear hb h hn hd
    by_cases hx : 1 ≤ x ∧ x ≤ 16
    · rw [decide_eq_true hx] at S1
      by_cases hy : 1 ≤ y ∧ y ≤ 16
      · rw [decide_eq_true hy] at S2
        by_cases hxy : x = y
        · have hxy' : (x == y) = true := by simpa using hxy
          clear hb' hx hy hxy
          go_enter Try.func27, Try.ntmps27
          go_wp2_with fail
          refine (unhide S1).mono ?_
          rintro e W1 ⟨rfl, rfl⟩
          clear S1
          go_wp2_with fail
          refine (unhide S2).mono ?_
          rintro e W1 ⟨rfl, rfl⟩
          clear S2
          go_wp2
          refine bodyPost_ret (results_tmp2 rfl _ _ _) rfl ?_
          exact CH.same (unhide HL) _ (Below.refl _ _)
        · have hk : k < 0 := by omega
          have hxy' : (x == y) = false := by rw [beq_eq_false_iff_ne]; exact hxy
          clear hb' hx hy hxy
          go_enter Try.func27, Try.ntmps27
          go_wp2_with fail
          refine (unhide S1).mono ?_
          rintro e W1 ⟨rfl, rfl⟩
          clear S1
          go_wp2_with fail
          refine (unhide S2).mono ?_
          rintro e W1 ⟨rfl, rfl⟩
          clear S2
          go_wp2
          refine bodyPost_ret (results_tmp2 rfl _ _ _) rfl ?_
          exact CH.same (unhide HL) _ (Below.refl _ _)
      · rw [decide_eq_false hy] at S2
        clear hb' hx hy
        go_enter Try.func27, Try.ntmps27
        go_wp2_with fail
        refine (unhide S1).mono ?_
        rintro e W1 ⟨rfl, rfl⟩
        clear S1
        go_wp2_with fail
        refine (unhide S2).mono ?_
        rintro e W1 ⟨rfl, rfl⟩
        clear S2
        go_wp2
        refine bodyPost_ret (results_tmp2 rfl _ _ _) rfl ?_
        exact CH.same (unhide HL) _ (Below.refl _ _)
    · rw [decide_eq_false hx] at S1
      clear hb' hx S2
      go_enter Try.func27, Try.ntmps27
      go_wp2_with fail
      refine (unhide S1).mono ?_
      rintro e W1 ⟨rfl, rfl⟩
      clear S1
      go_wp2
      refine bodyPost_ret (results_tmp2 rfl _ _ _) rfl ?_
      exact CH.same (unhide HL) _ (Below.refl _ _)


theorem set7 {v0 v1 v2 v3 v4 v5 v6 : Value} (h : Bx W q 79 #[v0, v1, v2, v3, v4, v5, v6]) (u0 u1 u2 u3 u4 u5 u6 : Value) {Y : World} (hY : (((((((W.setCell ⟨q, 0, none⟩ u0).setCell ⟨q, 1, none⟩ u1).setCell ⟨q, 2, none⟩ u2).setCell ⟨q, 3, none⟩ u3).setCell ⟨q, 4, none⟩ u4).setCell ⟨q, 5, none⟩ u5).setCell ⟨q, 6, none⟩ u6) = Y) : Bx Y q 79 #[u0, u1, u2, u3, u4, u5, u6] ∧ Kp (fun i => i = q) W Y := by
  subst hY
  refine ⟨by simpa using ((((((h.set 0 u0).set 1 u1).set 2 u2).set 3 u3).set 4 u4).set 5 u5).set 6 u6, ?_⟩
  have k := fun (X : World) (j : Nat) (u : Value) => Kp.set (N := fun i => i = q) X ⟨q, j, none⟩ u rfl
  have t := fun {X Y Z : World} (h1 : Kp (fun i => i = q) X Y) (h2 : Kp (fun i => i = q) Y Z) => h1.trans h2 (fun i hi => .inl hi)
  exact t (t (t (t (t (t (k _ 0 u0) (k _ 1 u1)) (k _ 2 u2)) (k _ 3 u3)) (k _ 4 u4)) (k _ 5 u5)) (k _ 6 u6)
set_option maxRecDepth 100000 in
set_option maxHeartbeats 4000000 in
theorem rDouble_in (h : HL P w b s) (k : Int) : Calls Try.prog 30 #[.pointer (some ⟨b, 0, none⟩), .int .i64 k] w (CH P w b (dblS s k) (two (dblN s k) (dblE s k))) := by
  have HLs := hide h
  obtain ⟨v, L, h⟩ := h
  obtain ⟨a0, k0, rfl⟩ := h.form
  have HP := hide (rplace_in h k)
  have c0 := h.c0
  cases hp : plc s.ls k with
  | none =>
    have hf := fnd_plcn hp
    rw [show dblS s k = s by unfold dblS; rw [hf], show dblN s k = 0 by unfold dblN; rw [hf]; rfl, show dblE s k = 11 by unfold dblE; rw [hf]; rfl]
    unfold two
    rw [show plI s.ls k = -1 by unfold plI; rw [hp]] at HP
    clear h hp hf
    go_enter Try.func30, Try.ntmps30
    go_wp2_with fail
    refine (unhide HP).mono ?_
    rintro e W1 ⟨rfl, rfl⟩
    clear HP
    go_wp2
    refine bodyPost_ret (results_tmp2 rfl _ _ _) rfl ?_
    exact CH.same (unhide HLs) _ (Below.refl _ _)
  | some i =>
    obtain ⟨c, hc, hf⟩ := fnd_plc h.gd.ris hp
    rw [show dblS s k = layS s c.frm c.to c.cl c.sent by unfold dblS; rw [hf], show dblN s k = layN s by unfold dblN; rw [hf]; rfl, show dblE s k = layE s by unfold dblE; rw [hf]; rfl]
    rw [show plI s.ls k = (i : Nat) by unfold plI; rw [hp]] at HP
    obtain ⟨⟨c', v1, v2⟩, hx, rfl⟩ := h.get hc
    obtain ⟨g, ea, _, _, hcl, _⟩ := h.at hx
    have hxm := List.mem_of_getElem? hx
    have hil : i < L.length := (List.getElem?_eq_some_iff.1 hx).1
    have hi1 : (i : Int) < (L.length : Int) := by omega
    have hi2 : ¬ (i : Int) < 0 := by omega
    obtain ⟨a2, k2, e2⟩ := (h.cle _ hxm).1.1.form
    obtain ⟨a1, k1, e1⟩ := (h.dat _ hxm).1.1.form
    simp only at e1 e2
    subst e1 e2
    obtain ⟨n1, hn1⟩ : ∃ n, c'.dat.length = n := ⟨_, rfl⟩
    have p0 := hcl 0 _ rfl
    have p1 := hcl 1 _ rfl
    have p2 := hcl 2 _ rfl
    have p3 := hcl 3 _ rfl
    have p4 := hcl 4 _ rfl
    have p5 := hcl 5 _ rfl
    have p6 := hcl 6 _ rfl
    rw [Nat.add_zero] at p0
    rw [hn1] at p3
    obtain ⟨X1, hX1⟩ : ∃ X1, w.alloc (.cells #[.int .i64 0, .int .i64 0, .int .i64 0, .slice none 0 0, .int .i64 0, .bool false, .slice none 0 0] 79) = X1 := ⟨_, rfl⟩
    have x1 : Bx X1 w.heap.size 79 #[.int .i64 0, .int .i64 0, .int .i64 0, .slice none 0 0, .int .i64 0, .bool false, .slice none 0 0] := by rw [← hX1]; exact Bx.new _ _ _
    have b1 : Below w.heap.size w X1 := by rw [← hX1]; exact ballc (Below.refl _ _) _
    obtain ⟨X2, hX2⟩ : ∃ X2, (((((((X1.setCell ⟨w.heap.size, 0, none⟩ (.int .i64 c'.num)).setCell ⟨w.heap.size, 1, none⟩ (.int .i64 c'.frm)).setCell ⟨w.heap.size, 2, none⟩ (.int .i64 c'.to)).setCell ⟨w.heap.size, 3, none⟩ (.slice a1 n1 k1)).setCell ⟨w.heap.size, 4, none⟩ (.int .i64 c'.sent)).setCell ⟨w.heap.size, 5, none⟩ (.bool c'.bad)).setCell ⟨w.heap.size, 6, none⟩ (.slice a2 c'.cl.length k2)) = X2 := ⟨_, rfl⟩
    obtain ⟨x2, kx2⟩ := set7 x1 _ _ _ _ _ _ _ hX2
    have b2 : Below w.heap.size w X2 := kx2.below b1 (fun i e => by omega)
    have z0 := x1.cell 0 _ rfl
    have f0 := x1.frozen 0
    have z1 := x1.cell 1 _ rfl
    have f1 := x1.frozen 1
    have z2 := x1.cell 2 _ rfl
    have f2 := x1.frozen 2
    have z3 := x1.cell 3 _ rfl
    have f3 := x1.frozen 3
    have z4 := x1.cell 4 _ rfl
    have f4 := x1.frozen 4
    have z5 := x1.cell 5 _ rfl
    have f5 := x1.frozen 5
    have z6 := x1.cell 6 _ rfl
    have f6 := x1.frozen 6
    have q1 := x2.cell 1 _ rfl
    have q2 := x2.cell 2 _ rfl
    have q4 := x2.cell 4 _ rfl
    have q6 := x2.cell 6 _ rfl
    have hM2 := h.kp (N := fun _ => False) (Kp.of_below b2) (fun _ e => e.elim)
    have HMo := hide ((rmore_in (frm := c'.frm) (to := c'.to) (sent := c'.sent) hM2 a2 k2 (hM2.cle _ hxm).1.1 (fun _ j hj => by obtain ⟨cur, hc⟩ := (hM2.cle _ hxm).2 j hj; exact hM2.far hc) (h.gd.ln c' (List.mem_of_getElem? hc)).1).mono (fun e W hW => CH.from b2 hW))
    subst ea
    unfold two at *
    generalize layS s c'.frm c'.to c'.cl c'.sent = s' at *
    generalize layN s = m1 at *
    generalize layE s = m2 at *
    clear h hp hc hf hcl hxm hx x1 b1 x2 kx2 b2 hM2 HLs hn1
    go_enter Try.func30, Try.ntmps30
    go_wp2_with fail
    refine (unhide HP).mono ?_
    rintro e W1 ⟨rfl, rfl⟩
    clear HP
    go_wp2_with fail
    refine (unhide HMo).mono ?_
    rintro e W2 ⟨rfl, hq⟩
    replace hq := hide hq
    clear HMo
    go_wp2
    refine bodyPost_ret (results_tmp2 rfl _ _ _) rfl ?_
    exact ⟨rfl, unhide hq⟩

end Go.Proofs.Yteomalmflebkhaa
