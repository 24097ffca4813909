/-
  Alter.
-/
import Derived.Test.YteomalmflebkhaaZNP
set_option linter.unusedSimpArgs false
set_option linter.unusedVariables false
namespace Go.Proofs.Yteomalmflebkhaa
open Go.RowKit Go.Lib

variable {P N : Nat → Prop} {w W W' : World} {b p f m : Nat} {c : Cp} {s : Stn} {mo : Option Nat} {pb : Int → Nat} {vc vs : Value} {frm to sent : Int} {cl : List Int}
theorem sizeB : (Try.prog.info? 5).map (·.size) = some 1 := by kernel_rfl
theorem splice_take (L Y : List Value) (a n : Nat) (h : a + Y.length ≤ n) (hn : n ≤ L.length) : (L.take a ++ (Y ++ L.drop (a + Y.length))).take n = L.take a ++ (Y ++ (L.take n).drop (a + Y.length)) := by
  have e1 : (L.take a).length = a := by rw [List.length_take]; omega
  rw [List.take_append, List.take_of_length_le (l := L.take a) (by omega), List.take_append, List.take_of_length_le (l := Y) (by omega), List.drop_take, e1, show n - a - Y.length = n - (a + Y.length) by omega]
/-- copy(data[a:], y) -/
theorem copy_ow {B g k : Nat} {d y : List Int} {a : Nat} {av : Option Addr} {cv : Nat} (h : OwB W B 5 (.slice (some ⟨g, 0, none⟩) d.length k) d) (hy : RB W (.slice av y.length cv) y) (hy0 : 1 ≤ y.length) (hay : a + y.length ≤ d.length) (ty : TypeId) :
    ∃ Y, (Builtin.copy_ #[30, 30] ty #[.slice (some ⟨g, a, none⟩) (d.length - a) (k - a), .slice av y.length cv]).run Try.prog W = .ok (.int .i64 (y.length : Nat)) Y ∧ OwB Y B 5 (.slice (some ⟨g, 0, none⟩) d.length k) (d.take a ++ y ++ d.drop (a + y.length)) ∧ Kp (fun i => i = g) W Y := by
  rcases hy with ⟨h0, _⟩ | ⟨b1, o1, c1, e, h1, h2, hc⟩
  · omega
  simp only [Value.slice.injEq] at e
  obtain ⟨rfl, _, rfl⟩ := e
  have hd := h
  obtain ⟨hl, (⟨e, _⟩ | ⟨g', cap, cur, e, hb, hg, hc1, hc2, hc3, hc4⟩)⟩ := h
  · cases e
  simp only [Value.slice.injEq, Option.some.injEq, Addr.mk.injEq, and_true] at e
  obtain ⟨rfl, _, rfl⟩ := e
  rw [Nat.mul_one] at hc3 hc4
  have hrun := run_copy_row (P := Try.prog) W 30 30 ty 5 g a (d.length - a) (k - a) ⟨b1, o1, none⟩ y.length cv cur 5 (bC y) Try.underlying30 sizeB hg (by rw [bC_len]; show _ = min _ _; omega) (fun j v hv => by rw [Addr.add_lit]; exact hc j v hv) (by rw [bC_len]; omega) (bC_one y)
  rw [bC_len] at hrun
  refine ⟨_, hrun, ?_, ⟨rfl, rfl, rfl, by simp [World.setRow], fun i hi hn => setRow_other W g i _ (fun e => hn e)⟩⟩
  have hlen : (d.take a ++ y ++ d.drop (a + y.length)).length = d.length := by simp only [List.length_append, List.length_take, List.length_drop]; omega
  unfold OwB
  rw [hlen]
  refine ⟨by rw [bC_len, hlen, Nat.mul_one], .inr ⟨g, k, _, rfl, hb, setRow_heap _ g _ _ 5 (0, 0) hg, hc1, hc2, ?_, ?_⟩⟩
  · simp [bC_len, hc3]; omega
  · rw [Nat.mul_one, bC_app, bC_app]
    have e1 : bC (d.take a) = cur.toList.take a := by rw [bC_take, ← hc4, List.take_take, Nat.min_eq_left (by omega)]
    have e2 : bC (d.drop (a + y.length)) = (cur.toList.take d.length).drop (a + y.length) := by rw [bC_drop, ← hc4]
    rw [e1, e2]
    simp only [List.append_assoc]
    have := splice_take cur.toList (bC y) a d.length (by rw [bC_len]; exact hay) (by have := Array.length_toList (xs := cur); omega)
    rw [bC_len] at this
    exact this
set_option maxRecDepth 100000 in
set_option maxHeartbeats 4000000 in
theorem Alter_in (h : NL P w b s) (hP : ∀ i, P i → i < w.heap.size) {k : Int} (hk : in64 k) (a : Int) (av : Option Addr) (cv : Nat) (y : List Int) (hy : RB w (.slice av y.length cv) y) (hyl : y.length ≤ 9223372036854775807) : Calls Try.prog 22 #[.pointer (some ⟨b, 0, none⟩), .int .i64 k, .int .i64 a, .slice av y.length cv] w (CN P w b (altS s k a y) (.int .i64 (altE s k a y))) := by
  have HL := hide h
  obtain ⟨mo, pb, h⟩ := h
  have bad : ∀ er : Int, er ≠ 0 → altE s k a y = er → Calls Try.prog 42 #[.pointer (some ⟨b, 0, none⟩), .int .i64 k, ptV a (.slice av y.length cv)] w (fun e W => e = .returned (.tuple #[.pointer none, .int .i64 er]) ∧ Below w.heap.size w W) → Calls Try.prog 22 #[.pointer (some ⟨b, 0, none⟩), .int .i64 k, .int .i64 a, .slice av y.length cv] w (CN P w b (altS s k a y) (.int .i64 (altE s k a y))) := by
    intro er h0 he hc
    rw [altS_no (by rw [he]; exact h0), he]
    have hne : (er != 0) = true := by simpa using h0
    have HC := hide hc
    unfold ptV at HC
    clear he h0 hc h hy hyl
    generalize y.length = n at *
    go_enter Try.func22, Try.ntmps22
    go_wp2_with fail
    refine (unhide HC).mono ?_
    rintro e W1 ⟨rfl, hb⟩
    have HB := hide hb
    clear hb
    go_wp2
    go_ret
    exact CN.same (unhide HL) _ (unhide HB)
  cases hf : fnd s.ls k with
  | none => exact bad 11 (by decide) (by unfold altE; rw [hf]) (askA_none h hk hf a av cv y hy hyl)
  | some c =>
    obtain ⟨er, he⟩ : ∃ er, altE s k a y = er := ⟨_, rfl⟩
    have hA := askA_some h hk hf a av cv y hy hyl er he
    by_cases h0 : er = 0
    · clear bad
      subst h0
      obtain ⟨c', hc', hfit, hbad⟩ := alt_ok he
      rw [hf] at hc'
      cases hc'
      rw [show altS s k a y = updS s k (altC a y) by unfold altS; rw [if_pos he], he]
      rw [if_pos rfl] at hA
      have hgd : Gd (updS s k (altC a y)) := by
        have := h.gd.alt k a y
        unfold altS at this
        rw [if_pos he] at this
        exact this
      have hal := alt_len hbad hfit
      unfold fitA at hfit
      rw [dat_ok hbad, Bool.and_eq_true] at hfit
      have hfit := of_decide_eq_true hfit.1
      obtain ⟨z, rfl⟩ : ∃ z : Nat, a = (z : Nat) := ⟨a.toNat, by omega⟩
      have hm := fnd_mem hf
      obtain ⟨f, vc, vs, hp⟩ := h.pr c hm
      rw [fnd_num hf] at hp
      obtain ⟨a1, k1, hvc⟩ := hp.fb.rc.form
      have hln := (h.gd.ln c hm).1
      have HA := hide hA
      unfold ptV at HA
      obtain ⟨N1, hN1⟩ : ∃ N1, c.cl.length = N1 := ⟨_, rfl⟩
      obtain ⟨M, hM⟩ : ∃ M, y.length = M := ⟨_, rfl⟩
      have PP : Hid (∀ W1, Below w.heap.size w W1 → W1.cell? ⟨pb k, 0, none⟩ = some (.pointer (some ⟨f, 0, none⟩)) ∧ W1.cell? ⟨f, 3, none⟩ = some (.slice a1 N1 k1)) := fun W1 hb => ⟨cell_below (hp.bp.cell 0 _ rfl) hb, cell_below (by rw [← hN1, ← hvc]; exact hp.fb.bf.cell 3 _ rfl) hb⟩
      have HPl : Hid (∀ W1, Below w.heap.size w W1 → Calls Try.prog 43 #[.slice a1 N1 k1] W1 fun e W2 => ∃ g2 k2 Y, e = .returned (.slice (some ⟨g2, 0, none⟩) N1 k2) ∧ N1 ≤ k2 ∧ (Builtin.copy_ #[30, 30] 3 #[.slice (some ⟨g2, z, none⟩) (N1 - z) (k2 - z), .slice av M cv]).run Try.prog W2 = .ok (.int .i64 (M : Nat)) Y ∧ Calls Try.prog 44 #[.pointer (some ⟨pb k, 0, none⟩), .slice (some ⟨g2, 0, none⟩) N1 k2] Y fun e W3 => e = .returned (.tuple #[]) ∧ NL (fun i => P i ∨ w.heap.size ≤ i) W3 b (updS s k (altC (z : Nat) y)) ∧ Kp P w W3) := by
        intro W1 hb1
        subst hN1 hM
        have r1 := (hp.fb.rc.row).below hb1
        rw [hvc] at r1
        refine (plain_in _ _ W1 r1 (by omega)).mono ?_
        rintro e W2 ⟨a2, k2, rfl, ho, hb2⟩
        obtain ⟨g2, e2, hcap⟩ : ∃ g2, a2 = some ⟨g2, 0, none⟩ ∧ c.cl.length ≤ k2 := by
          rcases ho.2 with ⟨e, e0⟩ | ⟨g, cap, cur, e, _, _, hcap, _⟩
          · omega
          · simp only [Value.slice.injEq] at e
            exact ⟨g, e.1, by omega⟩
        subst e2
        have hb := bnext hb1 hb2
        have hz1 := hb1.size
        have hg2 := ho.lt g2 rfl
        obtain ⟨Y, hr, hoY, kY⟩ := copy_ow ho (hy.below hb) hfit.1 (a := z) (by omega) 3
        have hp2 := hp.below hb
        have hpl := hP _ hp.pp
        have hbY : Below w.heap.size w Y := kY.below hb (fun i e => by omega)
        have hpY := hp.below hbY
        refine ⟨g2, k2, Y, rfl, hcap, hr, ?_⟩
        refine (spoil_in hpY.bp (some ⟨g2, 0, none⟩) c.cl.length k2).mono ?_
        rintro e W3 ⟨rfl, hY, kY3⟩
        refine ⟨rfl, ⟨mo, pb, (h.kp (N := fun _ => False) (Kp.of_below hbY) (fun _ e => e.elim)).spo hf (g := altC (z : Nat) y) (fun c => ⟨rfl, rfl, rfl, rfl, rfl, rfl⟩) hgd hpY hY kY3 ?_ (fun i hi => .inl hi) (fun i hi => .inr ?_)⟩, (Kp.of_below hbY).trans kY3 (fun i hi => .inl (by rw [hi]; exact hp.pp))⟩
        · show OwB W3 0 5 (.slice (some ⟨g2, 0, none⟩) c.cl.length k2) (c.cl.take ((z : Nat) : Int).toNat ++ y ++ c.cl.drop (((z : Nat) : Int).toNat + y.length))
          rw [Int.toNat_natCast]
          exact (hoY.wk (Nat.zero_le _)).kp kY3 (fun i hi e => by have hh : g2 = i := Option.some.inj hi; omega)
        · have hh : g2 = i := Option.some.inj hi
          omega
      have hz1 : (z : Int) ≤ ((N1 : Nat) : Int) := by omega
      have hz2 : z < N1 := by omega
      rw [hM] at HA ⊢
      clear h hA hp hm hf hgd hfit hbad hvc hP HL he hal hN1 hM hy hyl
      generalize pb k = q at *
      go_enter Try.func22, Try.ntmps22
      go_wp2_with fail
      refine (unhide HA).mono ?_
      rintro e W1 ⟨rfl, hb⟩
      obtain ⟨y1, y2⟩ := unhide PP W1 hb
      have HP1 := hide (unhide HPl W1 hb)
      clear HA PP HPl hb
      go_wp2_with fail
      refine (unhide HP1).mono ?_
      rintro e W2 ⟨g2, k2, Y, rfl, hcap, hcp, hs⟩
      have HS := hide hs
      have hcap' : ((N1 : Nat) : Int) ≤ ((k2 : Nat) : Int) := by omega
      have hk1 : ¬ z = k2 := by omega
      have hk2 : ¬ k2 = z := by omega
      have hk3 : z < k2 := by omega
      have hk4 : ((z : Nat) : Int) < ((k2 : Nat) : Int) := by omega
      clear hs HP1
      go_wp2_with fail
      refine (unhide HS).mono ?_
      rintro e W3 ⟨rfl, hq⟩
      have HQ := hide hq
      clear hq HS
      go_wp2
      go_ret
      exact ⟨rfl, unhide HQ⟩
    · rw [if_neg h0] at hA
      exact bad er h0 he hA

end Go.Proofs.Yteomalmflebkhaa
