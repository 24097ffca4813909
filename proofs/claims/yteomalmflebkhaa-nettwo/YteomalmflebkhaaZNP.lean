/-
  Alter, Cut.
-/
import Derived.Test.YteomalmflebkhaaZNO
import Derived.Laws.CopyOwn
set_option linter.unusedSimpArgs false
set_option linter.unusedVariables false
namespace Go.Proofs.Yteomalmflebkhaa
open Go.RowKit Go.Lib

variable {P N : Nat → Prop} {w W W' : World} {b p f m : Nat} {c : Cp} {s : Stn} {mo : Option Nat} {pb : Int → Nat} {vc vs : Value} {frm to sent : Int} {cl : List Int}
theorem fnd_upd (s : Stn) (k : Int) {g : Cp → Cp} (hg : ∀ c, (g c).num = c.num) (j : Int) : (fnd (updS s k g).ls j).isSome = (fnd s.ls j).isSome := by
  unfold fnd updS
  simp only
  rw [List.find?_map, Option.isSome_map]
  congr 2
  funext c
  show ((if c.num = k then g c else c).num == j) = (c.num == j)
  split
  · rw [hg]
  · rfl
/-- a copy becomes a bad one -/
theorem NM.spo (h : NM P W b mo pb s) {k : Int} (hf : fnd s.ls k = some c) {g : Cp → Cp} (hg : ∀ c, (g c).num = c.num ∧ (g c).frm = c.frm ∧ (g c).to = c.to ∧ (g c).cl = c.cl ∧ (g c).sent = c.sent ∧ (g c).bad = true) (gd : Gd (updS s k g)) (hp : PR P W c (pb k) f vc vs) {Y : World} {v : Value} (hY : Bx Y (pb k) 90 #[.pointer (some ⟨f, 0, none⟩), .bool true, v]) (kY : Kp (fun i => i = pb k) W Y) (hv : OwB Y 0 5 v (g c).sp) {P' : Nat → Prop} (hPP : ∀ i, P i → P' i) (hvp : ∀ i, v.ownBlock = some i → P' i) : NM P' Y b mo pb (updS s k g) := by
  have hm := fnd_mem hf
  have hnum := fnd_num hf
  have nr : ∀ i, i = pb k → NoR W i := fun i hi => by rw [hi]; exact NoR.of hp.bp (by decide) (by decide) (by decide)
  have hnb : b ≠ pb k := h.bx.apart hp.bp (by decide)
  refine ⟨hPP _ h.p0, h.bx.kp kY hnb, ?_, fun d hd => ?_, fun d hd d' hd' e => ?_, gd⟩
  · rcases h.mp with ⟨e, q⟩ | ⟨m, n, e, hmm, hmp, hn⟩
    · rw [q] at hm; cases hm
    · refine .inr ⟨m, n, e, hPP _ hmm, (hmp.kp kY (fun q => hmp.ne hp.bp q.symm)).congr (fun j _ => ?_), hn⟩
      unfold gO
      rw [fnd_upd s k (fun c => (hg c).1)]
  · rcases upd_mem hd with ⟨hd, hne⟩ | ⟨d', hd', hk', rfl⟩
    · refine ((h.pr d hd).kpw kY (fun e => ?_) nr).mono (fun i hi _ => hPP i hi)
      have := h.inj d hd c hm (by rw [e, hnum])
      exact hne (by rw [this, hnum])
    · have e : d' = c := rise_inj h.gd.ris d' hd' c hm (by rw [hk', hnum])
      subst e
      obtain ⟨g1, g2, g3, g4, g5, g6⟩ := hg d'
      rw [g1, hnum]
      refine ⟨f, vc, v, hPP _ hp.pp, ?_, ?_, hv, hvp⟩
      · rw [g2, g3, g4, g5]
        exact (hp.fb.kpw kY nr).mono (fun i hi _ => hPP i hi)
      · rw [g6]; exact hY
  · have q : ∀ d ∈ (updS s k g).ls, ∃ d0 ∈ s.ls, d0.num = d.num := fun d hd => by
      rcases upd_mem hd with ⟨hd, _⟩ | ⟨d', hd', _, rfl⟩
      · exact ⟨d, hd, rfl⟩
      · exact ⟨d', hd', ((hg d').1).symm⟩
    obtain ⟨d0, h0, e0⟩ := q d hd
    obtain ⟨d1, h1, e1⟩ := q d' hd'
    rw [← e0, ← e1] at e ⊢
    exact h.inj d0 h0 d1 h1 e
theorem Cut_nil (k n : Int) (w : World) : Calls Try.prog 23 #[.pointer none, .int .i64 k, .int .i64 n] w fun e W => e = .returned (.int .i64 1) ∧ Below w.heap.size w W := by
  have HF := hide (askC_nil (w := w) k n)
  go_enter Try.func23, Try.ntmps23
  go_wp2_with fail
  refine (unhide HF).mono ?_
  rintro e W1 ⟨rfl, hb⟩
  replace hb := hide hb
  go_wp2
  go_ret
  exact ⟨rfl, unhide hb⟩
theorem Alter_nil (k a : Int) (av : Option Addr) (cv : Nat) (y : List Int) (hy : RB w (.slice av y.length cv) y) (hyl : y.length ≤ 9223372036854775807) : Calls Try.prog 22 #[.pointer none, .int .i64 k, .int .i64 a, .slice av y.length cv] w fun e W => e = .returned (.int .i64 1) ∧ Below w.heap.size w W := by
  have HF := hide (askA_nil (w := w) k a av cv y hy hyl)
  unfold ptV at HF
  obtain ⟨n, hn⟩ : ∃ n, y.length = n := ⟨_, rfl⟩
  rw [hn] at HF ⊢
  clear hn hy hyl
  go_enter Try.func22, Try.ntmps22
  go_wp2_with fail
  refine (unhide HF).mono ?_
  rintro e W1 ⟨rfl, hb⟩
  replace hb := hide hb
  go_wp2
  go_ret
  exact ⟨rfl, unhide hb⟩
theorem cutS_no {k n : Int} (h : cutE s k n ≠ 0) : cutS s k n = s := by unfold cutS; rw [if_neg h]
theorem altS_no {k a : Int} {y : List Int} (h : altE s k a y ≠ 0) : altS s k a y = s := by unfold altS; rw [if_neg h]
theorem NL.none (h : NL P w b s) (hb : Below w.heap.size w W) : NL (fun i => P i ∨ w.heap.size ≤ i) W b s := (h.below hb).mono (fun i hi => .inl hi)
set_option maxRecDepth 100000 in
set_option maxHeartbeats 4000000 in
theorem Cut_in (h : NL P w b s) (hP : ∀ i, P i → i < w.heap.size) {k : Int} (hk : in64 k) (n : Int) : Calls Try.prog 23 #[.pointer (some ⟨b, 0, none⟩), .int .i64 k, .int .i64 n] w (CN P w b (cutS s k n) (.int .i64 (cutE s k n))) := by
  have HL := hide h
  obtain ⟨mo, pb, h⟩ := h
  have bad : ∀ er : Int, er ≠ 0 → cutE s k n = er → Calls Try.prog 45 #[.pointer (some ⟨b, 0, none⟩), .int .i64 k, .int .i64 n] w (fun e W => e = .returned (.tuple #[.pointer none, .int .i64 er]) ∧ Below w.heap.size w W) → Calls Try.prog 23 #[.pointer (some ⟨b, 0, none⟩), .int .i64 k, .int .i64 n] w (CN P w b (cutS s k n) (.int .i64 (cutE s k n))) := by
    intro er h0 he hc
    rw [cutS_no (by rw [he]; exact h0), he]
    have hne : (er != 0) = true := by simpa using h0
    have HC := hide hc
    clear he h0 hc h
    go_enter Try.func23, Try.ntmps23
    go_wp2_with fail
    refine (unhide HC).mono ?_
    rintro e W1 ⟨rfl, hb⟩
    have HB := hide hb
    clear hb
    go_wp2
    go_ret
    exact CN.same (unhide HL) _ (unhide HB)
  cases hf : fnd s.ls k with
  | none => exact bad 11 (by decide) (by unfold cutE; rw [hf]) (askC_none h hk hf n)
  | some c =>
    obtain ⟨er, he⟩ : ∃ er, cutE s k n = er := ⟨_, rfl⟩
    have hA := askC_some h hk hf n er he
    by_cases h0 : er = 0
    · clear bad
      subst h0
      obtain ⟨c', hc', hfit, hbad⟩ := cut_ok he
      rw [hf] at hc'
      cases hc'
      rw [show cutS s k n = updS s k (cutC n) by unfold cutS; rw [if_pos he], he]
      rw [if_pos rfl] at hA
      have hgd : Gd (updS s k (cutC n)) := by
        have := h.gd.cut k n
        unfold cutS at this
        rw [if_pos he] at this
        exact this
      unfold fitC at hfit
      rw [dat_ok hbad] at hfit
      have hfit := of_decide_eq_true hfit
      obtain ⟨z, rfl⟩ : ∃ z : Nat, n = (z : Nat) := ⟨n.toNat, by omega⟩
      have hm := fnd_mem hf
      obtain ⟨f, vc, vs, hp⟩ := h.pr c hm
      rw [fnd_num hf] at hp
      obtain ⟨a1, k1, hvc⟩ := hp.fb.rc.form
      have hln := (h.gd.ln c hm).1
      have HA := hide hA
      have PP : Hid (∀ W1, Below w.heap.size w W1 → W1.cell? ⟨pb k, 0, none⟩ = some (.pointer (some ⟨f, 0, none⟩)) ∧ W1.cell? ⟨f, 3, none⟩ = some (.slice a1 c.cl.length k1)) := fun W1 hb => ⟨cell_below (hp.bp.cell 0 _ rfl) hb, cell_below (by rw [← hvc]; exact hp.fb.bf.cell 3 _ rfl) hb⟩
      have HPl : Hid (∀ W1, Below w.heap.size w W1 → Calls Try.prog 43 #[.slice a1 z k1] W1 fun e W2 => ∃ a2 k2, e = .returned (.slice a2 z k2) ∧ Below W1.heap.size W1 W2 ∧ Calls Try.prog 44 #[.pointer (some ⟨pb k, 0, none⟩), .slice a2 z k2] W2 fun e W3 => e = .returned (.tuple #[]) ∧ NL (fun i => P i ∨ w.heap.size ≤ i) W3 b (updS s k (cutC (z : Nat))) ∧ Kp P w W3) := by
        intro W1 hb1
        have r1 := (hp.fb.rc.row).below hb1
        rw [hvc] at r1
        have ht := RB.take (k := z) (n := 0) r1 (by omega) (fun _ => trivial)
        have e1 : (c.cl.take z).length = z := by rw [List.length_take]; omega
        refine (plain_in _ _ W1 ht (by omega)).mono ?_
        rintro e W2 ⟨a2, k2, rfl, ho, hb2⟩
        rw [e1] at ho ⊢
        refine ⟨a2, k2, rfl, hb2, ?_⟩
        have hb := bnext hb1 hb2
        have hp2 := hp.below hb
        have hz1 := hb1.size
        refine (spoil_in hp2.bp a2 z k2).mono ?_
        rintro e W3 ⟨rfl, hY, kY⟩
        have hpl := hP _ hp.pp
        refine ⟨rfl, ⟨mo, pb, (h.kp (N := fun _ => False) (Kp.of_below hb) (fun _ e => e.elim)).spo hf (g := cutC (z : Nat)) (fun c => ⟨rfl, rfl, rfl, rfl, rfl, rfl⟩) hgd hp2 hY kY ?_ (fun i hi => .inl hi) (fun i hi => .inr ?_)⟩, (Kp.of_below hb).trans kY (fun i hi => .inl (by rw [hi]; exact hp.pp))⟩
        · show OwB W3 0 5 (.slice a2 z k2) (c.cl.take ((z : Nat) : Int).toNat)
          rw [Int.toNat_natCast]
          exact (ho.wk (Nat.zero_le _)).kp kY (fun i hi e => by have := ho.lt i hi; omega)
        · have := (ho.lt i hi).1
          omega
      have hz1 : (z : Int) ≤ ((c.cl.length : Nat) : Int) := by omega
      have hz2 : z ≤ k1 := by
        have r1 := hp.fb.rc
        rw [hvc] at r1
        rcases r1.2 with ⟨e, e2⟩ | ⟨g, cap, cur, e, _, _, hcap, _⟩
        · omega
        · simp at e; omega
      have hz3 : ((z : Nat) : Int) ≤ ((k1 : Nat) : Int) := by omega
      clear h hA hp hm hf hgd hfit hbad hvc hP HL he
      generalize pb k = q at *
      generalize c.cl.length = n1 at *
      go_enter Try.func23, Try.ntmps23
      go_wp2_with fail
      refine (unhide HA).mono ?_
      rintro e W1 ⟨rfl, hb⟩
      obtain ⟨y1, y2⟩ := unhide PP W1 hb
      have HP1 := hide (unhide HPl W1 hb)
      clear HA PP HPl hb
      go_wp2_with fail
      refine (unhide HP1).mono ?_
      rintro e W2 ⟨a2, k2, rfl, hb2, hs⟩
      have HS := hide hs
      have y3 := hide hb2
      clear hs hb2 HP1
      go_wp2_with fail
      refine (unhide HS).mono ?_
      rintro e W3 ⟨rfl, hq⟩
      have HQ := hide hq
      clear hq HS
      go_wp2
      go_ret
      exact ⟨rfl, unhide HQ⟩
    · rw [if_neg h0] at hA
      exact bad er h0 he hA

end Go.Proofs.Yteomalmflebkhaa
