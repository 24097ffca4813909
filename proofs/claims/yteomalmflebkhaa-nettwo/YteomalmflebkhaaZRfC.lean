/-
  The document's own Net: a copy more; Send, Double.
-/
import Derived.Test.YteomalmflebkhaaZRfB
import Derived.Test.YteomalmflebkhaaZRegX
set_option linter.unusedSimpArgs false
set_option linter.unusedVariables false
namespace Go.Proofs.Yteomalmflebkhaa
open Go.RowKit Go.Lib

variable {P N : Nat → Prop} {w W W' : World} {b p f : Nat} {c : Cp} {s : Stn} {v u : Value} {L : List (Cp × Value × Value)} {frm to sent : Int} {cl : List Int}
def CH (P : Nat → Prop) (w : World) (b : Nat) (s : Stn) (u : Value) (e : Ending) (W : World) : Prop := e = .returned u ∧ HL (fun i => P i ∨ w.heap.size ≤ i) W b s ∧ Kp P w W
theorem CH.same (h : HL P w b s) (u : Value) (hb : Below w.heap.size w W) : CH P w b s u (.returned u) W := ⟨rfl, (h.below hb).mono (fun i hi => .inl hi), Kp.of_below hb⟩
theorem RB.kpe {l : List Int} (h : RB W v l) (k : Kp N W W') (hn : l ≠ [] → ∀ i, v.ownBlock = some i → ¬ N i) : RB W' v l := by
  cases l with
  | nil => obtain ⟨a, c, rfl⟩ := h.form; exact RB.nil _ _ _
  | cons x l => exact h.kp k (hn (by simp))
theorem infoH : (Try.prog.info? 79).map (fun i => (i.zero, i.size, i.bytes)) = some (some (.agg #[.int .i64 0, .int .i64 0, .int .i64 0, .slice none 0 0, .int .i64 0, .bool false, .slice none 0 0]), 7, 88) := by kernel_rfl
/-- the row of the list is no row of bytes, and not the Net itself -/
theorem HM.ty (h : HM P W b v L s) : ∀ i, v.ownBlock = some i → ∃ cur, Bx W i 79 cur := by
  intro i hi
  rcases h.row.2 with ⟨rfl, _⟩ | ⟨g, cap, cur, rfl, _, hg, _⟩
  · cases hi
  · cases hi; exact ⟨cur, hg⟩
theorem HM.far (h : HM P W b v L s) {k : Nat} {cur : Array Value} (hk : Bx W k 5 cur) : ¬ (k = b ∨ v.ownBlock = some k) := by
  rintro (rfl | e)
  · exact hk.apart h.bx (by decide) rfl
  · obtain ⟨cur', hc⟩ := h.ty k e
    exact hk.apart hc (by decide) rfl
theorem HM.more (h : HM P w b v L s) (hf : s.la ≠ 2147483647) {X Y : World} {va vc : Value} (hl : cl.length ≤ 1000000) (k : Kp (fun i => i = b ∨ v.ownBlock = some i) w X) (bX : Bx X b 62 #[v, .int .i64 (s.la + 1)])
    (row : X.ownsRow 0 79 7 u (L.length + 1) (flat encH (L ++ [(⟨s.la + 1, frm, to, cl, sent, false, []⟩, va, vc)]))) (pu : ∀ i, u.ownBlock = some i → v.ownBlock = some i ∨ w.heap.size ≤ i)
    (ha : OwB X w.heap.size 5 va cl) (hc : OwB X w.heap.size 5 vc cl) (hY : X.setCell ⟨b, 0, none⟩ u = Y) : HL (fun i => P i ∨ w.heap.size ≤ i) Y b (layS s frm to cl sent) ∧ Kp P w Y := by
  have hb := h.bx.lt
  have kY : Kp (fun i => i = b) X Y := by rw [← hY]; exact Kp.set _ _ _ rfl
  have kk : Kp (fun i => i = b ∨ v.ownBlock = some i) w Y := k.trans kY (fun i hi => .inl (.inl hi))
  refine ⟨⟨u, L ++ [(⟨s.la + 1, frm, to, cl, sent, false, []⟩, va, vc)], .inl h.p0, ?_, ?_, fun i hi => ?_, fun x hx => ?_, fun x hx => ?_, ?_, ?_⟩, ⟨kk.os, kk.tape, kk.output, kk.size, fun i hi hn => kk.block i hi (fun e => hn ?_)⟩⟩
  · rw [show (layS s frm to cl sent).la = s.la + 1 by unfold layS; rw [if_neg hf], ← hY]
    simpa using bX.set 0 u
  · rw [List.length_append]
    refine owns_kp row kY (fun i hi e => ?_)
    subst e
    rcases row.2 with ⟨e1, _⟩ | ⟨g, cap, cur, e1, _, hg, _⟩
    · rw [e1] at hi; cases hi
    · rw [e1] at hi; cases hi
      exact Bx.apart (show Bx X _ 79 cur from hg) bX (by decide) rfl
  · rcases pu i hi with e | e
    · exact .inl (h.pv i e)
    · exact .inr e
  · rcases List.mem_append.1 hx with hx | hx
    · have q := h.dat x hx
      exact ⟨(q.1.kpw kk (fun i hi => by obtain ⟨cur, hc⟩ := q.2 i hi; exact h.far hc)).mono (fun i hi _ => .inl hi), fun i hi => by obtain ⟨cur, hc⟩ := q.2 i hi; exact ⟨cur, hc.kp kk (h.far hc)⟩⟩
    · obtain rfl : x = _ := by simpa using hx
      have q := ha.kp kY (fun i hi e => by have := (ha.lt i hi).1; omega)
      exact ⟨⟨by simpa [Cp.dat] using q.row, fun i hi => ⟨.inr (q.lt i hi).1, (q.lt i hi).2⟩⟩, q.ty⟩
  · rcases List.mem_append.1 hx with hx | hx
    · have q := h.cle x hx
      exact ⟨(q.1.kpw kk (fun i hi => by obtain ⟨cur, hc⟩ := q.2 i hi; exact h.far hc)).mono (fun i hi _ => .inl hi), fun i hi => by obtain ⟨cur, hc⟩ := q.2 i hi; exact ⟨cur, hc.kp kk (h.far hc)⟩⟩
    · obtain rfl : x = _ := by simpa using hx
      have q := hc.kp kY (fun i hi e => by have := (hc.lt i hi).1; omega)
      exact ⟨⟨q.row, fun i hi => ⟨.inr (q.lt i hi).1, (q.lt i hi).2⟩⟩, q.ty⟩
  · rw [show (layS s frm to cl sent).ls = s.ls ++ [⟨s.la + 1, frm, to, cl, sent, false, []⟩] by unfold layS; rw [if_neg hf], List.map_append, h.fst]; rfl
  · exact h.gd.lay _ _ hl _
  · rcases e with rfl | e
    · exact h.p0
    · exact h.pv i e
/-- within the region -/
structure JH (Z : World) (b : Nat) (v : Value) (la : Int) (f : Nat → Bool) (X : World) : Prop where
  kp : Kp (fun i => v.ownBlock = some i) Z X
  bx : Bx X b 62 #[v, .int .i64 la]
  bel : f 19 = false → Below Z.heap.size Z X
def ro1 (Z : World) (n : Nat) (cl : List Int) : World → Value → Prop := fun X u => ∃ a k, u = .slice a n k ∧ OwB X Z.heap.size 5 u cl
def ro2 (Z : World) (la frm to sent : Int) (n : Nat) (cl : List Int) : World → Value → Prop := fun X u => ∃ a k, u = .agg #[Value.int .i64 la, .int .i64 frm, .int .i64 to, .slice a n k, .int .i64 sent, .bool false] ∧ OwB X Z.heap.size 5 (.slice a n k) cl
def ro3 (Z : World) (la frm to sent : Int) (n : Nat) (cl : List Int) : World → Value → Prop := fun X u => ∃ a k a' k', u = .agg #[Value.int .i64 la, .int .i64 frm, .int .i64 to, .slice a n k, .int .i64 sent, .bool false, .slice a' n k'] ∧ OwB X Z.heap.size 5 (.slice a n k) cl ∧ OwB X Z.heap.size 5 (.slice a' n k') cl
def ro4 (Z : World) (la frm to sent : Int) (n : Nat) (cl : List Int) : World → Value → Prop := fun X u => ∃ g a k a' k', u = .slice (some ⟨g, 0, none⟩) 1 1 ∧ Z.heap.size ≤ g ∧ Bx X g 79 #[Value.int .i64 la, .int .i64 frm, .int .i64 to, .slice a n k, .int .i64 sent, .bool false, .slice a' n k'] ∧ OwB X Z.heap.size 5 (.slice a n k) cl ∧ OwB X Z.heap.size 5 (.slice a' n k') cl
def ro5 (Z : World) (v : Value) (L : List (Cp × Value × Value)) (la frm to sent : Int) (n : Nat) (cl : List Int) : World → Value → Prop := fun X u => ∃ a k a' k' a1 k1, u = .slice a1 (L.length + 1) k1 ∧ X.ownsRow 0 79 7 u (L.length + 1) (flat encH (L ++ [(⟨la, frm, to, cl, sent, false, []⟩, .slice a n k, .slice a' n k')])) ∧ (∀ i, u.ownBlock = some i → v.ownBlock = some i ∨ Z.heap.size ≤ i) ∧ OwB X Z.heap.size 5 (.slice a n k) cl ∧ OwB X Z.heap.size 5 (.slice a' n k') cl

set_option maxRecDepth 100000 in
set_option maxHeartbeats 8000000 in
theorem rmore_in (h : HM P w b v L s) (ad : Option Addr) (kd : Nat) (hd : RB w (.slice ad cl.length kd) cl) (hfr : cl ≠ [] → ∀ i, (Value.slice ad cl.length kd).ownBlock = some i → ¬ (i = b ∨ v.ownBlock = some i)) (hl : cl.length ≤ 1000000) : Calls Try.prog 47 #[.pointer (some ⟨b, 0, none⟩), .int .i64 frm, .int .i64 to, .slice ad cl.length kd, .int .i64 sent] w (CH P w b (layS s frm to cl sent) (two (layN s) (layE s))) := by
  have HLs := hide (show HL P w b s from ⟨_, _, h⟩)
  have c1 := h.c1
  by_cases hf : s.la = 2147483647
  · rw [show layS s frm to cl sent = s by unfold layS; rw [if_pos hf], show layN s = 0 by unfold layN; rw [if_pos hf], show layE s = 17 by unfold layE; rw [if_pos hf]]
    rw [hf] at c1
    unfold two
    clear h hf hd
    go_enter Try.func47, Try.ntmps47
    go_wp2
    refine bodyPost_ret (results_tmp2 rfl _ _ _) rfl ?_
    exact CH.same (unhide HLs) _ (Below.refl _ _)
  · rw [show layN s = s.la + 1 by unfold layN; rw [if_neg hf], show layE s = 0 by unfold layE; rw [if_neg hf]]
    unfold two
    have g0 := h.gd.l0
    have g1 := h.gd.l1
    have hlen := h.len
    have hle := h.gd.len'
    have hf' : ¬ (2147483647 : Int) ≤ s.la := by omega
    have hw1 : s.la + 1 ≤ 9223372036854775807 := by omega
    have hw2 : -9223372036854775808 ≤ s.la + 1 := by omega
    have fz := h.bx.frozen 1
    obtain ⟨X0, hX0⟩ : ∃ X0, w.setCell ⟨b, 1, none⟩ (.int .i64 (s.la + 1)) = X0 := ⟨_, rfl⟩
    have k0 : Kp (fun i => i = b) w X0 := by rw [← hX0]; exact Kp.set _ _ _ rfl
    have hz0 : X0.heap.size = w.heap.size := by rw [← hX0]; simp
    have bx0 : Bx X0 b 62 #[v, .int .i64 (s.la + 1)] := by rw [← hX0]; simpa using h.bx.set 1 (.int .i64 (s.la + 1))
    have hbl := h.bx.lt
    obtain ⟨Z, hZ⟩ : ∃ Z, X0.drew = Z := ⟨_, rfl⟩
    have kZ : Kp (fun i => i = b) w Z := by rw [← hZ]; exact k0.drew
    have hzZ : Z.heap.size = w.heap.size := by rw [← hZ]; exact hz0
    have bxZ : Bx Z b 62 #[v, .int .i64 (s.la + 1)] := by rw [← hZ]; exact bx0
    have HV : Hid (∀ i, v.ownBlock = some i → i < Z.heap.size) := fun i hi => by rw [hzZ]; exact (World.ownsRow.lt h.row i hi).2
    have HVb : Hid (¬ v.ownBlock = some b) := fun e => by
      obtain ⟨cur, hc⟩ := h.ty b e
      exact hc.apart h.bx (by decide) rfl
    have rowZ : Z.ownsRow 0 79 7 v L.length (flat encH L) := owns_kp h.row kZ (fun i hi e => by subst e; exact unhide HVb hi)
    have kZX : ∀ {X : World}, Kp (fun i => v.ownBlock = some i) Z X → Kp (fun i => i = b ∨ v.ownBlock = some i) w X := fun kx => (Kp.trans (N := fun i => i = b ∨ v.ownBlock = some i) ⟨kZ.os, kZ.tape, kZ.output, kZ.size, fun i hi hn => kZ.block i hi (fun e => hn (.inl e))⟩ kx (fun i hi => .inl (.inr hi)))
    have HT : Hid (∀ X, Kp (fun i => v.ownBlock = some i) Z X → Calls Try.prog 50 #[.slice ad cl.length kd] X (NewB X 5 cl)) := fun X kx => rtwin_in _ cl X (hd.kpe (kZX kx) hfr) hl
    obtain ⟨la, hla⟩ : ∃ la, s.la + 1 = la := ⟨_, rfl⟩
    have HA : Hid (∀ X, Below Z.heap.size Z X → ∀ g, Z.heap.size ≤ g → ∀ a k a' k', Bx X g 79 #[Value.int .i64 la, .int .i64 frm, .int .i64 to, .slice a cl.length k, .int .i64 sent, .bool false, .slice a' cl.length k'] → ∃ a1 k1 Y, (Builtin.append_ #[60, 60] 60 #[v, .slice (some ⟨g, 0, none⟩) 1 1]).run Try.prog X = .ok (.slice a1 (L.length + 1) k1) Y ∧ Y.ownsRow 0 79 7 (.slice a1 (L.length + 1) k1) (L.length + 1) (flat encH (L ++ [(⟨la, frm, to, cl, sent, false, []⟩, .slice a cl.length k, .slice a' cl.length k')])) ∧ (∀ i, (Value.slice a1 (L.length + 1) k1).ownBlock = some i → v.ownBlock = some i ∨ Z.heap.size ≤ i) ∧ Kp (fun i => v.ownBlock = some i) X Y) := by
      intro X hX g hg a k a' k' hbx
      obtain ⟨i0, hi, hz0, hz1, hz2⟩ := info_parts infoH
      obtain ⟨v', Y, h1, h2, h3, h4, h5⟩ := run_append_own_at (P := Try.prog) X 0 60 60 79 i0 _ 7 88 Try.underlying60 hi hz0 hz1 hz2 rfl (by decide) v L.length _ (owns_kp rowZ (Kp.of_below (N := fun _ => False) hX) (fun _ _ e => e)) ⟨g, 0, none⟩ 1 1 (encH (⟨la, frm, to, cl, sent, false, []⟩, .slice a cl.length k, .slice a' cl.length k')) rfl (fun j u hu => by
        rw [Addr.add_lit, Nat.zero_add]
        exact hbx.cell j u (by simpa [encH] using hu)) (fun u hu => by
        unfold encH at hu
        simp only [List.mem_cons, List.not_mem_nil, or_false] at hu
        rcases hu with rfl | rfl | rfl | rfl | rfl | rfl | rfl <;> rfl) (by unfold maxLen; omega) (by omega) (by omega)
      obtain ⟨a1, k1, e⟩ := owns_form h2
      subst e
      refine ⟨a1, k1, Y, h1, by rw [flat_append]; exact h2, fun i hi => ?_, Kp.of_grown h3 (fun i e => e)⟩
      have hzX := hX.size
      rcases h5 with e | e
      · exact .inl (by rw [← e]; exact hi)
      · rw [e] at hi; cases hi; exact .inr hzX
    have FIN : Hid (∀ X Y u a k a' k', Kp (fun i => v.ownBlock = some i) Z X → Bx X b 62 #[v, .int .i64 la] → X.ownsRow 0 79 7 u (L.length + 1) (flat encH (L ++ [(⟨la, frm, to, cl, sent, false, []⟩, .slice a cl.length k, .slice a' cl.length k')])) → (∀ i, u.ownBlock = some i → v.ownBlock = some i ∨ Z.heap.size ≤ i) → OwB X Z.heap.size 5 (.slice a cl.length k) cl → OwB X Z.heap.size 5 (.slice a' cl.length k') cl → X.setCell ⟨b, 0, none⟩ u = Y → HL (fun i => P i ∨ w.heap.size ≤ i) Y b (layS s frm to cl sent) ∧ Kp P w Y) := by
      intro X Y u a k a' k' h1 h2 h3 h4 h5 h6 h7
      rw [hzZ] at h4 h5 h6
      rw [← hla] at h2 h3
      exact h.more hf hl (kZX h1) h2 h3 h4 h5 h6 h7
    have hvf : ∃ av kv, v = .slice av L.length kv := h.form
    have J0 : Hid (JH Z b v la (fun _ => false) Z) := ⟨Kp.refl _ _, by rw [← hla]; exact bxZ, fun _ => Below.refl _ _⟩
    have Hkow : Hid (∀ (X X' : World) (u : Value), OwB X Z.heap.size 5 u cl → Kp (fun i => v.ownBlock = some i) X X' → OwB X' Z.heap.size 5 u cl) := fun X X' u ho hk => ho.kp hk (fun i hi e => by have := (ho.lt i hi).1; have := unhide HV i e; omega)
    obtain ⟨av, kv, rfl⟩ := hvf
    have hnv : (Value.slice av L.length kv) = .slice av L.length kv := rfl
    clear h hd hfr hl HLs k0 hz0 bx0 kZ hzZ bxZ rowZ kZX hlen hle g0 g1 hbl hf hnv
    rw [hla] at hX0 hw1 hw2 ⊢
    go_enter Try.func47, Try.ntmps47
    go_wp2_with fail
    refine wp_region_any (by kernel_rfl) ?_
    change wpAny _ _ _ _ _ _ _ (World.drew _)
    rw [hZ]
    refine region_sx 50 (fun j => 24 + j) ((0, (Value.pointer (some { block := b, off := 0 }))) :: (1, (Value.int .i64 frm)) :: (2, (Value.int .i64 to)) :: (3, (Value.slice ad cl.length kd)) :: (4, (Value.int .i64 sent)) :: []) (fun fl X => JH Z b (.slice av L.length kv) la fl X) (fun j X u => valsOf [isV (Value.pointer (some { block := b, off := 0 })), isV (Value.pointer (some { block := b, off := 0 })), isV (Value.pointer (some { block := b, off := 0 })), isV (Value.pointer (some { block := b, off := 0 })), isV (.slice av L.length kv), isV (Value.pointer (some { block := b, off := 0 })), isV (Value.pointer (some { block := b, off := 0 })), isV (Value.pointer (some { block := b, off := 1 })), isV (Value.int .i64 la), isV (Value.int .i64 frm), isV (Value.int .i64 to), isV (Value.slice ad cl.length kd), ro1 Z cl.length cl, isV (Value.int .i64 sent), ro2 Z la frm to sent cl.length cl, isV (Value.slice ad cl.length kd), ro1 Z cl.length cl, ro3 Z la frm to sent cl.length cl, ro4 Z la frm to sent cl.length cl, (fun _ _ => True), isV (Value.pointer (some { block := b, off := 0 })), isV (Value.pointer (some { block := b, off := 0 }))] j X u ∧ (j = 19 → ro5 Z (.slice av L.length kv) L la frm to sent cl.length cl X u))
      (fun i X X' => match i with | 12 | 16 | 18 => Below X.heap.size X X' | 19 => Kp (fun i => (Value.slice av L.length kv).ownBlock = some i) X X' | _ => X = X')
      (fun _ _ => False) [] ?pos ?fit ?last ?stable ?pan ?steps 60 (.tmp 45) (.tmp 43) ?st ?fin _ _ ?sz rfl ?base ?start
    case pos => decide
    case fit => kernel_rfl
    case last => kernel_rfl
    case st => rfl
    case sz => rfl
    case base => intro q hq; repeat (first | (rcases List.mem_cons.1 hq with rfl | hq; · rfl) | cases hq)
    case pan => intro a X ch _ _ e; exact e.elim
    case start => exact unhide J0
    case stable =>
      intro j i fl X X' u hj hi hcl hJ hv hG
      have c18 : fl 19 = true → fl 18 = true := fun e => hcl 19 18 e (by kernel_rfl)
      have c17 : fl 18 = true → fl 17 = true := fun e => hcl 18 17 e (by kernel_rfl)
      have c16 : fl 17 = true → fl 16 = true := fun e => hcl 17 16 e (by kernel_rfl)
      have c14 : fl 17 = true → fl 14 = true := fun e => hcl 17 14 e (by kernel_rfl)
      have c12 : fl 14 = true → fl 12 = true := fun e => hcl 14 12 e (by kernel_rfl)
      have key : Kp (fun i => (Value.slice av L.length kv).ownBlock = some i) X X' ∧ (j = 19 → X = X') := by
        by_cases i12 : i = 12
        · subst i12; exact ⟨Kp.of_below hG, fun e => by subst e; rw [c12 (c14 (c17 (c18 hj)))] at hi; cases hi⟩
        by_cases i16 : i = 16
        · subst i16; exact ⟨Kp.of_below hG, fun e => by subst e; rw [c16 (c17 (c18 hj))] at hi; cases hi⟩
        by_cases i18 : i = 18
        · subst i18; exact ⟨Kp.of_below hG, fun e => by subst e; rw [c18 hj] at hi; cases hi⟩
        by_cases i19 : i = 19
        · subst i19; exact ⟨hG, fun e => by subst e; rw [hj] at hi; cases hi⟩
        have e : X = X' := by
          split at hG
          · exact absurd rfl i12
          · exact absurd rfl i16
          · exact absurd rfl i18
          · exact absurd rfl i19
          · exact hG
        subst e
        exact ⟨Kp.refl _ _, fun _ => rfl⟩
      refine ⟨valsOf_stable (J := fun _ => True) (G := fun X X' => Kp (fun i => (Value.slice av L.length kv).ownBlock = some i) X X') (Stables.all ?_) j X X' u trivial hv.1 key.1, fun e => by rw [← key.2 e]; exact hv.2 e⟩
      repeat (first | refine Stables.same ?_ | refine Stables.other (fun X X' v hJ hv hG => by obtain ⟨a, k, e, ho⟩ := hv; exact ⟨a, k, e, unhide Hkow _ _ _ ho hG⟩) ?_ | refine Stables.other (fun X X' v hJ hv hG => by obtain ⟨a, k, a', k', e, ho, ho'⟩ := hv; exact ⟨a, k, a', k', e, unhide Hkow _ _ _ ho hG, unhide Hkow _ _ _ ho' hG⟩) ?_ | refine Stables.other (fun X X' v hJ hv hG => by obtain ⟨g, a, k, a', k', e, hg, hx, ho, ho'⟩ := hv; exact ⟨g, a, k, a', k', e, hg, hx.kp hG (fun e => by have := unhide HV _ e; omega), unhide Hkow _ _ _ ho hG, unhide Hkow _ _ _ ho' hG⟩) ?_ | refine Stables.other (fun X X' v hJ hv hG => trivial) ?_)
      exact Stables.nil
    case steps =>
      refine .cons (fun hlt fl ρ wz hf hye hρ hJ hb hd => by
        have d0 : ρ (.tmp 0) = (Value.pointer (some { block := b, off := 0 })) := hb (0, _) (List.mem_of_getElem? (i := 0) rfl)
        exact (step_move (.tmp 0) rfl ⟨rfl, ⟨hJ.kp, hJ.bx, fun h => hJ.bel (by simpa using h)⟩, d0, fun e => absurd e (by decide)⟩).up) ?_
      refine .cons (fun hlt fl ρ wz hf hye hρ hJ hb hd => by
        have d0 : ρ (.tmp 0) = (Value.pointer (some { block := b, off := 0 })) := hb (0, _) (List.mem_of_getElem? (i := 0) rfl)
        exact (step_move (.tmp 0) rfl ⟨rfl, ⟨hJ.kp, hJ.bx, fun h => hJ.bel (by simpa using h)⟩, d0, fun e => absurd e (by decide)⟩).up) ?_
      refine .cons (fun hlt fl ρ wz hf hye hρ hJ hb hd => by
        have d0 : ρ (.tmp 25) = (Value.pointer (some { block := b, off := 0 })) := (hd 0 _ rfl rfl).1
        exact (step_val (v := (Value.pointer (some { block := b, off := 0 }))) (w' := wz) (by simp [go_sem, execOp, d0]) ⟨rfl, ⟨hJ.kp, hJ.bx, fun h => hJ.bel (by simpa using h)⟩, rfl, fun e => absurd e (by decide)⟩).up) ?_
      refine .cons (fun hlt fl ρ wz hf hye hρ hJ hb hd => by
        have d0 : ρ (.tmp 26) = (Value.pointer (some { block := b, off := 0 })) := (hd 0 _ rfl rfl).1
        exact (step_val (v := (Value.pointer (some { block := b, off := 0 }))) (w' := wz) (by simp [go_sem, execOp, d0]) ⟨rfl, ⟨hJ.kp, hJ.bx, fun h => hJ.bel (by simpa using h)⟩, rfl, fun e => absurd e (by decide)⟩).up) ?_
      refine .cons (fun hlt fl ρ wz hf hye hρ hJ hb hd => by
        have d0 : ρ (.tmp 27) = (Value.pointer (some { block := b, off := 0 })) := (hd 0 _ rfl rfl).1
        have x0 := hJ.bx.cell 0 _ rfl
        exact (step_val (v := (.slice av L.length kv)) (w' := wz) (by simp [go_sem, execOp, d0, x0]) ⟨rfl, ⟨hJ.kp, hJ.bx, fun h => hJ.bel (by simpa using h)⟩, rfl, fun e => absurd e (by decide)⟩).up) ?_
      refine .cons (fun hlt fl ρ wz hf hye hρ hJ hb hd => by
        have d0 : ρ (.tmp 0) = (Value.pointer (some { block := b, off := 0 })) := hb (0, _) (List.mem_of_getElem? (i := 0) rfl)
        exact (step_move (.tmp 0) rfl ⟨rfl, ⟨hJ.kp, hJ.bx, fun h => hJ.bel (by simpa using h)⟩, d0, fun e => absurd e (by decide)⟩).up) ?_
      refine .cons (fun hlt fl ρ wz hf hye hρ hJ hb hd => by
        have d0 : ρ (.tmp 29) = (Value.pointer (some { block := b, off := 0 })) := (hd 0 _ rfl rfl).1
        exact (step_val (v := (Value.pointer (some { block := b, off := 0 }))) (w' := wz) (by simp [go_sem, execOp, d0]) ⟨rfl, ⟨hJ.kp, hJ.bx, fun h => hJ.bel (by simpa using h)⟩, rfl, fun e => absurd e (by decide)⟩).up) ?_
      refine .cons (fun hlt fl ρ wz hf hye hρ hJ hb hd => by
        have d0 : ρ (.tmp 30) = (Value.pointer (some { block := b, off := 0 })) := (hd 0 _ rfl rfl).1
        exact (step_val (v := (Value.pointer (some { block := b, off := 1 }))) (w' := wz) (by simp [go_sem, execOp, d0]) ⟨rfl, ⟨hJ.kp, hJ.bx, fun h => hJ.bel (by simpa using h)⟩, rfl, fun e => absurd e (by decide)⟩).up) ?_
      refine .cons (fun hlt fl ρ wz hf hye hρ hJ hb hd => by
        have d0 : ρ (.tmp 31) = (Value.pointer (some { block := b, off := 1 })) := (hd 0 _ rfl rfl).1
        have x0 := hJ.bx.cell 1 _ rfl
        exact (step_val (v := (Value.int .i64 la)) (w' := wz) (by simp [go_sem, execOp, d0, x0]) ⟨rfl, ⟨hJ.kp, hJ.bx, fun h => hJ.bel (by simpa using h)⟩, rfl, fun e => absurd e (by decide)⟩).up) ?_
      refine .cons (fun hlt fl ρ wz hf hye hρ hJ hb hd => by
        have d0 : ρ (.tmp 1) = (Value.int .i64 frm) := hb (1, _) (List.mem_of_getElem? (i := 1) rfl)
        exact (step_move (.tmp 1) rfl ⟨rfl, ⟨hJ.kp, hJ.bx, fun h => hJ.bel (by simpa using h)⟩, d0, fun e => absurd e (by decide)⟩).up) ?_
      refine .cons (fun hlt fl ρ wz hf hye hρ hJ hb hd => by
        have d0 : ρ (.tmp 2) = (Value.int .i64 to) := hb (2, _) (List.mem_of_getElem? (i := 2) rfl)
        exact (step_move (.tmp 2) rfl ⟨rfl, ⟨hJ.kp, hJ.bx, fun h => hJ.bel (by simpa using h)⟩, d0, fun e => absurd e (by decide)⟩).up) ?_
      refine .cons (fun hlt fl ρ wz hf hye hρ hJ hb hd => by
        have d0 : ρ (.tmp 3) = (Value.slice ad cl.length kd) := hb (3, _) (List.mem_of_getElem? (i := 3) rfl)
        exact (step_move (.tmp 3) rfl ⟨rfl, ⟨hJ.kp, hJ.bx, fun h => hJ.bel (by simpa using h)⟩, d0, fun e => absurd e (by decide)⟩).up) ?_
      refine .cons (fun hlt fl ρ wz hf hye hρ hJ hb hd => by
        have d0 : ρ (.tmp 35) = (Value.slice ad cl.length kd) := (hd 0 _ rfl rfl).1
        refine step_func_up 50 _ _ #[(Value.slice ad cl.length kd)] hρ rfl (enters_of Try.func50 (by kernel_rfl) rfl) (by simp [d0]) ?_
        refine (unhide HT wz hJ.kp).mono ?_
        rintro e W' ⟨a, k, rfl, ho, hbw⟩
        refine .inl ⟨_, rfl, hbw, ⟨hJ.kp.trans (Kp.of_below (N := fun _ => False) hbw) (fun _ e => e.elim), hJ.bx.below hbw, fun h => bnext (hJ.bel (by simpa using h)) hbw⟩, ⟨a, k, rfl, ho.wk hJ.kp.size⟩, fun e => absurd e (by decide)⟩) ?_
      refine .cons (fun hlt fl ρ wz hf hye hρ hJ hb hd => by
        have d0 : ρ (.tmp 4) = (Value.int .i64 sent) := hb (4, _) (List.mem_of_getElem? (i := 4) rfl)
        exact (step_move (.tmp 4) rfl ⟨rfl, ⟨hJ.kp, hJ.bx, fun h => hJ.bel (by simpa using h)⟩, d0, fun e => absurd e (by decide)⟩).up) ?_
      refine .cons (fun hlt fl ρ wz hf hye hρ hJ hb hd => by
        have d0 : ρ (.tmp 32) = (Value.int .i64 la) := (hd 0 _ rfl rfl).1
        have d1 : ρ (.tmp 33) = (Value.int .i64 frm) := (hd 1 _ rfl rfl).1
        have d2 : ρ (.tmp 34) = (Value.int .i64 to) := (hd 2 _ rfl rfl).1
        obtain ⟨a, k, d3, ho⟩ : ro1 Z cl.length cl wz (ρ (.tmp 36)) := (hd 3 _ rfl rfl).1
        have d4 : ρ (.tmp 37) = (Value.int .i64 sent) := (hd 4 _ rfl rfl).1
        rw [d3] at ho
        exact (step_val (v := .agg #[Value.int .i64 la, .int .i64 frm, .int .i64 to, .slice a cl.length k, .int .i64 sent, .bool false]) (w' := wz) (by simp [go_sem, execOp, d0, d1, d2, d3, d4]) ⟨rfl, ⟨hJ.kp, hJ.bx, fun h => hJ.bel (by simpa using h)⟩, ⟨a, k, rfl, ho⟩, fun e => absurd e (by decide)⟩).up) ?_
      refine .cons (fun hlt fl ρ wz hf hye hρ hJ hb hd => by
        have d0 : ρ (.tmp 3) = (Value.slice ad cl.length kd) := hb (3, _) (List.mem_of_getElem? (i := 3) rfl)
        exact (step_move (.tmp 3) rfl ⟨rfl, ⟨hJ.kp, hJ.bx, fun h => hJ.bel (by simpa using h)⟩, d0, fun e => absurd e (by decide)⟩).up) ?_
      refine .cons (fun hlt fl ρ wz hf hye hρ hJ hb hd => by
        have d0 : ρ (.tmp 39) = (Value.slice ad cl.length kd) := (hd 0 _ rfl rfl).1
        refine step_func_up 50 _ _ #[(Value.slice ad cl.length kd)] hρ rfl (enters_of Try.func50 (by kernel_rfl) rfl) (by simp [d0]) ?_
        refine (unhide HT wz hJ.kp).mono ?_
        rintro e W' ⟨a, k, rfl, ho, hbw⟩
        refine .inl ⟨_, rfl, hbw, ⟨hJ.kp.trans (Kp.of_below (N := fun _ => False) hbw) (fun _ e => e.elim), hJ.bx.below hbw, fun h => bnext (hJ.bel (by simpa using h)) hbw⟩, ⟨a, k, rfl, ho.wk hJ.kp.size⟩, fun e => absurd e (by decide)⟩) ?_
      refine .cons (fun hlt fl ρ wz hf hye hρ hJ hb hd => by
        obtain ⟨a, k, d0, ho⟩ : ro2 Z la frm to sent cl.length cl wz (ρ (.tmp 38)) := (hd 0 _ rfl rfl).1
        obtain ⟨a', k', d1, ho'⟩ : ro1 Z cl.length cl wz (ρ (.tmp 40)) := (hd 1 _ rfl rfl).1
        rw [d1] at ho'
        exact (step_val (v := .agg #[Value.int .i64 la, .int .i64 frm, .int .i64 to, .slice a cl.length k, .int .i64 sent, .bool false, .slice a' cl.length k']) (w' := wz) (by simp [go_sem, execOp, d0, d1]) ⟨rfl, ⟨hJ.kp, hJ.bx, fun h => hJ.bel (by simpa using h)⟩, ⟨a, k, a', k', rfl, ho, ho'⟩, fun e => absurd e (by decide)⟩).up) ?_
      refine .cons (fun hlt fl ρ wz hf hye hρ hJ hb hd => by
        obtain ⟨a, k, a', k', d0, ho, ho'⟩ : ro3 Z la frm to sent cl.length cl wz (ρ (.tmp 41)) := (hd 0 _ rfl rfl).1
        have bn := ballc (Below.refl wz.heap.size wz) (.cells #[Value.int .i64 la, .int .i64 frm, .int .i64 to, .slice a cl.length k, .int .i64 sent, .bool false, .slice a' cl.length k'] 79)
        exact (step_val (v := .slice (some ⟨wz.heap.size, 0, none⟩) 1 1) (w' := wz.alloc (.cells #[Value.int .i64 la, .int .i64 frm, .int .i64 to, .slice a cl.length k, .int .i64 sent, .bool false, .slice a' cl.length k'] 79)) (by simp [go_sem, execOp, d0]) ⟨bn, ⟨hJ.kp.trans (Kp.of_below (N := fun _ => False) bn) (fun _ e => e.elim), hJ.bx.below bn, fun h => bnext (hJ.bel (by simpa using h)) bn⟩, ⟨wz.heap.size, a, k, a', k', rfl, hJ.kp.size, Bx.new _ _ _, ho.below bn, ho'.below bn⟩, fun e => absurd e (by decide)⟩).up) ?_
      refine .cons (fun hlt fl ρ wz hf hye hρ hJ hb hd => by
        have d0 : ρ (.tmp 28) = .slice av L.length kv := (hd 0 _ rfl rfl).1
        obtain ⟨g, a, k, a', k', d1, hg, hbx, ho, ho'⟩ : ro4 Z la frm to sent cl.length cl wz (ρ (.tmp 42)) := (hd 1 _ rfl rfl).1
        have f19 := hf 19 (.inl rfl)
        obtain ⟨a1, k1, Y, hr, hrow, hown, hk⟩ := unhide HA wz (hJ.bel f19) g hg a k a' k' hbx
        have oY := ho.kp hk (fun i hi e => by have := (ho.lt i hi).1; have := unhide HV i e; omega)
        have oY' := ho'.kp hk (fun i hi e => by have := (ho'.lt i hi).1; have := unhide HV i e; omega)
        refine (step_val (v := .slice a1 (L.length + 1) k1) (w' := Y) ?_ ⟨hk, ⟨hJ.kp.trans hk (fun i hi => .inl hi), hJ.bx.kp hk (unhide HVb), fun h => by simp at h⟩, trivial, fun _ => ⟨a, k, a', k', a1, k1, rfl, hrow, hown, oY, oY'⟩⟩).up
        unfold execOp
        simp only [resolve, invoke, builtin, Sem.run_bind, Sem.run_pure, Result.andThen_ok, List.map_toArray, List.map_cons, List.map_nil, d0, d1, hr]) ?_
      refine .cons (fun hlt fl ρ wz hf hye hρ hJ hb hd => by
        have d0 : ρ (.tmp 24) = (Value.pointer (some { block := b, off := 0 })) := (hd 0 _ rfl rfl).1
        exact (step_val (v := (Value.pointer (some { block := b, off := 0 }))) (w' := wz) (by simp [go_sem, execOp, d0]) ⟨rfl, ⟨hJ.kp, hJ.bx, fun h => hJ.bel (by simpa using h)⟩, rfl, fun e => absurd e (by decide)⟩).up) ?_
      refine .cons (fun hlt fl ρ wz hf hye hρ hJ hb hd => by
        have d0 : ρ (.tmp 44) = (Value.pointer (some { block := b, off := 0 })) := (hd 0 _ rfl rfl).1
        exact (step_val (v := (Value.pointer (some { block := b, off := 0 }))) (w' := wz) (by simp [go_sem, execOp, d0]) ⟨rfl, ⟨hJ.kp, hJ.bx, fun h => hJ.bel (by simpa using h)⟩, rfl, fun e => absurd e (by decide)⟩).up) ?_
      refine .cons (fun hlt => absurd hlt (by decide)) ?_
      exact .nil _
    case fin =>
      intro a X1 hsz2 hds hb hJ hv
      obtain ⟨fl, _, _, hJ⟩ := hJ
      have e0 : a.eval (.tmp 0) = (Value.pointer (some { block := b, off := 0 })) := hb (0, _) (List.mem_of_getElem? (i := 0) rfl)
      have e45 : a.eval (.tmp 45) = (Value.pointer (some { block := b, off := 0 })) := (hv 21 (by decide)).1
      obtain ⟨a2, k2, a3, k3, a1, k1, e43, hrow, hown, ho, ho'⟩ : ro5 Z (.slice av L.length kv) L la frm to sent cl.length cl X1 (a.eval (.tmp 43)) := (hv 19 (by decide)).2 rfl
      clear hv hb J0 HA HT
      obtain ⟨u, rfl⟩ : ∃ u : Nat → Value, a = ⟨#[u 0, u 1, u 2, u 3, u 4, u 5, u 6, u 7, u 8, u 9, u 10, u 11, u 12, u 13, u 14, u 15, u 16, u 17, u 18, u 19, u 20, u 21, u 22, u 23, u 24, u 25, u 26, u 27, u 28, u 29, u 30, u 31, u 32, u 33, u 34, u 35, u 36, u 37, u 38, u 39, u 40, u 41, u 42, u 43, u 44, u 45, u 46, u 47, u 48, u 49], []⟩ := ⟨fun k => a.eval (.tmp k), frame_fn 50 hsz2 hds⟩
      change u 0 = _ at e0
      change u 45 = _ at e45
      change u 43 = _ at e43
      have hrow' : X1.ownsRow 0 79 7 (u 43) (L.length + 1) (flat encH (L ++ [(⟨la, frm, to, cl, sent, false, []⟩, .slice a2 cl.length k2, .slice a3 cl.length k3)])) := hrow
      have hown' : ∀ i, (u 43).ownBlock = some i → (Value.slice av L.length kv).ownBlock = some i ∨ Z.heap.size ≤ i := hown
      obtain ⟨Y, hY⟩ : ∃ Y, X1.setCell ⟨b, 0, none⟩ (u 43) = Y := ⟨_, rfl⟩
      have HF := hide (unhide FIN X1 Y (u 43) a2 k2 a3 k3 hJ.kp hJ.bx hrow' hown' ho ho' hY)
      have x0 := hJ.bx.cell 0 _ rfl
      have f0 := hJ.bx.frozen 0
      have bY : Bx Y b 62 #[u 43, .int .i64 la] := by rw [← hY]; simpa using hJ.bx.set 0 (u 43)
      have y1 := bY.cell 1 _ rfl
      rw [e43] at hY
      clear hJ hrow hown hrow' hown' ho ho' bY FIN
      refine ⟨Y, ?_, ?_⟩
      · show (Instr.storeAt 60 (u 45) (u 43)).run Try.prog X1 = _
        rw [e45, e43, ← hY]
        simp [go_sem, x0, f0]
      · rw [e0]
        clear e0 e45 e43 hsz2 hds hY x0 f0
        go_wp2
        refine bodyPost_ret (results_tmp2 rfl _ _ _) rfl ?_
        exact ⟨rfl, (unhide HF).1, (unhide HF).2⟩

end Go.Proofs.Yteomalmflebkhaa
