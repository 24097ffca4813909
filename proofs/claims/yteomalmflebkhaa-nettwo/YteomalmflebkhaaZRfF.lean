/-
  The document's own Net: Deliver, Drop.
-/
import Derived.Test.YteomalmflebkhaaZRfE
import Derived.Test.YteomalmflebkhaaZNJ
set_option linter.unusedSimpArgs false
set_option linter.unusedVariables false
namespace Go.Proofs.Yteomalmflebkhaa
open Go.RowKit Go.Lib

variable {P N : Nat → Prop} {w W W' X : World} {b p f q : Nat} {c : Cp} {s : Stn} {v u : Value} {e : Ending} {L : List (Cp × Value × Value)} {frm to sent : Int} {cl : List Int}
theorem HM.off {g n k0 i : Nat} {x : Cp × Value × Value} (h : HM P W b (.slice (some ⟨g, 0, none⟩) n k0) L s) (hn : L.length = n) (hi : L[i]? = some x) :
    ∃ (a1 : Option Addr) (k1 : Nat) (Y1 : World) (ad : Addr) (a2 : Option Addr) (k2 : Nat) (Y2 : World), (Builtin.append_ #[60, 60] 60 #[.slice none 0 0, .slice (some ⟨g, 0, none⟩) i k0]).run Try.prog W = .ok (.slice a1 i k1) Y1 ∧ (∀ V, (Instr.sliceAt 60 (.slice (some ⟨g, 0, none⟩) n k0) none (some (.int .i64 (i : Nat))) none).run Try.prog V = .ok (.slice (some ⟨g, 0, none⟩) i k0) V) ∧ (∀ V, (Instr.sliceAt 60 (.slice (some ⟨g, 0, none⟩) n k0) (some (.int .i64 ((i : Int) + 1))) none none).run Try.prog V = .ok (.slice (some ad) (n - (i + 1)) (k0 - (i + 1))) V) ∧ (Builtin.append_ #[60, 60] 60 #[.slice a1 i k1, .slice (some ad) (n - (i + 1)) (k0 - (i + 1))]).run Try.prog Y1 = .ok (.slice a2 (n - 1) k2) Y2 ∧ Y2.ownsRow W.heap.size 79 7 (.slice a2 (n - 1) k2) (n - 1) (flat encH (L.take i ++ L.drop (i + 1))) ∧ Below W.heap.size W Y1 ∧ Below W.heap.size W Y2 := by
  have hil := (List.getElem?_eq_some_iff.1 hi).1
  have hle := h.gd.len'
  have hlen := h.len
  have hr := h.row
  have hone := h.slc
  have hcap : n ≤ k0 := by
    rcases hr.2 with ⟨e, h0⟩ | ⟨g', cap, cur, e, _, _, h1, _⟩
    · omega
    · simp only [Value.slice.injEq] at e
      obtain ⟨_, _, rfl⟩ := e
      omega
  have hcell : ∀ (j : Nat) (y : Value), (flat encH L)[j]? = some y → W.cell? ⟨g, j, none⟩ = some y := fun j y hy => by
    have hj := (List.getElem?_eq_some_iff.1 hy).1
    rw [flat_len encH_len, hn] at hj
    have hr' := hr
    rw [hn] at hr'
    rw [hr'.cellAt j hj]; exact hy
  have hgl : g < W.heap.size := (World.ownsRow.lt hr g rfl).2
  have r1 : RC W (.slice (some ⟨g, 0, none⟩) i k0) i (flat encH (L.take i)) := by
    by_cases h0 : i = 0
    · exact .inl ⟨h0, _, _, by rw [h0]⟩
    · refine .inr ⟨g, 0, k0, rfl, by omega, hgl, fun j y hy => ?_⟩
      rw [Nat.zero_add]
      refine hcell j y ?_
      rw [flat_take encH_len, List.getElem?_take] at hy
      split at hy
      · exact hy
      · cases hy
  obtain ⟨v1, Y1, q1, q2, q3⟩ := app_nil 60 79 7 88 _ Try.underlying60 infoH rfl (by decide) W W.heap.size 60 _ i (flat encH (L.take i)) r1 (by rw [flat_len encH_len, List.length_take]; rw [Nat.min_eq_left (by omega)]) (encH_one (fun y hy => hone y (List.mem_of_mem_take hy))) (Nat.le_refl _) (by unfold maxLen; omega) (by omega)
  have b1 : Below W.heap.size W Y1 := (Below.refl W.heap.size W).grown q3 (Nat.le_refl _) (fun k hk => by cases hk)
  obtain ⟨a1, k1, e1⟩ := owns_form q2
  subst e1
  obtain ⟨i0, hi0, hz0, hz1, hz2⟩ := info_parts infoH
  obtain ⟨ad, _, had⟩ := sl_fromH W g n k0 i (by omega) hcap
  have hsl : ∀ V, (Instr.sliceAt 60 (.slice (some ⟨g, 0, none⟩) n k0) (some (.int .i64 ((i : Int) + 1))) none none).run Try.prog V = .ok (.slice (some (if n = i + 1 then (if k0 = i + 1 then ⟨g, 0, none⟩ else ⟨g, (i + 1) * 7, none⟩) else ⟨g, (i + 1) * 7, none⟩)) (n - (i + 1)) (k0 - (i + 1))) V := fun V => by
    have h1 : (i : Int) + 1 ≤ (n : Int) := by omega
    have h2 : ((i : Int) + 1).toNat = i + 1 := by omega
    have h3 : (0 : Int) ≤ (i : Int) + 1 := by omega
    have h4 : (n : Int) ≤ (k0 : Int) := by omega
    have h5 : (i : Int) + 1 ≤ (k0 : Int) := by omega
    by_cases hc : k0 = i + 1
    · have e : n = i + 1 := by omega
      subst hc
      subst e
      simp [Instr.sliceAt, Instr.slice, run_underlying Try.underlying60, sizeOf, typeInfo, hi0, hz1, go_sem, h1, h2, h3, h4, h5]
    · simp [Instr.sliceAt, Instr.slice, run_underlying Try.underlying60, sizeOf, typeInfo, hi0, hz1, go_sem, h1, h2, h3, h4, h5, hc]
  generalize hAD : (if n = i + 1 then (if k0 = i + 1 then (⟨g, 0, none⟩ : Addr) else ⟨g, (i + 1) * 7, none⟩) else ⟨g, (i + 1) * 7, none⟩) = AD at hsl
  have hAD2 : n ≠ i + 1 → AD = ⟨g, (i + 1) * 7, none⟩ := fun e => by rw [← hAD, if_neg e]
  obtain ⟨v2, Y2, p1, p2, p3, _⟩ := run_append_own (P := Try.prog) Y1 W.heap.size 60 60 79 i0 _ 7 88 Try.underlying60 hi0 hz0 hz1 hz2 rfl (by decide) _ i _ q2 AD (n - (i + 1)) (k0 - (i + 1)) (flat encH (L.drop (i + 1))) (by rw [flat_len encH_len, List.length_drop, hn]) (fun j y hy => by
    have hj := (List.getElem?_eq_some_iff.1 hy).1
    rw [flat_len encH_len, List.length_drop, hn] at hj
    rw [hAD2 (by omega), Addr.add_lit]
    refine cell_below (hcell _ y ?_) b1
    obtain ⟨z, hz, hz2⟩ := flat_at encH_len (by decide) hy
    rw [List.getElem?_drop] at hz
    have := flat_get encH_len L (i + 1 + j / 7) (j % 7) z hz (Nat.mod_lt _ (by decide))
    rw [show (i + 1) * 7 + j = (i + 1 + j / 7) * 7 + j % 7 by omega, this]
    exact hz2) (encH_one (fun y hy => hone y (List.mem_of_mem_drop hy))) (by unfold maxLen; omega) (by omega) b1.size
  have b2 : Below W.heap.size W Y2 := b1.grown p3 b1.size (fun k hk => (World.ownsRow.lt q2 k hk).1)
  rw [show i + (n - (i + 1)) = n - 1 by omega, ← flat_append] at p2
  obtain ⟨a2, k2, e2⟩ := owns_form p2
  subst e2
  exact ⟨a1, k1, Y1, AD, a2, k2, Y2, q1, fun V => sl_toH V _ n k0 i (by omega), hsl, p1, p2, b1, b2⟩
theorem HM.taken (h : HM P w b v L s) {i : Nat} (hc : s.ls[i]? = some c) {Y : World} (k : Kp (fun j => j = b) w Y) (bY : Bx Y b 62 #[u, .int .i64 s.la]) (row : Y.ownsRow 0 79 7 u (L.length - 1) (flat encH (L.take i ++ L.drop (i + 1)))) (pu : ∀ j, u.ownBlock = some j → w.heap.size ≤ j) : HL (fun i => P i ∨ w.heap.size ≤ i) Y b (tkS s c.num) ∧ Kp P w Y := by
  have hil := (List.getElem?_eq_some_iff.1 hc).1
  rw [← h.len] at hil
  have sub : ∀ x ∈ L.take i ++ L.drop (i + 1), x ∈ L := fun x hx => by
    rcases List.mem_append.1 hx with e | e
    · exact List.mem_of_mem_take e
    · exact List.mem_of_mem_drop e
  refine ⟨⟨u, L.take i ++ L.drop (i + 1), .inl h.p0, bY, ?_, fun j hj => .inr (pu j hj), fun x hx => ?_, fun x hx => ?_, ?_, h.gd.tk _⟩, ⟨k.os, k.tape, k.output, k.size, fun j hj hn => k.block j hj (fun e => hn (by rw [e]; exact h.p0))⟩⟩
  · rw [show (L.take i ++ L.drop (i + 1)).length = L.length - 1 by rw [List.length_append, List.length_take, List.length_drop]; omega]
    exact row
  · have q := h.dat x (sub x hx)
    exact ⟨(q.1.kpw k (fun i hi e => by obtain ⟨cur, hc⟩ := q.2 i hi; exact h.far hc (.inl e))).mono (fun i hi _ => .inl hi), fun i hi => by obtain ⟨cur, hc⟩ := q.2 i hi; exact ⟨cur, hc.kp k (fun e => h.far hc (.inl e))⟩⟩
  · have q := h.cle x (sub x hx)
    exact ⟨(q.1.kpw k (fun i hi e => by obtain ⟨cur, hc⟩ := q.2 i hi; exact h.far hc (.inl e))).mono (fun i hi _ => .inl hi), fun i hi => by obtain ⟨cur, hc⟩ := q.2 i hi; exact ⟨cur, hc.kp k (fun e => h.far hc (.inl e))⟩⟩
  · show _ = s.ls.filter _
    rw [tk_parts h.gd.ris hc, ← h.fst, List.map_append, List.map_take, List.map_drop]

end Go.Proofs.Yteomalmflebkhaa
