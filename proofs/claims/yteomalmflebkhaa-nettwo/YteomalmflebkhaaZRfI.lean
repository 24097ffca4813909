/-
  The document's own Net: one of the list written anew.
-/
import Derived.Test.YteomalmflebkhaaZRfH
set_option linter.unusedSimpArgs false
set_option linter.unusedVariables false
namespace Go.Proofs.Yteomalmflebkhaa
open Go.RowKit Go.Lib

variable {P N : Nat → Prop} {w W W' X Y : World} {b p f q g n k0 : Nat} {c : Cp} {s : Stn} {v u v1 v2 : Value} {e : Ending} {L : List (Cp × Value × Value)}
def sets (W : World) (b : Nat) : Nat → List Value → World
  | _, [] => W
  | o, c :: cs => sets (W.setCell ⟨b, o, none⟩ c) b (o + 1) cs
def lsets (xs : List Value) : Nat → List Value → List Value
  | _, [] => xs
  | o, c :: cs => lsets (xs.set o c) (o + 1) cs
theorem own_sets {B e s b m c : Nat} : ∀ (cs : List Value) {xs : List Value} {W : World} (o : Nat), W.ownsRow B e s (.slice (some ⟨b, 0, none⟩) m c) m xs → (sets W b o cs).ownsRow B e s (.slice (some ⟨b, 0, none⟩) m c) m (lsets xs o cs) ∧ Kp (fun k => k = b) W (sets W b o cs)
  | [], xs, W, o, h => ⟨h, Kp.refl _ _⟩
  | c :: cs, xs, W, o, h => by
    have h1 := (h.stored o c).1
    obtain ⟨h2, g2⟩ := own_sets cs (o + 1) h1
    exact ⟨h2, (Kp.set (N := fun k => k = b) W ⟨b, o, none⟩ c rfl).trans g2 (fun i e => .inl e)⟩
theorem lsets_mid : ∀ (cs Q A R : List Value), Q.length = cs.length → lsets (A ++ (Q ++ R)) A.length cs = A ++ (cs ++ R)
  | [], Q, A, R, h => by rw [lsets, List.eq_nil_of_length_eq_zero h]
  | c :: cs, [], A, R, h => by simp at h
  | c :: cs, q :: Q, A, R, h => by
    rw [lsets, List.set_append_right _ _ (Nat.le_refl _), Nat.sub_self]
    have := lsets_mid cs Q (A ++ [c]) R (by simpa using h)
    simp only [List.length_append, List.length_singleton, List.append_assoc, List.cons_append, List.nil_append] at this
    simp only [List.cons_append, List.set_cons_zero]
    exact this
theorem upd_parts {l : List Cp} (hp : l.Pairwise (fun a b => a.num < b.num)) {i : Nat} {c : Cp} (h : l[i]? = some c) (f : Cp → Cp) : l.map (fun d => if d.num = c.num then f d else d) = l.take i ++ f c :: l.drop (i + 1) := by
  have e := split_at h
  have hp' := hp
  rw [e, List.pairwise_append, List.pairwise_cons] at hp'
  obtain ⟨_, ⟨h2, _⟩, h3⟩ := hp'
  have f1 : (l.take i).map (fun d => if d.num = c.num then f d else d) = l.take i := by
    refine (List.map_congr_left fun d hd => ?_).trans (List.map_id _)
    have := h3 d hd c (by simp)
    rw [if_neg (by omega)]
    rfl
  have f2 : (l.drop (i + 1)).map (fun d => if d.num = c.num then f d else d) = l.drop (i + 1) := by
    refine (List.map_congr_left fun d hd => ?_).trans (List.map_id _)
    have := h2 d hd
    rw [if_neg (by omega)]
    rfl
  have e2 := congrArg (List.map (fun d : Cp => if d.num = c.num then f d else d)) e
  rw [List.map_append, List.map_cons, f1, f2, if_pos rfl] at e2
  exact e2
theorem HM.put (h : HM P w b (.slice (some ⟨g, 0, none⟩) n k0) L s) {i : Nat} (hx : L[i]? = some (c, v1, v2)) {f : Cp → Cp} (hf : ∀ c, (f c).num = c.num ∧ (f c).frm = c.frm ∧ (f c).to = c.to ∧ (f c).cl = c.cl ∧ (f c).sent = c.sent ∧ (f c).bad = true) (gd : Gd (updS s c.num f)) (hX : Below w.heap.size w X) (hu : OwB X w.heap.size 5 u (f c).dat) (hY : sets X g (i * 7) [.int .i64 c.num, .int .i64 c.frm, .int .i64 c.to, u, .int .i64 c.sent, .bool true] = Y) : HL (fun i => P i ∨ w.heap.size ≤ i) Y b (updS s c.num f) ∧ Kp P w Y := by
  obtain ⟨hil, _⟩ := List.getElem?_eq_some_iff.1 hx
  have hn : L.length = n := by obtain ⟨a, k, e⟩ := h.form; simp only [Value.slice.injEq] at e; exact e.2.1.symm
  have hxs : s.ls[i]? = some c := by rw [← h.fst, List.getElem?_map, hx]; rfl
  have sp := split_at hx
  have hr := owns_kp (N := fun _ => False) h.row (Kp.of_below hX) (fun _ _ e => e)
  rw [hn] at hr
  obtain ⟨r1, k1⟩ := own_sets [.int .i64 c.num, .int .i64 c.frm, .int .i64 c.to, u, .int .i64 c.sent, .bool true] (i * 7) hr
  rw [hY] at r1 k1
  have hA : (flat encH (L.take i)).length = i * 7 := by rw [flat_len encH_len, List.length_take, Nat.min_eq_left (by omega)]
  have hls : lsets (flat encH L) (i * 7) [.int .i64 c.num, .int .i64 c.frm, .int .i64 c.to, u, .int .i64 c.sent, .bool true] = flat encH (L.take i ++ (f c, u, v2) :: L.drop (i + 1)) := by
    obtain ⟨f1, f2, f3, f4, f5, f6⟩ := hf c
    have e0 : flat encH L = flat encH (L.take i) ++ ([.int .i64 c.num, .int .i64 c.frm, .int .i64 c.to, v1, .int .i64 c.sent, .bool c.bad] ++ ([v2] ++ flat encH (L.drop (i + 1)))) := by
      conv => lhs; rw [sp]
      rw [flat_append, flat_cons]
      rfl
    rw [e0, ← hA, lsets_mid [.int .i64 c.num, .int .i64 c.frm, .int .i64 c.to, u, .int .i64 c.sent, .bool true] [.int .i64 c.num, .int .i64 c.frm, .int .i64 c.to, v1, .int .i64 c.sent, .bool c.bad] (flat encH (L.take i)) ([v2] ++ flat encH (L.drop (i + 1))) rfl, flat_append, flat_cons]
    congr 1
    unfold encH
    simp only [f1, f2, f3, f5, f6]
    rfl
  rw [hls] at r1
  have hgl : g < w.heap.size := (World.ownsRow.lt h.row g rfl).2
  have kk : Kp (fun k => k = g) w Y := (Kp.of_below hX).trans k1 (fun i hi => .inl hi)
  have hgb : b ≠ g := fun e => by
    obtain ⟨cur, hc⟩ := h.ty g rfl
    exact Bx.apart hc h.bx (by decide) e.symm
  have sub : ∀ x ∈ L.take i ++ (f c, u, v2) :: L.drop (i + 1), x = (f c, u, v2) ∨ x ∈ L := fun x hx => by
    rcases List.mem_append.1 hx with e | e
    · exact .inr (List.mem_of_mem_take e)
    · rcases List.mem_cons.1 e with e | e
      · exact .inl e
      · exact .inr (List.mem_of_mem_drop e)
  have hxm := List.mem_of_getElem? hx
  have huY := hu.kp k1 (fun i hi e => by have := (hu.lt i hi).1; omega)
  refine ⟨⟨.slice (some ⟨g, 0, none⟩) n k0, L.take i ++ (f c, u, v2) :: L.drop (i + 1), .inl h.p0, h.bx.kp kk hgb, ?_, fun j hj => .inl (h.pv j hj), fun x hx => ?_, fun x hx => ?_, ?_, gd⟩, ⟨kk.os, kk.tape, kk.output, kk.size, fun j hj hn => kk.block j hj (fun e => hn (by rw [e]; exact h.pv g rfl))⟩⟩
  · rw [show (L.take i ++ (f c, u, v2) :: L.drop (i + 1)).length = n by rw [List.length_append, List.length_cons, List.length_take, List.length_drop]; omega]
    exact r1
  · rcases sub x hx with rfl | hx
    · exact ⟨⟨huY.row, fun i hi => ⟨.inr (huY.lt i hi).1, (huY.lt i hi).2⟩⟩, huY.ty⟩
    · have q := h.dat x hx
      exact ⟨(q.1.kpw kk (fun i hi e => by obtain ⟨cur, hc⟩ := q.2 i hi; exact h.far hc (.inr (by rw [e]; rfl)))).mono (fun i hi _ => .inl hi), fun i hi => by obtain ⟨cur, hc⟩ := q.2 i hi; exact ⟨cur, hc.kp kk (fun e => h.far hc (.inr (by rw [e]; rfl)))⟩⟩
  · have hq : ∀ x ∈ L, BP (fun i => P i ∨ w.heap.size ≤ i) Y x.2.2 x.1.cl ∧ ∀ k, x.2.2.ownBlock = some k → ∃ cur, Bx Y k 5 cur := fun x hx => by
      have q := h.cle x hx
      exact ⟨(q.1.kpw kk (fun i hi e => by obtain ⟨cur, hc⟩ := q.2 i hi; exact h.far hc (.inr (by rw [e]; rfl)))).mono (fun i hi _ => .inl hi), fun i hi => by obtain ⟨cur, hc⟩ := q.2 i hi; exact ⟨cur, hc.kp kk (fun e => h.far hc (.inr (by rw [e]; rfl)))⟩⟩
    rcases sub x hx with rfl | hx
    · have q := hq _ hxm
      rw [(hf c).2.2.2.1]
      exact q
    · exact hq x hx
  · show _ = s.ls.map _
    rw [upd_parts h.gd.ris hxs f, ← h.fst, List.map_append, List.map_cons, List.map_take, List.map_drop]

end Go.Proofs.Yteomalmflebkhaa
