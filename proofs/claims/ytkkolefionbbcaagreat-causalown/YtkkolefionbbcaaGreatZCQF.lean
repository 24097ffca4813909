/-
  A queue: Waits, by what SortFunc does.
-/
import Derived.Test.YtkkolefionbbcaaGreatZCQE
set_option linter.unusedSimpArgs false
set_option linter.unusedVariables false
namespace Go.Proofs.YtkkolefionbbcaaGreat
open Go.RowKit Go.Lib

variable {P N : Nat → Prop} {w W W' : World} {b : Nat} {hold : Int} {vh vw vr : Value} {hv : List (Int × Int)} {ws rd : List (Opn × Value × Value)}
theorem append_dotS (w : World) (ty : TypeId) (N : Nat) (v : Value) (l : List (Int × Int)) (x y : Int) (h : w.ownsRow N 28 2 v l.length (flat encI l)) (hN : N ≤ w.heap.size) (hl : l.length ≤ 1000000) :
    ∃ v' w', (Builtin.append_ #[22, 22] ty #[v, .slice (some ⟨w.heap.size, 0, none⟩) 1 1]).run Tryz.prog (w.alloc (.cells #[.int .i64 x, .int .i64 y] 28)) = .ok v' w' ∧ w'.ownsRow N 28 2 v' (l ++ [(x, y)]).length (flat encI (l ++ [(x, y)])) ∧ (w.alloc (.cells #[.int .i64 x, .int .i64 y] 28)).grownBy w' v.ownBlock ∧ (v'.ownBlock = v.ownBlock ∨ v'.ownBlock = some (w.heap.size + 1)) := by
  obtain ⟨i0, hi, hz0, hz1, hz2⟩ := info_parts infoD
  have hbx := Bx.new w 28 #[.int .i64 x, .int .i64 y]
  obtain ⟨v', w', h1, h2, h3, h4, h5⟩ := run_append_own_at (P := Tryz.prog) (w.alloc (.cells #[.int .i64 x, .int .i64 y] 28)) N 22 ty 28 i0 _ 2 16 Tryz.underlying22 hi hz0 hz1 hz2 rfl (by decide) v l.length _ (h.alloc _) ⟨w.heap.size, 0, none⟩ 1 1 [.int .i64 x, .int .i64 y] rfl (fun j u hu => by
    rw [Addr.add_lit, Nat.zero_add]
    exact hbx.cell j u (by rw [← hu]; simp)) (fun u hu => by simp at hu; rcases hu with rfl | rfl <;> rfl) (by unfold maxLen; omega) (by omega) (by simp; omega)
  refine ⟨v', w', h1, by rw [flat_append]; simpa [show flat encI [(x, y)] = [.int .i64 x, .int .i64 y] from rfl] using h2, h3, ?_⟩
  simpa using h5
theorem wpList_append_eq2 {w : World} {ops : Array Oper} {rest : List Oper} {o : Oper} {a : Act} {Q : Exit → Act → World → Prop} (hgd : o.guard = none) (s x : Operand) (t t' : TypeId)
    (ho : o.op = .call { callee := .builtin .append, args := #[s, x], argTypes := #[t, t'] }) (v u v' : Value) (w' : World) (hs : a.eval s = v) (hx : a.eval x = u) (hr : (Builtin.append_ #[t, t'] o.type #[v, u]).run Tryz.prog w = .ok v' w')
    (h : wpList Tryz.prog ops Q rest (a.put o.dst v') w') : wpList Tryz.prog ops Q (o :: rest) a w := by
  refine wpList_plain hgd fun K hK => ?_
  unfold Oper.wp execOp
  simp only [ho, resolve, invoke, builtin, Sem.run_bind, Sem.run_pure, Result.andThen_ok, List.map_toArray, List.map_cons, List.map_nil, hs, hx, hr]
  exact hK _ _ h
/-- the Dots of those -/
def dotsT (ws : List (Opn × Value × Value)) : List (Int × Int) := ws.map fun e => dotO e.1
set_option maxRecDepth 100000 in
theorem Waits_nil (w : World) : Calls Tryz.prog 18 #[.pointer none] w fun e W => e = .returned (.slice none 0 0) ∧ w = W := by
  go_enter Tryz.func18, Tryz.ntmps18
  go_wp2
  go_ret
  exact ⟨rfl, rfl⟩
set_option maxRecDepth 100000 in
set_option maxHeartbeats 4000000 in
theorem Waits_by (h : QM P w b hold vh vw vr hv ws rd) (hl : ws.length ≤ 1000000) (S : List (Int × Int) → List (Int × Int))
    (hS : ∀ (B : Nat) (v : Value) (l : List (Int × Int)) (W : World), W.ownsRow B 28 2 v l.length (flat encI l) → l.length ≤ 1000000 → Calls Tryz.prog 47 #[v, .func (.func 48) #[] #[]] W fun e W' => e = .returned (.tuple #[]) ∧ W'.ownsRow B 28 2 v l.length (flat encI (S l)) ∧ Below B W W') :
    Calls Tryz.prog 18 #[.pointer (some ⟨b, 0, none⟩)] w fun e W => ∃ v', e = .returned v' ∧ W.ownsRow w.heap.size 28 2 v' ws.length (flat encI (S (dotsT ws))) ∧ Below w.heap.size w W := by
  have Hr := hide h.row
  have Hs := hide h.slw
  obtain ⟨aw, cw, hvw⟩ := owns_form h.rw
  obtain ⟨n, hn⟩ : ∃ n, ws.length = n := ⟨_, rfl⟩
  have Hn := hide hn
  rw [hn] at hvw hl ⊢
  subst hvw
  have c2 : w.cell? ⟨b, 2, none⟩ = some (.slice aw n cw) := h.c2
  have HS := hide hS
  clear h hn hS
  go_enter Tryz.func18, Tryz.ntmps18
  go_wp2
  go_loopw [3, 13] (fun u u' wr => ∃ (i : Nat) (a : Option Addr) (c : Nat), i ≤ n ∧ u = .slice a i c ∧ u' = .int .i64 (i : Nat) ∧ Hid (wr.ownsRow w.heap.size 28 2 (.slice a i c) i (flat encI (dotsT (ws.take i))) ∧ Below w.heap.size w wr)) (fun _ u' _ => n - (RowKit.intOf u').toNat)
  case atStart => exact ⟨0, none, 0, Nat.zero_le _, rfl, rfl, hide ⟨World.ownsRow_nil _ _ _ _, Below.refl _ _⟩⟩
  case round =>
    obtain ⟨i, a, c, hi, rfl, rfl, HI⟩ := hrel
    by_cases hlt : i < n
    · have hlt' : (i : Int) < (n : Int) := by omega
      have hil : i < ws.length := by rw [unhide Hn]; exact hlt
      obtain ⟨⟨o, vd, vg⟩, hx⟩ : ∃ e, ws[i]? = some e := ⟨_, List.getElem?_eq_getElem hil⟩
      obtain ⟨g, off, rfl, hg, hc⟩ := RO.at (RC.below (unhide Hr) (unhide HI).2) hx
      obtain ⟨⟨ad, nd, cd, e1⟩, ⟨ag, ng, cg, e2⟩⟩ := unhide Hs _ (List.mem_of_getElem? hx)
      simp only at e1 e2
      subst e1 e2
      have q0 : wr.cell? ⟨g, off + i * 11, none⟩ = some (.int .i64 o.ds) := hc 0 _ rfl
      have q1 : wr.cell? ⟨g, off + i * 11 + 1, none⟩ = some (.int .i64 o.dq) := hc 1 _ rfl
      have q2 : wr.cell? ⟨g, off + i * 11 + 2, none⟩ = some (.slice ad nd cd) := hc 2 _ rfl
      have q3 : wr.cell? ⟨g, off + i * 11 + 3, none⟩ = some (.int .i64 o.kind) := hc 3 _ rfl
      have q4 : wr.cell? ⟨g, off + i * 11 + 4, none⟩ = some (.int .i64 o.it) := hc 4 _ rfl
      have q5 : wr.cell? ⟨g, off + i * 11 + 5, none⟩ = some (.int .i64 o.is) := hc 5 _ rfl
      have q6 : wr.cell? ⟨g, off + i * 11 + 6, none⟩ = some (.int .i64 o.rt) := hc 6 _ rfl
      have q7 : wr.cell? ⟨g, off + i * 11 + 7, none⟩ = some (.int .i64 o.rs) := hc 7 _ rfl
      have q8 : wr.cell? ⟨g, off + i * 11 + 8, none⟩ = some (.string o.text) := hc 8 _ rfl
      have q9 : wr.cell? ⟨g, off + i * 11 + 9, none⟩ = some (.slice ag ng cg) := hc 9 _ rfl
      have q10 : wr.cell? ⟨g, off + i * 11 + 10, none⟩ = some (.int .i64 o.site) := hc 10 _ rfl
      obtain ⟨X0, hX0⟩ : ∃ X0, wr.alloc (.cells #[.int .i64 o.ds, .int .i64 o.dq, .slice ad nd cd, .int .i64 o.kind, .int .i64 o.it, .int .i64 o.is, .int .i64 o.rt, .int .i64 o.rs, .string o.text, .slice ag ng cg, .int .i64 o.site] 42) = X0 := ⟨_, rfl⟩
      have b0 : Below wr.heap.size wr X0 := by rw [← hX0]; exact ballc (Below.refl _ _) _
      have B0 : Bx X0 wr.heap.size 42 #[.int .i64 o.ds, .int .i64 o.dq, .slice ad nd cd, .int .i64 o.kind, .int .i64 o.it, .int .i64 o.is, .int .i64 o.rt, .int .i64 o.rs, .string o.text, .slice ag ng cg, .int .i64 o.site] := by rw [← hX0]; exact Bx.new _ _ _
      have k0 : X0.cell? ⟨wr.heap.size, 0, none⟩ = some (.int .i64 o.ds) := B0.cell 0 _ rfl
      have k1 : X0.cell? ⟨wr.heap.size, 1, none⟩ = some (.int .i64 o.dq) := B0.cell 1 _ rfl
      have hll : (dotsT (ws.take i)).length = i := by unfold dotsT; rw [List.length_map, List.length_take]; omega
      have bw0 := bnext (unhide HI).2 b0
      have how : X0.ownsRow w.heap.size 28 2 (.slice a i c) (dotsT (ws.take i)).length (flat encI (dotsT (ws.take i))) := by rw [hll]; exact owns_kp (N := fun _ => False) (unhide HI).1 (Kp.of_below b0) (fun _ _ e => e)
      obtain ⟨v', w', hap, ho', hgr, hat⟩ := append_dotS X0 22 w.heap.size (.slice a i c) (dotsT (ws.take i)) o.ds o.dq how bw0.size (by omega)
      have hdt : dotsT (ws.take (i + 1)) = dotsT (ws.take i) ++ [(o.ds, o.dq)] := by
        unfold dotsT
        rw [List.take_add_one, hx]
        simp [dotO]
      rw [← hdt] at ho'
      have hl1 : (dotsT (ws.take (i + 1))).length = i + 1 := by rw [hdt, List.length_append, hll]; rfl
      rw [hl1] at ho'
      obtain ⟨a', c', rfl⟩ := owns_form ho'
      have bwX := ballc bw0 (.cells #[.int .i64 o.ds, .int .i64 o.dq] 28)
      have HN := hide (And.intro ho' (show Below w.heap.size w w' from (Kp.of_grown (N := fun k => (Value.slice a i c).ownBlock = some k) hgr (fun k hk => hk)).below bwX (fun k hk => ((unhide HI).1.lt k hk).1)))
      clear ho' hgr hat how bw0 bwX hdt hl1 hll hc hg hx b0 B0
      have HAP := hide hap
      clear hap
      go_wp2_with (at_builtin; go_loud (refine wpList_append_eq2 rfl _ _ _ _ rfl _ _ _ _ rfl rfl (unhide HAP) ?_))
      go_roundw
      case rel => exact ⟨i + 1, a', c', by omega, rfl, by go_num, unhide HN⟩
      case measure => show n - ((i : Int) + 1).toNat < n - ((i : Nat) : Int).toNat; omega
    · have hlt' : ¬ (i : Int) < (n : Int) := by omega
      obtain rfl : i = n := by omega
      have htk : ws.take i = ws := List.take_of_length_le (by rw [unhide Hn]; omega)
      have hI := unhide HI
      rw [htk] at hI
      have hll : (dotsT ws).length = i := by unfold dotsT; rw [List.length_map, unhide Hn]
      have HSo := hide (unhide HS w.heap.size (.slice a i c) (dotsT ws) wr (by rw [hll]; exact hI.1) (by omega))
      rw [hll] at HSo
      have HB := hide hI.2
      clear hI htk hll
      go_wp2_with fail
      refine (unhide HSo).mono ?_
      rintro e W1 ⟨rfl, ho1, b1⟩
      have HO := hide ho1
      have HB1 := hide b1
      clear HSo ho1 b1
      go_wp2
      go_ret
      exact ⟨_, rfl, unhide HO, (unhide HB).trans (unhide HB1)⟩

end Go.Proofs.YtkkolefionbbcaaGreat
