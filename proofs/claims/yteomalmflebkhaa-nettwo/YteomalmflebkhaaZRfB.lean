/-
  The document's own Net: changes, Copies.
-/
import Derived.Test.YteomalmflebkhaaZRfA
import Derived.Test.YteomalmflebkhaaZNK
set_option linter.unusedSimpArgs false
set_option linter.unusedVariables false
namespace Go.Proofs.Yteomalmflebkhaa
open Go.RowKit Go.Lib

variable {P N : Nat → Prop} {w W W' : World} {b p f : Nat} {c : Cp} {s : Stn} {v u : Value} {L : List (Cp × Value × Value)}
/-- the first i are told -/
structure DI (w W : World) (s : Stn) (v : Value) (i : Nat) (M : List (Cp × Value)) : Prop where
  cl : CL W w.heap.size v M
  fst : M.map Prod.fst = s.ls.take i
  bel : Below w.heap.size w W
set_option maxRecDepth 100000 in
set_option maxHeartbeats 4000000 in
theorem rCopies_in (h : HL P w b s) : Calls Try.prog 16 #[.pointer (some ⟨b, 0, none⟩)] w (CopA w s) := by
  obtain ⟨v, L, h⟩ := h
  obtain ⟨a0, k0, rfl⟩ := h.form
  have hle := h.gd.len'
  have hlen := h.len
  obtain ⟨n, hn⟩ : ∃ n, s.ls.length = n := ⟨_, rfl⟩
  have hnb : n ≤ 2147483647 := by omega
  rw [hn] at hlen
  rw [hlen] at h
  have HH := hide h
  have Hn := hide hn
  have HL := hide hlen
  unfold CopA
  rw [hn]
  have I0 : Hid (DI w w s (.slice none 0 0) 0 []) := ⟨⟨World.ownsRow_nil _ _ _ _, fun x hx => (by cases hx), List.Pairwise.nil⟩, by simp, Below.refl _ _⟩
  clear h hle hlen hn
  go_enter Try.func16, Try.ntmps16
  go_wp2
  go_loopw [3, 4] (fun lv iv wr => ∃ (i : Nat) (a : Option Addr) (k : Nat) (M : List (Cp × Value)), i ≤ n ∧ lv = .slice a i k ∧ iv = .int .i64 (i : Nat) ∧ Hid (DI w wr s (.slice a i k) i M)) (fun _ iv _ => n - (RowKit.intOf iv).toNat)
  case atStart => exact ⟨0, _, _, [], Nat.zero_le _, rfl, rfl, I0⟩
  case round =>
    obtain ⟨i, a, k, M, hi, rfl, rfl, HI⟩ := hrel
    have I := unhide HI
    have hM := (unhide HH).kp (N := fun _ => False) (Kp.of_below I.bel) (fun _ e => e.elim)
    have c0 := hM.c0
    by_cases hlt : i < n
    · have hlt' : (i : Int) < (n : Int) := by omega
      obtain ⟨x, hx⟩ : ∃ x, L[i]? = some x := ⟨_, List.getElem?_eq_getElem (by rw [unhide HL]; exact hlt)⟩
      obtain ⟨g, ea, _, _, hc, _⟩ := hM.at hx
      have hxs : s.ls[i]? = some x.1 := by rw [← hM.fst, List.getElem?_map, hx]; rfl
      have hxm := List.mem_of_getElem? hx
      have hcm := List.mem_of_getElem? hxs
      have hln := hM.gd.ln x.1 hcm
      have hT := rtold_in x.1 x.2.1 wr (hM.dat x hxm).1.1 (by unfold Cp.dat; split <;> omega)
      obtain ⟨av, kv, ev⟩ := (hM.dat x hxm).1.1.form
      obtain ⟨⟨cn, cf, ct, ccl, cs, cb, csp⟩, v1, v2⟩ := x
      simp only at ev
      subst ev
      obtain ⟨c, hcd⟩ : ∃ c : Cp, (⟨cn, cf, ct, ccl, cs, cb, csp⟩ : Cp) = c := ⟨_, rfl⟩
      have p0 := hc 0 _ rfl
      have p1 := hc 1 _ rfl
      have p2 := hc 2 _ rfl
      have p3 := hc 3 _ rfl
      have p4 := hc 4 _ rfl
      have p5 := hc 5 _ rfl
      rw [Nat.add_zero] at p0
      simp only at hT
      rw [hcd] at hT p0 p1 p2 p3 p4 p5 hxs
      have FIN : Hid (∀ W3 a3 k3, OwB W3 wr.heap.size 5 (.slice a3 c.dat.length k3) c.dat → Below wr.heap.size wr W3 → ∃ a4 k4 Y, (Builtin.append_ #[34, 34] 34 #[.slice a i k, .slice (some ⟨W3.heap.size, 0, none⟩) 1 1]).run Try.prog (W3.alloc (.cells #[.int .i64 c.num, .int .i64 c.frm, .int .i64 c.to, .slice a3 c.dat.length k3, .int .i64 c.sent, .bool c.bad] 44)) = .ok (.slice a4 (i + 1) k4) Y ∧ ∃ L', DI w Y s (.slice a4 (i + 1) k4) (i + 1) L') := by
        intro W3 a3 k3 ho hb
        have hz := I.bel.size
        have hll : M.length = i := by
          have := congrArg List.length I.fst
          rw [List.length_map, List.length_take, unhide Hn] at this
          omega
        obtain ⟨a4, k4, Y, h1, h2, h3⟩ := (I.cl.below hb).push (by have := hb.size; omega) (x := (c, .slice a3 c.dat.length k3)) (ho.wk hz) (fun y hy j hj e => by have := ((I.cl.dat y hy).lt j hj).2; have := (ho.lt j e).1; omega) (by omega) 34 rfl
        rw [hll] at h1 h2
        refine ⟨a4, k4, Y, h1, _, h2, ?_, ?_⟩
        · rw [List.map_append, I.fst, List.take_add_one, hxs]; rfl
        · exact h3.below (bnext I.bel hb) (fun j hj => (World.ownsRow.lt I.cl.row j hj).1)
      subst ea
      have HT := hide hT
      unfold TelA cpV at HT
      have q0 : (L.length : Nat) = n := unhide HL
      clear I hM hx hxm hcm hln hT hc hxs HI hcd q0
      generalize c.dat.length = m at *
      go_wp2_with fail
      refine (unhide HT).mono ?_
      rintro e W3 ⟨a3, k3, rfl, ho, hb⟩
      obtain ⟨a4, k4, Y, hr, L', hci⟩ := unhide FIN W3 a3 k3 ho hb
      have HR := hide hr
      have HCI := hide hci
      clear HT FIN ho hb hr hci
      go_wp2_with (at_builtin; refine wpList_append_eq rfl _ _ 34 34 rfl _ _ _ _ rfl rfl (unhide HR) ?_)
      go_roundw
      case rel => exact ⟨i + 1, a4, k4, L', by omega, rfl, by go_num, HCI⟩
      case measure => show n - ((i : Int) + 1).toNat < n - ((i : Nat) : Int).toNat; omega
    · obtain rfl : i = n := by omega
      have hlt' : ¬ (i : Int) < (i : Int) := by omega
      clear I hM
      go_wp2
      go_ret
      have I := unhide HI
      have e := unhide Hn
      exact ⟨_, _, rfl, M, by rw [I.fst, List.take_of_length_le (by omega)], I.cl, I.bel⟩

end Go.Proofs.Yteomalmflebkhaa
