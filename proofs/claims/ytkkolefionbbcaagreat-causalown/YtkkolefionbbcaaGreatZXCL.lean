/-
  The law's own: join, big.
-/
import Derived.Test.YtkkolefionbbcaaGreatZCQE
import Derived.Test.YtkkolefionbbcaaGreatZCQG

set_option linter.unusedSimpArgs false
set_option linter.unusedVariables false
namespace Go.Proofs.YtkkolefionbbcaaGreat
open Go.RowKit Go.Lib

/-- a join of site 9 -/
def jnO (s q : Int) (l : List (Int × Int)) : Opn := { ds := s, dq := q, deps := l, kind := 3, it := 0, is := 0, rt := 0, rs := 0, text := ⟨#[]⟩, gone := [], site := 9 }
set_option maxRecDepth 100000 in
set_option maxHeartbeats 2000000 in
theorem join_in (s q : Int) (a : Option Addr) (n c : Nat) (w : World) : Calls Tryz.prog 31 #[.int .i64 s, .int .i64 q, .slice a n c] w fun e W => e = .returned (.agg #[.int .i64 s, .int .i64 q, .slice a n c, .int .i64 3, .int .i64 0, .int .i64 0, .int .i64 0, .int .i64 0, .string ⟨#[]⟩, .slice none 0 0, .int .i64 9]) ∧ Below w.heap.size w W := by
  obtain ⟨X0, hX0⟩ : ∃ X0, w.alloc (.cells #[.int .i64 s, .int .i64 q, .slice a n c, .int .i64 3, .int .i64 0, .int .i64 0, .int .i64 0, .int .i64 0, .string ⟨#[]⟩, .slice none 0 0, .int .i64 9] 42) = X0 := ⟨_, rfl⟩
  have b0 : Below w.heap.size w X0 := by rw [← hX0]; exact ballc (Below.refl _ _) _
  have B0 : Bx X0 w.heap.size 42 #[.int .i64 s, .int .i64 q, .slice a n c, .int .i64 3, .int .i64 0, .int .i64 0, .int .i64 0, .int .i64 0, .string ⟨#[]⟩, .slice none 0 0, .int .i64 9] := by rw [← hX0]; exact Bx.new _ _ _
  have HB := hide b0
  have HX := hide B0
  clear b0 B0
  go_enter Tryz.func31, Tryz.ntmps31
  go_wp2
  refine bodyPost_ret (results_cell_row rfl _ _ w.heap.size _ _ _ _ rfl (unhide HX) Tryz.underlying42 rfl sizeOp) rfl ?_
  exact ⟨rfl, unhide HB⟩
set_option maxRecDepth 100000 in
set_option maxHeartbeats 2000000 in
theorem big_in (o : Opn) (ad ag : Option Addr) (nd cd ng cg : Nat) (w : World) : Calls Tryz.prog 30 #[.agg #[.int .i64 o.ds, .int .i64 o.dq, .slice ad nd cd, .int .i64 o.kind, .int .i64 o.it, .int .i64 o.is, .int .i64 o.rt, .int .i64 o.rs, .string o.text, .slice ag ng cg, .int .i64 o.site]] w fun e W => e = .returned (.bool (decide (3000 < nd) || decide (3000 < ng) || decide (3000 < o.text.size))) ∧ Below w.heap.size w W := by
  by_cases h1 : 3000 < nd
  · have h1' : (3000 : Int) < (nd : Int) := by omega
    rw [decide_eq_true h1, Bool.true_or, Bool.true_or]
    go_enter Tryz.func30, Tryz.ntmps30
    go_wp2
    go_ret
    exact ⟨rfl, ballc (Below.refl _ _) _⟩
  · have h1' : ¬ (3000 : Int) < (nd : Int) := by omega
    rw [decide_eq_false h1, Bool.false_or]
    by_cases h2 : 3000 < ng
    · have h2' : (3000 : Int) < (ng : Int) := by omega
      rw [decide_eq_true h2, Bool.true_or]
      go_enter Tryz.func30, Tryz.ntmps30
      go_wp2
      go_ret
      exact ⟨rfl, ballc (Below.refl _ _) _⟩
    · have h2' : ¬ (3000 : Int) < (ng : Int) := by omega
      rw [decide_eq_false h2, Bool.false_or]
      by_cases h3 : 3000 < o.text.size
      · have h3' : (3000 : Int) < (o.text.size : Int) := by omega
        rw [decide_eq_true h3]
        go_enter Tryz.func30, Tryz.ntmps30
        go_wp2
        go_ret
        exact ⟨rfl, ballc (Below.refl _ _) _⟩
      · have h3' : ¬ (3000 : Int) < (o.text.size : Int) := by omega
        rw [decide_eq_false h3]
        go_enter Tryz.func30, Tryz.ntmps30
        go_wp2
        go_ret
        exact ⟨rfl, ballc (Below.refl _ _) _⟩

end Go.Proofs.YtkkolefionbbcaaGreat

/-
  The law's own: known, its offers.
-/
set_option linter.unusedSimpArgs false
set_option linter.unusedVariables false
namespace Go.Proofs.YtkkolefionbbcaaGreat
open Go.RowKit Go.Lib

/-- a queue of two places, by what it says, in blocks from B on -/
def KQ (B : Nat) (W : World) (b : Nat) (hv : List (Int × Int)) (wo ro : List Opn) : Prop := ∃ vh vw vr ws rd, QM (fun i => B ≤ i) W b 2 vh vw vr hv ws rd ∧ ws.map Prod.fst = wo ∧ rd.map Prod.fst = ro
theorem KQ.below {B : Nat} {W W' : World} {b : Nat} {hv : List (Int × Int)} {wo ro : List Opn} (h : KQ B W b hv wo ro) (hb : Below W.heap.size W W') : KQ B W' b hv wo ro := by
  obtain ⟨vh, vw, vr, ws, rd, q, e⟩ := h
  exact ⟨vh, vw, vr, ws, rd, q.below hb, e⟩
theorem offer_c {B : Nat} {W : World} {b : Nat} {hv : List (Int × Int)} {wo ro : List Opn} (hQ : KQ B W b hv wo ro) (hB : B ≤ W.heap.size) (s q : Int) (a : Option Addr) (n c : Nat) (l : List (Int × Int)) (hd : RI W (.slice a n c) l) (h1 : l.length ≤ 100) (hs : in64 s) (hq : in64 q) (hlen : wo.length + ro.length ≤ 1000) (r : Int) (hv' : List (Int × Int)) (wo' ro' : List Opn) (he : offA 2 hv wo ro (jnO s q l) = ((r, 0), hv', wo', ro')) :
    Calls Tryz.prog 15 #[.pointer (some ⟨b, 0, none⟩), .agg #[.int .i64 s, .int .i64 q, .slice a n c, .int .i64 3, .int .i64 0, .int .i64 0, .int .i64 0, .int .i64 0, .string ⟨#[]⟩, .slice none 0 0, .int .i64 9]] W fun e W' => e = .returned (.tuple #[.int .i64 r, .int .i64 0]) ∧ KQ B W' b hv' wo' ro' ∧ Kp (fun i => B ≤ i) W W' := by
  obtain ⟨vh, vw, vr, ws, rd, qm, ew, er⟩ := hQ
  have z : ∀ k : Int, 0 ≤ k ∧ k ≤ 9 → in64 k := fun k hk => ⟨by omega, by omega⟩
  have hin : InO (jnO s q l) := ⟨hs, hq, z 3 (by decide), z 0 (by decide), z 0 (by decide), z 0 (by decide), z 0 (by decide), z 9 (by decide), by show l.length ≤ _; omega, by show (0 : Nat) ≤ _; omega, (fun r hr => by simp [jnO] at hr), by show (0 : Nat) ≤ _; omega⟩
  have hl : ws.length + rd.length ≤ 900000 := by rw [← ew, ← er, List.length_map, List.length_map] at hlen; omega
  refine (Offer_in qm (jnO s q l) (.slice a n c) (.slice none 0 0) hd (.inl ⟨rfl, _, _, rfl⟩) (by show l.length ≤ 1000000; omega) (by show 0 ≤ 1000000; omega) (by show (0 : Nat) ≤ 1000000; omega) hin (by omega) hl).mono ?_
  rintro e W' ⟨rfl, ⟨vh', vw', vr', ws', rd', q', e1, e2⟩, k⟩
  rw [ew, er, he] at q' e1 e2
  rw [ew, er, he]
  exact ⟨rfl, ⟨vh', vw', vr', ws', rd', q'.mono (fun i hi => hi.elim id (fun e => by omega)), e1, e2⟩, k⟩
theorem k1 : offA 2 [] [] [] (jnO 1 1 []) = ((1, 0), [(1, 1)], [], [jnO 1 1 []]) := by kernel_rfl
theorem k2 : offA 2 [(1, 1)] [] [jnO 1 1 []] (jnO 1 3 [(1, 2)]) = ((2, 0), [(1, 1)], [jnO 1 3 [(1, 2)]], [jnO 1 1 []]) := by kernel_rfl
theorem k3 : offA 2 [(1, 1)] [jnO 1 3 [(1, 2)]] [jnO 1 1 []] (jnO 2 1 [(1, 3)]) = ((2, 0), [(1, 1)], [jnO 1 3 [(1, 2)], jnO 2 1 [(1, 3)]], [jnO 1 1 []]) := by kernel_rfl
theorem k4 : offA 2 [(1, 1)] [jnO 1 3 [(1, 2)], jnO 2 1 [(1, 3)]] [jnO 1 1 []] (jnO 2 2 [(1, 3), (2, 1)]) = ((4, 0), [(1, 1)], [jnO 1 3 [(1, 2)], jnO 2 1 [(1, 3)]], [jnO 1 1 []]) := by kernel_rfl
theorem k5 : offA 2 [(1, 1)] [jnO 1 3 [(1, 2)], jnO 2 1 [(1, 3)]] [jnO 1 1 []] (jnO 3 1 [(1, 2)]) = ((2, 0), [(1, 1)], [jnO 1 3 [(1, 2)], jnO 3 1 [(1, 2)]], [jnO 1 1 []]) := by kernel_rfl
theorem k6 : offA 2 [(1, 1)] [jnO 1 3 [(1, 2)], jnO 3 1 [(1, 2)]] [jnO 1 1 []] (jnO 1 2 [(1, 1)]) = ((1, 0), [(1, 3), (3, 1)], [], [jnO 1 1 [], jnO 1 2 [(1, 1)], jnO 1 3 [(1, 2)], jnO 3 1 [(1, 2)]]) := by kernel_rfl
theorem k7 : sortI [(1, 3), (3, 1)] = [(1, 3), (3, 1)] := by
  unfold sortI
  exact List.mergeSort_of_pairwise (by decide)

end Go.Proofs.YtkkolefionbbcaaGreat
