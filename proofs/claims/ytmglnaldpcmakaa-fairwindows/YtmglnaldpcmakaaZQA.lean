/-
  Rows of events, of arrivals, of windows; distinct.
-/
import Derived.Test.YtmglnaldpcmakaaZPH
import Derived.Test.YtmglnaldpcmakaaZFF7
set_option linter.unusedSimpArgs false
set_option linter.unusedVariables false
namespace Go.Proofs.Ytmglnaldpcmakaa
open Go.RowKit Go.Lib Go.Shelf

def evC (e : Ev) : List Value := [.int .i64 e.step, .int .i64 e.kind, .int .i64 e.copy, .int .i64 e.frm, .int .i64 e.dst, .int .i64 e.sent, .bool e.bad]
theorem evC_len (e : Ev) : (evC e).length = 7 := rfl
/-- a row of events -/
def RV (W : World) (v : Value) (l : List Ev) : Prop := RC W v l.length (flat evC l)
theorem RV.below {W W' : World} {v : Value} {l : List Ev} (h : RV W v l) (hb : Below W.heap.size W W') : RV W' v l := RC.below h hb
theorem RV.form {W : World} {v : Value} {l : List Ev} (h : RV W v l) : ∃ a c, v = .slice a l.length c := RC.form h
theorem RV.at {W : World} {a : Option Addr} {n c : Nat} {l : List Ev} (h : RV W (.slice a n c) l) {i : Nat} {e : Ev} (hi : l[i]? = some e) : ∃ b off, a = some ⟨b, off, none⟩ ∧ b < W.heap.size ∧ W.cell? ⟨b, off + i * 7, none⟩ = some (.int .i64 e.step) ∧ W.cell? ⟨b, off + i * 7 + 1, none⟩ = some (.int .i64 e.kind) ∧ W.cell? ⟨b, off + i * 7 + 2, none⟩ = some (.int .i64 e.copy) ∧ W.cell? ⟨b, off + i * 7 + 3, none⟩ = some (.int .i64 e.frm) ∧
    W.cell? ⟨b, off + i * 7 + 4, none⟩ = some (.int .i64 e.dst) ∧ W.cell? ⟨b, off + i * 7 + 5, none⟩ = some (.int .i64 e.sent) ∧ W.cell? ⟨b, off + i * 7 + 6, none⟩ = some (.bool e.bad) := by
  have hl := (List.getElem?_eq_some_iff.1 hi).1
  rcases h with ⟨h0, _⟩ | ⟨b, off, cap, e', h1, h2, hc⟩
  · omega
  · simp at e'
    obtain ⟨rfl, _⟩ := e'
    have f := fun q (hq : q < 7) v (hv : (evC e)[q]? = some v) => hc (i * 7 + q) v ((flat_get evC_len l i q e hi hq).trans hv)
    exact ⟨b, off, rfl, h2, f 0 (by omega) _ rfl, f 1 (by omega) _ rfl, f 2 (by omega) _ rfl, f 3 (by omega) _ rfl, f 4 (by omega) _ rfl, f 5 (by omega) _ rfl, f 6 (by omega) _ rfl⟩

def arC (x : Arr) : List Value := [.int .i64 x.first, .int .i64 x.last, .int .i64 ((x.pair : Nat) : Int)]
theorem arC_len (x : Arr) : (arC x).length = 3 := rfl
/-- a row of arrivals -/
def RR (W : World) (v : Value) (l : List Arr) : Prop := RC W v l.length (flat arC l)
theorem RR.below {W W' : World} {v : Value} {l : List Arr} (h : RR W v l) (hb : Below W.heap.size W W') : RR W' v l := RC.below h hb
theorem RR.form {W : World} {v : Value} {l : List Arr} (h : RR W v l) : ∃ a c, v = .slice a l.length c := RC.form h
theorem RR.at {W : World} {a : Option Addr} {n c : Nat} {l : List Arr} (h : RR W (.slice a n c) l) {i : Nat} {x : Arr} (hi : l[i]? = some x) : ∃ b off, a = some ⟨b, off, none⟩ ∧ b < W.heap.size ∧ W.cell? ⟨b, off + i * 3, none⟩ = some (.int .i64 x.first) ∧ W.cell? ⟨b, off + i * 3 + 1, none⟩ = some (.int .i64 x.last) ∧ W.cell? ⟨b, off + i * 3 + 2, none⟩ = some (.int .i64 ((x.pair : Nat) : Int)) := by
  have hl := (List.getElem?_eq_some_iff.1 hi).1
  rcases h with ⟨h0, _⟩ | ⟨b, off, cap, e', h1, h2, hc⟩
  · omega
  · simp at e'
    obtain ⟨rfl, _⟩ := e'
    have f := fun q (hq : q < 3) v (hv : (arC x)[q]? = some v) => hc (i * 3 + q) v ((flat_get arC_len l i q x hi hq).trans hv)
    exact ⟨b, off, rfl, h2, f 0 (by omega) _ rfl, f 1 (by omega) _ rfl, f 2 (by omega) _ rfl⟩
/-- a row of arrivals of one's own -/
def OwA (W : World) (B : Nat) (v : Value) (l : List Arr) : Prop := W.ownsRow B 53 3 v l.length (flat arC l)
theorem OwA.row {W : World} {B : Nat} {v : Value} {l : List Arr} (h : OwA W B v l) : RR W v l := RC.of_owns h
theorem OwA.form {W : World} {B : Nat} {v : Value} {l : List Arr} (h : OwA W B v l) : ∃ a c, v = .slice a l.length c := owns_form h
theorem infoA : (Try.prog.info? 53).map (fun i => (i.zero, i.size, i.bytes)) = some (some (.agg #[.int .i64 0, .int .i64 0, .int .i64 0]), 3, 24) := by kernel_rfl
theorem append_arr (w : World) (ty : TypeId) (N : Nat) (v : Value) (l : List Arr) (x : Arr) (h : OwA w N v l) (hN : N ≤ w.heap.size) (hl : l.length ≤ 1000000) :
    ∃ v' w', (Builtin.append_ #[39, 39] ty #[v, .slice (some ⟨w.heap.size, 0, none⟩) 1 1]).run Try.prog (w.alloc (.cells #[.int .i64 x.first, .int .i64 x.last, .int .i64 ((x.pair : Nat) : Int)] 53)) = .ok v' w' ∧ OwA w' N v' (l ++ [x]) ∧ (w.alloc (.cells #[.int .i64 x.first, .int .i64 x.last, .int .i64 ((x.pair : Nat) : Int)] 53)).grownBy w' v.ownBlock ∧ (v'.ownBlock = v.ownBlock ∨ v'.ownBlock = some (w.heap.size + 1)) := by
  obtain ⟨i0, hi, hz0, hz1, hz2⟩ := info_parts infoA
  have hbx := Bx.new w 53 #[.int .i64 x.first, .int .i64 x.last, .int .i64 ((x.pair : Nat) : Int)]
  obtain ⟨v', w', h1, h2, h3, h4, h5⟩ := run_append_own_at (P := Try.prog) (w.alloc (.cells #[.int .i64 x.first, .int .i64 x.last, .int .i64 ((x.pair : Nat) : Int)] 53)) N 39 ty 53 i0 _ 3 24 Try.underlying39 hi hz0 hz1 hz2 rfl (by decide) v l.length _ (World.ownsRow.alloc h _) ⟨w.heap.size, 0, none⟩ 1 1 (arC x) rfl (fun j u hu => by
    rw [Addr.add_lit, Nat.zero_add]
    exact hbx.cell j u (by rw [← hu]; simp [arC])) (fun u hu => by
      simp [arC] at hu
      rcases hu with rfl | rfl | rfl <;> rfl) (by unfold maxLen; omega) (by omega) (by simp; omega)
  refine ⟨v', w', h1, ?_, h3, ?_⟩
  · unfold OwA
    rw [flat_append]
    simpa [flat_cons, flat_nil, arC] using h2
  · simpa using h5

def wnC (x : Int × Int) : List Value := [.int .i64 x.1, .int .i64 x.2]
theorem wnC_len (x : Int × Int) : (wnC x).length = 2 := rfl
/-- a row of windows -/
def RG (W : World) (v : Value) (l : List (Int × Int)) : Prop := RC W v l.length (flat wnC l)
theorem RG.below {W W' : World} {v : Value} {l : List (Int × Int)} (h : RG W v l) (hb : Below W.heap.size W W') : RG W' v l := RC.below h hb
theorem RG.form {W : World} {v : Value} {l : List (Int × Int)} (h : RG W v l) : ∃ a c, v = .slice a l.length c := RC.form h
theorem RG.at {W : World} {a : Option Addr} {n c : Nat} {l : List (Int × Int)} (h : RG W (.slice a n c) l) {i : Nat} {x : Int × Int} (hi : l[i]? = some x) : ∃ b off, a = some ⟨b, off, none⟩ ∧ b < W.heap.size ∧ W.cell? ⟨b, off + i * 2, none⟩ = some (.int .i64 x.1) ∧ W.cell? ⟨b, off + i * 2 + 1, none⟩ = some (.int .i64 x.2) := by
  have hl := (List.getElem?_eq_some_iff.1 hi).1
  rcases h with ⟨h0, _⟩ | ⟨b, off, cap, e', h1, h2, hc⟩
  · omega
  · simp at e'
    obtain ⟨rfl, _⟩ := e'
    have f := fun q (hq : q < 2) v (hv : (wnC x)[q]? = some v) => hc (i * 2 + q) v ((flat_get wnC_len l i q x hi hq).trans hv)
    exact ⟨b, off, rfl, h2, f 0 (by omega) _ rfl, f 1 (by omega) _ rfl⟩
/-- a row of windows of one's own -/
def OwW (W : World) (B : Nat) (v : Value) (l : List (Int × Int)) : Prop := W.ownsRow B 32 2 v l.length (flat wnC l)
theorem OwW.row {W : World} {B : Nat} {v : Value} {l : List (Int × Int)} (h : OwW W B v l) : RG W v l := RC.of_owns h
theorem OwW.form {W : World} {B : Nat} {v : Value} {l : List (Int × Int)} (h : OwW W B v l) : ∃ a c, v = .slice a l.length c := owns_form h
theorem infoW : (Try.prog.info? 32).map (fun i => (i.zero, i.size, i.bytes)) = some (some (.agg #[.int .i64 0, .int .i64 0]), 2, 16) := by kernel_rfl
theorem append_wn (w : World) (ty : TypeId) (N : Nat) (v : Value) (l : List (Int × Int)) (x : Int × Int) (h : OwW w N v l) (hN : N ≤ w.heap.size) (hl : l.length ≤ 1000000) :
    ∃ v' w', (Builtin.append_ #[28, 28] ty #[v, .slice (some ⟨w.heap.size, 0, none⟩) 1 1]).run Try.prog (w.alloc (.cells #[.int .i64 x.1, .int .i64 x.2] 32)) = .ok v' w' ∧ OwW w' N v' (l ++ [x]) ∧ (w.alloc (.cells #[.int .i64 x.1, .int .i64 x.2] 32)).grownBy w' v.ownBlock ∧ (v'.ownBlock = v.ownBlock ∨ v'.ownBlock = some (w.heap.size + 1)) := by
  obtain ⟨i0, hi, hz0, hz1, hz2⟩ := info_parts infoW
  have hbx := Bx.new w 32 #[.int .i64 x.1, .int .i64 x.2]
  obtain ⟨v', w', h1, h2, h3, h4, h5⟩ := run_append_own_at (P := Try.prog) (w.alloc (.cells #[.int .i64 x.1, .int .i64 x.2] 32)) N 28 ty 32 i0 _ 2 16 Try.underlying28 hi hz0 hz1 hz2 rfl (by decide) v l.length _ (World.ownsRow.alloc h _) ⟨w.heap.size, 0, none⟩ 1 1 (wnC x) rfl (fun j u hu => by
    rw [Addr.add_lit, Nat.zero_add]
    exact hbx.cell j u (by rw [← hu]; simp [wnC])) (fun u hu => by
      simp [wnC] at hu
      rcases hu with rfl | rfl <;> rfl) (by unfold maxLen; omega) (by omega) (by simp; omega)
  refine ⟨v', w', h1, ?_, h3, ?_⟩
  · unfold OwW
    rw [flat_append]
    simpa [flat_cons, flat_nil, wnC] using h2
  · simpa using h5

set_option maxRecDepth 100000 in
set_option maxHeartbeats 2000000 in
theorem distinct_in (w : World) (v : Value) (ms : List Int) (h : RN w v ms) (hl : ms.length ≤ 1000000) : Calls Try.prog 16 #[v] w fun e W => ∃ v', e = .returned v' ∧ OwN W w.heap.size v' (sitesL ms) ∧ Below w.heap.size w W := by
  obtain ⟨a, c, rfl⟩ := h.form
  have H := hide h
  clear h
  obtain ⟨n, hn⟩ : ∃ n, ms.length = n := ⟨_, rfl⟩
  have Hn := hide hn
  rw [hn] at hl H ⊢
  clear hn
  have hmf : ∀ (fn : Fn) (first cap : Array Value) (w : World), (Instr.makeFunc fn first cap).run Try.prog w = .ok (.func fn first cap) w := fun _ _ _ _ => rfl
  have HV : Hid (∀ W : World, Calls Try.prog 24 #[.slice a n c] W fun e W' => e = .returned (sqV W.heap.size) ∧ W' = W.alloc (.cells #[.slice a n c] 23)) := by
    intro W
    unfold sqV
    go_enter Try.func24, Try.ntmps24
    go_wp2
    go_ret
    exact ⟨rfl, rfl⟩
  obtain ⟨L2, hL2⟩ : ∃ L2, (ms.mergeSort fun x y => decide (x ≤ y)) = L2 := ⟨_, rfl⟩
  obtain ⟨L3, hL3⟩ : ∃ L3, Lib.compact L2 = L3 := ⟨_, rfl⟩
  have hs : sitesL ms = L3 := by unfold sitesL; rw [hL2, hL3]
  rw [hs]
  have h2n : L2.length ≤ 1000000 := by rw [← hL2, List.length_mergeSort, unhide Hn]; exact hl
  have HL3 := hide hL3
  have HL2 := hide hL2
  clear hL3 hL2 hs
  go_enter Try.func16, Try.ntmps16
  go_wp2_with fail
  refine (unhide HV _).mono ?_
  rintro e W1 ⟨rfl, rfl⟩
  obtain ⟨X, hX⟩ : ∃ X, w.alloc (.cells #[.slice a n c] 23) = X := ⟨_, rfl⟩
  have x1 : Bx X w.heap.size 23 #[.slice a n c] := by rw [← hX]; exact Bx.new _ _ _
  have bX : Below w.heap.size w X := by rw [← hX]; exact ballc (Below.refl _ _) _
  have hzX : w.heap.size + 1 = X.heap.size := by rw [← hX]; simp
  have sq : SqS w.heap.size a c ms X := by
    have e := unhide Hn
    refine ⟨by rw [e]; exact x1.cell 0 _ rfl, ?_⟩
    have := (unhide H).below bX
    rwa [← e] at this
  have hS := Sorted_in X _ a c ms (by rw [unhide Hn]; exact hl) sq
  rw [unhide HL2] at hS
  have HS := hide hS
  clear hS
  rw [hX]
  have BX := hide bX
  replace hzX := hide hzX
  clear x1 bX sq hX HV
  go_wp2_with fail
  refine (unhide HS).mono ?_
  rintro e W2 ⟨v2, rfl, ho, hb⟩
  have hC := Compact_in W2 v2 _ ho hb h2n
  rw [unhide HL3] at hC
  have HC := hide hC
  clear hC
  obtain ⟨a2, c2, rfl⟩ := ho.form
  clear HS ho hb
  go_wp2_with fail
  refine (unhide HC).mono ?_
  rintro e W3 ⟨v3, rfl, ho, hb⟩
  replace ho := hide ho
  replace hb := hide hb
  clear HC
  go_wp2
  go_ret
  have hz := unhide hzX
  exact ⟨_, rfl, owns_wk (unhide ho) (by omega), bnext (unhide BX) (unhide hb)⟩

end Go.Proofs.Ytmglnaldpcmakaa
