/-
  The closures of StampEachs.
-/
import Derived.Test.YtccggjhnjknblaaZER
import Derived.Laws.EntriesVeiled
set_option linter.unusedSimpArgs false
set_option linter.unusedVariables false
namespace Go.Proofs.Ytccggjhnjknblaa
open Go.RowKit Go.Lib

theorem Bx.same {W : World} {b : Nat} {t : TypeId} {vs : Array Value} (h : Bx W b t vs) (j : Nat) (v : Value) (hj : vs[j]? = some v) : W.setCell ⟨b, j, none⟩ v = W := by
  have e : W.heap[b]? = some (.cells vs t (0, 0)) := h
  have hb := h.lt
  have hs : vs.setIfInBounds j v = vs := by
    apply Array.ext
    · simp
    · intro i h1 h2
      rw [Array.getElem_setIfInBounds]
      split
      · rename_i hij
        subst hij
        rw [Array.getElem?_eq_getElem h2] at hj
        exact (Option.some.inj hj).symm
      · rfl
  have hh : (W.setCell ⟨b, j, none⟩ v).heap = W.heap := by
    apply Array.ext'
    apply List.ext_getElem?
    intro i
    by_cases hi : i = b
    · subst hi
      have h2 := h.set j v
      rw [hs] at h2
      have h3 : (W.setCell ⟨i, j, none⟩ v).heap[i]? = W.heap[i]? := Eq.trans h2 e.symm
      simpa using h3
    · have h3 := Below.heap_setCell W ⟨b, j, none⟩ v i hi
      simpa using h3
  cases W
  simp only [World.setCell] at hh ⊢
  simp_all
theorem wantR_len (l : List ((Int × Int) × Int)) : (wantR l).length ≤ 3000 := by unfold wantR; rw [List.length_take]; omega
theorem wantR_at {l : List ((Int × Int) × Int)} {pre rest : List (Int × Int)} {x : Int × Int} (h : pre ++ x :: rest = idsR (ownR l)) (hp : pre.length < 3000) : (wantR l)[pre.length]? = some x := by
  unfold wantR
  rw [← h, List.getElem?_take_of_lt hp]
  simp
theorem wantR_all {l : List ((Int × Int) × Int)} (h : (idsR (ownR l)).length < 3000) : (wantR l).length = (idsR (ownR l)).length := by
  unfold wantR; rw [List.length_take]; omega
theorem wantR_full {l : List ((Int × Int) × Int)} {pre rest : List (Int × Int)} (h : pre ++ rest = idsR (ownR l)) (hp : pre.length = 3000) : (wantR l).length = 3000 := by
  unfold wantR; rw [List.length_take, ← h, List.length_append]; omega

/-- what such a closure says behind its n + 1st identifier -/
def Ret (n : Nat) (stop : Int) (e : Ending) : Prop := ∃ b, e = .returned (.bool b) ∧ (b = true → n + 1 < 3000) ∧ (b = false → ((n + 1 : Nat) : Int) = stop ∨ n + 1 = 3000)
theorem Ret.stop (n : Nat) (b : Bool) (hb : b = false) : Ret n ((n : Int) + 1) (.returned (.bool b)) := ⟨b, rfl, (fun h => by rw [hb] at h; cases h), fun _ => .inl (by omega)⟩
theorem Ret.on {n : Nat} {stop : Int} (b : Bool) (hb : b = true) (h : n + 1 < 3000) : Ret n stop (.returned (.bool b)) := ⟨b, rfl, fun _ => h, fun h => by rw [hb] at h; cases h⟩
theorem Ret.full {n : Nat} {stop : Int} (b : Bool) (hb : b = false) (h : n + 1 = 3000) : Ret n stop (.returned (.bool b)) := ⟨b, rfl, (fun h => by rw [hb] at h; cases h), fun _ => .inr h⟩

set_option maxRecDepth 100000 in
set_option maxHeartbeats 2000000 in
theorem each2_in (x1 x2 : Int) (Nb Sb : Nat) (n : Nat) (stop : Int) (W : World) (hN : Bx W Nb 3 #[.int .i64 (n : Nat)]) (hS : Bx W Sb 3 #[.int .i64 stop]) (hne : Sb ≠ Nb) (hn : n < 3000) :
    Calls Try.prog 10 #[.agg #[.int .i64 x1, .int .i64 x2], .pointer (some ⟨Nb, 0, none⟩), .pointer (some ⟨Sb, 0, none⟩)] W fun e W' => Ret n stop e ∧ Bx W' Nb 3 #[.int .i64 ((n + 1 : Nat) : Int)] ∧ Kp (fun k => k = Nb) W W' := by
  obtain ⟨X, hX⟩ : ∃ X, W.alloc (.cells #[.int .i64 x1, .int .i64 x2] 30) = X := ⟨_, rfl⟩
  have bX : Below W.heap.size W X := by rw [← hX]; exact ballc (Below.refl _ _) _
  have n0 := hN.below bX
  have s0 := hS.below bX
  have c1 := n0.cell 0 _ rfl
  have f1 := n0.frozen 0
  have e1 : ((n + 1 : Nat) : Int) = (n : Int) + 1 := by omega
  rw [e1]
  have n1 : Bx (X.setCell ⟨Nb, 0, none⟩ (.int .i64 ((n : Int) + 1))) Nb 3 #[.int .i64 ((n : Int) + 1)] := n0.set 0 _
  have s1 := s0.setO ⟨Nb, 0, none⟩ hne (.int .i64 ((n : Int) + 1))
  have c2 := n1.cell 0 _ rfl
  have c3 := s1.cell 0 _ rfl
  have hk : Kp (fun k => k = Nb) W (X.setCell ⟨Nb, 0, none⟩ (.int .i64 ((n : Int) + 1))) := (Kp.of_below (N := fun k => k = Nb) bX).trans (Kp.set (N := fun k => k = Nb) X ⟨Nb, 0, none⟩ _ rfl) (fun i h => .inl h)
  clear e1
  by_cases h : stop = (n : Int) + 1
  · subst h
    have hq : (((n : Int) + 1) == ((n : Int) + 1)) = true := by simp
    go_enter Try.func10, Try.ntmps10
    go_wp2
    go_ret
    exact ⟨Ret.stop n _ (by simp), n1, hk⟩
  · have h' : ¬ (n : Int) + 1 = stop := fun e => h e.symm
    have H := hide h'
    clear h
    by_cases h3 : n + 1 < 3000
    · have h3' : (n : Int) + 1 < 3000 := by omega
      go_enter Try.func10, Try.ntmps10
      go_wp2
      go_ret
      exact ⟨Ret.on _ (by simp [unhide H]) h3, n1, hk⟩
    · have h3' : ¬ (n : Int) + 1 < 3000 := by omega
      go_enter Try.func10, Try.ntmps10
      go_wp2
      go_ret
      exact ⟨Ret.full _ (by simp; try (intro _; omega)) (by omega), n1, hk⟩

set_option maxRecDepth 100000 in
set_option maxHeartbeats 4000000 in
theorem each11_in (x1 x2 : Int) (O K Bw Sb g off cap L : Nat) (n : Nat) (stop : Int) (W : World)
    (hO : Bx W O 4 #[.bool true]) (hK : Bx W K 3 #[.int .i64 (n : Nat)]) (hB : Bx W Bw 24 #[.slice (some ⟨g, off, none⟩) L cap]) (hS : Bx W Sb 3 #[.int .i64 stop])
    (hc0 : W.cell? ⟨g, off + n * 2, none⟩ = some (.int .i64 x1)) (hc1 : W.cell? ⟨g, off + n * 2 + 1, none⟩ = some (.int .i64 x2)) (hnL : n < L) (hn : n < 3000) (hOK : O ≠ K) (hSK : Sb ≠ K) :
    Calls Try.prog 9 #[.agg #[.int .i64 x1, .int .i64 x2], .pointer (some ⟨O, 0, none⟩), .pointer (some ⟨K, 0, none⟩), .pointer (some ⟨Bw, 0, none⟩), .pointer (some ⟨Sb, 0, none⟩)] W fun e W' => Ret n stop e ∧ Bx W' K 3 #[.int .i64 ((n + 1 : Nat) : Int)] ∧ Kp (fun k => k = K) W W' := by
  obtain ⟨X, hX⟩ : ∃ X, W.alloc (.cells #[.int .i64 x1, .int .i64 x2] 30) = X := ⟨_, rfl⟩
  have bX : Below W.heap.size W X := by rw [← hX]; exact ballc (Below.refl _ _) _
  have i0 : Bx X W.heap.size 30 #[.int .i64 x1, .int .i64 x2] := by rw [← hX]; exact Bx.new W _ _
  have q0 := i0.cell 0 _ rfl
  have q1 := i0.cell 1 _ rfl
  have o0 := hO.below bX
  have k0 := hK.below bX
  have b0 := hB.below bX
  have s0 := hS.below bX
  have p0 := cell_below hc0 bX
  have p1 := cell_below hc1 bX
  have c1 := o0.cell 0 _ rfl
  have f1 := o0.frozen 0
  have c2 := k0.cell 0 _ rfl
  have f2 := k0.frozen 0
  have c3 := b0.cell 0 _ rfl
  have sO := o0.same 0 (.bool true) rfl
  have e1 : ((n + 1 : Nat) : Int) = (n : Int) + 1 := by omega
  rw [e1]
  have n1 : Bx (X.setCell ⟨K, 0, none⟩ (.int .i64 ((n : Int) + 1))) K 3 #[.int .i64 ((n : Int) + 1)] := k0.set 0 _
  have s1 := s0.setO ⟨K, 0, none⟩ hSK (.int .i64 ((n : Int) + 1))
  have o1 := o0.setO ⟨K, 0, none⟩ hOK (.int .i64 ((n : Int) + 1))
  have d2 := n1.cell 0 _ rfl
  have d3 := s1.cell 0 _ rfl
  have d4 := o1.cell 0 _ rfl
  have hk : Kp (fun k => k = K) W (X.setCell ⟨K, 0, none⟩ (.int .i64 ((n : Int) + 1))) := (Kp.of_below (N := fun k => k = K) bX).trans (Kp.set (N := fun k => k = K) X ⟨K, 0, none⟩ _ rfl) (fun i h => .inl h)
  have hk' : Kp (fun k => k = K) W (X.setCell ⟨K, 0, none⟩ (.int .i64 ((n : Int) + 1))).drew := ⟨hk.os, hk.tape, hk.output, hk.size, hk.block⟩
  have n1' : Bx (X.setCell ⟨K, 0, none⟩ (.int .i64 ((n : Int) + 1))).drew K 3 #[.int .i64 ((n : Int) + 1)] := n1
  have i1 : (n : Int) < (L : Int) := by omega
  have heq : ∀ w, (binOp .eql 30 (.agg #[.int .i64 x1, .int .i64 x2]) (.agg #[.int .i64 x1, .int .i64 x2])).run Try.prog w = .ok (.bool true) w := fun w => by rw [eqI]; simp
  have hz : O < X.heap.size := o0.lt
  have HN1 := hide n1'
  have HK1 := hide hk'
  clear hO hK hB hS hc0 hc1 o0 k0 b0 s0 i0 bX hk hk' n1 n1' s1 o1 e1
  by_cases h : stop = (n : Int) + 1
  · subst h
    have hq : (((n : Int) + 1) == ((n : Int) + 1)) = true := by simp
    go_enter Try.func9, Try.ntmps9
    go_wp2_with fail
    go_region
    all_goals
      go_wp2
      go_ret
      exact ⟨Ret.stop n _ (by simp), unhide HN1, unhide HK1⟩
  · have h' : ¬ (n : Int) + 1 = stop := fun e => h e.symm
    have H := hide h'
    clear h
    by_cases h3 : n + 1 < 3000
    · have h3' : (n : Int) + 1 < 3000 := by omega
      go_enter Try.func9, Try.ntmps9
      go_wp2_with fail
      go_region
      all_goals
        go_wp2
        go_ret
        exact ⟨Ret.on _ (by simp [unhide H]) h3, unhide HN1, unhide HK1⟩
    · have h3' : ¬ (n : Int) + 1 < 3000 := by omega
      go_enter Try.func9, Try.ntmps9
      go_wp2_with fail
      go_region
      all_goals
        go_wp2
        go_ret
        exact ⟨Ret.full _ (by simp; try (intro _; omega)) (by omega), unhide HN1, unhide HK1⟩

end Go.Proofs.Ytccggjhnjknblaa
