/-
  What the law's own parts answers: a text's clumps, and true.
-/
import Derived.Test.YtcagfapdhopmjaaPrt
import Derived.Test.YtcagfapdhopmjaaRegB
set_option linter.unusedSimpArgs false
set_option linter.unusedVariables false
namespace Go.Proofs.Ytcagfapdhopmjaa
open Go.RowKit Go.Lib Go.Shelf

theorem run_equalIn_func_nil {P : Program} (w : World) (d : Nat) (t : TypeId) {x y z} (f : Fn) (bs cs : Array Value) (h : P.underlying t = some (.func x y z)) : (Op.equalIn (d + 1) t (.func f bs cs) .nilFunc).run P w = .ok false w := by
  simp [Op.equalIn, run_underlying h]
theorem run_equal_func_nil {P : Program} (w : World) (t : TypeId) {x y z} (f : Fn) (bs cs : Array Value) (h : P.underlying t = some (.func x y z)) : (Op.equal t (.func f bs cs) .nilFunc).run P w = .ok false w := run_equalIn_func_nil w 9999 t f bs cs h
theorem run_eql_func_nil {P : Program} (w : World) (t : TypeId) {x y z} (f : Fn) (bs cs : Array Value) (h : P.underlying t = some (.func x y z)) : (binOp .eql t (.func f bs cs) .nilFunc).run P w = .ok (.bool false) w := by
  simp only [binOp]
  simp [run_equal_func_nil w t f bs cs h]

set_option maxRecDepth 100000 in
set_option maxHeartbeats 4000000 in
theorem parts_in (s : ByteArray) (hs : s.size ≤ 1000000) (w : World) :
    Calls Try.prog 27 #[.string s] w fun e W' => ∃ v, e = .returned (.tuple #[v, .bool true]) ∧ W'.ownsRow w.heap.size 9 1 v (cpL s).length (cpC s (cpL s)) ∧ Below w.heap.size w W' := by
  have hs2 : s.size ≤ 140737488355328 := by omega
  go_enter Try.func27, Try.ntmps27
  go_wp2_with (go_at_call 19; refine (clumpAll_in _ _).mono ?_; rintro e w' ⟨rfl, rfl⟩)
  rw [run_eql_func_nil _ _ _ _ _ Try.underlying34]
  go_wp2_with fail
  have b0 := Boxed.new w 9 (.string s)
  have b1 := Boxed.new (w.alloc (.cells #[.string s] 9)) 31 (.slice none 0 0)
  have b2 := Boxed.new ((w.alloc (.cells #[.string s] 9)).alloc (.cells #[.slice none 0 0] 31)) 3 (.int .i64 0)
  have b3 := Boxed.new (((w.alloc (.cells #[.string s] 9)).alloc (.cells #[.slice none 0 0] 31)).alloc (.cells #[.int .i64 0] 3)) 4 (.bool true)
  have b4 := Boxed.new ((((w.alloc (.cells #[.string s] 9)).alloc (.cells #[.slice none 0 0] 31)).alloc (.cells #[.int .i64 0] 3)).alloc (.cells #[.bool true] 4)) 9 (.string s)
  simp only [World.size_alloc] at b1 b2 b3 b4
  have hB0 : Below w.heap.size w (((((w.alloc (.cells #[.string s] 9)).alloc (.cells #[.slice none 0 0] 31)).alloc (.cells #[.int .i64 0] 3)).alloc (.cells #[.bool true] 4)).alloc (.cells #[.string s] 9)) := (((((Below.refl _ w).alloc (Nat.le_refl _) _).alloc (by simp) _).alloc (by simp; omega) _).alloc (by simp; omega) _).alloc (by simp; omega) _
  have hj0 : JP s w [] (((((w.alloc (.cells #[.string s] 9)).alloc (.cells #[.slice none 0 0] 31)).alloc (.cells #[.int .i64 0] 3)).alloc (.cells #[.bool true] 4)).alloc (.cells #[.string s] 9)) := ⟨.slice none 0 0, ⟨⟨(((b0.alloc _).alloc _).alloc _).alloc _, ((b1.alloc _).alloc _).alloc _⟩, (b2.alloc _).alloc _, b3.alloc _⟩, World.ownsRow_nil _ _ _ _, hB0⟩
  have hz5 : ((((((w.alloc (.cells #[.string s] 9)).alloc (.cells #[.slice none 0 0] 31)).alloc (.cells #[.int .i64 0] 3)).alloc (.cells #[.bool true] 4)).alloc (.cells #[.string s] 9))).heap.size = w.heap.size + 5 := by simp
  generalize (((((w.alloc (.cells #[.string s] 9)).alloc (.cells #[.slice none 0 0] 31)).alloc (.cells #[.int .i64 0] 3)).alloc (.cells #[.bool true] 4)).alloc (.cells #[.string s] 9)) = W5 at hj0 hz5 b4 ⊢
  have hcall := call_clo 39 #[.pointer (some ⟨w.heap.size + 1 + 1 + 1, 0, none⟩), .pointer (some ⟨w.heap.size + 1 + 1, 0, none⟩), .pointer (some ⟨w.heap.size + 1, 0, none⟩), .pointer (some ⟨w.heap.size, 0, none⟩)] (w.heap.size + 1 + 1 + 1 + 1) s hs2 (JP s w) (fun _ _ => False) W5
    (by rw [hz5]; exact JP_abides s w) (fun _ _ _ _ h _ _ => h) (enters_of Try.func39 (by kernel_rfl) rfl) b4
    (fun pre c rest W1 hp hz hj => (parts1_in s hs w pre c rest W1 hp (by omega) hj).mono (fun e W' ⟨he, h1, h2⟩ => ⟨true, he, by rw [if_pos rfl]; exact h1, by rw [hz5]; exact h2⟩)) hj0
  refine hcall.mono ?_
  rintro e W6 ⟨rfl, ⟨lv, ⟨⟨h0, h1⟩, h2, h3⟩, hr, hB⟩ | ⟨_, _, _, h⟩⟩
  · rw [cp_end s] at h2
    obtain ⟨x, cp, rfl⟩ := owns_form hr
    have c0 := h0.cell
    have c1 := h1.cell
    have c2 := h2.cell
    have c3 := h3.cell
    clear hcall b0 b1 b2 b3 b4 hB0 hj0
    go_wp2
    go_quiet (fail)
    go_wp2
    go_ret2
    refine ⟨.slice x (cpL s).length cp, rfl, owns_base (B := w.heap.size + 13) ?_ (by omega), below_drewN hB _⟩
    exact hr
  · exact h.elim

end Go.Proofs.Ytcagfapdhopmjaa
