/-
  A set of pairs in memory: where, newPairSet, fill, remove; pairCount.
-/
import Derived.Test.YtmglnaldpcmakaaZPC
import Derived.Deep.RegionLaw
import Derived.Lib.MinMax
set_option linter.unusedSimpArgs false
set_option linter.unusedVariables false
namespace Go.Proofs.Ytmglnaldpcmakaa
open Go.RowKit Go.Lib

set_option maxRecDepth 100000 in
theorem where_in (p : Nat) (hp : p ≤ 1000000000) (w : World) : Calls Try.prog 41 #[.int .i64 (p : Nat)] w fun e W => e = .returned (.tuple #[.int .i64 ((p / 64 : Nat) : Int), .int .u64 (uL (btW p))]) ∧ ∃ q, W = w.drewN q := by
  have hs := btW_wrap p
  obtain ⟨R, hR⟩ : ∃ R, uL (btW p) = R := ⟨_, rfl⟩
  rw [hR] at hs ⊢
  clear hR
  have e1 : Int.tdiv (p : Nat) 64 = ((p / 64 : Nat) : Int) := by rw [Int.tdiv_eq_ediv_of_nonneg (by omega)]; omega
  have e2 : Int.tmod (p : Nat) 64 = ((p % 64 : Nat) : Int) := by rw [Int.tmod_eq_emod_of_nonneg (by omega)]; omega
  have h6 : p % 64 < 64 := Nat.mod_lt _ (by omega)
  have h7 : ((p / 64 : Nat) : Int) ≤ 1000000000 := by omega
  generalize p / 64 = k at *
  generalize p % 64 = r at *
  go_enter Try.func41, Try.ntmps41
  go_wp2
  go_quiet (fail)
  go_wp2
  refine bodyPost_ret (results_tmp2 rfl _ _ _) rfl ?_
  refine ⟨?_, _, rfl⟩
  simp [hs]

/-- the cells of words -/
def wC (ws : List W6) : List Value := ws.map fun x => Value.int .u64 (uL x)
theorem wC_get {ws : List W6} {k : Nat} (h : k < ws.length) : (wC ws).toArray[k]? = some (.int .u64 (uL ((ws[k]?).getD 0#64))) := by
  simp [wC, h]
theorem wC_set (ws : List W6) (k : Nat) (x : W6) : (wC ws).toArray.setIfInBounds k (.int .u64 (uL x)) = (wC (ws.set k x)).toArray := by
  simp [wC, List.map_set]
/-- a set of pairs in memory, its count c -/
structure PSc (W : World) (b g N : Nat) (M : Nat → Bool) (c : Int) (ws : List W6) : Prop where
  box : Bx W b 67 #[.slice (some ⟨g, 0, none⟩) (nWd N) (nWd N), .int .i64 (N : Nat), .int .i64 c]
  row : Bx W g 68 (wC ws).toArray
  ne : b ≠ g
  tell : Tell N M ws
variable {W W' : World} {b g N : Nat} {M : Nat → Bool} {c : Int} {ws : List W6}
theorem PSc.below (h : PSc W b g N M c ws) (hb : Below W.heap.size W W') : PSc W' b g N M c ws := ⟨h.box.below hb, h.row.below hb, h.ne, h.tell⟩
theorem PSc.kp {S : Nat → Prop} (h : PSc W b g N M c ws) (k : Kp S W W') (h1 : ¬ S b) (h2 : ¬ S g) : PSc W' b g N M c ws := ⟨h.box.kp k h1, h.row.kp k h2, h.ne, h.tell⟩
theorem PSc.put (h : PSc W b g N M c ws) (k : Nat) (x : W6) (M' : Nat → Bool) (ht : Tell N M' (ws.set k x)) : PSc (W.setCell ⟨g, k, none⟩ (.int .u64 (uL x))) b g N M' c (ws.set k x) :=
  ⟨h.box.setO ⟨g, k, none⟩ h.ne _, by have := h.row.set k (.int .u64 (uL x)); rwa [wC_set] at this, h.ne, ht⟩
theorem PSc.cnt (h : PSc W b g N M c ws) (c' : Int) : PSc (W.setCell ⟨b, 2, none⟩ (.int .i64 c')) b g N M c' ws :=
  ⟨by simpa using h.box.set 2 (.int .i64 c'), h.row.setO ⟨b, 2, none⟩ (fun e => h.ne e.symm) _, h.ne, h.tell⟩
/-- as it is between calls -/
def PS (W : World) (b g N : Nat) (M : Nat → Bool) : Prop := ∃ ws, PSc W b g N M ((cntB N M : Nat) : Int) ws

theorem infoU : (Try.prog.info? 68).map (fun i => (i.zero, i.size, i.bytes)) = some (some (.int .u64 0), 1, 8) := by kernel_rfl
theorem mkU (N : Nat) (hN : N ≤ 1000000000) : ∀ w : World, (Instr.makeSlice 65 (.int .i64 (N : Nat)) (.int .i64 (N : Nat))).run Try.prog w = .ok (.slice (some ⟨w.heap.size, 0, none⟩) N N) (w.alloc (.cells (wC (List.replicate N 0#64)).toArray 68)) := by
  obtain ⟨i, hi, hz, hs, hb⟩ := info_parts infoU
  intro w
  have := run_make (P := Try.prog) w 65 68 i _ Try.underlying65 hi hz .i64 .i64 (N : Int) (N : Int) (by omega) (Int.le_refl _) (by rw [hb]; omega) (by omega)
  rw [hs, Int.toNat_natCast] at this
  have e : madeCells (Value.int .u64 0).cells (N * 1) = (wC (List.replicate N 0#64)).toArray := by
    apply Array.toList_inj.1
    have e : (madeCells (Value.int .u64 0).cells (N * 1)).toList = List.replicate (N * 1) (Value.int .u64 0) := toList_madeCells_one _ _
    rw [e]
    simp [wC, uL]
  rw [e] at this
  exact this

set_option maxRecDepth 100000 in
theorem newPairSet_in (w : World) (N : Nat) (h0 : 0 < N) (hN : N ≤ 1000000000) : Calls Try.prog 30 #[.int .i64 (N : Nat)] w fun e W => e = .returned (.pointer (some ⟨w.heap.size + 1, 0, none⟩)) ∧ PS W (w.heap.size + 1) w.heap.size N (fun _ => false) ∧ Below w.heap.size w W ∧ W.heap.size = w.heap.size + 2 := by
  have mk := mkU (nWd N) (by unfold nWd; omega) w
  have e1 : Int.tdiv ((N : Int) - 1) 64 + 1 = ((nWd N : Nat) : Int) := by unfold nWd; rw [Int.tdiv_eq_ediv_of_nonneg (by omega)]; omega
  have h7 : ((nWd N : Nat) : Int) ≤ 1000000000 := by unfold nWd; omega
  have h9 : (0 : Int) ≤ Int.tdiv ((N : Int) - 1) 64 := by rw [Int.tdiv_eq_ediv_of_nonneg (by omega)]; omega
  have h8 : Int.tdiv ((N : Int) - 1) 64 ≤ 1000000000 := by omega
  have ht := Tell.zero N
  have hc : cntB N (fun _ => false) = 0 := (cnt_zero_iff N _).2 fun _ _ => rfl
  obtain ⟨X, hX⟩ : ∃ X, w.alloc (.cells (wC (List.replicate (nWd N) 0#64)).toArray 68) = X := ⟨_, rfl⟩
  have hzX : X.heap.size = w.heap.size + 1 := by rw [← hX]; simp
  have bX : Below w.heap.size w X := by rw [← hX]; exact ballc (Below.refl _ _) _
  have rX : Bx X w.heap.size 68 (wC (List.replicate (nWd N) 0#64)).toArray := by rw [← hX]; exact Bx.new _ _ _
  have Hf : Hid (∀ V, V = X.alloc (.cells #[.slice (some ⟨w.heap.size, 0, none⟩) (nWd N) (nWd N), .int .i64 (N : Nat), .int .i64 0] 67) → PS V (w.heap.size + 1) w.heap.size N (fun _ => false) ∧ Below w.heap.size w V ∧ V.heap.size = w.heap.size + 2) := by
    rintro V rfl
    have al := ballc (Below.refl X.heap.size X) (.cells #[.slice (some ⟨w.heap.size, 0, none⟩) (nWd N) (nWd N), .int .i64 (N : Nat), .int .i64 0] 67)
    have bx := Bx.new X 67 #[.slice (some ⟨w.heap.size, 0, none⟩) (nWd N) (nWd N), .int .i64 (N : Nat), .int .i64 0]
    rw [hzX] at bx
    exact ⟨⟨_, by rw [hc]; exact bx, rX.below al, by omega, ht⟩, bnext bX al, by simp [hzX]⟩
  have hzX' := hide hzX
  clear ht hc rX bX
  rw [hX] at mk
  have HX := hide hX
  clear hX hzX
  generalize nWd N = n at *
  go_enter Try.func30, Try.ntmps30
  go_wp2
  go_ret
  have hz := unhide hzX'
  have hh := unhide Hf _ rfl
  rw [hz]
  exact ⟨rfl, hh⟩

end Go.Proofs.Ytmglnaldpcmakaa
