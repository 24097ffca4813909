/-
  What the document's own table search and Class answer.
-/
import Derived.Test.YtiakhpfljjfaeaaZXPure
import Derived.Test.YtiakhpfljjfaeaaZXDec
import Derived.Laws.Cover4
import Derived.Deep.QuietTactic
import Derived.BigQuiet
import Derived.Below
import Derived.Maps.AppendAt
set_option linter.unusedSimpArgs false
set_option linter.unusedVariables false
namespace Go.Proofs.Ytiakhpfljjfaeaa
open Go.RowKit Go.Lib

/-- a slice holds these numbers -/
def RK (k : IntKind) (W : World) (v : Value) (zs : List Int) : Prop :=
  (zs = [] ∧ ∃ a cap, v = .slice a 0 cap) ∨ ∃ b off cap, v = .slice (some ⟨b, off, none⟩) zs.length cap ∧ ∀ j, j < zs.length → W.cell? ⟨b, off + j, none⟩ = some (.int k (zs[j]?.getD 0))

theorem RK.below {k : IntKind} {W W' : World} {v : Value} {zs : List Int} (h : Below W.heap.size W W') : RK k W v zs → RK k W' v zs
  | .inl e => .inl e
  | .inr ⟨b, off, cap, e, hc⟩ => .inr ⟨b, off, cap, e, fun j hj => by
      have hcj := hc j hj
      have hb : b < W.heap.size := by
        unfold World.cell? at hcj
        by_cases hlt : b < W.heap.size
        · exact hlt
        · have : W.heap[b]? = none := by simp; omega
          simp [this] at hcj
      exact (h.cell (p := ⟨b, off + j, none⟩) hb).trans hcj⟩

theorem RK.of_owns {k : IntKind} {W : World} {B e : Nat} {v : Value} {zs : List Int} (h : W.ownsRow B e 1 v zs.length (zs.map (Value.int k))) : RK k W v zs := by
  have h0 := h
  obtain ⟨hl, (⟨rfl, hn⟩ | ⟨g, cap, cur, rfl, hbg, hg, hc1, hc2, hc3, hc4⟩)⟩ := h
  · exact .inl ⟨List.eq_nil_of_length_eq_zero hn, _, _, rfl⟩
  · refine .inr ⟨g, 0, cap, rfl, fun j hj => ?_⟩
    have := h0.cellAt j (by omega)
    rw [Nat.zero_add, this]
    simp [hj]

theorem inP_drop {r a b : Int} {zs : List Int} {k : Nat} (h0 : zs[k]? = some a) (h1 : zs[k + 1]? = some b) : inP r (zs.drop k) = ((decide (a ≤ r) && decide (r ≤ b)) || inP r (zs.drop (k + 2))) := by
  obtain ⟨hk0, e0⟩ := List.getElem?_eq_some_iff.1 h0
  obtain ⟨hk1, e1⟩ := List.getElem?_eq_some_iff.1 h1
  rw [List.drop_eq_getElem_cons hk0, List.drop_eq_getElem_cons hk1, e0, e1]
  rfl
theorem inP_short {r : Int} {zs : List Int} {k : Nat} (h : ¬ k + 1 < zs.length) : inP r (zs.drop k) = false := by
  rcases hl : zs.drop k with _ | ⟨a, _ | ⟨b, l⟩⟩
  · rfl
  · rfl
  · have := congrArg List.length hl
    simp at this
    omega

set_option maxHeartbeats 1000000 in
theorem refIn (r : Int) (v : Value) (zs : List Int) (w : World) (h : RK .i32 w v zs) (hl : zs.length ≤ 1000) :
    Calls Try.prog 65 #[.int .i32 r, v] w fun e w' => e = .returned (.bool (inP r zs)) ∧ ∃ n, w' = w.drewN n := by
  rcases h with ⟨rfl, a, cap, rfl⟩ | ⟨b, off, cap, rfl, hc⟩
  · go_enter Try.func65, Try.ntmps65
    go_wp2
    go_loop [5] (fun i => i = .int .i64 0) (fun _ => 0)
    case atStart => rfl
    case round =>
      subst hrel
      go_wp2
      go_ret
      exact ⟨rfl, 0, rfl⟩
  · generalize hL : zs.length = L at *
    have HL := hide hL
    have Hc := hide hc
    clear hL hc
    go_enter Try.func65, Try.ntmps65
    go_wp2
    go_loopw [5] (fun i wr => (∃ k : Nat, k ≤ L + 1 ∧ i = .int .i64 k ∧ Hid (inP r zs = inP r (zs.drop k))) ∧ ∃ d, wr = w.drewN d) (fun i _ => L + 1 - (RowKit.intOf i).toNat)
    case atStart => exact ⟨⟨0, by omega, rfl, hide rfl⟩, 0, rfl⟩
    case round =>
      obtain ⟨⟨k, hk, rfl, hb⟩, d, rfl⟩ := hrel
      by_cases hlt : k + 1 < L
      · have c1 := unhide Hc k (by omega)
        have c2 := unhide Hc (k + 1) hlt
        have hz : ∃ a0 a1, zs[k]? = some a0 ∧ zs[k + 1]? = some a1 := ⟨_, _, List.getElem?_eq_getElem (by rw [unhide HL]; omega), List.getElem?_eq_getElem (by rw [unhide HL]; omega)⟩
        obtain ⟨a0, a1, h0, h1⟩ := hz
        have Hd := hide (inP_drop (r := r) h0 h1)
        rw [h0] at c1
        rw [h1] at c2
        simp only [Option.getD_some] at c1 c2
        clear h0 h1
        have i1 : (k : Int) < (L : Int) := by omega
        have i2 : (0 : Int) ≤ (k : Int) := by omega
        have i3 : (k : Int) + 1 < (L : Int) := by omega
        by_cases q1 : a0 ≤ r
        · by_cases q2 : r ≤ a1
          · have hin : Hid (inP r zs = true) := hide (by rw [unhide hb, unhide Hd, decide_eq_true q1, decide_eq_true q2]; rfl)
            go_wp2
            go_ret
            exact ⟨by rw [unhide hin]; rfl, _, rfl⟩
          · have hin : Hid (inP r zs = inP r (zs.drop (k + 2))) := hide (by rw [unhide hb, unhide Hd, decide_eq_true q1, decide_eq_false q2]; rfl)
            go_wp2
            go_roundw
            case rel => exact ⟨⟨k + 2, by omega, by go_num, hin⟩, _, rfl⟩
            case measure => simp [RowKit.intOf]; omega
        · have hin : Hid (inP r zs = inP r (zs.drop (k + 2))) := hide (by rw [unhide hb, unhide Hd, decide_eq_false q1]; rfl)
          go_wp2
          go_roundw
          case rel => exact ⟨⟨k + 2, by omega, by go_num, hin⟩, _, rfl⟩
          case measure => simp [RowKit.intOf]; omega
      · have hin : Hid (inP r zs = false) := hide (by rw [unhide hb]; exact inP_short (by rw [unhide HL]; exact hlt))
        go_wp2
        go_ret
        exact ⟨by rw [unhide hin]; rfl, _, rfl⟩

end Go.Proofs.Ytiakhpfljjfaeaa
