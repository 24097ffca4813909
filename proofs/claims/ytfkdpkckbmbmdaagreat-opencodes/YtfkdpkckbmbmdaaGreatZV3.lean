/-
  The vector of a row; choose.
-/
import Derived.Test.YtfkdpkckbmbmdaaGreatZV2
import Derived.Test.YtfkdpkckbmbmdaaGreatZW0
import Derived.Deep.RegionWith
set_option linter.unusedSimpArgs false
set_option linter.unusedVariables false
namespace Go.Proofs.YtfkdpkckbmbmdaaGreat
open Go.RowKit Go.Lib

theorem index17 (s : Nat → Int) (k : Nat) (hk : k < 17) (w : World) : (Instr.index 130 (.agg (arr s)) (.int .i64 (k : Nat))).run Tryz.prog w = .ok (.int .i64 (s k)) w := by
  have e := arr_get s k hk
  have h1 : (k : Int) < 17 := by omega
  simp [Instr.index, run_underlying und17, go_sem, arr_size, e, hk, h1]
  rw [Array.getElem?_eq_getElem (by rw [arr_size]; exact hk)] at e
  exact Option.some.inj e

/-- a row of Dots of one's own -/
def OwD (W : World) (B : Nat) (v : Value) (l : List (Int × Int)) : Prop := W.ownsRow B 23 2 v l.length (flat encI l)
theorem OwD.row {W : World} {B : Nat} {v : Value} {l : List (Int × Int)} (h : OwD W B v l) : RI W v l := RC.of_owns h
theorem OwD.base {W : World} {B B' : Nat} {v : Value} {l : List (Int × Int)} (h : OwD W B v l) (hb : B' ≤ B) : OwD W B' v l := by
  obtain ⟨h1, h2⟩ := h
  refine ⟨h1, h2.imp id ?_⟩
  rintro ⟨g, cap, cur, e1, e2, e3⟩
  exact ⟨g, cap, cur, e1, by omega, e3⟩
theorem OwD.form {W : World} {B : Nat} {v : Value} {l : List (Int × Int)} (h : OwD W B v l) : ∃ a c, v = .slice a l.length c := owns_form h

set_option maxRecDepth 100000 in
set_option maxHeartbeats 1000000 in
theorem vector_in (s : Nat → Int) (w : World) :
    Calls Tryz.prog 69 #[.agg (arr s)] w fun e W => ∃ v', e = .returned v' ∧ OwD W w.heap.size v' (vec s) ∧ Below w.heap.size w W := by
  go_enter Tryz.func69, Tryz.ntmps69
  have HB := hide (Bx.new w 130 (arr s))
  go_wp2_with (refine wpl_load17 und17 info17 rfl _ rfl rfl (unhide HB) ?_)
  go_loopw [3, 7] (fun vv iv wr => ∃ (k : Nat), iv = .int .i64 (k : Nat) ∧ k ≤ 17 ∧ Hid (OwD wr w.heap.size vv (vecN s k)) ∧ Hid (Below w.heap.size w wr)) (fun _ iv _ => 17 - (intOf iv).toNat)
  case atStart => exact ⟨0, rfl, by omega, hide (World.ownsRow_nil _ _ _ _), hide (ballc (Below.refl _ _) _)⟩
  case round =>
    obtain ⟨k, rfl, hk, HO, HK⟩ := hrel
    obtain ⟨av, cv, hv⟩ := (unhide HO).form
    by_cases hlt : k < 17
    · have hlt' : (k : Int) < 17 := by omega
      have hi := fun W => index17 s k hlt W
      have hln : (vecN s k).length ≤ 17 := by have := vecN_len s k; omega
      by_cases hp : 0 < s k
      · obtain ⟨v', w', hr, hown, hgr, hat⟩ := append_dot wr 25 w.heap.size _ (vecN s k) k (s k) (unhide HO) (unhide HK).size (by omega)
        subst hv
        have Hr := hide hr
        have HO2 : Hid (OwD w' w.heap.size v' (vecN s (k + 1))) := by rw [vecN_pos hp]; exact hown
        have HK2 := hide ((ballc (unhide HK) (.cells #[.int .i64 (k : Nat), .int .i64 (s k)] 23)).grown hgr (ballc (unhide HK) _).size (fun j hj => ((unhide HO).lt j hj).1))
        clear hr hown hgr hat
        obtain ⟨av', cv', hv'⟩ := (unhide HO2).form
        subst hv'
        go_wp2_with (at_builtin; refine wpList_append_eq rfl _ _ 25 rfl _ _ _ _ rfl rfl (unhide Hr) ?_)
        go_roundw
        case measure => show 17 - ((k : Int) + 1).toNat < 17 - ((k : Nat) : Int).toNat; omega
        case rel => exact ⟨k + 1, by go_num, by omega, HO2, HK2⟩
      · subst hv
        have HO2 : Hid (OwD wr w.heap.size (.slice av (vecN s k).length cv) (vecN s (k + 1))) := by rw [vecN_neg hp]; exact unhide HO
        go_wp2
        go_roundw
        case measure => show 17 - ((k : Int) + 1).toNat < 17 - ((k : Nat) : Int).toNat; omega
        case rel => exact ⟨k + 1, by go_num, by omega, HO2, HK⟩
    · have hlt' : ¬ (k : Int) < 17 := by omega
      obtain rfl : k = 17 := by omega
      subst hv
      go_wp2
      go_ret
      exact ⟨_, rfl, unhide HO, unhide HK⟩


theorem arr_congr {s t : Nat → Int} (h : ∀ i, i < 17 → s i = t i) : arr s = arr t := by
  unfold arr
  congr 1
  exact List.map_congr_left fun i hi => by rw [h i (List.mem_range.1 hi)]
theorem Bx.setRowO {W : World} {b g : Nat} {t : TypeId} {vs : Array Value} (h : Bx W b t vs) (hg : g ≠ b) (us : Array Value) : Bx (W.setRow g us) b t vs := by
  have e : W.heap[b]? = some (.cells vs t (0, 0)) := h
  unfold Bx World.setRow
  simp [Array.getElem?_modify, e, hg]
/-- so far chosen -/
def mixN (f : Int → Int → Int) (s t : Nat → Int) (k : Nat) : Nat → Int := fun i => if i < k then f (s i) (t i) else s i
theorem mixN_zero (f : Int → Int → Int) (s t : Nat → Int) : mixN f s t 0 = s := by funext i; simp [mixN]
theorem mixN_step (f : Int → Int → Int) (s t : Nat → Int) (k : Nat) : put1 (mixN f s t k) k (f (s k) (t k)) = mixN f s t (k + 1) := by
  funext i
  unfold put1 mixN
  by_cases h : i = k
  · subst h; rw [if_pos rfl, if_pos (by omega)]
  · rw [if_neg h]
    by_cases h2 : i < k
    · rw [if_pos h2, if_pos (by omega)]
    · rw [if_neg h2, if_neg (by omega)]
theorem mixN_at (f : Int → Int → Int) (s t : Nat → Int) (k : Nat) : mixN f s t k k = s k := by simp [mixN]

end Go.Proofs.YtfkdpkckbmbmdaaGreat
