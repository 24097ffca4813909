/-
  isSite, isSeq, greater, lesser, read.
-/
import Derived.Test.YtkffonoifbaifaaGreatZXV0
import Derived.Deep.WholeRow
import Derived.Test.YtkffonoifbaifaaGreatZW0
import Derived.Deep.RegionWith

set_option linter.unusedSimpArgs false
set_option linter.unusedVariables false
namespace Go.Proofs.YtkffonoifbaifaaGreat
open Go.RowKit Go.Lib

def isT (n : Int) : Bool := decide (1 ≤ n ∧ n ≤ 16)
def isQ (n : Int) : Bool := decide (1 ≤ n ∧ n ≤ 2147483647)
theorem okD_parts (d : Int × Int) : okD d = (isT d.1 && isQ d.2) := by
  rw [Bool.eq_iff_iff, okD_iff]
  unfold isT isQ
  simp

set_option maxRecDepth 100000 in
theorem isSite_in (n : Int) (w : World) : Calls Tryz.prog 67 #[.int .i64 n] w fun e W => e = .returned (.bool (isT n)) ∧ w = W := by
  obtain ⟨R, hR⟩ : ∃ R, isT n = R := ⟨_, rfl⟩
  rw [hR]
  unfold isT at hR
  by_cases h1 : 1 ≤ n
  · by_cases h2 : n ≤ 16
    · obtain rfl : true = R := by rw [← hR]; simp [h1, h2]
      clear hR
      go_enter Tryz.func67, Tryz.ntmps67
      go_wp2
      go_ret
      exact ⟨rfl, rfl⟩
    · obtain rfl : false = R := by rw [← hR]; simp [h1, h2]
      clear hR
      go_enter Tryz.func67, Tryz.ntmps67
      go_wp2
      go_ret
      exact ⟨rfl, rfl⟩
  · obtain rfl : false = R := by rw [← hR]; simp [h1]
    clear hR
    go_enter Tryz.func67, Tryz.ntmps67
    go_wp2
    go_ret
    exact ⟨rfl, rfl⟩
set_option maxRecDepth 100000 in
theorem isSeq_in (n : Int) (w : World) : Calls Tryz.prog 68 #[.int .i64 n] w fun e W => e = .returned (.bool (isQ n)) ∧ w = W := by
  obtain ⟨R, hR⟩ : ∃ R, isQ n = R := ⟨_, rfl⟩
  rw [hR]
  unfold isQ at hR
  by_cases h1 : 1 ≤ n
  · by_cases h2 : n ≤ 2147483647
    · obtain rfl : true = R := by rw [← hR]; simp [h1, h2]
      clear hR
      go_enter Tryz.func68, Tryz.ntmps68
      go_wp2
      go_ret
      exact ⟨rfl, rfl⟩
    · obtain rfl : false = R := by rw [← hR]; simp [h1, h2]
      clear hR
      go_enter Tryz.func68, Tryz.ntmps68
      go_wp2
      go_ret
      exact ⟨rfl, rfl⟩
  · obtain rfl : false = R := by rw [← hR]; simp [h1]
    clear hR
    go_enter Tryz.func68, Tryz.ntmps68
    go_wp2
    go_ret
    exact ⟨rfl, rfl⟩

theorem und17 : Tryz.prog.underlying 98 = some (.array 17 3) := Tryz.underlying98
theorem info17 : (Tryz.prog.info? 98).map (·.size) = some 17 := by kernel_rfl
theorem arr_one (s : Nat → Int) : (arr s).all (·.oneCell') = true := by
  rw [Array.all_eq_true]
  intro i hi
  rw [arr_size] at hi
  have e := arr_get s i hi
  rw [Array.getElem?_eq_getElem (by rw [arr_size]; exact hi)] at e
  rw [Option.some.inj e]
  rfl
/-- seventeen numbers, out of a variable and into one -/
theorem wpl_load17 {w : World} {ops : Array Oper} {rest : List Oper} {o : Oper} {a : Act} {Q : Exit → Act → World → Prop} {ty : TypeId} (hu : Tryz.prog.underlying ty = some (.array 17 3)) (hi : (Tryz.prog.info? ty).map (·.size) = some 17) (hgd : o.guard = none) (x : Operand) (ho : o.op = .load ty x)
    {g : Nat} (hx : a.eval x = .pointer (some ⟨g, 0, none⟩)) {t : TypeId} {s : Nat → Int} (hg : Bx w g t (arr s)) (h : wpList Tryz.prog ops Q rest (a.put o.dst (.agg (arr s))) w) : wpList Tryz.prog ops Q (o :: rest) a w :=
  wpList_load_row hgd ty x ho g hx t (arr s) (0, 0) _ hg hu rfl (by rw [arr_size]; exact hi) h
theorem wpl_store17 {w : World} {ops : Array Oper} {rest : List Oper} {o : Oper} {a : Act} {Q : Exit → Act → World → Prop} {ty : TypeId} (hi : (Tryz.prog.info? ty).map (·.size) = some 17) (hgd : o.guard = none) (x y : Operand) (ho : o.op = .store ty x y)
    {g : Nat} (hx : a.eval x = .pointer (some ⟨g, 0, none⟩)) {r : Nat → Int} (hy : a.eval y = .agg (arr r)) {t : TypeId} {s : Nat → Int} (hg : Bx w g t (arr s)) (h : wpList Tryz.prog ops Q rest (a.put o.dst undef) (w.setRow g (arr r))) : wpList Tryz.prog ops Q (o :: rest) a w :=
  wpList_store_row hgd ty x y ho g (arr r) hx hy t (arr s) hg (by rw [arr_size]; exact hi) (by rw [arr_size, arr_size]) (arr_one r) h
theorem Bx.setRow {W : World} {b : Nat} {t : TypeId} {vs : Array Value} (h : Bx W b t vs) (us : Array Value) : Bx (W.setRow b us) b t us := by
  have e : W.heap[b]? = some (.cells vs t (0, 0)) := h
  unfold Bx World.setRow
  simp [Array.getElem?_modify, e]
theorem below_setRow {w W : World} (h : Below w.heap.size w W) (b : Nat) (hb : w.heap.size ≤ b) (us : Array Value) : Below w.heap.size w (W.setRow b us) := by
  refine ⟨h.os, h.tape, h.output, ?_, fun k hk => ?_⟩
  · have := h.size; simpa [World.setRow] using this
  · rw [← h.block k hk]
    simp only [World.setRow]
    rw [Array.getElem?_modify, if_neg (by omega)]

set_option maxRecDepth 100000 in
set_option maxHeartbeats 1000000 in
theorem read_in (v : Value) (l : List (Int × Int)) (w : World) (h : RI w v l) (hl : l.length ≤ 140737488355328) :
    Calls Tryz.prog 55 #[v] w fun e W => e = .returned (.agg (arr (sy l))) ∧ Below w.heap.size w W := by
  obtain ⟨a, c, rfl⟩ := h.form
  have H := hide h
  clear h
  obtain ⟨n, hn⟩ : ∃ n, l.length = n := ⟨_, rfl⟩
  rw [hn] at hl H ⊢
  have Hn := hide hn
  clear hn
  obtain ⟨s, hs⟩ : ∃ s, sy l = s := ⟨_, rfl⟩
  rw [hs]
  have HS := hide hs
  clear hs
  go_enter Tryz.func55, Tryz.ntmps55
  go_wp2
  go_loopw [8] (fun iv wr => ∃ (i : Nat), iv = .int .i64 (i : Nat) ∧ i ≤ n ∧ Hid (Bx wr (w.heap.size + 1) 98 (arr (sy (l.take i)))) ∧ Hid (Bx wr w.heap.size 98 (arr (fun _ => 0))) ∧ Hid (Below w.heap.size w wr)) (fun iv _ => n - (intOf iv).toNat)
  case atStart =>
    refine ⟨0, rfl, by omega, hide ?_, hide ?_, hide (ballc (ballc (Below.refl _ _) _) _)⟩
    · have := Bx.new (w.alloc (.cells (arr (fun _ => 0)) 98)) 98 (arr (fun _ => 0))
      rw [show (w.alloc (.cells (arr (fun _ => 0)) 98)).heap.size = w.heap.size + 1 by simp] at this
      exact this
    · exact (Bx.new w 98 (arr (fun _ => 0))).below (ballc (Below.refl _ _) _)
  case round =>
    obtain ⟨i, rfl, hin, HB, HA, HK⟩ := hrel
    by_cases hlt : i < n
    · have hlt' : (i : Int) < (n : Int) := by omega
      obtain ⟨x, hx⟩ : ∃ x, l[i]? = some x := ⟨_, List.getElem?_eq_getElem (by have := unhide Hn; omega)⟩
      obtain ⟨b, off, rfl, hb, q0, q1⟩ := (RI.below (unhide H) (unhide HK)).at hx
      have HN := hide (show sy (l.take (i + 1)) = syF (sy (l.take i)) x by rw [List.take_add_one, hx]; exact sy_snoc _ _)
      clear hx
      obtain ⟨x0, x1⟩ := x
      have hbd := (unhide HB).lt
      have hbd0 : w.heap.size < wr.heap.size := by omega
      have HT := hide (fun W => isSite_in x0 W)
      have HQ := hide (fun W => isSeq_in x1 W)
      simp only at q0 q1
      generalize sy (l.take i) = t at *
      by_cases hT : isT x0 = true
      · rw [hT] at HT
        by_cases hQ : isQ x1 = true
        · rw [hQ] at HQ
          obtain ⟨k, rfl⟩ : ∃ k : Nat, x0 = (k : Int) := ⟨x0.toNat, by unfold isT at hT; simp at hT; omega⟩
          have hk : k ≤ 16 := by unfold isT at hT; simp at hT; omega
          have hk' : (k : Int) < 17 := by omega
          have cA := (unhide HB).cell k _ (arr_get t k (by omega))
          have fA := (unhide HB).frozen k
          have HOK := hide (show okD ((k : Int), x1) = true by rw [okD_parts]; show (isT (k : Int) && isQ x1) = true; rw [hT, hQ]; rfl)
          clear hT hQ
          go_wp2_with (first | (go_at_call 67; refine (unhide HT _).mono ?_; rintro e W1 ⟨rfl, rfl⟩) | (go_at_call 68; refine (unhide HQ _).mono ?_; rintro e W1 ⟨rfl, rfl⟩))
          by_cases hm : t k < x1
          · go_region
            go_wp2
            go_roundw
            case measure => show n - ((i : Int) + 1).toNat < n - ((i : Nat) : Int).toNat; omega
            case rel =>
              refine ⟨i + 1, by go_num, by omega, hide ?_, hide ?_, hide (show Below w.heap.size w (World.drew _) from (ballc (bset (unhide HK) ⟨w.heap.size + 1, k, none⟩ (by show w.heap.size ≤ w.heap.size + 1; omega) _) _).drew)⟩
              · rw [unhide HN, syF, if_pos (unhide HOK)]
                have e := (unhide HB).set k (.int .i64 x1)
                rw [arr_set _ _ _ (by omega)] at e
                show Bx _ _ _ (arr (put1 t (k : Int).toNat (max (t (k : Int).toNat) x1)))
                rw [Int.toNat_natCast, show max (t k) x1 = x1 by omega]
                exact e.below (ballc (Below.refl _ _) _).drew
              · exact ((unhide HA).setO ⟨w.heap.size + 1, k, none⟩ (by simp) _).below (ballc (Below.refl _ _) _).drew
          · have hm2 : x1 ≤ t k := by omega
            go_region
            go_wp2
            go_roundw
            case measure => show n - ((i : Int) + 1).toNat < n - ((i : Nat) : Int).toNat; omega
            case rel =>
              refine ⟨i + 1, by go_num, by omega, hide ?_, hide ?_, hide (show Below w.heap.size w (World.drew _) from (ballc (bset (unhide HK) ⟨w.heap.size + 1, k, none⟩ (by show w.heap.size ≤ w.heap.size + 1; omega) _) _).drew)⟩
              · rw [unhide HN, syF, if_pos (unhide HOK)]
                have e := (unhide HB).set k (.int .i64 (t k))
                rw [arr_set _ _ _ (by omega)] at e
                show Bx _ _ _ (arr (put1 t (k : Int).toNat (max (t (k : Int).toNat) x1)))
                rw [Int.toNat_natCast, show max (t k) x1 = t k by omega]
                exact e.below (ballc (Below.refl _ _) _).drew
              · exact ((unhide HA).setO ⟨w.heap.size + 1, k, none⟩ (by simp) _).below (ballc (Below.refl _ _) _).drew
        · have hQ' : isQ x1 = false := by simpa using hQ
          rw [hQ'] at HQ
          have HOK := hide (show okD (x0, x1) = false by rw [okD_parts]; show (isT x0 && isQ x1) = false; rw [hT, hQ']; rfl)
          clear hT hQ hQ'
          go_wp2_with (first | (go_at_call 67; refine (unhide HT _).mono ?_; rintro e W1 ⟨rfl, rfl⟩) | (go_at_call 68; refine (unhide HQ _).mono ?_; rintro e W1 ⟨rfl, rfl⟩))
          go_roundw
          case measure => show n - ((i : Int) + 1).toNat < n - ((i : Nat) : Int).toNat; omega
          case rel =>
            refine ⟨i + 1, by go_num, by omega, hide ?_, hide ((unhide HA).below (ballc (Below.refl _ wr) _)), hide (ballc (unhide HK) _)⟩
            rw [unhide HN, syF, if_neg (by rw [unhide HOK]; decide)]
            exact (unhide HB).below (ballc (Below.refl _ wr) _)
      · have hT' : isT x0 = false := by simpa using hT
        rw [hT'] at HT
        have HOK := hide (show okD (x0, x1) = false by rw [okD_parts]; show (isT x0 && isQ x1) = false; rw [hT']; rfl)
        clear hT hT'
        go_wp2_with (first | (go_at_call 67; refine (unhide HT _).mono ?_; rintro e W1 ⟨rfl, rfl⟩) | (go_at_call 68; refine (unhide HQ _).mono ?_; rintro e W1 ⟨rfl, rfl⟩))
        go_roundw
        case measure => show n - ((i : Int) + 1).toNat < n - ((i : Nat) : Int).toNat; omega
        case rel =>
          refine ⟨i + 1, by go_num, by omega, hide ?_, hide ((unhide HA).below (ballc (Below.refl _ wr) _)), hide (ballc (unhide HK) _)⟩
          rw [unhide HN, syF, if_neg (by rw [unhide HOK]; decide)]
          exact (unhide HB).below (ballc (Below.refl _ wr) _)
    · have hlt' : ¬ (i : Int) < (n : Int) := by omega
      have Hs : Hid (sy (l.take i) = s) := by rw [← unhide HS, List.take_of_length_le (by have := unhide Hn; omega)]; exact rfl
      rw [unhide Hs] at HB
      have HA2 := hide ((unhide HA).setRow (arr s))
      have HK2 := hide (below_setRow (unhide HK) w.heap.size (Nat.le_refl _) (arr s))
      go_wp2_with (first | refine wpl_load17 und17 info17 rfl _ rfl rfl (unhide HB) ?_ | refine wpl_store17 info17 rfl _ _ rfl rfl rfl (unhide HA) ?_)
      refine bodyPost_ret (results_cell_row rfl _ _ w.heap.size _ _ _ _ rfl (unhide HA2) und17 rfl (by rw [arr_size]; exact info17)) rfl ?_
      exact ⟨rfl, unhide HK2⟩

end Go.Proofs.YtkffonoifbaifaaGreat

/-
  The vector of a row; choose.
-/
set_option linter.unusedSimpArgs false
set_option linter.unusedVariables false
namespace Go.Proofs.YtkffonoifbaifaaGreat
open Go.RowKit Go.Lib

theorem index17 (s : Nat → Int) (k : Nat) (hk : k < 17) (w : World) : (Instr.index 98 (.agg (arr s)) (.int .i64 (k : Nat))).run Tryz.prog w = .ok (.int .i64 (s k)) w := by
  have e := arr_get s k hk
  have h1 : (k : Int) < 17 := by omega
  simp [Instr.index, run_underlying und17, go_sem, arr_size, e, hk, h1]
  rw [Array.getElem?_eq_getElem (by rw [arr_size]; exact hk)] at e
  exact Option.some.inj e

/-- a row of Dots of one's own -/
def OwD (W : World) (B : Nat) (v : Value) (l : List (Int × Int)) : Prop := W.ownsRow B 51 2 v l.length (flat encI l)
theorem OwD.row {W : World} {B : Nat} {v : Value} {l : List (Int × Int)} (h : OwD W B v l) : RI W v l := RC.of_owns h
theorem OwD.base {W : World} {B B' : Nat} {v : Value} {l : List (Int × Int)} (h : OwD W B v l) (hb : B' ≤ B) : OwD W B' v l := by
  obtain ⟨h1, h2⟩ := h
  refine ⟨h1, h2.imp id ?_⟩
  rintro ⟨g, cap, cur, e1, e2, e3⟩
  exact ⟨g, cap, cur, e1, by omega, e3⟩
theorem OwD.form {W : World} {B : Nat} {v : Value} {l : List (Int × Int)} (h : OwD W B v l) : ∃ a c, v = .slice a l.length c := owns_form h

set_option maxRecDepth 100000 in
set_option maxHeartbeats 1000000 in
theorem vector_in (s : Nat → Int) (w : World) :
    Calls Tryz.prog 56 #[.agg (arr s)] w fun e W => ∃ v', e = .returned v' ∧ OwD W w.heap.size v' (vec s) ∧ Below w.heap.size w W := by
  go_enter Tryz.func56, Tryz.ntmps56
  have HB := hide (Bx.new w 98 (arr s))
  go_wp2_with (refine wpl_load17 und17 info17 rfl _ rfl rfl (unhide HB) ?_)
  go_loopw [3, 7] (fun vv iv wr => ∃ (k : Nat), iv = .int .i64 (k : Nat) ∧ k ≤ 17 ∧ Hid (OwD wr w.heap.size vv (vecN s k)) ∧ Hid (Below w.heap.size w wr)) (fun _ iv _ => 17 - (intOf iv).toNat)
  case atStart => exact ⟨0, rfl, by omega, hide (World.ownsRow_nil _ _ _ _), hide (ballc (Below.refl _ _) _)⟩
  case round =>
    obtain ⟨k, rfl, hk, HO, HK⟩ := hrel
    obtain ⟨av, cv, hv⟩ := (unhide HO).form
    by_cases hlt : k < 17
    · have hlt' : (k : Int) < 17 := by omega
      have hi := fun W => index17 s k hlt W
      have hln : (vecN s k).length ≤ 17 := by have := vecN_len s k; omega
      by_cases hp : 0 < s k
      · obtain ⟨v', w', hr, hown, hgr, hat⟩ := append_dot wr 32 w.heap.size _ (vecN s k) k (s k) (unhide HO) (unhide HK).size (by omega)
        subst hv
        have Hr := hide hr
        have HO2 : Hid (OwD w' w.heap.size v' (vecN s (k + 1))) := by rw [vecN_pos hp]; exact hown
        have HK2 := hide ((ballc (unhide HK) (.cells #[.int .i64 (k : Nat), .int .i64 (s k)] 51)).grown hgr (ballc (unhide HK) _).size (fun j hj => ((unhide HO).lt j hj).1))
        clear hr hown hgr hat
        obtain ⟨av', cv', hv'⟩ := (unhide HO2).form
        subst hv'
        go_wp2_with (at_builtin; refine wpList_append_eq rfl _ _ 32 rfl _ _ _ _ rfl rfl (unhide Hr) ?_)
        go_roundw
        case measure => show 17 - ((k : Int) + 1).toNat < 17 - ((k : Nat) : Int).toNat; omega
        case rel => exact ⟨k + 1, by go_num, by omega, HO2, HK2⟩
      · subst hv
        have HO2 : Hid (OwD wr w.heap.size (.slice av (vecN s k).length cv) (vecN s (k + 1))) := by rw [vecN_neg hp]; exact unhide HO
        go_wp2
        go_roundw
        case measure => show 17 - ((k : Int) + 1).toNat < 17 - ((k : Nat) : Int).toNat; omega
        case rel => exact ⟨k + 1, by go_num, by omega, HO2, HK⟩
    · have hlt' : ¬ (k : Int) < 17 := by omega
      obtain rfl : k = 17 := by omega
      subst hv
      go_wp2
      go_ret
      exact ⟨_, rfl, unhide HO, unhide HK⟩


theorem arr_congr {s t : Nat → Int} (h : ∀ i, i < 17 → s i = t i) : arr s = arr t := by
  unfold arr
  congr 1
  exact List.map_congr_left fun i hi => by rw [h i (List.mem_range.1 hi)]
theorem Bx.setRowO {W : World} {b g : Nat} {t : TypeId} {vs : Array Value} (h : Bx W b t vs) (hg : g ≠ b) (us : Array Value) : Bx (W.setRow g us) b t vs := by
  have e : W.heap[b]? = some (.cells vs t (0, 0)) := h
  unfold Bx World.setRow
  simp [Array.getElem?_modify, e, hg]
/-- so far chosen -/
def mixN (f : Int → Int → Int) (s t : Nat → Int) (k : Nat) : Nat → Int := fun i => if i < k then f (s i) (t i) else s i
theorem mixN_zero (f : Int → Int → Int) (s t : Nat → Int) : mixN f s t 0 = s := by funext i; simp [mixN]
theorem mixN_step (f : Int → Int → Int) (s t : Nat → Int) (k : Nat) : put1 (mixN f s t k) k (f (s k) (t k)) = mixN f s t (k + 1) := by
  funext i
  unfold put1 mixN
  by_cases h : i = k
  · subst h; rw [if_pos rfl, if_pos (by omega)]
  · rw [if_neg h]
    by_cases h2 : i < k
    · rw [if_pos h2, if_pos (by omega)]
    · rw [if_neg h2, if_neg (by omega)]
theorem mixN_at (f : Int → Int → Int) (s t : Nat → Int) (k : Nat) : mixN f s t k k = s k := by simp [mixN]

end Go.Proofs.YtkffonoifbaifaaGreat

/-
  Check, Get, Has, Covers, Merge, Least, Sum, Add.
-/
set_option linter.unusedSimpArgs false
set_option linter.unusedVariables false
namespace Go.Proofs.YtkffonoifbaifaaGreat
open Go.RowKit Go.Lib

theorem drop_at {α : Type} {l : List α} {i : Nat} {x : α} (h : l[i]? = some x) : l.drop i = x :: l.drop (i + 1) := by
  have hil := (List.getElem?_eq_some_iff.1 h).1
  rw [List.drop_eq_getElem_cons hil]
  congr 1
  rw [List.getElem?_eq_getElem hil] at h
  simpa using h

set_option maxRecDepth 100000 in
set_option maxHeartbeats 1000000 in
theorem Check_in (v : Value) (l : List (Int × Int)) (w : World) (h : RI w v l) (hl : l.length ≤ 140737488355328) :
    Calls Tryz.prog 50 #[v] w fun e W => e = .returned (.int .i64 (chk l)) ∧ Below w.heap.size w W := by
  obtain ⟨a, c, rfl⟩ := h.form
  have H := hide h
  clear h
  obtain ⟨n, hn⟩ : ∃ n, l.length = n := ⟨_, rfl⟩
  rw [hn] at hl H ⊢
  have Hn := hide hn
  clear hn
  obtain ⟨E, hE⟩ : ∃ E, chk l = E := ⟨_, rfl⟩
  rw [hE]
  have HE := hide hE
  clear hE
  go_enter Tryz.func50, Tryz.ntmps50
  go_wp2
  go_loopw [3, 8] (fun av iv wr => ∃ (ah : Int) (i : Nat), av = .int .i64 ah ∧ iv = .int .i64 (i : Nat) ∧ i ≤ n ∧ Hid (chkF ah (l.drop i) = E) ∧ Hid (Below w.heap.size w wr)) (fun _ iv _ => n - (intOf iv).toNat)
  case atStart => exact ⟨0, 0, rfl, rfl, by omega, hide (unhide HE), hide (Below.refl _ _)⟩
  case round =>
    obtain ⟨ah, i, rfl, rfl, hin, HC, HK⟩ := hrel
    by_cases hlt : i < n
    · have hlt' : (i : Int) < (n : Int) := by omega
      obtain ⟨x, hx⟩ : ∃ x, l[i]? = some x := ⟨_, List.getElem?_eq_getElem (by have := unhide Hn; omega)⟩
      obtain ⟨b, off, rfl, hb, q0, q1⟩ := (RI.below (unhide H) (unhide HK)).at hx
      rw [drop_at hx] at HC
      clear hx
      obtain ⟨x0, x1⟩ := x
      have HT := hide (fun W => isSite_in x0 W)
      have HQ := hide (fun W => isSeq_in x1 W)
      simp only at q0 q1
      by_cases hT : isT x0 = true
      · have kT : 1 ≤ x0 ∧ x0 ≤ 16 := by unfold isT at hT; simpa using hT
        rw [hT] at HT
        by_cases hQ : isQ x1 = true
        · have kQ : 1 ≤ x1 ∧ x1 ≤ 2147483647 := by unfold isQ at hQ; simpa using hQ
          rw [hQ] at HQ
          by_cases ho : x0 ≤ ah
          · have he : Hid (E = 9) := by
              rw [← unhide HC, chkF, if_neg (by simpa using kT), if_neg (by simpa using kQ), if_pos ho]; exact rfl
            clear kT kQ hT hQ
            go_wp2_with (first | (go_at_call 67; refine (unhide HT _).mono ?_; rintro e W1 ⟨rfl, rfl⟩) | (go_at_call 68; refine (unhide HQ _).mono ?_; rintro e W1 ⟨rfl, rfl⟩))
            go_ret
            exact ⟨by rw [unhide he]; rfl, ballc (unhide HK) _⟩
          · have HC2 : Hid (chkF x0 (l.drop (i + 1)) = E) := by
              rw [← unhide HC, chkF, if_neg (by simpa using kT), if_neg (by simpa using kQ), if_neg ho]; exact rfl
            clear kT kQ hT hQ
            go_wp2_with (first | (go_at_call 67; refine (unhide HT _).mono ?_; rintro e W1 ⟨rfl, rfl⟩) | (go_at_call 68; refine (unhide HQ _).mono ?_; rintro e W1 ⟨rfl, rfl⟩))
            go_roundw
            case measure => show n - ((i : Int) + 1).toNat < n - ((i : Nat) : Int).toNat; omega
            case rel => exact ⟨x0, i + 1, rfl, by go_num, by omega, HC2, hide (ballc (unhide HK) _)⟩
        · have kQ : ¬ (1 ≤ x1 ∧ x1 ≤ 2147483647) := by unfold isQ at hQ; simpa using hQ
          rw [show isQ x1 = false by simpa using hQ] at HQ
          have he : Hid (E = 6) := by
            rw [← unhide HC, chkF, if_neg (by simpa using kT), if_pos (by simpa using kQ)]; exact rfl
          clear kT kQ hT hQ
          go_wp2_with (first | (go_at_call 67; refine (unhide HT _).mono ?_; rintro e W1 ⟨rfl, rfl⟩) | (go_at_call 68; refine (unhide HQ _).mono ?_; rintro e W1 ⟨rfl, rfl⟩))
          go_ret
          exact ⟨by rw [unhide he]; rfl, ballc (unhide HK) _⟩
      · have kT : ¬ (1 ≤ x0 ∧ x0 ≤ 16) := by unfold isT at hT; simpa using hT
        rw [show isT x0 = false by simpa using hT] at HT
        have he : Hid (E = 1) := by
          rw [← unhide HC, chkF, if_pos (by simpa using kT)]; exact rfl
        clear kT hT
        go_wp2_with (first | (go_at_call 67; refine (unhide HT _).mono ?_; rintro e W1 ⟨rfl, rfl⟩) | (go_at_call 68; refine (unhide HQ _).mono ?_; rintro e W1 ⟨rfl, rfl⟩))
        go_ret
        exact ⟨by rw [unhide he]; rfl, ballc (unhide HK) _⟩
    · have hlt' : ¬ (i : Int) < (n : Int) := by omega
      have he : Hid (E = 0) := by
        rw [← unhide HC, List.drop_eq_nil_of_le (by have := unhide Hn; omega), chkF]; exact rfl
      go_wp2
      go_ret
      exact ⟨by rw [unhide he]; rfl, unhide HK⟩

set_option maxRecDepth 100000 in
theorem Get_in (v : Value) (l : List (Int × Int)) (site : Int) (w : World) (h : RI w v l) (hl : l.length ≤ 140737488355328) :
    Calls Tryz.prog 120 #[v, .int .i64 site] w fun e W => e = .returned (.int .i64 (getV l site)) ∧ Below w.heap.size w W := by
  have HR := hide (read_in v l w h hl)
  obtain ⟨a, c, rfl⟩ := h.form
  have HT := hide (isSite_in site w)
  unfold getV
  by_cases hT : isT site = true
  · have kT : 1 ≤ site ∧ site ≤ 16 := by unfold isT at hT; simpa using hT
    rw [hT] at HT
    rw [if_pos kT]
    generalize sy l = s at *
    obtain ⟨k, rfl⟩ : ∃ k : Nat, site = (k : Int) := ⟨site.toNat, by omega⟩
    have hi := fun W => index17 s k (by omega) W
    rw [Int.toNat_natCast]
    clear hT kT h
    go_enter Tryz.func120, Tryz.ntmps120
    go_wp2_with (first | (go_at_call 67; refine (unhide HT).mono ?_; rintro e W1 ⟨rfl, rfl⟩) | (go_at_call 55; refine (unhide HR).mono ?_; rintro e W1 ⟨rfl, hb⟩; replace hb := hide hb))
    go_ret
    exact ⟨rfl, unhide hb⟩
  · have kT : ¬ (1 ≤ site ∧ site ≤ 16) := by unfold isT at hT; simpa using hT
    rw [show isT site = false by simpa using hT] at HT
    rw [if_neg kT]
    clear hT kT h HR
    go_enter Tryz.func120, Tryz.ntmps120
    go_wp2_with (go_at_call 67; refine (unhide HT).mono ?_; rintro e W1 ⟨rfl, rfl⟩)
    go_ret
    exact ⟨rfl, Below.refl _ _⟩

end Go.Proofs.YtkffonoifbaifaaGreat
