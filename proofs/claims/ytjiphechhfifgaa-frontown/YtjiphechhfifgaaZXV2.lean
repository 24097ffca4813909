/-
  isSite, isSeq, greater, lesser, read.
-/
import Derived.Test.YtjiphechhfifgaaZXV0
import Derived.Deep.WholeRow
import Derived.Test.YtjiphechhfifgaaZW0
import Derived.Deep.RegionWith

set_option linter.unusedSimpArgs false
set_option linter.unusedVariables false
namespace Go.Proofs.Ytjiphechhfifgaa
open Go.RowKit Go.Lib

def isT (n : Int) : Bool := decide (1 ≤ n ∧ n ≤ 16)
def isQ (n : Int) : Bool := decide (1 ≤ n ∧ n ≤ 2147483647)
theorem okD_parts (d : Int × Int) : okD d = (isT d.1 && isQ d.2) := by
  rw [Bool.eq_iff_iff, okD_iff]
  unfold isT isQ
  simp

set_option maxRecDepth 100000 in
theorem isSite_in (n : Int) (w : World) : Calls Try.prog 44 #[.int .i64 n] w fun e W => e = .returned (.bool (isT n)) ∧ w = W := by
  obtain ⟨R, hR⟩ : ∃ R, isT n = R := ⟨_, rfl⟩
  rw [hR]
  unfold isT at hR
  by_cases h1 : 1 ≤ n
  · by_cases h2 : n ≤ 16
    · obtain rfl : true = R := by rw [← hR]; simp [h1, h2]
      clear hR
      go_enter Try.func44, Try.ntmps44
      go_wp2
      go_ret
      exact ⟨rfl, rfl⟩
    · obtain rfl : false = R := by rw [← hR]; simp [h1, h2]
      clear hR
      go_enter Try.func44, Try.ntmps44
      go_wp2
      go_ret
      exact ⟨rfl, rfl⟩
  · obtain rfl : false = R := by rw [← hR]; simp [h1]
    clear hR
    go_enter Try.func44, Try.ntmps44
    go_wp2
    go_ret
    exact ⟨rfl, rfl⟩
set_option maxRecDepth 100000 in
theorem isSeq_in (n : Int) (w : World) : Calls Try.prog 45 #[.int .i64 n] w fun e W => e = .returned (.bool (isQ n)) ∧ w = W := by
  obtain ⟨R, hR⟩ : ∃ R, isQ n = R := ⟨_, rfl⟩
  rw [hR]
  unfold isQ at hR
  by_cases h1 : 1 ≤ n
  · by_cases h2 : n ≤ 2147483647
    · obtain rfl : true = R := by rw [← hR]; simp [h1, h2]
      clear hR
      go_enter Try.func45, Try.ntmps45
      go_wp2
      go_ret
      exact ⟨rfl, rfl⟩
    · obtain rfl : false = R := by rw [← hR]; simp [h1, h2]
      clear hR
      go_enter Try.func45, Try.ntmps45
      go_wp2
      go_ret
      exact ⟨rfl, rfl⟩
  · obtain rfl : false = R := by rw [← hR]; simp [h1]
    clear hR
    go_enter Try.func45, Try.ntmps45
    go_wp2
    go_ret
    exact ⟨rfl, rfl⟩

set_option maxRecDepth 100000 in
theorem greater_in (x y : Int) (w : World) : Calls Try.prog 47 #[.int .i64 x, .int .i64 y] w fun e W => e = .returned (.int .i64 (max x y)) ∧ w = W := by
  go_enter Try.func47, Try.ntmps47
  go_wp2
  · go_ret
    exact ⟨by rw [show max x y = y by omega]; rfl, rfl⟩
  · go_ret
    exact ⟨by rw [show max x y = x by omega]; rfl, rfl⟩
set_option maxRecDepth 100000 in
theorem lesser_in (x y : Int) (w : World) : Calls Try.prog 61 #[.int .i64 x, .int .i64 y] w fun e W => e = .returned (.int .i64 (min x y)) ∧ w = W := by
  go_enter Try.func61, Try.ntmps61
  go_wp2
  · go_ret
    exact ⟨by rw [show min x y = y by omega]; rfl, rfl⟩
  · go_ret
    exact ⟨by rw [show min x y = x by omega]; rfl, rfl⟩

theorem und17 : Try.prog.underlying 80 = some (.array 17 3) := Try.underlying80
theorem info17 : (Try.prog.info? 80).map (·.size) = some 17 := by kernel_rfl
theorem arr_one (s : Nat → Int) : (arr s).all (·.oneCell') = true := by
  rw [Array.all_eq_true]
  intro i hi
  rw [arr_size] at hi
  have e := arr_get s i hi
  rw [Array.getElem?_eq_getElem (by rw [arr_size]; exact hi)] at e
  rw [Option.some.inj e]
  rfl
/-- seventeen numbers, out of a variable and into one -/
theorem wpl_load17 {w : World} {ops : Array Oper} {rest : List Oper} {o : Oper} {a : Act} {Q : Exit → Act → World → Prop} {ty : TypeId} (hu : Try.prog.underlying ty = some (.array 17 3)) (hi : (Try.prog.info? ty).map (·.size) = some 17) (hgd : o.guard = none) (x : Operand) (ho : o.op = .load ty x)
    {g : Nat} (hx : a.eval x = .pointer (some ⟨g, 0, none⟩)) {t : TypeId} {s : Nat → Int} (hg : Bx w g t (arr s)) (h : wpList Try.prog ops Q rest (a.put o.dst (.agg (arr s))) w) : wpList Try.prog ops Q (o :: rest) a w :=
  wpList_load_row hgd ty x ho g hx t (arr s) (0, 0) _ hg hu rfl (by rw [arr_size]; exact hi) h
theorem wpl_store17 {w : World} {ops : Array Oper} {rest : List Oper} {o : Oper} {a : Act} {Q : Exit → Act → World → Prop} {ty : TypeId} (hi : (Try.prog.info? ty).map (·.size) = some 17) (hgd : o.guard = none) (x y : Operand) (ho : o.op = .store ty x y)
    {g : Nat} (hx : a.eval x = .pointer (some ⟨g, 0, none⟩)) {r : Nat → Int} (hy : a.eval y = .agg (arr r)) {t : TypeId} {s : Nat → Int} (hg : Bx w g t (arr s)) (h : wpList Try.prog ops Q rest (a.put o.dst undef) (w.setRow g (arr r))) : wpList Try.prog ops Q (o :: rest) a w :=
  wpList_store_row hgd ty x y ho g (arr r) hx hy t (arr s) hg (by rw [arr_size]; exact hi) (by rw [arr_size, arr_size]) (arr_one r) h
theorem Bx.setRow {W : World} {b : Nat} {t : TypeId} {vs : Array Value} (h : Bx W b t vs) (us : Array Value) : Bx (W.setRow b us) b t us := by
  have e : W.heap[b]? = some (.cells vs t (0, 0)) := h
  unfold Bx World.setRow
  simp [Array.getElem?_modify, e]
theorem below_setRow {w W : World} (h : Below w.heap.size w W) (b : Nat) (hb : w.heap.size ≤ b) (us : Array Value) : Below w.heap.size w (W.setRow b us) := by
  refine ⟨h.os, h.tape, h.output, ?_, fun k hk => ?_⟩
  · have := h.size; simpa [World.setRow] using this
  · rw [← h.block k hk]
    simp only [World.setRow]
    rw [Array.getElem?_modify, if_neg (by omega)]

set_option maxRecDepth 100000 in
set_option maxHeartbeats 1000000 in
theorem read_in (v : Value) (l : List (Int × Int)) (w : World) (h : RI w v l) (hl : l.length ≤ 140737488355328) :
    Calls Try.prog 48 #[v] w fun e W => e = .returned (.agg (arr (sy l))) ∧ Below w.heap.size w W := by
  obtain ⟨a, c, rfl⟩ := h.form
  have H := hide h
  clear h
  obtain ⟨n, hn⟩ : ∃ n, l.length = n := ⟨_, rfl⟩
  rw [hn] at hl H ⊢
  have Hn := hide hn
  clear hn
  obtain ⟨s, hs⟩ : ∃ s, sy l = s := ⟨_, rfl⟩
  rw [hs]
  have HS := hide hs
  clear hs
  go_enter Try.func48, Try.ntmps48
  go_wp2
  go_loopw [8] (fun iv wr => ∃ (i : Nat), iv = .int .i64 (i : Nat) ∧ i ≤ n ∧ Hid (Bx wr (w.heap.size + 1) 80 (arr (sy (l.take i)))) ∧ Hid (Bx wr w.heap.size 80 (arr (fun _ => 0))) ∧ Hid (Below w.heap.size w wr)) (fun iv _ => n - (intOf iv).toNat)
  case atStart =>
    refine ⟨0, rfl, by omega, hide ?_, hide ?_, hide (ballc (ballc (Below.refl _ _) _) _)⟩
    · have := Bx.new (w.alloc (.cells (arr (fun _ => 0)) 80)) 80 (arr (fun _ => 0))
      rw [show (w.alloc (.cells (arr (fun _ => 0)) 80)).heap.size = w.heap.size + 1 by simp] at this
      exact this
    · exact (Bx.new w 80 (arr (fun _ => 0))).below (ballc (Below.refl _ _) _)
  case round =>
    obtain ⟨i, rfl, hin, HB, HA, HK⟩ := hrel
    by_cases hlt : i < n
    · have hlt' : (i : Int) < (n : Int) := by omega
      obtain ⟨x, hx⟩ : ∃ x, l[i]? = some x := ⟨_, List.getElem?_eq_getElem (by have := unhide Hn; omega)⟩
      obtain ⟨b, off, rfl, hb, q0, q1⟩ := (RI.below (unhide H) (unhide HK)).at hx
      have HN := hide (show sy (l.take (i + 1)) = syF (sy (l.take i)) x by rw [List.take_add_one, hx]; exact sy_snoc _ _)
      clear hx
      obtain ⟨x0, x1⟩ := x
      have hbd := (unhide HB).lt
      have hbd0 : w.heap.size < wr.heap.size := by omega
      have HT := hide (fun W => isSite_in x0 W)
      have HQ := hide (fun W => isSeq_in x1 W)
      simp only at q0 q1
      generalize sy (l.take i) = t at *
      by_cases hT : isT x0 = true
      · rw [hT] at HT
        by_cases hQ : isQ x1 = true
        · rw [hQ] at HQ
          obtain ⟨k, rfl⟩ : ∃ k : Nat, x0 = (k : Int) := ⟨x0.toNat, by unfold isT at hT; simp at hT; omega⟩
          have hk : k ≤ 16 := by unfold isT at hT; simp at hT; omega
          have hk' : (k : Int) < 17 := by omega
          have cA := (unhide HB).cell k _ (arr_get t k (by omega))
          have fA := (unhide HB).frozen k
          have HOK := hide (show okD ((k : Int), x1) = true by rw [okD_parts]; show (isT (k : Int) && isQ x1) = true; rw [hT, hQ]; rfl)
          clear hT hQ
          go_wp2_with (first | (go_at_call 44; refine (unhide HT _).mono ?_; rintro e W1 ⟨rfl, rfl⟩) | (go_at_call 45; refine (unhide HQ _).mono ?_; rintro e W1 ⟨rfl, rfl⟩))
          by_cases hm : t k < x1
          · go_region
            go_wp2
            go_roundw
            case measure => show n - ((i : Int) + 1).toNat < n - ((i : Nat) : Int).toNat; omega
            case rel =>
              refine ⟨i + 1, by go_num, by omega, hide ?_, hide ?_, hide (show Below w.heap.size w (World.drew _) from (ballc (bset (unhide HK) ⟨w.heap.size + 1, k, none⟩ (by show w.heap.size ≤ w.heap.size + 1; omega) _) _).drew)⟩
              · rw [unhide HN, syF, if_pos (unhide HOK)]
                have e := (unhide HB).set k (.int .i64 x1)
                rw [arr_set _ _ _ (by omega)] at e
                show Bx _ _ _ (arr (put1 t (k : Int).toNat (max (t (k : Int).toNat) x1)))
                rw [Int.toNat_natCast, show max (t k) x1 = x1 by omega]
                exact e.below (ballc (Below.refl _ _) _).drew
              · exact ((unhide HA).setO ⟨w.heap.size + 1, k, none⟩ (by simp) _).below (ballc (Below.refl _ _) _).drew
          · have hm2 : x1 ≤ t k := by omega
            go_region
            go_wp2
            go_roundw
            case measure => show n - ((i : Int) + 1).toNat < n - ((i : Nat) : Int).toNat; omega
            case rel =>
              refine ⟨i + 1, by go_num, by omega, hide ?_, hide ?_, hide (show Below w.heap.size w (World.drew _) from (ballc (bset (unhide HK) ⟨w.heap.size + 1, k, none⟩ (by show w.heap.size ≤ w.heap.size + 1; omega) _) _).drew)⟩
              · rw [unhide HN, syF, if_pos (unhide HOK)]
                have e := (unhide HB).set k (.int .i64 (t k))
                rw [arr_set _ _ _ (by omega)] at e
                show Bx _ _ _ (arr (put1 t (k : Int).toNat (max (t (k : Int).toNat) x1)))
                rw [Int.toNat_natCast, show max (t k) x1 = t k by omega]
                exact e.below (ballc (Below.refl _ _) _).drew
              · exact ((unhide HA).setO ⟨w.heap.size + 1, k, none⟩ (by simp) _).below (ballc (Below.refl _ _) _).drew
        · have hQ' : isQ x1 = false := by simpa using hQ
          rw [hQ'] at HQ
          have HOK := hide (show okD (x0, x1) = false by rw [okD_parts]; show (isT x0 && isQ x1) = false; rw [hT, hQ']; rfl)
          clear hT hQ hQ'
          go_wp2_with (first | (go_at_call 44; refine (unhide HT _).mono ?_; rintro e W1 ⟨rfl, rfl⟩) | (go_at_call 45; refine (unhide HQ _).mono ?_; rintro e W1 ⟨rfl, rfl⟩))
          go_roundw
          case measure => show n - ((i : Int) + 1).toNat < n - ((i : Nat) : Int).toNat; omega
          case rel =>
            refine ⟨i + 1, by go_num, by omega, hide ?_, hide ((unhide HA).below (ballc (Below.refl _ wr) _)), hide (ballc (unhide HK) _)⟩
            rw [unhide HN, syF, if_neg (by rw [unhide HOK]; decide)]
            exact (unhide HB).below (ballc (Below.refl _ wr) _)
      · have hT' : isT x0 = false := by simpa using hT
        rw [hT'] at HT
        have HOK := hide (show okD (x0, x1) = false by rw [okD_parts]; show (isT x0 && isQ x1) = false; rw [hT']; rfl)
        clear hT hT'
        go_wp2_with (first | (go_at_call 44; refine (unhide HT _).mono ?_; rintro e W1 ⟨rfl, rfl⟩) | (go_at_call 45; refine (unhide HQ _).mono ?_; rintro e W1 ⟨rfl, rfl⟩))
        go_roundw
        case measure => show n - ((i : Int) + 1).toNat < n - ((i : Nat) : Int).toNat; omega
        case rel =>
          refine ⟨i + 1, by go_num, by omega, hide ?_, hide ((unhide HA).below (ballc (Below.refl _ wr) _)), hide (ballc (unhide HK) _)⟩
          rw [unhide HN, syF, if_neg (by rw [unhide HOK]; decide)]
          exact (unhide HB).below (ballc (Below.refl _ wr) _)
    · have hlt' : ¬ (i : Int) < (n : Int) := by omega
      have Hs : Hid (sy (l.take i) = s) := by rw [← unhide HS, List.take_of_length_le (by have := unhide Hn; omega)]; exact rfl
      rw [unhide Hs] at HB
      have HA2 := hide ((unhide HA).setRow (arr s))
      have HK2 := hide (below_setRow (unhide HK) w.heap.size (Nat.le_refl _) (arr s))
      go_wp2_with (first | refine wpl_load17 und17 info17 rfl _ rfl rfl (unhide HB) ?_ | refine wpl_store17 info17 rfl _ _ rfl rfl rfl (unhide HA) ?_)
      refine bodyPost_ret (results_cell_row rfl _ _ w.heap.size _ _ _ _ rfl (unhide HA2) und17 rfl (by rw [arr_size]; exact info17)) rfl ?_
      exact ⟨rfl, unhide HK2⟩

end Go.Proofs.Ytjiphechhfifgaa

/-
  The vector of a row; choose.
-/
set_option linter.unusedSimpArgs false
set_option linter.unusedVariables false
namespace Go.Proofs.Ytjiphechhfifgaa
open Go.RowKit Go.Lib

theorem index17 (s : Nat → Int) (k : Nat) (hk : k < 17) (w : World) : (Instr.index 80 (.agg (arr s)) (.int .i64 (k : Nat))).run Try.prog w = .ok (.int .i64 (s k)) w := by
  have e := arr_get s k hk
  have h1 : (k : Int) < 17 := by omega
  simp [Instr.index, run_underlying und17, go_sem, arr_size, e, hk, h1]
  rw [Array.getElem?_eq_getElem (by rw [arr_size]; exact hk)] at e
  exact Option.some.inj e

/-- a row of Dots of one's own -/
def OwD (W : World) (B : Nat) (v : Value) (l : List (Int × Int)) : Prop := W.ownsRow B 56 2 v l.length (flat encI l)
theorem OwD.row {W : World} {B : Nat} {v : Value} {l : List (Int × Int)} (h : OwD W B v l) : RI W v l := RC.of_owns h
theorem OwD.base {W : World} {B B' : Nat} {v : Value} {l : List (Int × Int)} (h : OwD W B v l) (hb : B' ≤ B) : OwD W B' v l := by
  obtain ⟨h1, h2⟩ := h
  refine ⟨h1, h2.imp id ?_⟩
  rintro ⟨g, cap, cur, e1, e2, e3⟩
  exact ⟨g, cap, cur, e1, by omega, e3⟩
theorem OwD.form {W : World} {B : Nat} {v : Value} {l : List (Int × Int)} (h : OwD W B v l) : ∃ a c, v = .slice a l.length c := owns_form h

set_option maxRecDepth 100000 in
set_option maxHeartbeats 1000000 in
theorem vector_in (s : Nat → Int) (w : World) :
    Calls Try.prog 49 #[.agg (arr s)] w fun e W => ∃ v', e = .returned v' ∧ OwD W w.heap.size v' (vec s) ∧ Below w.heap.size w W := by
  go_enter Try.func49, Try.ntmps49
  have HB := hide (Bx.new w 80 (arr s))
  go_wp2_with (refine wpl_load17 und17 info17 rfl _ rfl rfl (unhide HB) ?_)
  go_loopw [3, 7] (fun vv iv wr => ∃ (k : Nat), iv = .int .i64 (k : Nat) ∧ k ≤ 17 ∧ Hid (OwD wr w.heap.size vv (vecN s k)) ∧ Hid (Below w.heap.size w wr)) (fun _ iv _ => 17 - (intOf iv).toNat)
  case atStart => exact ⟨0, rfl, by omega, hide (World.ownsRow_nil _ _ _ _), hide (ballc (Below.refl _ _) _)⟩
  case round =>
    obtain ⟨k, rfl, hk, HO, HK⟩ := hrel
    obtain ⟨av, cv, hv⟩ := (unhide HO).form
    by_cases hlt : k < 17
    · have hlt' : (k : Int) < 17 := by omega
      have hi := fun W => index17 s k hlt W
      have hln : (vecN s k).length ≤ 17 := by have := vecN_len s k; omega
      by_cases hp : 0 < s k
      · obtain ⟨v', w', hr, hown, hgr, hat⟩ := append_dot wr 31 w.heap.size _ (vecN s k) k (s k) (unhide HO) (unhide HK).size (by omega)
        subst hv
        have Hr := hide hr
        have HO2 : Hid (OwD w' w.heap.size v' (vecN s (k + 1))) := by rw [vecN_pos hp]; exact hown
        have HK2 := hide ((ballc (unhide HK) (.cells #[.int .i64 (k : Nat), .int .i64 (s k)] 56)).grown hgr (ballc (unhide HK) _).size (fun j hj => ((unhide HO).lt j hj).1))
        clear hr hown hgr hat
        obtain ⟨av', cv', hv'⟩ := (unhide HO2).form
        subst hv'
        go_wp2_with (at_builtin; refine wpList_append_eq rfl _ _ 31 rfl _ _ _ _ rfl rfl (unhide Hr) ?_)
        go_roundw
        case measure => show 17 - ((k : Int) + 1).toNat < 17 - ((k : Nat) : Int).toNat; omega
        case rel => exact ⟨k + 1, by go_num, by omega, HO2, HK2⟩
      · subst hv
        have HO2 : Hid (OwD wr w.heap.size (.slice av (vecN s k).length cv) (vecN s (k + 1))) := by rw [vecN_neg hp]; exact unhide HO
        go_wp2
        go_roundw
        case measure => show 17 - ((k : Int) + 1).toNat < 17 - ((k : Nat) : Int).toNat; omega
        case rel => exact ⟨k + 1, by go_num, by omega, HO2, HK⟩
    · have hlt' : ¬ (k : Int) < 17 := by omega
      obtain rfl : k = 17 := by omega
      subst hv
      go_wp2
      go_ret
      exact ⟨_, rfl, unhide HO, unhide HK⟩


theorem arr_congr {s t : Nat → Int} (h : ∀ i, i < 17 → s i = t i) : arr s = arr t := by
  unfold arr
  congr 1
  exact List.map_congr_left fun i hi => by rw [h i (List.mem_range.1 hi)]
theorem Bx.setRowO {W : World} {b g : Nat} {t : TypeId} {vs : Array Value} (h : Bx W b t vs) (hg : g ≠ b) (us : Array Value) : Bx (W.setRow g us) b t vs := by
  have e : W.heap[b]? = some (.cells vs t (0, 0)) := h
  unfold Bx World.setRow
  simp [Array.getElem?_modify, e, hg]
/-- so far chosen -/
def mixN (f : Int → Int → Int) (s t : Nat → Int) (k : Nat) : Nat → Int := fun i => if i < k then f (s i) (t i) else s i
theorem mixN_zero (f : Int → Int → Int) (s t : Nat → Int) : mixN f s t 0 = s := by funext i; simp [mixN]
theorem mixN_step (f : Int → Int → Int) (s t : Nat → Int) (k : Nat) : put1 (mixN f s t k) k (f (s k) (t k)) = mixN f s t (k + 1) := by
  funext i
  unfold put1 mixN
  by_cases h : i = k
  · subst h; rw [if_pos rfl, if_pos (by omega)]
  · rw [if_neg h]
    by_cases h2 : i < k
    · rw [if_pos h2, if_pos (by omega)]
    · rw [if_neg h2, if_neg (by omega)]
theorem mixN_at (f : Int → Int → Int) (s t : Nat → Int) (k : Nat) : mixN f s t k k = s k := by simp [mixN]

set_option maxRecDepth 100000 in
set_option maxHeartbeats 2000000 in
theorem choosegreater_in (v u : Value) (l m : List (Int × Int)) (w : World) (h : RI w v l) (k : RI w u m) (hl : l.length ≤ 140737488355328) (hm : m.length ≤ 140737488355328) :
    Calls Try.prog 46 #[v, u, .func (.func 47) #[] #[]] w fun e W => e = .returned (.agg (arr (mrg (sy l) (sy m)))) ∧ Below w.heap.size w W := by
  obtain ⟨a, c, rfl⟩ := h.form
  obtain ⟨a2, c2, rfl⟩ := k.form
  have R1 := hide (fun (o : Obj) => read_in _ l (w.alloc o) (h.below (ballc (Below.refl _ _) o)) hl)
  have K := hide k
  generalize sy l = s at *
  obtain ⟨t, ht⟩ : ∃ t, sy m = t := ⟨_, rfl⟩
  rw [ht]
  replace ht := hide ht
  clear h k
  go_enter Try.func46, Try.ntmps46
  go_wp2_with fail
  refine (unhide R1 _).mono ?_
  rintro e W1 ⟨rfl, hb1⟩
  have A1 : Bx W1 w.heap.size 80 (arr (fun _ => 0)) := (Bx.new w 80 (arr (fun _ => 0))).below hb1
  replace hb1 := bnext (ballc (Below.refl _ w) (.cells (arr (fun _ => 0)) 80)) hb1
  have R2 := hide (read_in _ m W1 ((unhide K).below hb1) hm)
  rw [unhide ht] at R2
  replace A1 := hide A1
  replace hb1 := hide hb1
  go_wp2_with fail
  refine (unhide R2).mono ?_
  rintro e W2 ⟨rfl, hb2⟩
  have A2 := hide ((unhide A1).below hb2)
  have B2 := hide (bnext (unhide hb1) hb2)
  clear R1 R2 A1 hb1 hb2 K
  have hw2 := (unhide A2).lt
  have E1 : Hid (Bx ((W2.alloc (.cells (arr (fun _ => 0)) 80)).alloc (.cells (arr (fun _ => 0)) 80)) W2.heap.size 80 (arr (fun _ => 0))) := (Bx.new W2 _ _).below (ballc (Below.refl _ _) _)
  have E2 : Hid (Bx (((W2.alloc (.cells (arr (fun _ => 0)) 80)).alloc (.cells (arr (fun _ => 0)) 80)).setRow W2.heap.size (arr s)) (W2.heap.size + 1) 80 (arr (fun _ => 0))) := by
    have := Bx.new (W2.alloc (.cells (arr (fun _ => 0)) 80)) 80 (arr (fun _ => 0))
    rw [show (W2.alloc (.cells (arr (fun _ => 0)) 80)).heap.size = W2.heap.size + 1 by simp] at this
    exact this.setRowO (by omega) _
  go_wp2_with (first | refine wpl_store17 info17 rfl _ _ rfl rfl rfl (unhide E1) ?_ | refine wpl_store17 info17 rfl _ _ rfl rfl rfl (unhide E2) ?_)
  go_loopw [14] (fun iv wr => ∃ (k : Nat), iv = .int .i64 (k : Nat) ∧ k ≤ 17 ∧ Hid (Bx wr W2.heap.size 80 (arr (mixN max s t k))) ∧ Hid (Bx wr (W2.heap.size + 1) 80 (arr t)) ∧ Hid (Bx wr w.heap.size 80 (arr (fun _ => 0))) ∧ Hid (Below w.heap.size w wr)) (fun iv _ => 17 - (intOf iv).toNat)
  case atStart =>
    refine ⟨0, rfl, by omega, hide ?_, hide ?_, hide ?_, hide ?_⟩
    · rw [mixN_zero]; exact ((unhide E1).setRow _).setRowO (by omega) _
    · exact (unhide E2).setRow _
    · exact ((((unhide A2).below (ballc (Below.refl _ _) _)).below (ballc (Below.refl _ _) _)).setRowO (by omega) _).setRowO (by omega) _
    · exact below_setRow (below_setRow (ballc (ballc (unhide B2) _) _) _ (by omega) _) _ (by omega) _
  case round =>
    obtain ⟨k, rfl, hk, HS, HT, HA, HK⟩ := hrel
    clear E1 E2 A2 B2
    have hl1 := (unhide HT).lt
    by_cases hlt : k < 17
    · have hlt' : (k : Int) < 17 := by omega
      have c1 := (unhide HS).cell k _ (arr_get _ k hlt)
      have f1 := (unhide HS).frozen k
      have c2 := (unhide HT).cell k _ (arr_get _ k hlt)
      rw [mixN_at] at c1
      have HP := hide (fun W => greater_in (s k) (t k) W)
      go_wp2
      go_region_with (go_at_call 47; refine (unhide HP _).mono ?_; rintro e W9 ⟨rfl, rfl⟩)
      all_goals
        go_wp2
        go_roundw
        case measure => show 17 - ((k : Int) + 1).toNat < 17 - ((k : Nat) : Int).toNat; omega
        case rel =>
          refine ⟨k + 1, by go_num, by omega, hide ?_, hide ?_, hide ?_, hide ?_⟩
          · have e := (unhide HS).set k (.int .i64 (max (s k) (t k)))
            rw [arr_set _ _ _ hlt, mixN_step] at e
            exact e.below (Below.refl _ _).drew
          · exact ((unhide HT).setO ⟨W2.heap.size, k, none⟩ (by simp) _).below (Below.refl _ _).drew
          · exact ((unhide HA).setO ⟨W2.heap.size, k, none⟩ (by show w.heap.size ≠ W2.heap.size; omega) _).below (Below.refl _ _).drew
          · exact (bset (unhide HK) ⟨W2.heap.size, k, none⟩ (by show w.heap.size ≤ W2.heap.size; omega) _).drew
    · have hlt' : ¬ (k : Int) < 17 := by omega
      obtain rfl : k = 17 := by omega
      have e : arr (mixN max s t 17) = arr (mrg s t) := arr_congr fun i hi => by unfold mixN mrg; rw [if_pos hi]
      rw [e] at HS
      have HA2 := hide ((unhide HA).setRow (arr (mrg s t)))
      have HK2 := hide (below_setRow (unhide HK) w.heap.size (Nat.le_refl _) (arr (mrg s t)))
      clear e
      go_wp2_with (first | refine wpl_load17 und17 info17 rfl _ rfl rfl (unhide HS) ?_ | refine wpl_store17 info17 rfl _ _ rfl rfl rfl (unhide HA) ?_)
      refine bodyPost_ret (results_cell_row rfl _ _ w.heap.size _ _ _ _ rfl (unhide HA2) und17 rfl (by rw [arr_size]; exact info17)) rfl ?_
      exact ⟨rfl, unhide HK2⟩

set_option maxRecDepth 100000 in
set_option maxHeartbeats 2000000 in
theorem chooselesser_in (v u : Value) (l m : List (Int × Int)) (w : World) (h : RI w v l) (k : RI w u m) (hl : l.length ≤ 140737488355328) (hm : m.length ≤ 140737488355328) :
    Calls Try.prog 46 #[v, u, .func (.func 61) #[] #[]] w fun e W => e = .returned (.agg (arr (lst (sy l) (sy m)))) ∧ Below w.heap.size w W := by
  obtain ⟨a, c, rfl⟩ := h.form
  obtain ⟨a2, c2, rfl⟩ := k.form
  have R1 := hide (fun (o : Obj) => read_in _ l (w.alloc o) (h.below (ballc (Below.refl _ _) o)) hl)
  have K := hide k
  generalize sy l = s at *
  obtain ⟨t, ht⟩ : ∃ t, sy m = t := ⟨_, rfl⟩
  rw [ht]
  replace ht := hide ht
  clear h k
  go_enter Try.func46, Try.ntmps46
  go_wp2_with fail
  refine (unhide R1 _).mono ?_
  rintro e W1 ⟨rfl, hb1⟩
  have A1 : Bx W1 w.heap.size 80 (arr (fun _ => 0)) := (Bx.new w 80 (arr (fun _ => 0))).below hb1
  replace hb1 := bnext (ballc (Below.refl _ w) (.cells (arr (fun _ => 0)) 80)) hb1
  have R2 := hide (read_in _ m W1 ((unhide K).below hb1) hm)
  rw [unhide ht] at R2
  replace A1 := hide A1
  replace hb1 := hide hb1
  go_wp2_with fail
  refine (unhide R2).mono ?_
  rintro e W2 ⟨rfl, hb2⟩
  have A2 := hide ((unhide A1).below hb2)
  have B2 := hide (bnext (unhide hb1) hb2)
  clear R1 R2 A1 hb1 hb2 K
  have hw2 := (unhide A2).lt
  have E1 : Hid (Bx ((W2.alloc (.cells (arr (fun _ => 0)) 80)).alloc (.cells (arr (fun _ => 0)) 80)) W2.heap.size 80 (arr (fun _ => 0))) := (Bx.new W2 _ _).below (ballc (Below.refl _ _) _)
  have E2 : Hid (Bx (((W2.alloc (.cells (arr (fun _ => 0)) 80)).alloc (.cells (arr (fun _ => 0)) 80)).setRow W2.heap.size (arr s)) (W2.heap.size + 1) 80 (arr (fun _ => 0))) := by
    have := Bx.new (W2.alloc (.cells (arr (fun _ => 0)) 80)) 80 (arr (fun _ => 0))
    rw [show (W2.alloc (.cells (arr (fun _ => 0)) 80)).heap.size = W2.heap.size + 1 by simp] at this
    exact this.setRowO (by omega) _
  go_wp2_with (first | refine wpl_store17 info17 rfl _ _ rfl rfl rfl (unhide E1) ?_ | refine wpl_store17 info17 rfl _ _ rfl rfl rfl (unhide E2) ?_)
  go_loopw [14] (fun iv wr => ∃ (k : Nat), iv = .int .i64 (k : Nat) ∧ k ≤ 17 ∧ Hid (Bx wr W2.heap.size 80 (arr (mixN min s t k))) ∧ Hid (Bx wr (W2.heap.size + 1) 80 (arr t)) ∧ Hid (Bx wr w.heap.size 80 (arr (fun _ => 0))) ∧ Hid (Below w.heap.size w wr)) (fun iv _ => 17 - (intOf iv).toNat)
  case atStart =>
    refine ⟨0, rfl, by omega, hide ?_, hide ?_, hide ?_, hide ?_⟩
    · rw [mixN_zero]; exact ((unhide E1).setRow _).setRowO (by omega) _
    · exact (unhide E2).setRow _
    · exact ((((unhide A2).below (ballc (Below.refl _ _) _)).below (ballc (Below.refl _ _) _)).setRowO (by omega) _).setRowO (by omega) _
    · exact below_setRow (below_setRow (ballc (ballc (unhide B2) _) _) _ (by omega) _) _ (by omega) _
  case round =>
    obtain ⟨k, rfl, hk, HS, HT, HA, HK⟩ := hrel
    clear E1 E2 A2 B2
    have hl1 := (unhide HT).lt
    by_cases hlt : k < 17
    · have hlt' : (k : Int) < 17 := by omega
      have c1 := (unhide HS).cell k _ (arr_get _ k hlt)
      have f1 := (unhide HS).frozen k
      have c2 := (unhide HT).cell k _ (arr_get _ k hlt)
      rw [mixN_at] at c1
      have HP := hide (fun W => lesser_in (s k) (t k) W)
      go_wp2
      go_region_with (go_at_call 61; refine (unhide HP _).mono ?_; rintro e W9 ⟨rfl, rfl⟩)
      all_goals
        go_wp2
        go_roundw
        case measure => show 17 - ((k : Int) + 1).toNat < 17 - ((k : Nat) : Int).toNat; omega
        case rel =>
          refine ⟨k + 1, by go_num, by omega, hide ?_, hide ?_, hide ?_, hide ?_⟩
          · have e := (unhide HS).set k (.int .i64 (min (s k) (t k)))
            rw [arr_set _ _ _ hlt, mixN_step] at e
            exact e.below (Below.refl _ _).drew
          · exact ((unhide HT).setO ⟨W2.heap.size, k, none⟩ (by simp) _).below (Below.refl _ _).drew
          · exact ((unhide HA).setO ⟨W2.heap.size, k, none⟩ (by show w.heap.size ≠ W2.heap.size; omega) _).below (Below.refl _ _).drew
          · exact (bset (unhide HK) ⟨W2.heap.size, k, none⟩ (by show w.heap.size ≤ W2.heap.size; omega) _).drew
    · have hlt' : ¬ (k : Int) < 17 := by omega
      obtain rfl : k = 17 := by omega
      have e : arr (mixN min s t 17) = arr (lst s t) := arr_congr fun i hi => by unfold mixN lst; rw [if_pos hi]
      rw [e] at HS
      have HA2 := hide ((unhide HA).setRow (arr (lst s t)))
      have HK2 := hide (below_setRow (unhide HK) w.heap.size (Nat.le_refl _) (arr (lst s t)))
      clear e
      go_wp2_with (first | refine wpl_load17 und17 info17 rfl _ rfl rfl (unhide HS) ?_ | refine wpl_store17 info17 rfl _ _ rfl rfl rfl (unhide HA) ?_)
      refine bodyPost_ret (results_cell_row rfl _ _ w.heap.size _ _ _ _ rfl (unhide HA2) und17 rfl (by rw [arr_size]; exact info17)) rfl ?_
      exact ⟨rfl, unhide HK2⟩

end Go.Proofs.Ytjiphechhfifgaa

/-
  Check, Get, Has, Covers, Merge, Least, Sum, Add.
-/
set_option linter.unusedSimpArgs false
set_option linter.unusedVariables false
namespace Go.Proofs.Ytjiphechhfifgaa
open Go.RowKit Go.Lib

theorem drop_at {α : Type} {l : List α} {i : Nat} {x : α} (h : l[i]? = some x) : l.drop i = x :: l.drop (i + 1) := by
  have hil := (List.getElem?_eq_some_iff.1 h).1
  rw [List.drop_eq_getElem_cons hil]
  congr 1
  rw [List.getElem?_eq_getElem hil] at h
  simpa using h

set_option maxRecDepth 100000 in
set_option maxHeartbeats 1000000 in
theorem Check_in (v : Value) (l : List (Int × Int)) (w : World) (h : RI w v l) (hl : l.length ≤ 140737488355328) :
    Calls Try.prog 30 #[v] w fun e W => e = .returned (.int .i64 (chk l)) ∧ Below w.heap.size w W := by
  obtain ⟨a, c, rfl⟩ := h.form
  have H := hide h
  clear h
  obtain ⟨n, hn⟩ : ∃ n, l.length = n := ⟨_, rfl⟩
  rw [hn] at hl H ⊢
  have Hn := hide hn
  clear hn
  obtain ⟨E, hE⟩ : ∃ E, chk l = E := ⟨_, rfl⟩
  rw [hE]
  have HE := hide hE
  clear hE
  go_enter Try.func30, Try.ntmps30
  go_wp2
  go_loopw [3, 8] (fun av iv wr => ∃ (ah : Int) (i : Nat), av = .int .i64 ah ∧ iv = .int .i64 (i : Nat) ∧ i ≤ n ∧ Hid (chkF ah (l.drop i) = E) ∧ Hid (Below w.heap.size w wr)) (fun _ iv _ => n - (intOf iv).toNat)
  case atStart => exact ⟨0, 0, rfl, rfl, by omega, hide (unhide HE), hide (Below.refl _ _)⟩
  case round =>
    obtain ⟨ah, i, rfl, rfl, hin, HC, HK⟩ := hrel
    by_cases hlt : i < n
    · have hlt' : (i : Int) < (n : Int) := by omega
      obtain ⟨x, hx⟩ : ∃ x, l[i]? = some x := ⟨_, List.getElem?_eq_getElem (by have := unhide Hn; omega)⟩
      obtain ⟨b, off, rfl, hb, q0, q1⟩ := (RI.below (unhide H) (unhide HK)).at hx
      rw [drop_at hx] at HC
      clear hx
      obtain ⟨x0, x1⟩ := x
      have HT := hide (fun W => isSite_in x0 W)
      have HQ := hide (fun W => isSeq_in x1 W)
      simp only at q0 q1
      by_cases hT : isT x0 = true
      · have kT : 1 ≤ x0 ∧ x0 ≤ 16 := by unfold isT at hT; simpa using hT
        rw [hT] at HT
        by_cases hQ : isQ x1 = true
        · have kQ : 1 ≤ x1 ∧ x1 ≤ 2147483647 := by unfold isQ at hQ; simpa using hQ
          rw [hQ] at HQ
          by_cases ho : x0 ≤ ah
          · have he : Hid (E = 9) := by
              rw [← unhide HC, chkF, if_neg (by simpa using kT), if_neg (by simpa using kQ), if_pos ho]; exact rfl
            clear kT kQ hT hQ
            go_wp2_with (first | (go_at_call 44; refine (unhide HT _).mono ?_; rintro e W1 ⟨rfl, rfl⟩) | (go_at_call 45; refine (unhide HQ _).mono ?_; rintro e W1 ⟨rfl, rfl⟩))
            go_ret
            exact ⟨by rw [unhide he]; rfl, ballc (unhide HK) _⟩
          · have HC2 : Hid (chkF x0 (l.drop (i + 1)) = E) := by
              rw [← unhide HC, chkF, if_neg (by simpa using kT), if_neg (by simpa using kQ), if_neg ho]; exact rfl
            clear kT kQ hT hQ
            go_wp2_with (first | (go_at_call 44; refine (unhide HT _).mono ?_; rintro e W1 ⟨rfl, rfl⟩) | (go_at_call 45; refine (unhide HQ _).mono ?_; rintro e W1 ⟨rfl, rfl⟩))
            go_roundw
            case measure => show n - ((i : Int) + 1).toNat < n - ((i : Nat) : Int).toNat; omega
            case rel => exact ⟨x0, i + 1, rfl, by go_num, by omega, HC2, hide (ballc (unhide HK) _)⟩
        · have kQ : ¬ (1 ≤ x1 ∧ x1 ≤ 2147483647) := by unfold isQ at hQ; simpa using hQ
          rw [show isQ x1 = false by simpa using hQ] at HQ
          have he : Hid (E = 6) := by
            rw [← unhide HC, chkF, if_neg (by simpa using kT), if_pos (by simpa using kQ)]; exact rfl
          clear kT kQ hT hQ
          go_wp2_with (first | (go_at_call 44; refine (unhide HT _).mono ?_; rintro e W1 ⟨rfl, rfl⟩) | (go_at_call 45; refine (unhide HQ _).mono ?_; rintro e W1 ⟨rfl, rfl⟩))
          go_ret
          exact ⟨by rw [unhide he]; rfl, ballc (unhide HK) _⟩
      · have kT : ¬ (1 ≤ x0 ∧ x0 ≤ 16) := by unfold isT at hT; simpa using hT
        rw [show isT x0 = false by simpa using hT] at HT
        have he : Hid (E = 1) := by
          rw [← unhide HC, chkF, if_pos (by simpa using kT)]; exact rfl
        clear kT hT
        go_wp2_with (first | (go_at_call 44; refine (unhide HT _).mono ?_; rintro e W1 ⟨rfl, rfl⟩) | (go_at_call 45; refine (unhide HQ _).mono ?_; rintro e W1 ⟨rfl, rfl⟩))
        go_ret
        exact ⟨by rw [unhide he]; rfl, ballc (unhide HK) _⟩
    · have hlt' : ¬ (i : Int) < (n : Int) := by omega
      have he : Hid (E = 0) := by
        rw [← unhide HC, List.drop_eq_nil_of_le (by have := unhide Hn; omega), chkF]; exact rfl
      go_wp2
      go_ret
      exact ⟨by rw [unhide he]; rfl, unhide HK⟩

set_option maxRecDepth 100000 in
theorem Covers_in (v u : Value) (l m : List (Int × Int)) (w : World) (h : RI w v l) (k : RI w u m) (hl : l.length ≤ 140737488355328) (hm : m.length ≤ 140737488355328) :
    Calls Try.prog 31 #[v, u] w fun e W => e = .returned (.bool (cov (sy l) (sy m))) ∧ Below w.heap.size w W := by
  have HC := hide (choosegreater_in v u l m w h k hl hm)
  have hq := fun W => eqA (mrg (sy l) (sy m)) (sy l) W
  have e : ((List.range 17).all fun i => mrg (sy l) (sy m) i == sy l i) = cov (sy l) (sy m) := by
    unfold cov mrg
    congr 1
    funext i
    rw [Bool.eq_iff_iff]
    simp
    omega
  rw [e] at hq
  clear e
  obtain ⟨a, c, rfl⟩ := h.form
  obtain ⟨a2, c2, rfl⟩ := k.form
  have H := hide h
  clear h k
  generalize cov (sy l) (sy m) = R at *
  obtain ⟨s, hs⟩ : ∃ s, sy l = s := ⟨_, rfl⟩
  rw [hs] at hq HC
  replace hs := hide hs
  go_enter Try.func31, Try.ntmps31
  go_wp2_with fail
  refine (unhide HC).mono ?_
  rintro e W1 ⟨rfl, hb1⟩
  have HR := hide (read_in _ l W1 ((unhide H).below hb1) hl)
  rw [unhide hs] at HR
  replace hb1 := hide hb1
  go_wp2_with fail
  refine (unhide HR).mono ?_
  rintro e W2 ⟨rfl, hb2⟩
  replace hb2 := hide hb2
  go_wp2
  go_ret
  exact ⟨rfl, bnext (unhide hb1) (unhide hb2)⟩

set_option maxRecDepth 100000 in
theorem Merge_in (v u : Value) (l m : List (Int × Int)) (w : World) (h : RI w v l) (k : RI w u m) (hl : l.length ≤ 140737488355328) (hm : m.length ≤ 140737488355328) :
    Calls Try.prog 36 #[v, u] w fun e W => ∃ v', e = .returned v' ∧ OwD W w.heap.size v' (vec (mrg (sy l) (sy m))) ∧ Below w.heap.size w W := by
  have HC := hide (choosegreater_in v u l m w h k hl hm)
  obtain ⟨a, c, rfl⟩ := h.form
  obtain ⟨a2, c2, rfl⟩ := k.form
  clear h k
  generalize mrg (sy l) (sy m) = s at *
  have HV := hide (fun W => vector_in s W)
  go_enter Try.func36, Try.ntmps36
  go_wp2_with fail
  refine (unhide HC).mono ?_
  rintro e W1 ⟨rfl, hb1⟩
  replace hb1 := hide hb1
  go_wp2_with fail
  refine (unhide HV _).mono ?_
  rintro e W2 ⟨v', rfl, ho, hb2⟩
  obtain ⟨av, cv, rfl⟩ := ho.form
  have HO := hide (show OwD W2 w.heap.size _ _ from ho.base (unhide hb1).size)
  replace hb2 := hide hb2
  clear ho
  go_wp2
  go_ret
  exact ⟨_, rfl, unhide HO, bnext (unhide hb1) (unhide hb2)⟩
set_option maxRecDepth 100000 in
theorem Least_in (v u : Value) (l m : List (Int × Int)) (w : World) (h : RI w v l) (k : RI w u m) (hl : l.length ≤ 140737488355328) (hm : m.length ≤ 140737488355328) :
    Calls Try.prog 55 #[v, u] w fun e W => ∃ v', e = .returned v' ∧ OwD W w.heap.size v' (vec (lst (sy l) (sy m))) ∧ Below w.heap.size w W := by
  have HC := hide (chooselesser_in v u l m w h k hl hm)
  obtain ⟨a, c, rfl⟩ := h.form
  obtain ⟨a2, c2, rfl⟩ := k.form
  clear h k
  generalize lst (sy l) (sy m) = s at *
  have HV := hide (fun W => vector_in s W)
  go_enter Try.func55, Try.ntmps55
  go_wp2_with fail
  refine (unhide HC).mono ?_
  rintro e W1 ⟨rfl, hb1⟩
  replace hb1 := hide hb1
  go_wp2_with fail
  refine (unhide HV _).mono ?_
  rintro e W2 ⟨v', rfl, ho, hb2⟩
  obtain ⟨av, cv, rfl⟩ := ho.form
  have HO := hide (show OwD W2 w.heap.size _ _ from ho.base (unhide hb1).size)
  replace hb2 := hide hb2
  clear ho
  go_wp2
  go_ret
  exact ⟨_, rfl, unhide HO, bnext (unhide hb1) (unhide hb2)⟩

end Go.Proofs.Ytjiphechhfifgaa
