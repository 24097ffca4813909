/-
  isSite, isSeq, greater, lesser, read.
-/
import Derived.Test.YtfkdpkckbmbmdaaGreatZXV0
import Derived.Deep.WholeRow
set_option linter.unusedSimpArgs false
set_option linter.unusedVariables false
namespace Go.Proofs.YtfkdpkckbmbmdaaGreat
open Go.RowKit Go.Lib

def isT (n : Int) : Bool := decide (1 ≤ n ∧ n ≤ 16)
def isQ (n : Int) : Bool := decide (1 ≤ n ∧ n ≤ 2147483647)
theorem okD_parts (d : Int × Int) : okD d = (isT d.1 && isQ d.2) := by
  rw [Bool.eq_iff_iff, okD_iff]
  unfold isT isQ
  simp

set_option maxRecDepth 100000 in
theorem isSite_in (n : Int) (w : World) : Calls Tryz.prog 74 #[.int .i64 n] w fun e W => e = .returned (.bool (isT n)) ∧ w = W := by
  obtain ⟨R, hR⟩ : ∃ R, isT n = R := ⟨_, rfl⟩
  rw [hR]
  unfold isT at hR
  by_cases h1 : 1 ≤ n
  · by_cases h2 : n ≤ 16
    · obtain rfl : true = R := by rw [← hR]; simp [h1, h2]
      clear hR
      go_enter Tryz.func74, Tryz.ntmps74
      go_wp2
      go_ret
      exact ⟨rfl, rfl⟩
    · obtain rfl : false = R := by rw [← hR]; simp [h1, h2]
      clear hR
      go_enter Tryz.func74, Tryz.ntmps74
      go_wp2
      go_ret
      exact ⟨rfl, rfl⟩
  · obtain rfl : false = R := by rw [← hR]; simp [h1]
    clear hR
    go_enter Tryz.func74, Tryz.ntmps74
    go_wp2
    go_ret
    exact ⟨rfl, rfl⟩
set_option maxRecDepth 100000 in
theorem isSeq_in (n : Int) (w : World) : Calls Tryz.prog 75 #[.int .i64 n] w fun e W => e = .returned (.bool (isQ n)) ∧ w = W := by
  obtain ⟨R, hR⟩ : ∃ R, isQ n = R := ⟨_, rfl⟩
  rw [hR]
  unfold isQ at hR
  by_cases h1 : 1 ≤ n
  · by_cases h2 : n ≤ 2147483647
    · obtain rfl : true = R := by rw [← hR]; simp [h1, h2]
      clear hR
      go_enter Tryz.func75, Tryz.ntmps75
      go_wp2
      go_ret
      exact ⟨rfl, rfl⟩
    · obtain rfl : false = R := by rw [← hR]; simp [h1, h2]
      clear hR
      go_enter Tryz.func75, Tryz.ntmps75
      go_wp2
      go_ret
      exact ⟨rfl, rfl⟩
  · obtain rfl : false = R := by rw [← hR]; simp [h1]
    clear hR
    go_enter Tryz.func75, Tryz.ntmps75
    go_wp2
    go_ret
    exact ⟨rfl, rfl⟩

theorem und17 : Tryz.prog.underlying 130 = some (.array 17 3) := Tryz.underlying130
theorem info17 : (Tryz.prog.info? 130).map (·.size) = some 17 := by kernel_rfl
theorem arr_one (s : Nat → Int) : (arr s).all (·.oneCell') = true := by
  rw [Array.all_eq_true]
  intro i hi
  rw [arr_size] at hi
  have e := arr_get s i hi
  rw [Array.getElem?_eq_getElem (by rw [arr_size]; exact hi)] at e
  rw [Option.some.inj e]
  rfl
/-- seventeen numbers, out of a variable and into one -/
theorem wpl_load17 {w : World} {ops : Array Oper} {rest : List Oper} {o : Oper} {a : Act} {Q : Exit → Act → World → Prop} {ty : TypeId} (hu : Tryz.prog.underlying ty = some (.array 17 3)) (hi : (Tryz.prog.info? ty).map (·.size) = some 17) (hgd : o.guard = none) (x : Operand) (ho : o.op = .load ty x)
    {g : Nat} (hx : a.eval x = .pointer (some ⟨g, 0, none⟩)) {t : TypeId} {s : Nat → Int} (hg : Bx w g t (arr s)) (h : wpList Tryz.prog ops Q rest (a.put o.dst (.agg (arr s))) w) : wpList Tryz.prog ops Q (o :: rest) a w :=
  wpList_load_row hgd ty x ho g hx t (arr s) (0, 0) _ hg hu rfl (by rw [arr_size]; exact hi) h
theorem wpl_store17 {w : World} {ops : Array Oper} {rest : List Oper} {o : Oper} {a : Act} {Q : Exit → Act → World → Prop} {ty : TypeId} (hi : (Tryz.prog.info? ty).map (·.size) = some 17) (hgd : o.guard = none) (x y : Operand) (ho : o.op = .store ty x y)
    {g : Nat} (hx : a.eval x = .pointer (some ⟨g, 0, none⟩)) {r : Nat → Int} (hy : a.eval y = .agg (arr r)) {t : TypeId} {s : Nat → Int} (hg : Bx w g t (arr s)) (h : wpList Tryz.prog ops Q rest (a.put o.dst undef) (w.setRow g (arr r))) : wpList Tryz.prog ops Q (o :: rest) a w :=
  wpList_store_row hgd ty x y ho g (arr r) hx hy t (arr s) hg (by rw [arr_size]; exact hi) (by rw [arr_size, arr_size]) (arr_one r) h
theorem Bx.setRow {W : World} {b : Nat} {t : TypeId} {vs : Array Value} (h : Bx W b t vs) (us : Array Value) : Bx (W.setRow b us) b t us := by
  have e : W.heap[b]? = some (.cells vs t (0, 0)) := h
  unfold Bx World.setRow
  simp [Array.getElem?_modify, e]
theorem below_setRow {w W : World} (h : Below w.heap.size w W) (b : Nat) (hb : w.heap.size ≤ b) (us : Array Value) : Below w.heap.size w (W.setRow b us) := by
  refine ⟨h.os, h.tape, h.output, ?_, fun k hk => ?_⟩
  · have := h.size; simpa [World.setRow] using this
  · rw [← h.block k hk]
    simp only [World.setRow]
    rw [Array.getElem?_modify, if_neg (by omega)]

set_option maxRecDepth 100000 in
set_option maxHeartbeats 1000000 in
theorem read_in (v : Value) (l : List (Int × Int)) (w : World) (h : RI w v l) (hl : l.length ≤ 140737488355328) :
    Calls Tryz.prog 68 #[v] w fun e W => e = .returned (.agg (arr (sy l))) ∧ Below w.heap.size w W := by
  obtain ⟨a, c, rfl⟩ := h.form
  have H := hide h
  clear h
  obtain ⟨n, hn⟩ : ∃ n, l.length = n := ⟨_, rfl⟩
  rw [hn] at hl H ⊢
  have Hn := hide hn
  clear hn
  obtain ⟨s, hs⟩ : ∃ s, sy l = s := ⟨_, rfl⟩
  rw [hs]
  have HS := hide hs
  clear hs
  go_enter Tryz.func68, Tryz.ntmps68
  go_wp2
  go_loopw [8] (fun iv wr => ∃ (i : Nat), iv = .int .i64 (i : Nat) ∧ i ≤ n ∧ Hid (Bx wr (w.heap.size + 1) 130 (arr (sy (l.take i)))) ∧ Hid (Bx wr w.heap.size 130 (arr (fun _ => 0))) ∧ Hid (Below w.heap.size w wr)) (fun iv _ => n - (intOf iv).toNat)
  case atStart =>
    refine ⟨0, rfl, by omega, hide ?_, hide ?_, hide (ballc (ballc (Below.refl _ _) _) _)⟩
    · have := Bx.new (w.alloc (.cells (arr (fun _ => 0)) 130)) 130 (arr (fun _ => 0))
      rw [show (w.alloc (.cells (arr (fun _ => 0)) 130)).heap.size = w.heap.size + 1 by simp] at this
      exact this
    · exact (Bx.new w 130 (arr (fun _ => 0))).below (ballc (Below.refl _ _) _)
  case round =>
    obtain ⟨i, rfl, hin, HB, HA, HK⟩ := hrel
    by_cases hlt : i < n
    · have hlt' : (i : Int) < (n : Int) := by omega
      obtain ⟨x, hx⟩ : ∃ x, l[i]? = some x := ⟨_, List.getElem?_eq_getElem (by have := unhide Hn; omega)⟩
      obtain ⟨b, off, rfl, hb, q0, q1⟩ := (RI.below (unhide H) (unhide HK)).at hx
      have HN := hide (show sy (l.take (i + 1)) = syF (sy (l.take i)) x by rw [List.take_add_one, hx]; exact sy_snoc _ _)
      clear hx
      obtain ⟨x0, x1⟩ := x
      have hbd := (unhide HB).lt
      have hbd0 : w.heap.size < wr.heap.size := by omega
      have HT := hide (fun W => isSite_in x0 W)
      have HQ := hide (fun W => isSeq_in x1 W)
      simp only at q0 q1
      generalize sy (l.take i) = t at *
      by_cases hT : isT x0 = true
      · rw [hT] at HT
        by_cases hQ : isQ x1 = true
        · rw [hQ] at HQ
          obtain ⟨k, rfl⟩ : ∃ k : Nat, x0 = (k : Int) := ⟨x0.toNat, by unfold isT at hT; simp at hT; omega⟩
          have hk : k ≤ 16 := by unfold isT at hT; simp at hT; omega
          have hk' : (k : Int) < 17 := by omega
          have cA := (unhide HB).cell k _ (arr_get t k (by omega))
          have fA := (unhide HB).frozen k
          have HOK := hide (show okD ((k : Int), x1) = true by rw [okD_parts]; show (isT (k : Int) && isQ x1) = true; rw [hT, hQ]; rfl)
          clear hT hQ
          go_wp2_with (first | (go_at_call 74; refine (unhide HT _).mono ?_; rintro e W1 ⟨rfl, rfl⟩) | (go_at_call 75; refine (unhide HQ _).mono ?_; rintro e W1 ⟨rfl, rfl⟩))
          by_cases hm : t k < x1
          · go_region
            go_wp2
            go_roundw
            case measure => show n - ((i : Int) + 1).toNat < n - ((i : Nat) : Int).toNat; omega
            case rel =>
              refine ⟨i + 1, by go_num, by omega, hide ?_, hide ?_, hide (show Below w.heap.size w (World.drew _) from (ballc (bset (unhide HK) ⟨w.heap.size + 1, k, none⟩ (by show w.heap.size ≤ w.heap.size + 1; omega) _) _).drew)⟩
              · rw [unhide HN, syF, if_pos (unhide HOK)]
                have e := (unhide HB).set k (.int .i64 x1)
                rw [arr_set _ _ _ (by omega)] at e
                show Bx _ _ _ (arr (put1 t (k : Int).toNat (max (t (k : Int).toNat) x1)))
                rw [Int.toNat_natCast, show max (t k) x1 = x1 by omega]
                exact e.below (ballc (Below.refl _ _) _).drew
              · exact ((unhide HA).setO ⟨w.heap.size + 1, k, none⟩ (by simp) _).below (ballc (Below.refl _ _) _).drew
          · have hm2 : x1 ≤ t k := by omega
            go_region
            go_wp2
            go_roundw
            case measure => show n - ((i : Int) + 1).toNat < n - ((i : Nat) : Int).toNat; omega
            case rel =>
              refine ⟨i + 1, by go_num, by omega, hide ?_, hide ?_, hide (show Below w.heap.size w (World.drew _) from (ballc (bset (unhide HK) ⟨w.heap.size + 1, k, none⟩ (by show w.heap.size ≤ w.heap.size + 1; omega) _) _).drew)⟩
              · rw [unhide HN, syF, if_pos (unhide HOK)]
                have e := (unhide HB).set k (.int .i64 (t k))
                rw [arr_set _ _ _ (by omega)] at e
                show Bx _ _ _ (arr (put1 t (k : Int).toNat (max (t (k : Int).toNat) x1)))
                rw [Int.toNat_natCast, show max (t k) x1 = t k by omega]
                exact e.below (ballc (Below.refl _ _) _).drew
              · exact ((unhide HA).setO ⟨w.heap.size + 1, k, none⟩ (by simp) _).below (ballc (Below.refl _ _) _).drew
        · have hQ' : isQ x1 = false := by simpa using hQ
          rw [hQ'] at HQ
          have HOK := hide (show okD (x0, x1) = false by rw [okD_parts]; show (isT x0 && isQ x1) = false; rw [hT, hQ']; rfl)
          clear hT hQ hQ'
          go_wp2_with (first | (go_at_call 74; refine (unhide HT _).mono ?_; rintro e W1 ⟨rfl, rfl⟩) | (go_at_call 75; refine (unhide HQ _).mono ?_; rintro e W1 ⟨rfl, rfl⟩))
          go_roundw
          case measure => show n - ((i : Int) + 1).toNat < n - ((i : Nat) : Int).toNat; omega
          case rel =>
            refine ⟨i + 1, by go_num, by omega, hide ?_, hide ((unhide HA).below (ballc (Below.refl _ wr) _)), hide (ballc (unhide HK) _)⟩
            rw [unhide HN, syF, if_neg (by rw [unhide HOK]; decide)]
            exact (unhide HB).below (ballc (Below.refl _ wr) _)
      · have hT' : isT x0 = false := by simpa using hT
        rw [hT'] at HT
        have HOK := hide (show okD (x0, x1) = false by rw [okD_parts]; show (isT x0 && isQ x1) = false; rw [hT']; rfl)
        clear hT hT'
        go_wp2_with (first | (go_at_call 74; refine (unhide HT _).mono ?_; rintro e W1 ⟨rfl, rfl⟩) | (go_at_call 75; refine (unhide HQ _).mono ?_; rintro e W1 ⟨rfl, rfl⟩))
        go_roundw
        case measure => show n - ((i : Int) + 1).toNat < n - ((i : Nat) : Int).toNat; omega
        case rel =>
          refine ⟨i + 1, by go_num, by omega, hide ?_, hide ((unhide HA).below (ballc (Below.refl _ wr) _)), hide (ballc (unhide HK) _)⟩
          rw [unhide HN, syF, if_neg (by rw [unhide HOK]; decide)]
          exact (unhide HB).below (ballc (Below.refl _ wr) _)
    · have hlt' : ¬ (i : Int) < (n : Int) := by omega
      have Hs : Hid (sy (l.take i) = s) := by rw [← unhide HS, List.take_of_length_le (by have := unhide Hn; omega)]; exact rfl
      rw [unhide Hs] at HB
      have HA2 := hide ((unhide HA).setRow (arr s))
      have HK2 := hide (below_setRow (unhide HK) w.heap.size (Nat.le_refl _) (arr s))
      go_wp2_with (first | refine wpl_load17 und17 info17 rfl _ rfl rfl (unhide HB) ?_ | refine wpl_store17 info17 rfl _ _ rfl rfl rfl (unhide HA) ?_)
      refine bodyPost_ret (results_cell_row rfl _ _ w.heap.size _ _ _ _ rfl (unhide HA2) und17 rfl (by rw [arr_size]; exact info17)) rfl ?_
      exact ⟨rfl, unhide HK2⟩

end Go.Proofs.YtfkdpkckbmbmdaaGreat
