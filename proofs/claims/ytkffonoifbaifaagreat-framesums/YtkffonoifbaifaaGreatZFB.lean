/-
  The program's sum: shifted, halves, Sum; the document's; rows of bytes compared.
-/
import Derived.Test.YtkffonoifbaifaaGreatZFA
import Derived.Test.YtkffonoifbaifaaGreatZXV2
set_option linter.unusedSimpArgs false
set_option linter.unusedVariables false
namespace Go.Proofs.YtkffonoifbaifaaGreat
open Go.RowKit Go.Lib

set_option maxRecDepth 100000 in
theorem shifted_in (m : Wd) (w : World) : Calls Tryz.prog 24 #[.int .u32 (uI m)] w fun e W => e = .returned (.int .u32 (uI (sh m))) ∧ w = W := by
  have e1 : bits .and .u32 (uI m) 1 = if m.getLsbD 0 then 1 else 0 := by rw [← u_odd]; exact u_and m 1#32
  have e2 : uI m / (2 : Int) = uI (m >>> (1 : Nat)) := by have := uI_shrN m 1; simpa using this
  cases h : m.getLsbD 0 with
  | true =>
    rw [h, if_pos rfl] at e1
    rw [sh_one h]
    have e3 : bits .xor .u32 (uI (m >>> 1)) 3988292384 = uI ((m >>> 1) ^^^ poly) := u_xor (m >>> 1) poly
    clear h
    generalize uI ((m >>> 1) ^^^ poly) = R at *
    generalize uI (m >>> 1) = q at *
    generalize uI m = p at *
    go_enter Tryz.func24, Tryz.ntmps24
    go_wp2
    go_ret
    exact ⟨rfl, rfl⟩
  | false =>
    rw [h, if_neg (by decide)] at e1
    rw [sh_zero h]
    clear h
    generalize uI (m >>> 1) = q at *
    generalize uI m = p at *
    go_enter Tryz.func24, Tryz.ntmps24
    go_wp2
    go_ret
    exact ⟨rfl, rfl⟩

def arrW (s : Nat → Wd) : Array Value := ((List.range 16).map fun i => Value.int .u32 (uI (s i))).toArray
theorem arrW_size (s : Nat → Wd) : (arrW s).size = 16 := by simp [arrW]
theorem arrW_get (s : Nat → Wd) (i : Nat) (h : i < 16) : (arrW s)[i]? = some (.int .u32 (uI (s i))) := by simp [arrW, h]
theorem arrW_ext {s t : Nat → Wd} (h : ∀ i, i < 16 → s i = t i) : arrW s = arrW t := by
  apply Array.ext_getElem?
  intro i
  by_cases hi : i < 16
  · rw [arrW_get s i hi, arrW_get t i hi, h i hi]
  · rw [Array.getElem?_eq_none (by rw [arrW_size]; omega), Array.getElem?_eq_none (by rw [arrW_size]; omega)]
theorem arrW_set (s : Nat → Wd) (i : Nat) (x : Wd) (h : i < 16) : (arrW s).setIfInBounds i (.int .u32 (uI x)) = arrW (fun j => if j = i then x else s j) := by
  apply Array.ext_getElem?
  intro j
  rw [Array.getElem?_setIfInBounds, arrW_size]
  by_cases e : i = j
  · subst e; rw [if_pos rfl, if_pos h, arrW_get _ i h, if_pos rfl]
  · rw [if_neg e]
    by_cases hj : j < 16
    · rw [arrW_get s j hj, arrW_get _ j hj, if_neg (by omega)]
    · rw [Array.getElem?_eq_none (by rw [arrW_size]; omega), Array.getElem?_eq_none (by rw [arrW_size]; omega)]
theorem arrW_zero : arrW (fun _ => 0#32) = #[.int .u32 0, .int .u32 0, .int .u32 0, .int .u32 0, .int .u32 0, .int .u32 0, .int .u32 0, .int .u32 0, .int .u32 0, .int .u32 0, .int .u32 0, .int .u32 0, .int .u32 0, .int .u32 0, .int .u32 0, .int .u32 0] := rfl
theorem arrW_one (s : Nat → Wd) : (arrW s).all (·.oneCell') = true := by
  rw [Array.all_eq_true]
  intro i hi
  rw [arrW_size] at hi
  have e := arrW_get s i hi
  rw [Array.getElem?_eq_getElem (by rw [arrW_size]; exact hi)] at e
  rw [Option.some.inj e]
  rfl
theorem undW : Tryz.prog.underlying 45 = some (.array 16 24) := Tryz.underlying45
theorem infoW : (Tryz.prog.info? 45).map (·.size) = some 16 := by kernel_rfl
theorem wpl_loadW {w : World} {ops : Array Oper} {rest : List Oper} {o : Oper} {a : Act} {Q : Exit → Act → World → Prop} {ty : TypeId} (hu : Tryz.prog.underlying ty = some (.array 16 24)) (hi : (Tryz.prog.info? ty).map (·.size) = some 16) (hgd : o.guard = none) (x : Operand) (ho : o.op = .load ty x)
    {g : Nat} (hx : a.eval x = .pointer (some ⟨g, 0, none⟩)) {t : TypeId} {s : Nat → Wd} (hg : Bx w g t (arrW s)) (h : wpList Tryz.prog ops Q rest (a.put o.dst (.agg (arrW s))) w) : wpList Tryz.prog ops Q (o :: rest) a w :=
  wpList_load_row hgd ty x ho g hx t (arrW s) (0, 0) _ hg hu rfl (by rw [arrW_size]; exact hi) h
theorem wpl_storeW {w : World} {ops : Array Oper} {rest : List Oper} {o : Oper} {a : Act} {Q : Exit → Act → World → Prop} {ty : TypeId} (hi : (Tryz.prog.info? ty).map (·.size) = some 16) (hgd : o.guard = none) (x y : Operand) (ho : o.op = .store ty x y)
    {g : Nat} (hx : a.eval x = .pointer (some ⟨g, 0, none⟩)) {r : Nat → Wd} (hy : a.eval y = .agg (arrW r)) {t : TypeId} {s : Nat → Wd} (hg : Bx w g t (arrW s)) (h : wpList Tryz.prog ops Q rest (a.put o.dst undef) (w.setRow g (arrW r))) : wpList Tryz.prog ops Q (o :: rest) a w :=
  wpList_store_row hgd ty x y ho g (arrW r) hx hy t (arrW s) hg (by rw [arrW_size]; exact hi) (by rw [arrW_size, arrW_size]) (arrW_one r) h
def tab (k : Nat) : Nat → Wd := fun j => if j < k then tb j else 0#32

set_option maxRecDepth 100000 in
set_option maxHeartbeats 4000000 in
theorem halves_in (w : World) : Calls Tryz.prog 13 #[] w fun e W => e = .returned (.agg (arrW tb)) ∧ Below w.heap.size w W := by
  have HS := hide (fun m W => shifted_in m W)
  obtain ⟨X, hX⟩ : ∃ X, (w.alloc (.cells (arrW (fun _ => 0#32)) 45)).alloc (.cells (arrW (fun _ => 0#32)) 45) = X := ⟨_, rfl⟩
  have x0 : Bx X w.heap.size 45 (arrW (fun _ => 0#32)) := by rw [← hX]; exact (Bx.new w _ _).below (ballc (Below.refl _ _) _)
  have x1 : Bx X (w.heap.size + 1) 45 (arrW (fun _ => 0#32)) := by
    rw [← hX]
    have := Bx.new (w.alloc (.cells (arrW (fun _ => 0#32)) 45)) 45 (arrW (fun _ => 0#32))
    rwa [show (w.alloc (.cells (arrW (fun _ => 0#32)) 45)).heap.size = w.heap.size + 1 by simp] at this
  have bX : Below w.heap.size w X := by rw [← hX]; exact ballc (ballc (Below.refl _ _) _) _
  have HI0 := hide (show Bx X (w.heap.size + 1) 45 (arrW (tab 0)) ∧ Bx X w.heap.size 45 (arrW (fun _ => 0#32)) ∧ Below w.heap.size w X from ⟨by
    rw [arrW_ext (t := fun _ => 0#32) (fun i hi => by unfold tab; rw [if_neg (by omega)])]; exact x1, x0, bX⟩)
  rw [arrW_zero] at hX
  clear x0 x1 bX
  go_enter Tryz.func13, Tryz.ntmps13
  go_wp2
  go_loopw [4] (fun iv wr => ∃ i : Nat, i ≤ 16 ∧ iv = .int .i64 (i : Nat) ∧ Hid (Bx wr (w.heap.size + 1) 45 (arrW (tab i)) ∧ Bx wr w.heap.size 45 (arrW (fun _ => 0#32)) ∧ Below w.heap.size w wr)) (fun iv _ => 16 - (RowKit.intOf iv).toNat)
  case atStart => exact ⟨0, Nat.zero_le _, rfl, HI0⟩
  case round =>
    clear HI0
    obtain ⟨i, hi, rfl, HI⟩ := hrel
    by_cases hlt : i < 16
    · have k1 : (i : Int) < 16 := by omega
      have k2 : (0 : Int) ≤ (i : Int) := by omega
      have q1 := uI_nat i
      go_wp2
      go_loopw [9, 3] (fun nv mv ws => ∃ n : Nat, n ≤ 4 ∧ nv = .int .i64 (n : Nat) ∧ mv = .int .u32 (uI (shN n (BitVec.ofNat 32 i))) ∧ Hid (Below wr.heap.size wr ws)) (fun nv _ _ => 4 - (RowKit.intOf nv).toNat)
      case atStart => exact ⟨0, Nat.zero_le _, rfl, rfl, hide (Below.refl _ _)⟩
      case round =>
        obtain ⟨n, hn, rfl, rfl, HW⟩ := hrel
        by_cases hlt2 : n < 4
        · have k3 : (n : Int) < 4 := by omega
          have e9 : shN (n + 1) (BitVec.ofNat 32 i) = sh (shN n (BitVec.ofNat 32 i)) := shN_add n 1 _
          have HS1 := hide (unhide HS (shN n (BitVec.ofNat 32 i)))
          rw [← e9] at HS1
          clear e9 q1
          generalize uI (shN n (BitVec.ofNat 32 i)) = p at *
          obtain ⟨q, hq⟩ : ∃ q, uI (shN (n + 1) (BitVec.ofNat 32 i)) = q := ⟨_, rfl⟩
          have Hq := hide hq
          rw [hq] at HS1
          clear hq
          go_wp2_with fail
          refine (unhide HS1 _).mono ?_
          rintro e W1 ⟨rfl, rfl⟩
          go_wp2
          go_roundw
          case rel => exact ⟨n + 1, by omega, by go_num, by rw [unhide Hq], HW⟩
          case measure => show 4 - ((n : Int) + 1).toNat < 4 - ((n : Nat) : Int).toNat; omega
        · obtain rfl : n = 4 := by omega
          have q2 : shN 4 (BitVec.ofNat 32 i) = tb i := rfl
          rw [q2]
          clear q1
          have b1 := (unhide HI).1.below (unhide HW)
          have b2 := (unhide HI).2.1.below (unhide HW)
          have b3 := bnext (unhide HI).2.2 (unhide HW)
          have c1 := b1.cell i _ (arrW_get _ i hlt)
          have f1 := b1.frozen i
          have l1 := b1.lt
          have X2 := b1.set i (.int .u32 (uI (tb i)))
          rw [arrW_set _ _ _ hlt, arrW_ext (t := tab (i + 1)) (fun j hj => by
            unfold tab
            by_cases e : j = i
            · rw [if_pos e, e, if_pos (by omega)]
            · rw [if_neg e]
              by_cases e2 : j < i
              · rw [if_pos e2, if_pos (by omega)]
              · rw [if_neg e2, if_neg (by omega)])] at X2
          have HX2 := hide X2
          have HX3 := hide (b2.setO ⟨w.heap.size + 1, i, none⟩ (by simp) (.int .u32 (uI (tb i))))
          have HX4 := hide (bset b3 ⟨w.heap.size + 1, i, none⟩ (by show w.heap.size ≤ w.heap.size + 1; omega) (.int .u32 (uI (tb i))))
          clear b1 b2 b3 X2 HI HW q2
          generalize uI (tb i) = T at *
          generalize uI (tab i i) = T0 at *
          go_wp2
          go_roundw
          case rel => exact ⟨i + 1, by omega, by go_num, hide ⟨unhide HX2, unhide HX3, unhide HX4⟩⟩
          case measure => show 16 - ((i : Int) + 1).toNat < 16 - ((i : Nat) : Int).toNat; omega
    · obtain rfl : i = 16 := by omega
      have b1 := (unhide HI).1
      rw [arrW_ext (t := tb) (fun j hj => by unfold tab; rw [if_pos hj])] at b1
      have H1 := hide b1
      have H2 := hide (unhide HI).2.1
      have H3 := hide (unhide HI).2.2
      clear HI b1
      have HA2 := hide ((unhide H2).setRow (arrW tb))
      have HB2 := hide (below_setRow (unhide H3) w.heap.size (Nat.le_refl _) (arrW tb))
      go_wp2_with (first | refine wpl_loadW undW infoW rfl _ rfl rfl (unhide H1) ?_ | refine wpl_storeW infoW rfl _ _ rfl rfl rfl (unhide H2) ?_)
      refine bodyPost_ret (results_cell_row rfl _ _ w.heap.size _ _ _ _ rfl (unhide HA2) undW rfl (by rw [arrW_size]; exact infoW)) rfl ?_
      exact ⟨rfl, unhide HB2⟩

/-- a row of bytes -/
def RB (W : World) (v : Value) (l : List Nat) : Prop := RC W v l.length (bC l)
theorem RB.below {W W' : World} {v : Value} {l : List Nat} (h : RB W v l) (hb : Below W.heap.size W W') : RB W' v l := RC.below h hb
theorem RB.at {W : World} {a : Option Addr} {n c : Nat} {l : List Nat} (h : RB W (.slice a n c) l) {i : Nat} {x : Nat} (hi : l[i]? = some x) : ∃ b off, a = some ⟨b, off, none⟩ ∧ b < W.heap.size ∧ W.cell? ⟨b, off + i, none⟩ = some (.int .u8 (x : Nat)) := by
  have hl := (List.getElem?_eq_some_iff.1 hi).1
  rcases h with ⟨h0, _⟩ | ⟨b, off, cap, e, h1, h2, hc⟩
  · omega
  · simp at e
    obtain ⟨rfl, _⟩ := e
    exact ⟨b, off, rfl, h2, hc i _ (bC_get l i x hi)⟩
theorem crc_take {l : List Nat} {i x : Nat} (h : l[i]? = some x) : crcR (l.take (i + 1)) = byt (crcR (l.take i)) x := by
  rw [List.take_add_one, h]; exact crcR_snoc _ _
/-- all digits turned -/
theorem u_not (J : Wd) : bits .xor .u32 IntKind.u32.max (uI J) = uI (~~~J) := by
  have := u_xor (~~~0#32) J
  rw [show ~~~0#32 = BitVec.allOnes 32 from rfl, BitVec.allOnes_xor] at this
  exact this

set_option maxRecDepth 100000 in
set_option maxHeartbeats 4000000 in
theorem Sum_in (v : Value) (l : List Nat) (w : World) (h : RB w v l) (hl : l.length ≤ 140737488355328) : Calls Tryz.prog 5 #[v] w fun e W => e = .returned (.int .u32 (uI (crc l))) ∧ Below w.heap.size w W := by
  obtain ⟨a, c, rfl⟩ := RC.form h
  have HH := hide (halves_in w)
  obtain ⟨n, hn⟩ : ∃ n, l.length = n := ⟨_, rfl⟩
  have Hn := hide hn
  have Hh := hide h
  rw [hn] at hl Hh ⊢
  clear h hn
  unfold crc
  obtain ⟨R, hR⟩ : ∃ R, crcR l = R := ⟨_, rfl⟩
  have HR := hide hR
  rw [hR]
  clear hR
  go_enter Tryz.func5, Tryz.ntmps5
  go_wp2_with fail
  refine (unhide HH).mono ?_
  rintro r W1 ⟨rfl, hb1⟩
  obtain ⟨q, hq⟩ : ∃ q, W1.heap.size = q := ⟨_, rfl⟩
  have hx : Bx (W1.alloc (.cells #[.int .u32 0, .int .u32 0, .int .u32 0, .int .u32 0, .int .u32 0, .int .u32 0, .int .u32 0, .int .u32 0, .int .u32 0, .int .u32 0, .int .u32 0, .int .u32 0, .int .u32 0, .int .u32 0, .int .u32 0, .int .u32 0] 45)) q 45 (arrW (fun _ => 0#32)) := by rw [arrW_zero, ← hq]; exact Bx.new _ _ _
  have HA2 := hide (hx.setRow (arrW tb))
  have HX := hide hx
  have HB2 := hide (below_setRow (bnext hb1 (ballc (Below.refl _ _) (.cells #[.int .u32 0, .int .u32 0, .int .u32 0, .int .u32 0, .int .u32 0, .int .u32 0, .int .u32 0, .int .u32 0, .int .u32 0, .int .u32 0, .int .u32 0, .int .u32 0, .int .u32 0, .int .u32 0, .int .u32 0, .int .u32 0] 45))) q (by rw [← hq]; exact hb1.size) (arrW tb))
  clear hx hb1 HH
  go_wp2_with (first | refine wpl_storeW infoW rfl _ _ rfl rfl rfl (unhide HX) ?_)
  go_loopw [10, 4] (fun iv mv wr => ∃ i : Nat, i ≤ n ∧ iv = .int .i64 (i : Nat) ∧ mv = .int .u32 (uI (crcR (l.take i))) ∧ Hid (Bx wr q 45 (arrW tb) ∧ Below w.heap.size w wr)) (fun iv _ _ => n - (RowKit.intOf iv).toNat)
  case atStart => exact ⟨0, Nat.zero_le _, rfl, rfl, hide ⟨unhide HA2, unhide HB2⟩⟩
  case round =>
    clear HX HA2 HB2 hq
    obtain ⟨i, hi, rfl, rfl, HI⟩ := hrel
    by_cases hlt : i < n
    · have k1 : (i : Int) < (n : Int) := by omega
      have k2 : (0 : Int) ≤ (i : Int) := by omega
      obtain ⟨x, hx⟩ : ∃ x, l[i]? = some x := ⟨_, List.getElem?_eq_getElem (by rw [unhide Hn]; exact hlt)⟩
      obtain ⟨b, off, rfl, _, q0⟩ := RB.at ((unhide Hh).below (unhide HI).2) hx
      have hnx := crc_take hx
      generalize crcR (l.take i) = s at *
      have q1 := uI_nat x
      have q2 := u_xor s (BitVec.ofNat 32 x)
      have hby := byt_eq s x rfl
      generalize BitVec.ofNat 32 x = o at *
      generalize s ^^^ o = t at *
      have q3 : uI t / (16 : Int) = uI (t >>> (4 : Nat)) := by have := uI_shrN t 4; simpa using this
      have hk := half_lt t
      have q4 : bits .and .u32 (uI t) 15 = (((t &&& 15#32).toNat : Nat) : Int) := u_and t 15#32
      generalize (t &&& 15#32).toNat = k at *
      have q5 := u_xor (t >>> 4) (tb k)
      have c1 := (unhide HI).1.cell k _ (arrW_get tb k hk)
      generalize hw1 : (t >>> 4) ^^^ tb k = w1 at *
      have q6 : uI w1 / (16 : Int) = uI (w1 >>> (4 : Nat)) := by have := uI_shrN w1 4; simpa using this
      have hk2 := half_lt w1
      have q7 : bits .and .u32 (uI w1) 15 = (((w1 &&& 15#32).toNat : Nat) : Int) := u_and w1 15#32
      generalize (w1 &&& 15#32).toNat = m at *
      have q8 := u_xor (w1 >>> 4) (tb m)
      have c2 := (unhide HI).1.cell m _ (arrW_get tb m hk2)
      rw [hby] at q8
      rw [← hnx] at q8
      clear hby hnx hw1
      have k3 : (k : Int) < 16 := by omega
      have k4 : (m : Int) < 16 := by omega
      have k5 : (0 : Int) ≤ (k : Int) := by omega
      have k6 : (0 : Int) ≤ (m : Int) := by omega
      obtain ⟨f, hf⟩ : ∃ f, uI (crcR (List.take (i + 1) l)) = f := ⟨_, rfl⟩
      rw [hf] at q8
      have Hf := hide hf
      clear hf
      generalize uI (w1 >>> 4) = f1 at *
      generalize uI w1 = f2 at *
      generalize uI (t >>> 4) = f3 at *
      generalize uI t = f4 at *
      generalize uI (tb k) = f5 at *
      generalize uI (tb m) = f6 at *
      generalize uI s = f7 at *
      generalize uI o = f8 at *
      go_wp2
      go_roundw
      case rel => exact ⟨i + 1, by omega, by go_num, by rw [unhide Hf], HI⟩
      case measure => show n - ((i : Int) + 1).toNat < n - ((i : Nat) : Int).toNat; omega
    · obtain rfl : n = i := by omega
      have k1 : ¬ (n : Int) < (n : Int) := by omega
      have e : crcR (l.take n) = R := by rw [List.take_of_length_le (by rw [unhide Hn]; omega)]; exact unhide HR
      rw [e]
      have HB := hide (unhide HI).2
      clear HI e
      have en := u_not R
      go_wp2
      go_ret
      exact ⟨by rw [← en]; rfl, unhide HB⟩

set_option maxRecDepth 100000 in
set_option maxHeartbeats 4000000 in
theorem rSum_in (v : Value) (l : List Nat) (w : World) (h : RB w v l) (hl : l.length ≤ 140737488355328) : Calls Tryz.prog 6 #[v] w fun e W => e = .returned (.int .u32 (uI (crc l))) ∧ Below w.heap.size w W := by
  obtain ⟨a, c, rfl⟩ := RC.form h
  obtain ⟨n, hn⟩ : ∃ n, l.length = n := ⟨_, rfl⟩
  have Hn := hide hn
  have Hh := hide h
  rw [hn] at hl Hh ⊢
  clear h hn
  unfold crc
  obtain ⟨R, hR⟩ : ∃ R, crcR l = R := ⟨_, rfl⟩
  have HR := hide hR
  rw [hR]
  clear hR
  go_enter Tryz.func6, Tryz.ntmps6
  go_wp2
  go_loopw [4, 3] (fun iv mv wr => ∃ i : Nat, i ≤ n ∧ iv = .int .i64 (i : Nat) ∧ mv = .int .u32 (uI (crcR (l.take i))) ∧ Hid (Below w.heap.size w wr)) (fun iv _ _ => n - (RowKit.intOf iv).toNat)
  case atStart => exact ⟨0, Nat.zero_le _, rfl, rfl, hide (Below.refl _ _)⟩
  case round =>
    obtain ⟨i, hi, rfl, rfl, HI⟩ := hrel
    by_cases hlt : i < n
    · have k1 : (i : Int) < (n : Int) := by omega
      have k2 : (0 : Int) ≤ (i : Int) := by omega
      obtain ⟨x, hx⟩ : ∃ x, l[i]? = some x := ⟨_, List.getElem?_eq_getElem (by rw [unhide Hn]; exact hlt)⟩
      obtain ⟨b, off, rfl, _, q0⟩ := RB.at ((unhide Hh).below (unhide HI)) hx
      have hnx := crc_take hx
      generalize crcR (l.take i) = s at *
      have q1 := uI_nat x
      have q2 := u_xor s (BitVec.ofNat 32 x)
      unfold byt at hnx
      generalize BitVec.ofNat 32 x = o at *
      generalize s ^^^ o = t at *
      have Hnx := hide hnx
      clear hnx
      obtain ⟨p, hp⟩ : ∃ p, uI t = p := ⟨_, rfl⟩
      rw [hp] at q2
      have Hp := hide hp
      clear hp
      generalize uI s = f7 at *
      generalize uI o = f8 at *
      go_wp2
      go_loopw [5, 3] (fun jv mv ws => ∃ j : Nat, j ≤ 8 ∧ jv = .int .i64 (j : Nat) ∧ mv = .int .u32 (uI (shN j t)) ∧ ws = wr) (fun jv _ _ => 8 - (RowKit.intOf jv).toNat)
      case atStart => exact ⟨0, Nat.zero_le _, rfl, by rw [← unhide Hp]; rfl, rfl⟩
      case round =>
        obtain ⟨j, hj, rfl, rfl, rfl⟩ := hrel
        by_cases hlt2 : j < 8
        · have k3 : (j : Int) < 8 := by omega
          have e9 : shN (j + 1) t = sh (shN j t) := shN_add j 1 t
          have e1 := uI_odd (shN j t)
          have e2 : uI (shN j t) / (2 : Int) = uI (shN j t >>> (1 : Nat)) := by have := uI_shrN (shN j t) 1; simpa using this
          have nn := uI_nn (shN j t)
          have et : (uI (shN j t)).tmod 2 = uI (shN j t) % 2 := Int.tmod_eq_emod_of_nonneg nn
          cases ho : (shN j t).getLsbD 0 with
          | true =>
            rw [ho, if_pos rfl] at e1
            rw [sh_one ho] at e9
            have e3 : bits .xor .u32 (uI (shN j t >>> 1)) 3988292384 = uI (shN (j + 1) t) := by rw [e9]; exact u_xor _ poly
            rw [e1] at et
            have H3 := hide e3
            clear e9 ho nn e1
            generalize uI (shN j t >>> 1) = f1 at *
            obtain ⟨f2, hf2⟩ : ∃ f, uI (shN (j + 1) t) = f := ⟨_, rfl⟩
            rw [hf2] at e3
            have Hf2 := hide hf2
            clear hf2 H3
            generalize uI (shN j t) = f3 at *
            go_wp2
            go_roundw
            case rel => exact ⟨j + 1, by omega, by go_num, by rw [unhide Hf2]; exact ⟨rfl, trivial⟩⟩
            case measure => show 8 - ((j : Int) + 1).toNat < 8 - ((j : Nat) : Int).toNat; omega
          | false =>
            rw [ho, if_neg (by decide)] at e1
            rw [sh_zero ho] at e9
            rw [← e9] at e2
            rw [e1] at et
            obtain ⟨f2, hf2⟩ : ∃ f, uI (shN (j + 1) t) = f := ⟨_, rfl⟩
            rw [hf2] at e2
            have Hf2 := hide hf2
            clear hf2 e9 ho nn e1
            generalize uI (shN j t) = f3 at *
            go_wp2
            go_roundw
            case rel => exact ⟨j + 1, by omega, by go_num, by rw [unhide Hf2]; exact ⟨rfl, trivial⟩⟩
            case measure => show 8 - ((j : Int) + 1).toNat < 8 - ((j : Nat) : Int).toNat; omega
        · obtain rfl : j = 8 := by omega
          rw [← unhide Hnx]
          obtain ⟨f, hf⟩ : ∃ f, uI (crcR (List.take (i + 1) l)) = f := ⟨_, rfl⟩
          rw [hf]
          have Hf := hide hf
          clear hf
          go_wp2
          go_roundw
          case rel => exact ⟨i + 1, by omega, by go_num, by rw [unhide Hf], HI⟩
          case measure => show n - ((i : Int) + 1).toNat < n - ((i : Nat) : Int).toNat; omega
    · obtain rfl : n = i := by omega
      have k1 : ¬ (n : Int) < (n : Int) := by omega
      have e : crcR (l.take n) = R := by rw [List.take_of_length_le (by rw [unhide Hn]; omega)]; exact unhide HR
      rw [e]
      clear e
      have en := u_not R
      go_wp2
      go_ret
      exact ⟨by rw [← en]; rfl, unhide HI⟩
end Go.Proofs.YtkffonoifbaifaaGreat
