/-
  The law's vectors; a log that is one's own; what the document fixes.
-/
import Derived.Test.YtijjoikeceechaaGreatZXLG7

set_option linter.unusedSimpArgs false
set_option linter.unusedVariables false
namespace Go.Proofs.YtijjoikeceechaaGreat
open Go.RowKit Go.Lib

theorem neqI2 (x y : Int × Int) (w : World) : (binOp .neq 28 (.agg #[.int .i64 x.1, .int .i64 x.2]) (.agg #[.int .i64 y.1, .int .i64 y.2])).run Tryz.prog w = .ok (.bool (!decide (x = y))) w := neqD x.1 x.2 y.1 y.2 w

set_option maxRecDepth 100000 in
set_option maxHeartbeats 4000000 in
theorem vectors_in (l m : List (Int × Int)) (v u : Value) (w : World) (hv : RI w v l) (hu : RI w u m) (hl : l.length ≤ 140737488355328) (hm : m.length ≤ 140737488355328) :
    Calls Tryz.prog 10 #[v, u] w fun e W => e = .returned (.bool (decide (l = m))) ∧ ∃ n, W = w.drewN n := by
  obtain ⟨a, c, rfl⟩ := RC.form hv
  obtain ⟨a', c', rfl⟩ := RC.form hu
  by_cases hne : l.length = m.length
  · have Hv := hide hv
    have Hu := hide hu
    obtain ⟨L, hL⟩ : ∃ L, l.length = L := ⟨_, rfl⟩
    rw [← hne] at hm ⊢
    have HM := hide (hne.symm.trans hL)
    rw [hL] at hl hm ⊢
    have HL := hide hL
    obtain ⟨D, hD⟩ : ∃ D, decide (l = m) = D := ⟨_, rfl⟩
    rw [hD]
    replace hD := hide hD
    clear hv hu hL hne
    go_enter Tryz.func10, Tryz.ntmps10
    go_wp2
    go_loopw [5] (fun iv wr => ∃ i n : Nat, i ≤ L ∧ iv = .int .i64 (i : Nat) ∧ Hid (l.take i = m.take i) ∧ wr = w.drewN n) (fun iv _ => L - (RowKit.intOf iv).toNat)
    case atStart => exact ⟨0, 0, by omega, rfl, hide rfl, rfl⟩
    case round =>
      obtain ⟨i, nd, hi, rfl, htk, rfl⟩ := hrel
      by_cases hlt : i < L
      · have hlt' : i < l.length := by rw [unhide HL]; exact hlt
        have hlt'' : i < m.length := by rw [unhide HM]; exact hlt
        have hA := unhide Hv
        have hB := unhide Hu
        rw [unhide HL] at hA
        rw [unhide HM] at hB
        obtain ⟨b, off, rfl, b0, c0, c1⟩ := RI.at hA (List.getElem?_eq_getElem hlt')
        obtain ⟨b', off', rfl, b1, d0, d1⟩ := RI.at hB (List.getElem?_eq_getElem hlt'')
        have i1 : (i : Int) < (L : Int) := by omega
        clear hA hB Hv Hu
        have hnq := neqI2 l[i] m[i]
        by_cases he : l[i] = m[i]
        · have hde : decide (l[i] = m[i]) = true := decide_eq_true he
          rw [hde] at hnq
          have htk' : l.take (i + 1) = m.take (i + 1) := by
            rw [List.take_add_one, List.take_add_one, unhide htk, List.getElem?_eq_getElem hlt', List.getElem?_eq_getElem hlt'', he]
          have Htk' := hide htk'
          clear he hde htk'
          generalize l[i] = e at *
          generalize m[i] = e' at *
          obtain ⟨t, s⟩ := e
          obtain ⟨t', s'⟩ := e'
          (try simp only at *)
          go_wp2
          go_quiet (fail)
          go_wp2
          go_roundw
          case rel => exact ⟨i + 1, _, by omega, by go_num, hide (unhide Htk'), rfl⟩
          case measure => simp [RowKit.intOf]; omega
        · have hde : decide (l[i] = m[i]) = false := decide_eq_false he
          rw [hde] at hnq
          have Hfin := hide (show D = false by
            rw [← unhide hD, decide_eq_false_iff_not]
            intro e
            subst e
            exact he rfl)
          clear he hde
          generalize l[i] = e at *
          generalize m[i] = e' at *
          obtain ⟨t, s⟩ := e
          obtain ⟨t', s'⟩ := e'
          (try simp only at *)
          go_wp2
          go_quiet (fail)
          go_wp2
          go_ret
          exact ⟨by rw [unhide Hfin]; rfl, nd + nq, World.drewN_drewN _ _ _⟩
      · have Hfin := hide (show D = true by
          have h := unhide htk
          rw [List.take_of_length_le (by rw [unhide HL]; omega), List.take_of_length_le (by rw [unhide HM]; omega)] at h
          rw [← unhide hD]
          exact decide_eq_true h)
        have i1 : ¬ (i : Int) < (L : Int) := by omega
        go_wp2
        go_ret
        exact ⟨by rw [unhide Hfin]; rfl, nd, rfl⟩
  · have hd : decide (l = m) = false := by rw [decide_eq_false_iff_not]; intro e; exact hne (by rw [e])
    rw [hd]
    have hne' : ((l.length : Int) == (m.length : Int)) = false := by rw [beq_eq_false_iff_ne]; omega
    clear hd hv hu hne
    generalize l.length = L at *
    generalize m.length = M at *
    go_enter Tryz.func10, Tryz.ntmps10
    go_wp2
    go_ret
    exact ⟨rfl, 0, rfl⟩


theorem LG.lt {P : Nat → Prop} {W : World} {b : Nat} {vb vh vo : Value} {base hv : List (Int × Int)} {ops : List (Opn × Value × Value)} (h : LG P W b vb vh vo base hv ops) : LG (fun i => P i ∧ i < W.heap.size) W b vb vh vo base hv ops :=
  ⟨h.box, h.rb, h.rh, h.ro, fun e he => (h.re e he).lt, ⟨h.pb, h.box.lt⟩, fun k hk => ⟨h.pvb k hk, (h.rb.lt k hk).2⟩, fun k hk => ⟨h.pvh k hk, (h.rh.lt k hk).2⟩, fun k hk => ⟨h.pvo k hk, (h.ro.lt k hk).2⟩, h.lb, h.lh⟩
theorem LL.lt {P : Nat → Prop} {W : World} {b : Nat} {base hv : List (Int × Int)} {os : List Opn} (h : LL P W b base hv os) : LL (fun i => P i ∧ i < W.heap.size) W b base hv os := by
  obtain ⟨vb, vh, vo, ops, h, e⟩ := h
  exact ⟨vb, vh, vo, ops, h.lt, e⟩
/-- a log in new memory -/
def KS (w W : World) (b : Nat) (base hv : List (Int × Int)) (os : List Opn) : Prop := ∃ P, LL P W b base hv os ∧ (∀ i, P i → w.heap.size ≤ i ∧ i < W.heap.size) ∧ Below w.heap.size w W
theorem KS.bel {w W : World} {b : Nat} {base hv : List (Int × Int)} {os : List Opn} (h : KS w W b base hv os) : Below w.heap.size w W := by
  obtain ⟨_, _, _, h⟩ := h; exact h
theorem KS.below {w W W' : World} {b : Nat} {base hv : List (Int × Int)} {os : List Opn} (h : KS w W b base hv os) (hb : Below W.heap.size W W') : KS w W' b base hv os := by
  obtain ⟨P, h1, h2, h3⟩ := h
  exact ⟨P, h1.below hb, fun i hi => ⟨(h2 i hi).1, Nat.lt_of_lt_of_le (h2 i hi).2 hb.size⟩, bnext h3 hb⟩
theorem KS.new {w W : World} {b : Nat} {base hv : List (Int × Int)} {os : List Opn} {w0 : World} (h : LL (fun i => w.heap.size ≤ i) W b base hv os) (hb : Below w.heap.size w W) (h0 : Below w0.heap.size w0 w) : KS w0 W b base hv os := ⟨_, h.lt, fun i hi => ⟨Nat.le_trans h0.size hi.1, hi.2⟩, bnext h0 hb⟩
theorem KAdd_in {w W : World} {b : Nat} {base hv : List (Int × Int)} {os : List Opn} (h : KS w W b base hv os) (hn : os.length ≤ 1000000) (o : Opn) (ad ag : Option Addr) (cd cg : Nat) (hd : RI W (.slice ad o.deps.length cd) o.deps) (hg : RR W (.slice ag o.gone.length cg) o.gone) (hi : InO o) (h1 : o.deps.length ≤ 1000000) (h2 : o.gone.length ≤ 1000000) (h3 : o.text.size ≤ 1000000) :
    Calls Tryz.prog 21 #[.pointer (some ⟨b, 0, none⟩), opA o (.slice ad o.deps.length cd) (.slice ag o.gone.length cg)] W fun e W' => e = .returned (.int .i64 (addE hv o)) ∧ KS w W' b base (if addE hv o = 0 then (addV hv (o.ds, o.dq)).1 else hv) (if addE hv o = 0 then os ++ [o] else os) := by
  obtain ⟨P, hL, hP, hb⟩ := h
  refine (LAdd_in hL (fun i hi => (hP i hi).2) hn o ad ag cd cg hd hg hi h1 h2 h3).mono ?_
  rintro e W' ⟨he, hl, k⟩
  refine ⟨he, _, hl.lt, fun i hi => ⟨?_, hi.2⟩, k.below hb (fun i hi => (hP i hi).1)⟩
  rcases hi.1 with h | h
  · exact (hP i h).1
  · exact Nat.le_trans hb.size h
theorem KCut_in {w W0 W : World} {b : Nat} {base hv : List (Int × Int)} {os : List Opn} (h : KS w W0 b base hv os) (hb0 : Below W0.heap.size W0 W) (hn : os.length ≤ 1000000) (v : Value) (l : List (Int × Int)) (hr : RI W v l) (hl : l.length ≤ 1000000) (hap : ∀ k, rb v l.length k → k < w.heap.size ∨ W0.heap.size ≤ k) :
    Calls Tryz.prog 23 #[.pointer (some ⟨b, 0, none⟩), v] W fun e W' => ∃ v' P, e = .returned (.tuple #[v', .int .i64 (cutE hv l)]) ∧ RL P W' v' (if cutE hv l = 0 then prL l true os else []) ∧ KS w W' b (if cutE hv l = 0 then vec (mrg (sy base) (sy l)) else base) hv (if cutE hv l = 0 then prL l false os else os) := by
  obtain ⟨P, hL, hP, hb⟩ := h
  have hz := hb0.size
  refine (Cut_in (hL.below hb0) (fun i hi => by have := (hP i hi).2; omega) hn v l hr hl (fun k hk h => by have := hap k hk; have := (hP k h).1; have := (hP k h).2; omega)).mono ?_
  rintro e W' ⟨v', M, he, hM1, hM2, hrl, hll, k⟩
  refine ⟨v', _, he, hrl, _, hll.lt, fun i hi => ⟨?_, hi.2⟩, k.below (bnext hb hb0) (fun i hi => (hP i hi).1)⟩
  rcases hi.1 with h | h
  · exact (hP i h).1
  · have := hb.size; omega
theorem KLacks_in {w W : World} {b : Nat} {base hv : List (Int × Int)} {os : List Opn} (h : KS w W b base hv os) (hn : os.length ≤ 1000000) (a : Option Addr) (n c : Nat) (l : List (Int × Int)) (hr : RI W (.slice a n c) l) (hl : l.length ≤ 1000000) :
    Calls Tryz.prog 22 #[.pointer (some ⟨b, 0, none⟩), .slice a n c] W fun e W' => e = .returned (.int .i64 ((bynd l os).length : Nat)) ∧ Below W.heap.size W W' := by
  obtain ⟨P, hL, hP, hb⟩ := h
  exact Lacks_any W _ a n c P (bynd l os) (by have := bynd_len l os; omega) (fun i hi => (hP i hi).2) (fun W2 hb2 _ => Beyond_in (hL.below hb2) hn _ l (hr.below hb2) hl)
theorem Lacks_nil (w : World) (a : Option Addr) (n c : Nat) : Calls Tryz.prog 22 #[.pointer none, .slice a n c] w fun e W' => e = .returned (.int .i64 0) ∧ Below w.heap.size w W' := by
  have := Lacks_any w (.pointer none) a n c (fun _ => False) [] (by simp) (fun i hi => hi.elim) (fun W2 hb2 _ => (Beyond_nil a n c W2).mono (fun e W' ⟨h1, h2, h3⟩ => ⟨h1, by
    obtain ⟨v, ops, it, e⟩ := h2
    exact ⟨v, ops, ⟨it.box, it.row, fun e he => (it.re e he).mono (fun i hi => .inr hi), .inr it.pn, fun k hk => .inr (it.pv k hk), it.len⟩, e⟩, h3⟩))
  exact this

end Go.Proofs.YtijjoikeceechaaGreat

/-
  What the document fixes.
-/
set_option linter.unusedSimpArgs false
set_option linter.unusedVariables false
namespace Go.Proofs.YtijjoikeceechaaGreat
open Go.RowKit Go.Lib

def kO1 : Opn := ⟨1, 6, [(1, 5)], 4, 0, 0, 0, 0, ⟨#[]⟩, [], 0⟩
def kO2 : Opn := ⟨1, 8, [(1, 7)], 4, 0, 0, 0, 0, ⟨#[]⟩, [], 0⟩
def kO3 : Opn := ⟨0, 0, [], 0, 0, 0, 0, 0, ⟨#[]⟩, [], 0⟩
theorem in64_lit (n : Int) (h : -9223372036854775808 ≤ n ∧ n ≤ 9223372036854775807) : in64 n := h
theorem z64 : in64 0 := ⟨by omega, by omega⟩
theorem kIn {ds dq k : Int} {d : List (Int × Int)} (h1 : in64 ds) (h2 : in64 dq) (h3 : in64 k) (hd : d.length ≤ 140737488355328) : InO ⟨ds, dq, d, k, 0, 0, 0, 0, ⟨#[]⟩, [], 0⟩ :=
  ⟨h1, h2, h3, z64, z64, z64, z64, z64, hd, by show (⟨#[]⟩ : ByteArray).size ≤ _; decide, fun r hr => (by cases hr), by simp⟩
theorem kc0 : chk [(1, 5)] = 0 := by kernel_rfl
theorem ka1 : addE [(1, 5)] kO1 = 0 := by kernel_rfl
theorem kv1 : (addV [(1, 5)] (kO1.ds, kO1.dq)).1 = [(1, 6)] := by kernel_rfl
theorem ka2 : addE [(1, 6)] kO2 = 9 := by kernel_rfl
theorem ka3 : addE [(1, 6)] kO3 = 10 := by kernel_rfl
theorem kb1 : bynd [(1, 5)] [kO1] = [kO1] := by kernel_rfl
theorem ke1 : cutE [(1, 6)] [(1, 6)] = 0 := by kernel_rfl
theorem kg1 : prL [(1, 6)] true [kO1] = [kO1] := by kernel_rfl
theorem kl1 : prL [(1, 6)] false [kO1] = [] := by kernel_rfl
theorem km1 : vec (mrg (sy [(1, 5)]) (sy [(1, 6)])) = [(1, 6)] := by kernel_rfl

theorem lit1 (W : World) (x y : Int) : RI (W.alloc (.cells #[.int .i64 x, .int .i64 y] 28)) (.slice (some ⟨W.heap.size, 0, none⟩) 1 1) [(x, y)] := RC.lit W 28 #[.int .i64 x, .int .i64 y] 1

set_option maxRecDepth 100000 in
set_option maxHeartbeats 8000000 in
theorem known_in (w : World) : Calls Tryz.prog 7 #[] w fun e W => e = .returned (.bool true) ∧ Below w.heap.size w W := by
  have H1 := hide (New_in _ [(1, 5)] _ (lit1 w 1 5) (by simp))
  unfold NewA at H1
  rw [kc0] at H1
  go_enter Tryz.func7, Tryz.ntmps7
  go_wp2_with fail
  refine (unhide H1).mono ?_
  rintro r W1 (⟨h, _⟩ | ⟨_, b, rfl, hL, hb1⟩)
  · exact absurd rfl h
  have S1 := hide (KS.new hL hb1 (ballc (Below.refl w.heap.size w) (.cells #[.int .i64 1, .int .i64 5] 28)))
  clear hL hb1 H1
  -- Add
  have b2 := ballc (Below.refl W1.heap.size W1) (.cells #[.int .i64 1, .int .i64 5] 28)
  have H2 := hide (KAdd_in ((unhide S1).below b2) (by simp) kO1 (some ⟨W1.heap.size, 0, none⟩) none 1 0 (lit1 W1 1 5) (.inl ⟨rfl, _, _, rfl⟩) (kIn ⟨by omega, by omega⟩ ⟨by omega, by omega⟩ ⟨by omega, by omega⟩ (by simp)) (by simp [kO1]) (by simp [kO1]) (by show (⟨#[]⟩ : ByteArray).size ≤ _; decide))
  rw [ka1, if_pos rfl, if_pos rfl, kv1] at H2
  simp only [kO1, opA, List.length_cons, List.length_nil, Nat.zero_add, List.nil_append] at H2
  clear b2 S1
  go_wp2_with fail
  refine (unhide H2).mono ?_
  rintro r W2 ⟨rfl, hS2⟩
  have S2 := hide hS2
  clear H2 hS2
  -- Add, too early
  have b3 := ballc (Below.refl W2.heap.size W2) (.cells #[.int .i64 1, .int .i64 7] 28)
  have H3 := hide (KAdd_in ((unhide S2).below b3) (by simp) kO2 (some ⟨W2.heap.size, 0, none⟩) none 1 0 (lit1 W2 1 7) (.inl ⟨rfl, _, _, rfl⟩) (kIn ⟨by omega, by omega⟩ ⟨by omega, by omega⟩ ⟨by omega, by omega⟩ (by simp)) (by simp [kO2]) (by simp [kO2]) (by show (⟨#[]⟩ : ByteArray).size ≤ _; decide))
  rw [ka2, if_neg (by decide), if_neg (by decide)] at H3
  simp only [kO2, opA, List.length_cons, List.length_nil, Nat.zero_add] at H3
  clear b3 S2
  go_wp2_with fail
  refine (unhide H3).mono ?_
  rintro r W3 ⟨rfl, hS3⟩
  have S3 := hide hS3
  clear H3 hS3
  have H4 := hide (KAdd_in (unhide S3) (by simp) kO3 none none 0 0 (.inl ⟨rfl, _, _, rfl⟩) (.inl ⟨rfl, _, _, rfl⟩) (kIn ⟨by omega, by omega⟩ ⟨by omega, by omega⟩ ⟨by omega, by omega⟩ (by simp)) (by simp [kO3]) (by simp [kO3]) (by show (⟨#[]⟩ : ByteArray).size ≤ _; decide))
  rw [ka3, if_neg (by decide), if_neg (by decide)] at H4
  simp only [kO3, opA, List.length_nil] at H4
  clear S3
  go_wp2_with fail
  refine (unhide H4).mono ?_
  rintro r W4 ⟨rfl, hS4⟩
  have S4 := hide hS4
  clear H4 hS4
  -- Lacks
  have b5 := ballc (Below.refl W4.heap.size W4) (.cells #[.int .i64 1, .int .i64 5] 28)
  have S4' := hide ((unhide S4).below b5)
  have H5 := hide (KLacks_in (unhide S4') (by simp) _ _ _ [(1, 5)] (lit1 W4 1 5) (by simp))
  rw [show bynd [(1, 5)] [(⟨1, 6, [(1, 5)], 4, 0, 0, 0, 0, ⟨#[]⟩, [], 0⟩ : Opn)] = [kO1] from kb1] at H5
  simp only [List.length_cons, List.length_nil, Nat.zero_add] at H5
  clear b5 S4
  go_wp2_with fail
  refine (unhide H5).mono ?_
  rintro r W5 ⟨rfl, hb5⟩
  have S5 := hide ((unhide S4').below hb5)
  clear H5 hb5 S4'
  -- Cut
  have b6 := ballc (Below.refl W5.heap.size W5) (.cells #[.int .i64 1, .int .i64 6] 28)
  have H6 := hide (KCut_in (unhide S5) b6 (by simp) _ [(1, 6)] (lit1 W5 1 6) (by simp) (fun k hk => .inr (by have := hk.2; simp [Value.ownBlock] at this; omega)))
  rw [ke1, if_pos rfl, if_pos rfl, if_pos rfl, show prL [(1, 6)] true [(⟨1, 6, [(1, 5)], 4, 0, 0, 0, 0, ⟨#[]⟩, [], 0⟩ : Opn)] = [kO1] from kg1, show prL [(1, 6)] false [(⟨1, 6, [(1, 5)], 4, 0, 0, 0, 0, ⟨#[]⟩, [], 0⟩ : Opn)] = [] from kl1, km1] at H6
  clear b6 S5
  go_wp2_with fail
  refine (unhide H6).mono ?_
  rintro r W6 ⟨v6, P6, rfl, hrl, hS6⟩
  obtain ⟨ops6, ho6, -, -, he6⟩ := hrl
  obtain ⟨a6, c6, rfl⟩ := owns_form ho6
  have hl6 : ops6.length = 1 := by have := congrArg List.length he6; simpa using this
  rw [hl6]
  have S6 := hide hS6
  obtain ⟨P, hL6, -, -⟩ := hS6
  have HLn := hide (Len_in hL6)
  have HBs := hide (Base_in hL6)
  clear H6 ho6 he6 hl6 hL6
  go_wp2_with fail
  refine (unhide HLn).mono ?_
  rintro r W7 ⟨rfl, rfl⟩
  go_wp2_with fail
  refine (unhide HBs).mono ?_
  rintro r W8 ⟨v8, rfl, ho8, hb8⟩
  have al := ballc (Below.refl W8.heap.size W8) (.cells #[.int .i64 1, .int .i64 6] 28)
  have HV := hide (vectors_in [(1, 6)] [(1, 6)] v8 _ _ (ho8.row.below al) (lit1 W8 1 6) (by simp) (by simp))
  rw [decide_eq_true rfl] at HV
  obtain ⟨a8, c8, rfl⟩ := OwD.form ho8
  have HB := hide (bnext (bnext (unhide S6).bel hb8) al)
  clear HLn HBs ho8 hb8 al
  go_wp2_with fail
  refine (unhide HV).mono ?_
  rintro r W9 ⟨rfl, nd, rfl⟩
  go_wp2
  go_ret
  exact ⟨rfl, bdrew (unhide HB) nd⟩

end Go.Proofs.YtijjoikeceechaaGreat
