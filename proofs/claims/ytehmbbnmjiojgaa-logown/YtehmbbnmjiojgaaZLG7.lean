/-
  The log: what lies beyond a vector; the iterator, called with a closure.
-/
import Derived.Test.YtehmbbnmjiojgaaZLG6
import Derived.Laws.EntriesVeiled
set_option linter.unusedSimpArgs false
set_option linter.unusedVariables false
namespace Go.Proofs.Ytehmbbnmjiojgaa
open Go.RowKit Go.Lib

/-- what an iterator has: its list, in its variable -/
structure ITR (P : Nat → Prop) (W : World) (nb : Nat) (v : Value) (ops : List (Opn × Value × Value)) : Prop where
  box : Bx W nb 28 #[v]
  row : W.ownsRow 0 38 11 v ops.length (flat encO ops)
  re : ∀ e ∈ ops, OE P W e
  pn : P nb
  pv : ∀ k, v.ownBlock = some k → P k
  len : ops.length ≤ 1000000
theorem ITR.kp {P N : Nat → Prop} {W W' : World} {nb : Nat} {v : Value} {ops : List (Opn × Value × Value)} (h : ITR P W nb v ops) (k : Kp N W W') (hn : ∀ i, N i → ¬ P i) : ITR P W' nb v ops :=
  ⟨h.box.kp k (fun e => hn _ e h.pn), owns_kp h.row k (fun i hi e => hn i e (h.pv i hi)), fun e he => (h.re e he).kp k hn, h.pn, h.pv, h.len⟩
theorem ITR.below {P : Nat → Prop} {W W' : World} {nb : Nat} {v : Value} {ops : List (Opn × Value × Value)} (h : ITR P W nb v ops) (hb : Below W.heap.size W W') : ITR P W' nb v ops := h.kp (N := fun _ => False) (Kp.of_below hb) (fun _ h => h.elim)
def IT (P : Nat → Prop) (W : World) (nb : Nat) (os : List Opn) : Prop := ∃ v ops, ITR P W nb v ops ∧ ops.map Prod.fst = os
/-- what lies beyond a vector -/
def bynd (l : List (Int × Int)) (os : List Opn) : List Opn := if chk l = 0 then prL l false os else []
theorem bynd_len (l : List (Int × Int)) (os : List Opn) : (bynd l os).length ≤ os.length := by
  unfold bynd
  split
  · exact List.length_filter_le _ _
  · simp

/-- the iterator as a value -/
def itV (nb : Nat) : Value := .func (.func 22) #[] #[.pointer (some ⟨nb, 0, none⟩)]
theorem makeF : ∀ (fn : Fn) (first cap : Array Value) (w : World), (Instr.makeFunc fn first cap).run Try.prog w = .ok (.func fn first cap) w := fun _ _ _ _ => rfl

set_option maxRecDepth 100000 in
set_option maxHeartbeats 2000000 in
theorem Beyond_in {P : Nat → Prop} {w : World} {b : Nat} {base hv : List (Int × Int)} {os : List Opn} (hL : LL P w b base hv os) (hn0 : os.length ≤ 1000000) (v : Value) (l : List (Int × Int)) (hr : RI w v l) (hl : l.length ≤ 1000000) :
    Calls Try.prog 8 #[.pointer (some ⟨b, 0, none⟩), v] w fun e W => e = .returned (itV w.heap.size) ∧ IT (fun i => P i ∨ w.heap.size ≤ i) W w.heap.size (bynd l os) ∧ Below w.heap.size w W := by
  obtain ⟨vb, vh, vo, ops, h, rfl⟩ := hL
  rw [List.length_map] at hn0
  obtain ⟨X, hX⟩ : ∃ X, w.alloc (.cells #[.slice none 0 0] 28) = X := ⟨_, rfl⟩
  have x1 : Bx X w.heap.size 28 #[.slice none 0 0] := by rw [← hX]; exact Bx.new w _ _
  have bX : Below w.heap.size w X := by rw [← hX]; exact ballc (Below.refl _ _) _
  have hmf := makeF
  have HC := hide (Check_in v l X (hr.below bX) (by omega))
  obtain ⟨av, cv, rfl⟩ := hr.form
  have HX := hide x1
  have B0 := hide bX
  have Hh := hide h
  have Hr := hide hr
  have xl := x1.lt
  clear x1 bX h hr
  unfold itV
  by_cases hk : chk l = 0
  · rw [hk] at HC
    have HE := hide (show bynd l (ops.map Prod.fst) = prL l false (ops.map Prod.fst) from if_pos hk)
    clear hk
    go_enter Try.func8, Try.ntmps8
    go_wp2_with fail
    refine (unhide HC).mono ?_
    rintro r W1 ⟨rfl, hb1⟩
    have hb01 := bnext (unhide B0) hb1
    have HP := hide (part_in ((unhide Hh).below hb01) _ l false ((unhide Hr).below hb01) hl hn0)
    replace HX := hide ((unhide HX).below hb1)
    have B1 := hide hb01
    clear HC hb1 hX hb01
    go_wp2_with fail
    refine (unhide HP).mono ?_
    rintro r W2 ⟨v2, rfl, ho2, hb2⟩
    have x2 := (unhide HX).below hb2
    have c0 := x2.cell 0 _ rfl
    have f0 := x2.frozen 0
    have l0 := x2.lt
    obtain ⟨a2, c2, rfl⟩ := owns_form ho2
    have HX2 := hide x2
    have HO2 := hide ho2
    have B2 := hide (bnext (unhide B1) hb2)
    have hz1 := (unhide B1).size
    clear HP x2 ho2 hb2 HX
    go_wp2
    go_ret
    have k := Kp.set (N := fun i => i = w.heap.size) W2 ⟨w.heap.size, 0, none⟩ (.slice a2 (prt l false ops).length c2) rfl
    refine ⟨rfl, ⟨.slice a2 (prt l false ops).length c2, prt l false ops, ⟨?_, ?_, fun e he => ?_, .inr (Nat.le_refl _), fun k hk => .inr ?_, ?_⟩, ?_⟩, k.below (unhide B2) (fun i e => by omega)⟩
    · have := (unhide HX2).set 0 (.slice a2 (prt l false ops).length c2)
      simpa using this
    · exact own_base (owns_kp (unhide HO2) k (fun i hi e => own_ne_box (unhide HO2) (unhide HX2) (by decide) (by rw [hi, e]))) (Nat.zero_le _)
    · have oe := ((unhide Hh).re e (prt_mem he)).below (unhide B2)
      exact ⟨owns_kp oe.d k (fun i hi e => own_ne_box oe.d (unhide HX2) (by decide) (by rw [hi, e])), owns_kp oe.g k (fun i hi e => own_ne_box oe.g (unhide HX2) (by decide) (by rw [hi, e])), fun k hk => .inl (oe.pd k hk), fun k hk => .inl (oe.pg k hk), oe.s1, oe.s2, oe.s3⟩
    · have := ((unhide HO2).lt k hk).1; omega
    · have := prt_len l false ops; omega
    · rw [unhide HE, prt_fst]
  · have HE := hide (show bynd l (ops.map Prod.fst) = [] from if_neg hk)
    obtain ⟨k, hkk⟩ : ∃ k, chk l = k := ⟨_, rfl⟩
    rw [hkk] at HC hk
    have hk' : (k == 0) = false := by simpa using hk
    clear hkk hk
    go_enter Try.func8, Try.ntmps8
    go_wp2_with fail
    refine (unhide HC).mono ?_
    rintro r W1 ⟨rfl, hb1⟩
    have HB := hide (bnext (unhide B0) hb1)
    replace HX := hide ((unhide HX).below hb1)
    clear hb1 HC hX
    go_wp2
    go_ret
    exact ⟨rfl, ⟨_, [], ⟨unhide HX, World.ownsRow_nil _ _ _ _, fun e he => (by cases he), .inr (Nat.le_refl _), fun k hk => (by cases hk), by simp⟩, by rw [unhide HE]; rfl⟩, unhide HB⟩
theorem Beyond_nil (a : Option Addr) (n c : Nat) (w : World) : Calls Try.prog 8 #[.pointer none, .slice a n c] w fun e W => e = .returned (itV w.heap.size) ∧ IT (fun i => w.heap.size ≤ i) W w.heap.size [] ∧ Below w.heap.size w W := by
  have hmf := makeF
  unfold itV
  have x1 := Bx.new w 28 #[.slice none 0 0]
  have bX := ballc (Below.refl w.heap.size w) (.cells #[.slice none 0 0] 28)
  have HX := hide x1
  have HB := hide bX
  clear x1 bX
  go_enter Try.func8, Try.ntmps8
  go_wp2
  go_ret
  exact ⟨rfl, ⟨_, [], ⟨unhide HX, World.ownsRow_nil _ _ _ _, fun e he => (by cases he), Nat.le_refl _, fun k hk => (by cases hk), by simp⟩, rfl⟩, unhide HB⟩

/-- what is asked of a closure that an iterator calls -/
def BydY (fc : Nat) (caps : Array Value) (L : List Opn) (J Jx : List Opn → World → Prop) : Prop :=
  ∀ pre o rest Wc W1 a1 c1 a2 c2, pre ++ o :: rest = L → J pre Wc → Below Wc.heap.size Wc W1 → OwD W1 Wc.heap.size (.slice a1 o.deps.length c1) o.deps → OwR W1 Wc.heap.size (.slice a2 o.gone.length c2) o.gone → o.deps.length ≤ 1000000 → o.gone.length ≤ 1000000 → o.text.size ≤ 1000000 →
    Calls Try.prog fc (#[opA o (.slice a1 o.deps.length c1) (.slice a2 o.gone.length c2)] ++ caps) W1 fun e W' => ∃ b, e = .returned (.bool b) ∧ if b then J (pre ++ [o]) W' else Jx (pre ++ [o]) W'

set_option maxRecDepth 100000 in
set_option maxHeartbeats 4000000 in
theorem byd_clo (fc : Nat) (caps : Array Value) (P : Nat → Prop) (nb : Nat) (v : Value) (ops : List (Opn × Value × Value)) (J Jx : List Opn → World → Prop) (W : World)
    (he : ∀ args w, (callFunc fc args).run Try.prog w = .ok (.enter fc args) w)
    (hJ : ∀ pre W1 W2, J pre W1 → Below W1.heap.size W1 W2 → J pre W2) (hI : ∀ pre W1, J pre W1 → ITR P W1 nb v ops)
    (hY : BydY fc caps (ops.map Prod.fst) J Jx) (h0 : J [] W) :
    Calls Try.prog 22 #[.func (.func fc) #[] caps, .pointer (some ⟨nb, 0, none⟩)] W fun e W' => e = .returned (.tuple #[]) ∧ (J (ops.map Prod.fst) W' ∨ ∃ pre rest, pre ++ rest = ops.map Prod.fst ∧ Jx pre W') := by
  have i0 := hI _ _ h0
  obtain ⟨a, cap, rfl⟩ := owns_form i0.row
  have c0 := i0.box.cell 0 _ rfl
  have hlen := i0.len
  have HI := hide hI
  have HJ := hide hJ
  have HY := hide hY
  have H0 := hide h0
  clear i0 hJ hI hY h0
  go_enter Try.func22, Try.ntmps22
  go_wp2
  go_loopw [7] (fun iv wr => ∃ k : Nat, iv = .int .i64 (k : Nat) ∧ k ≤ ops.length ∧ Hid (J ((ops.take k).map Prod.fst) wr)) (fun iv _ => ops.length - (Lib.intOf iv).toNat)
  case atStart => exact ⟨0, rfl, by omega, by rw [List.take_zero]; exact H0⟩
  case round =>
    clear H0 c0
    obtain ⟨k, rfl, hkn, HH⟩ := hrel
    by_cases hlt : k < ops.length
    · have hlt' : (k : Int) < (ops.length : Int) := by omega
      obtain ⟨e, hx⟩ : ∃ e, ops[k]? = some e := ⟨_, List.getElem?_eq_getElem hlt⟩
      have it := unhide HI _ _ (unhide HH)
      obtain ⟨g, rfl, hgl, hcell⟩ := own_at11 it.row rfl hx
      have oe := it.re e (List.mem_of_getElem? hx)
      obtain ⟨a1, c1, h1⟩ := OwD.form oe.d
      obtain ⟨a2, c2, h2⟩ := OwR.form oe.g
      obtain ⟨o, ud, ug⟩ := e
      simp only at h1 h2
      subst h1 h2
      have q0 := hcell 0 _ rfl
      have q1 := hcell 1 _ rfl
      have q2 := hcell 2 _ rfl
      have q3 := hcell 3 _ rfl
      have q4 := hcell 4 _ rfl
      have q5 := hcell 5 _ rfl
      have q6 := hcell 6 _ rfl
      have q7 := hcell 7 _ rfl
      have q8 := hcell 8 _ rfl
      have q9 := hcell 9 _ rfl
      have q10 := hcell 10 _ rfl
      rw [Nat.add_zero] at q0
      have hsp : Hid ((ops.take k).map Prod.fst ++ o :: (ops.drop (k + 1)).map Prod.fst = ops.map Prod.fst) := by
        refine hide ?_
        have e1 : ops = ops.take k ++ (o, Value.slice a1 o.deps.length c1, Value.slice a2 o.gone.length c2) :: ops.drop (k + 1) := by
          have e2 : ops.drop k = (o, Value.slice a1 o.deps.length c1, Value.slice a2 o.gone.length c2) :: ops.drop (k + 1) := by
            rw [List.drop_eq_getElem_cons hlt]
            congr 1
            exact Option.some.inj ((List.getElem?_eq_getElem hlt).symm.trans hx)
          rw [← e2, List.take_append_drop]
        conv => rhs; rw [e1]
        simp
      have htk : Hid ((ops.take (k + 1)).map Prod.fst = (ops.take k).map Prod.fst ++ [o]) := by
        refine hide ?_
        rw [List.take_add_one, hx]
        simp
      obtain ⟨Y, hY0⟩ : ∃ Y, wr.alloc (.cells #[.int .i64 o.ds, .int .i64 o.dq, .slice a1 o.deps.length c1, .int .i64 o.kind, .int .i64 o.it, .int .i64 o.is, .int .i64 o.rt, .int .i64 o.rs, .string o.text, .slice a2 o.gone.length c2, .int .i64 o.site] 38) = Y := ⟨_, rfl⟩
      have bY : Below wr.heap.size wr Y := by rw [← hY0]; exact ballc (Below.refl _ _) _
      have xY := Bx.new wr 38 #[.int .i64 o.ds, .int .i64 o.dq, .slice a1 o.deps.length c1, .int .i64 o.kind, .int .i64 o.it, .int .i64 o.is, .int .i64 o.rt, .int .i64 o.rs, .string o.text, .slice a2 o.gone.length c2, .int .i64 o.site]
      rw [hY0] at xY
      have HCl := hide (clone_in o a1 a2 c1 c2 Y (oe.d.row.below bY) (RC.below oe.g.row bY) oe.s1 oe.s2 oe.s3)
      obtain ⟨z0, z1, z2, z3, z4, z5, z6, z7, z8, z9, z10⟩ := cells_op xY
      have yl := xY.lt
      have Hs := hide (show o.deps.length ≤ 1000000 ∧ o.gone.length ≤ 1000000 ∧ o.text.size ≤ 1000000 from ⟨oe.s1, oe.s2, oe.s3⟩)
      have BY := hide bY
      clear it oe hcell hx bY xY
      go_wp2_with fail
      refine (unhide HCl).mono ?_
      rintro r W1 ⟨vd', vg', rfl, hod, hog, hb1⟩
      obtain ⟨ad, cd, rfl⟩ := OwD.form hod
      obtain ⟨ag, cg, rfl⟩ := OwR.form hog
      obtain ⟨s1, s2, s3⟩ := unhide Hs
      have hcall := hide (unhide HY _ o _ wr W1 ad cd ag cg (unhide hsp) (unhide HH) (bnext (unhide BY) hb1) (OwD.base hod (unhide BY).size) (OwR.base hog (unhide BY).size) s1 s2 s3)
      unfold opA at hcall ⊢
      clear HCl hod hog hb1 BY hY0 q0 q1 q2 q3 q4 q5 q6 q7 q8 q9 q10 z0 z1 z2 z3 z4 z5 z6 z7 z8 z9 z10 s1 s2 s3
      go_wp2_with fail
      refine (unhide hcall).mono ?_
      rintro e W3 ⟨b, rfl, hJ3⟩
      cases b with
      | true =>
        have HJ3 := hide (show J ((ops.take (k + 1)).map Prod.fst) W3 by rw [unhide htk]; exact hJ3)
        clear hJ3 hcall
        go_wp2
        go_roundw
        case measure => show ops.length - ((k : Int) + 1).toNat < ops.length - ((k : Nat) : Int).toNat; omega
        case rel => exact ⟨k + 1, by go_num, by omega, HJ3⟩
      | false =>
        have HJ3 := hide hJ3
        clear hJ3 hcall
        go_wp2
        refine bodyPost_ret (results_none rfl _ _ _) rfl ?_
        refine ⟨rfl, .inr ⟨_, (ops.drop (k + 1)).map Prod.fst, ?_, unhide HJ3⟩⟩
        rw [← unhide hsp]
        simp
    · have hlt' : ¬ (k : Int) < (ops.length : Int) := by omega
      have HJl := hide (show J (ops.map Prod.fst) wr by have := unhide HH; rw [List.take_of_length_le (by omega)] at this; exact this)
      clear HH
      go_wp2
      go_end0
      exact ⟨rfl, .inl (unhide HJl)⟩

end Go.Proofs.Ytehmbbnmjiojgaa
