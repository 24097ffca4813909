/-
  The log: what lies beyond a vector; the iterator, called with a closure.
-/
import Derived.Test.YtijjoikeceechaaGreatZXLG5
import Derived.Laws.EntriesVeiled
import Derived.Test.YtijjoikeceechaaGreatZXReg
import Derived.RangeFuncBox
import Derived.RangeFuncNested
import Derived.RangeFuncBound
import Derived.RangeFuncCalls
import Derived.RangeFuncLeaves
import Derived.Shelf.Abstract
import Derived.Shelf.RegionOpen
import Derived.OwnWalkIn

set_option linter.unusedSimpArgs false
set_option linter.unusedVariables false
namespace Go.Proofs.YtijjoikeceechaaGreat
open Go.RowKit Go.Lib

/-- what an iterator has: its list, in its variable -/
structure ITR (P : Nat → Prop) (W : World) (nb : Nat) (v : Value) (ops : List (Opn × Value × Value)) : Prop where
  box : Bx W nb 33 #[v]
  row : W.ownsRow 0 45 11 v ops.length (flat encO ops)
  re : ∀ e ∈ ops, OE P W e
  pn : P nb
  pv : ∀ k, v.ownBlock = some k → P k
  len : ops.length ≤ 1000000
theorem ITR.kp {P N : Nat → Prop} {W W' : World} {nb : Nat} {v : Value} {ops : List (Opn × Value × Value)} (h : ITR P W nb v ops) (k : Kp N W W') (hn : ∀ i, N i → ¬ P i) : ITR P W' nb v ops :=
  ⟨h.box.kp k (fun e => hn _ e h.pn), owns_kp h.row k (fun i hi e => hn i e (h.pv i hi)), fun e he => (h.re e he).kp k hn, h.pn, h.pv, h.len⟩
theorem ITR.below {P : Nat → Prop} {W W' : World} {nb : Nat} {v : Value} {ops : List (Opn × Value × Value)} (h : ITR P W nb v ops) (hb : Below W.heap.size W W') : ITR P W' nb v ops := h.kp (N := fun _ => False) (Kp.of_below hb) (fun _ h => h.elim)
def IT (P : Nat → Prop) (W : World) (nb : Nat) (os : List Opn) : Prop := ∃ v ops, ITR P W nb v ops ∧ ops.map Prod.fst = os
/-- what lies beyond a vector -/
def bynd (l : List (Int × Int)) (os : List Opn) : List Opn := if chk l = 0 then prL l false os else []
theorem bynd_len (l : List (Int × Int)) (os : List Opn) : (bynd l os).length ≤ os.length := by
  unfold bynd
  split
  · exact List.length_filter_le _ _
  · simp

/-- the iterator as a value -/
def itV (nb : Nat) : Value := .func (.func 40) #[] #[.pointer (some ⟨nb, 0, none⟩)]
theorem makeF : ∀ (fn : Fn) (first cap : Array Value) (w : World), (Instr.makeFunc fn first cap).run Tryz.prog w = .ok (.func fn first cap) w := fun _ _ _ _ => rfl

set_option maxRecDepth 100000 in
set_option maxHeartbeats 2000000 in
theorem Beyond_in {P : Nat → Prop} {w : World} {b : Nat} {base hv : List (Int × Int)} {os : List Opn} (hL : LL P w b base hv os) (hn0 : os.length ≤ 1000000) (v : Value) (l : List (Int × Int)) (hr : RI w v l) (hl : l.length ≤ 1000000) :
    Calls Tryz.prog 15 #[.pointer (some ⟨b, 0, none⟩), v] w fun e W => e = .returned (itV w.heap.size) ∧ IT (fun i => P i ∨ w.heap.size ≤ i) W w.heap.size (bynd l os) ∧ Below w.heap.size w W := by
  obtain ⟨vb, vh, vo, ops, h, rfl⟩ := hL
  rw [List.length_map] at hn0
  obtain ⟨X, hX⟩ : ∃ X, w.alloc (.cells #[.slice none 0 0] 33) = X := ⟨_, rfl⟩
  have x1 : Bx X w.heap.size 33 #[.slice none 0 0] := by rw [← hX]; exact Bx.new w _ _
  have bX : Below w.heap.size w X := by rw [← hX]; exact ballc (Below.refl _ _) _
  have hmf := makeF
  have HC := hide (Check_in v l X (hr.below bX) (by omega))
  obtain ⟨av, cv, rfl⟩ := hr.form
  have HX := hide x1
  have B0 := hide bX
  have Hh := hide h
  have Hr := hide hr
  have xl := x1.lt
  clear x1 bX h hr
  unfold itV
  by_cases hk : chk l = 0
  · rw [hk] at HC
    have HE := hide (show bynd l (ops.map Prod.fst) = prL l false (ops.map Prod.fst) from if_pos hk)
    clear hk
    go_enter Tryz.func15, Tryz.ntmps15
    go_wp2_with fail
    refine (unhide HC).mono ?_
    rintro r W1 ⟨rfl, hb1⟩
    have hb01 := bnext (unhide B0) hb1
    have HP := hide (part_in ((unhide Hh).below hb01) _ l false ((unhide Hr).below hb01) hl hn0)
    replace HX := hide ((unhide HX).below hb1)
    have B1 := hide hb01
    clear HC hb1 hX hb01
    go_wp2_with fail
    refine (unhide HP).mono ?_
    rintro r W2 ⟨v2, rfl, ho2, hb2⟩
    have x2 := (unhide HX).below hb2
    have c0 := x2.cell 0 _ rfl
    have f0 := x2.frozen 0
    have l0 := x2.lt
    obtain ⟨a2, c2, rfl⟩ := owns_form ho2
    have HX2 := hide x2
    have HO2 := hide ho2
    have B2 := hide (bnext (unhide B1) hb2)
    have hz1 := (unhide B1).size
    clear HP x2 ho2 hb2 HX
    go_wp2
    go_ret
    have k := Kp.set (N := fun i => i = w.heap.size) W2 ⟨w.heap.size, 0, none⟩ (.slice a2 (prt l false ops).length c2) rfl
    refine ⟨rfl, ⟨.slice a2 (prt l false ops).length c2, prt l false ops, ⟨?_, ?_, fun e he => ?_, .inr (Nat.le_refl _), fun k hk => .inr ?_, ?_⟩, ?_⟩, k.below (unhide B2) (fun i e => by omega)⟩
    · have := (unhide HX2).set 0 (.slice a2 (prt l false ops).length c2)
      simpa using this
    · exact own_base (owns_kp (unhide HO2) k (fun i hi e => own_ne_box (unhide HO2) (unhide HX2) (by decide) (by rw [hi, e]))) (Nat.zero_le _)
    · have oe := ((unhide Hh).re e (prt_mem he)).below (unhide B2)
      exact ⟨owns_kp oe.d k (fun i hi e => own_ne_box oe.d (unhide HX2) (by decide) (by rw [hi, e])), owns_kp oe.g k (fun i hi e => own_ne_box oe.g (unhide HX2) (by decide) (by rw [hi, e])), fun k hk => .inl (oe.pd k hk), fun k hk => .inl (oe.pg k hk), oe.s1, oe.s2, oe.s3⟩
    · have := ((unhide HO2).lt k hk).1; omega
    · have := prt_len l false ops; omega
    · rw [unhide HE, prt_fst]
  · have HE := hide (show bynd l (ops.map Prod.fst) = [] from if_neg hk)
    obtain ⟨k, hkk⟩ : ∃ k, chk l = k := ⟨_, rfl⟩
    rw [hkk] at HC hk
    have hk' : (k == 0) = false := by simpa using hk
    clear hkk hk
    go_enter Tryz.func15, Tryz.ntmps15
    go_wp2_with fail
    refine (unhide HC).mono ?_
    rintro r W1 ⟨rfl, hb1⟩
    have HB := hide (bnext (unhide B0) hb1)
    replace HX := hide ((unhide HX).below hb1)
    clear hb1 HC hX
    go_wp2
    go_ret
    exact ⟨rfl, ⟨_, [], ⟨unhide HX, World.ownsRow_nil _ _ _ _, fun e he => (by cases he), .inr (Nat.le_refl _), fun k hk => (by cases hk), by simp⟩, by rw [unhide HE]; rfl⟩, unhide HB⟩
theorem Beyond_nil (a : Option Addr) (n c : Nat) (w : World) : Calls Tryz.prog 15 #[.pointer none, .slice a n c] w fun e W => e = .returned (itV w.heap.size) ∧ IT (fun i => w.heap.size ≤ i) W w.heap.size [] ∧ Below w.heap.size w W := by
  have hmf := makeF
  unfold itV
  have x1 := Bx.new w 33 #[.slice none 0 0]
  have bX := ballc (Below.refl w.heap.size w) (.cells #[.slice none 0 0] 33)
  have HX := hide x1
  have HB := hide bX
  clear x1 bX
  go_enter Tryz.func15, Tryz.ntmps15
  go_wp2
  go_ret
  exact ⟨rfl, ⟨_, [], ⟨unhide HX, World.ownsRow_nil _ _ _ _, fun e he => (by cases he), Nat.le_refl _, fun k hk => (by cases hk), by simp⟩, rfl⟩, unhide HB⟩

/-- what is asked of a closure that an iterator calls -/
def BydY (fc : Nat) (caps : Array Value) (L : List Opn) (J Jx : List Opn → World → Prop) : Prop :=
  ∀ pre o rest Wc W1 a1 c1 a2 c2, pre ++ o :: rest = L → J pre Wc → Below Wc.heap.size Wc W1 → OwD W1 Wc.heap.size (.slice a1 o.deps.length c1) o.deps → OwR W1 Wc.heap.size (.slice a2 o.gone.length c2) o.gone → o.deps.length ≤ 1000000 → o.gone.length ≤ 1000000 → o.text.size ≤ 1000000 →
    Calls Tryz.prog fc (#[opA o (.slice a1 o.deps.length c1) (.slice a2 o.gone.length c2)] ++ caps) W1 fun e W' => ∃ b, e = .returned (.bool b) ∧ if b then J (pre ++ [o]) W' else Jx (pre ++ [o]) W'

set_option maxRecDepth 100000 in
set_option maxHeartbeats 4000000 in
theorem byd_clo (fc : Nat) (caps : Array Value) (P : Nat → Prop) (nb : Nat) (v : Value) (ops : List (Opn × Value × Value)) (J Jx : List Opn → World → Prop) (W : World)
    (he : ∀ args w, (callFunc fc args).run Tryz.prog w = .ok (.enter fc args) w)
    (hJ : ∀ pre W1 W2, J pre W1 → Below W1.heap.size W1 W2 → J pre W2) (hI : ∀ pre W1, J pre W1 → ITR P W1 nb v ops)
    (hY : BydY fc caps (ops.map Prod.fst) J Jx) (h0 : J [] W) :
    Calls Tryz.prog 40 #[.func (.func fc) #[] caps, .pointer (some ⟨nb, 0, none⟩)] W fun e W' => e = .returned (.tuple #[]) ∧ (J (ops.map Prod.fst) W' ∨ ∃ pre rest, pre ++ rest = ops.map Prod.fst ∧ Jx pre W') := by
  have i0 := hI _ _ h0
  obtain ⟨a, cap, rfl⟩ := owns_form i0.row
  have c0 := i0.box.cell 0 _ rfl
  have hlen := i0.len
  have HI := hide hI
  have HJ := hide hJ
  have HY := hide hY
  have H0 := hide h0
  clear i0 hJ hI hY h0
  go_enter Tryz.func40, Tryz.ntmps40
  go_wp2
  go_loopw [7] (fun iv wr => ∃ k : Nat, iv = .int .i64 (k : Nat) ∧ k ≤ ops.length ∧ Hid (J ((ops.take k).map Prod.fst) wr)) (fun iv _ => ops.length - (Lib.intOf iv).toNat)
  case atStart => exact ⟨0, rfl, by omega, by rw [List.take_zero]; exact H0⟩
  case round =>
    clear H0 c0
    obtain ⟨k, rfl, hkn, HH⟩ := hrel
    by_cases hlt : k < ops.length
    · have hlt' : (k : Int) < (ops.length : Int) := by omega
      obtain ⟨e, hx⟩ : ∃ e, ops[k]? = some e := ⟨_, List.getElem?_eq_getElem hlt⟩
      have it := unhide HI _ _ (unhide HH)
      obtain ⟨g, rfl, hgl, hcell⟩ := own_at11 it.row rfl hx
      have oe := it.re e (List.mem_of_getElem? hx)
      obtain ⟨a1, c1, h1⟩ := OwD.form oe.d
      obtain ⟨a2, c2, h2⟩ := OwR.form oe.g
      obtain ⟨o, ud, ug⟩ := e
      simp only at h1 h2
      subst h1 h2
      have q0 := hcell 0 _ rfl
      have q1 := hcell 1 _ rfl
      have q2 := hcell 2 _ rfl
      have q3 := hcell 3 _ rfl
      have q4 := hcell 4 _ rfl
      have q5 := hcell 5 _ rfl
      have q6 := hcell 6 _ rfl
      have q7 := hcell 7 _ rfl
      have q8 := hcell 8 _ rfl
      have q9 := hcell 9 _ rfl
      have q10 := hcell 10 _ rfl
      rw [Nat.add_zero] at q0
      have hsp : Hid ((ops.take k).map Prod.fst ++ o :: (ops.drop (k + 1)).map Prod.fst = ops.map Prod.fst) := by
        refine hide ?_
        have e1 : ops = ops.take k ++ (o, Value.slice a1 o.deps.length c1, Value.slice a2 o.gone.length c2) :: ops.drop (k + 1) := by
          have e2 : ops.drop k = (o, Value.slice a1 o.deps.length c1, Value.slice a2 o.gone.length c2) :: ops.drop (k + 1) := by
            rw [List.drop_eq_getElem_cons hlt]
            congr 1
            exact Option.some.inj ((List.getElem?_eq_getElem hlt).symm.trans hx)
          rw [← e2, List.take_append_drop]
        conv => rhs; rw [e1]
        simp
      have htk : Hid ((ops.take (k + 1)).map Prod.fst = (ops.take k).map Prod.fst ++ [o]) := by
        refine hide ?_
        rw [List.take_add_one, hx]
        simp
      obtain ⟨Y, hY0⟩ : ∃ Y, wr.alloc (.cells #[.int .i64 o.ds, .int .i64 o.dq, .slice a1 o.deps.length c1, .int .i64 o.kind, .int .i64 o.it, .int .i64 o.is, .int .i64 o.rt, .int .i64 o.rs, .string o.text, .slice a2 o.gone.length c2, .int .i64 o.site] 45) = Y := ⟨_, rfl⟩
      have bY : Below wr.heap.size wr Y := by rw [← hY0]; exact ballc (Below.refl _ _) _
      have xY := Bx.new wr 45 #[.int .i64 o.ds, .int .i64 o.dq, .slice a1 o.deps.length c1, .int .i64 o.kind, .int .i64 o.it, .int .i64 o.is, .int .i64 o.rt, .int .i64 o.rs, .string o.text, .slice a2 o.gone.length c2, .int .i64 o.site]
      rw [hY0] at xY
      have HCl := hide (clone_in o a1 a2 c1 c2 Y (oe.d.row.below bY) (RC.below oe.g.row bY) oe.s1 oe.s2 oe.s3)
      obtain ⟨z0, z1, z2, z3, z4, z5, z6, z7, z8, z9, z10⟩ := cells_op xY
      have yl := xY.lt
      have Hs := hide (show o.deps.length ≤ 1000000 ∧ o.gone.length ≤ 1000000 ∧ o.text.size ≤ 1000000 from ⟨oe.s1, oe.s2, oe.s3⟩)
      have BY := hide bY
      clear it oe hcell hx bY xY
      go_wp2_with fail
      refine (unhide HCl).mono ?_
      rintro r W1 ⟨vd', vg', rfl, hod, hog, hb1⟩
      obtain ⟨ad, cd, rfl⟩ := OwD.form hod
      obtain ⟨ag, cg, rfl⟩ := OwR.form hog
      obtain ⟨s1, s2, s3⟩ := unhide Hs
      have hcall := hide (unhide HY _ o _ wr W1 ad cd ag cg (unhide hsp) (unhide HH) (bnext (unhide BY) hb1) (OwD.base hod (unhide BY).size) (OwR.base hog (unhide BY).size) s1 s2 s3)
      unfold opA at hcall ⊢
      clear HCl hod hog hb1 BY hY0 q0 q1 q2 q3 q4 q5 q6 q7 q8 q9 q10 z0 z1 z2 z3 z4 z5 z6 z7 z8 z9 z10 s1 s2 s3
      go_wp2_with fail
      refine (unhide hcall).mono ?_
      rintro e W3 ⟨b, rfl, hJ3⟩
      cases b with
      | true =>
        have HJ3 := hide (show J ((ops.take (k + 1)).map Prod.fst) W3 by rw [unhide htk]; exact hJ3)
        clear hJ3 hcall
        go_wp2
        go_roundw
        case measure => show ops.length - ((k : Int) + 1).toNat < ops.length - ((k : Nat) : Int).toNat; omega
        case rel => exact ⟨k + 1, by go_num, by omega, HJ3⟩
      | false =>
        have HJ3 := hide hJ3
        clear hJ3 hcall
        go_wp2
        refine bodyPost_ret (results_none rfl _ _ _) rfl ?_
        refine ⟨rfl, .inr ⟨_, (ops.drop (k + 1)).map Prod.fst, ?_, unhide HJ3⟩⟩
        rw [← unhide hsp]
        simp
    · have hlt' : ¬ (k : Int) < (ops.length : Int) := by omega
      have HJl := hide (show J (ops.map Prod.fst) wr by have := unhide HH; rw [List.take_of_length_le (by omega)] at this; exact this)
      clear HH
      go_wp2
      go_end0
      exact ⟨rfl, .inl (unhide HJl)⟩

end Go.Proofs.YtijjoikeceechaaGreat

/-
  A range over an iterator whose arguments are told by what holds of them: the rounds are told what has come.
-/
set_option linter.unusedSimpArgs false
set_option linter.unusedVariables false
namespace Go.Proofs.YtijjoikeceechaaGreat
open Go.RowKit Go.Lib Go.Shelf

/-- what is laid, or turned from block B to T, is let by -/
def AbidesAll {β : Type} (B T : Nat) (J : β → World → Prop) : Prop := ∀ s W W' row, J s W → W.grownBy W' row → (∀ r, row = some r → B ≤ r ∧ r < T) → J s W'
theorem AbidesAll.and {β : Type} {B T : Nat} {I I' : β → World → Prop} (h : AbidesAll B T I) (h' : AbidesAll B T I') : AbidesAll B T (fun s W => I s W ∧ I' s W) := fun s W W' row hs hg hr => ⟨h s W W' row hs.1 hg hr, h' s W W' row hs.2 hg hr⟩
theorem AbidesAll.pure {β : Type} (B T : Nat) (p : β → Prop) : AbidesAll B T (fun s (_ : World) => p s) := fun _ _ _ _ hs _ _ => hs
theorem AbidesAll.boxed {β : Type} {B T b : Nat} (hb : b < B ∨ T ≤ b) (t : TypeId) (f : β → Value) : AbidesAll B T (fun s W => Boxed W b t (f s)) := fun s W W' row hs hg hr => hs.kept hg (fun e => by have := hr b e.symm; omega)
theorem AbidesAll.below {β : Type} {B T n : Nat} {w : World} (hn : n ≤ w.heap.size) (hB : n ≤ B) : AbidesAll B T (fun (_ : β) W => Below n w W) := fun s W W' row hs hg hr => hs.grown hg (Nat.le_trans hn hs.size) (fun k e => Nat.le_trans hB (hr k e).1)
theorem AbidesAll.mono {β : Type} {B B' T T' : Nat} {I : β → World → Prop} (h : AbidesAll B T I) (hB : B ≤ B') (hT : T' ≤ T) : AbidesAll B' T' I := fun s W W' row hs hg hr => h s W W' row hs hg (fun r e => ⟨Nat.le_trans hB (hr r e).1, Nat.lt_of_lt_of_le (hr r e).2 hT⟩)
theorem AbidesAll.alloc {β : Type} {B T : Nat} {I : β → World → Prop} (h : AbidesAll B T I) {s : β} {W : World} (hs : I s W) (o : Obj) : I s (W.alloc o) := h s _ _ none hs (World.grownBy_alloc W o none) (fun r e => by cases e)
theorem AbidesAll.put {β : Type} {B T : Nat} {I : β → World → Prop} (h : AbidesAll B T I) {s : β} {W : World} (hs : I s W) (l : Nat) (hl : B ≤ l ∧ l < T) (o : Obj) : I s (W.putObj l o) := h s _ _ (some l) hs (grownBy_putObj' W l o) (fun r e => by cases e; exact hl)

theorem room_none {F : Fence} (hd : F.depth = none) (k : Nat) : F.room k := fun d h => by rw [hd] at h; cases h

theorem roundIn_any {m m' : Nat} {P : Program} {l : Nat} {f : FuncId} {tmps : Array Value} {assign body : Code} {w : World} {R : Ending → World → Prop} (h : RoundIn Fence.wide m P l f tmps assign body w R) : RoundIn Fence.wide m' P l f tmps assign body w R := ⟨h.1, fun c cs _ => h.2 c cs (room_none rfl _)⟩

/-- a call of yield, at whatever depth -/
def YieldL (l : Nat) (args : Array Value) (W : World) (R : Bool → World → Prop) : Prop := ∀ m, YieldAt Fence.wide m Tryz.prog l args W fun e W' => ∃ b, e = .returned (.bool b) ∧ R b W'

/-- an iterator that goes through a list; S: what it has itself -/
def SeqE {α : Type} (gf : Nat) (lb : Array Value) (A : α → World → Array Value → Prop) (L : List α) (S : World → Prop) : Prop :=
  ∀ (l : Nat) (J Jx : List α → World → Prop) (W : World), (∀ pre W1 W2, J pre W1 → Below W1.heap.size W1 W2 → J pre W2) → (∀ pre W1, J pre W1 → S W1) →
    (∀ pre x rest W1 args, pre ++ x :: rest = L → J pre W1 → A x W1 args → YieldL l args W1 fun b W' => if b then J (pre ++ [x]) W' else Jx (pre ++ [x]) W') →
    J [] W → ∀ n, CallsIn Fence.wide n Tryz.prog gf (#[.func (.yield l) #[] #[]] ++ lb) W fun e W' => (∃ v, e = .returned v) ∧ ((J L W' ∧ True) ∨ ∃ pre rest, pre ++ rest = L ∧ Jx pre W')

/-- how a round's body may be left -/
def postE {α : Type} (B : Nat) (I : List α → World → Prop) (Ix : Code → List α → World → Prop) (xs : List α) (W : World) : Exit → Act → World → Prop
  | .normal, _, W' => (∀ k, B ≤ k → k < B + 2 → W'.heap[k]? = W.heap[k]?) ∧ I xs W'
  | .ret, _, W' => (∀ k, B ≤ k → k < B + 2 → W'.heap[k]? = W.heap[k]?) ∧ Ix .ret xs W'
  | .exit id, _, W' => (∀ k, B ≤ k → k < B + 2 → W'.heap[k]? = W.heap[k]?) ∧ Ix (.exit id) xs W'
  | .goto t, _, W' => (∀ k, B ≤ k → k < B + 2 → W'.heap[k]? = W.heap[k]?) ∧ Ix (.goto t) xs W'
  | .panic _, _, _ => False
  | .outgrown, _, _ => False

set_option maxHeartbeats 1000000 in
theorem range_E {α : Type} {g : Operand} {ps : Array Tmp} {assign body : Code} {Q : Exit → Act → World → Prop} {a : Act} {w : World} {n : Nat}
    {gf : Nat} {lb : Array Value} (hg : a.eval g = .func (.func gf) #[] lb) (eg : ∀ args w, (callFunc gf args).run Tryz.prog w = .ok (.enter gf args) w)
    {A : α → World → Array Value → Prop} {L : List α} {S : World → Prop} (hseq : SeqE gf lb A L S) (hps : ∀ x W args, A x W args → args.size = ps.size)
    (I : List α → World → Prop) (Ix : Code → List α → World → Prop) (hI : AbidesAll w.heap.size (w.heap.size + 2) I) (hIx : ∀ c, AbidesAll w.heap.size (w.heap.size + 2) (Ix c)) (hS : ∀ pre W, I pre W → S W) (h0 : I [] w) (a₁ : α → Array Value → Act)
    (hassign : ∀ (l : Nat) (x : α) (args : Array Value) (W : World) (K : Act → World → Prop), A x W args → K (a₁ x args) W → assign.wpIn (Fence.wide.inRound l) 4 Tryz.prog (Exit.then K (fun _ _ _ => False)) { tmps := (ps.zip args).foldl (fun t (p, v) => t.setIfInBounds p v) a.tmps, defers := [] } W)
    (hbody : ∀ (l : Nat) (pre : List α) (x : α) (rest : List α) (args : Array Value) (W : World), pre ++ x :: rest = L → w.heap.size + 2 ≤ W.heap.size → I pre W → body.wpIn (Fence.wide.inRound l) 4 Tryz.prog (postE w.heap.size I Ix (pre ++ [x]) W) (a₁ x args) W)
    (hdone : ∀ (D : Nat) (W : World), D = w.heap.size → w.heap.size + 2 ≤ W.heap.size → I L W → W.heap[D]? = some (.deferred (some [])) → Q .normal { a with defers := { target := .collected D, args := #[] } :: a.defers } W)
    (hstop : ∀ (D : Nat) (c : Code) (pre rest : List α) (W : World), D = w.heap.size → pre ++ rest = L → Ix c pre W → W.heap[D]? = some (.deferred (some [])) → c.wpIn Fence.wide n Tryz.prog Q { a with defers := { target := .collected D, args := #[] } :: a.defers } W) :
    (Code.rangeFunc g ps assign body).wpIn Fence.wide n Tryz.prog Q a w := by
  refine wpIn_rangeFunc fun fn hfn => ?_
  obtain ⟨R0, hR0⟩ : ∃ R0 : LoopState → Option Code → Loop, R0 = fun st pe => { state := st, pending := pe, fn, tmps := a.tmps, params := ps, assign, body, defers := w.heap.size } := ⟨_, rfl⟩
  obtain ⟨W1, hW1⟩ : ∃ W1, (w.alloc (.deferred (some []))).alloc (.loop (R0 .ready none)) = W1 := ⟨_, rfl⟩
  have hz1 : W1.heap.size = w.heap.size + 2 := by rw [← hW1]; simp
  have hL1 : W1.heap[w.heap.size + 1]? = some (.loop (R0 .ready none)) := by
    rw [← hW1]; have := World.alloc_heap_new (w.alloc (.deferred (some []))) (.loop (R0 .ready none)); rwa [World.size_alloc] at this
  have hD1 : W1.heap[w.heap.size]? = some (.deferred (some [])) := by
    rw [← hW1]; exact (Below.heap_alloc _ _ _ (by simp)).trans (World.alloc_heap_new w _)
  have hI1 : I [] W1 := by rw [← hW1]; exact hI.alloc (hI.alloc h0 _) _
  refine ⟨w.heap.size + 1, [{ target := .collected w.heap.size, args := #[] }], W1, { target := .fn (.func gf) lb, args := #[.func (.yield (w.heap.size + 1)) #[] #[]] }, W1, gf,
    #[.func (.yield (w.heap.size + 1)) #[] #[]] ++ lb, W1, ?_, ?_, fun _ _ => trivial, ?_, fun h => (by cases h), ?_⟩
  · rw [← hW1, hR0]; exact run_enterLoop_outer _ _ _ _ _
  · simp only [resolve, hg]
    simp [go_sem]
  · simp [invoke, go_sem, eg]
  · have st : ∀ {c : LoopState} {pe : Option Code} {I' : List α → World → Prop}, AbidesAll w.heap.size (w.heap.size + 2) I' → ∀ pre (A' B' : World), (I' pre A' ∧ A'.heap[w.heap.size + 1]? = some (.loop (R0 c pe)) ∧ A'.heap[w.heap.size]? = some (.deferred (some []))) → Below A'.heap.size A' B' → (I' pre B' ∧ B'.heap[w.heap.size + 1]? = some (.loop (R0 c pe)) ∧ B'.heap[w.heap.size]? = some (.deferred (some []))) := fun hI' pre A' B' ⟨h1, h2, h3⟩ hb =>
      ⟨hI' pre A' B' none h1 ⟨hb.os, hb.tape, hb.output, hb.size, fun k hk _ => hb.block k hk⟩ (fun r e => by cases e), (hb.block _ (Array.getElem?_eq_some_iff.1 h2).1).trans h2, (hb.block _ (Array.getElem?_eq_some_iff.1 h3).1).trans h3⟩
    refine (hseq (w.heap.size + 1)
      (fun pre W => I pre W ∧ W.heap[w.heap.size + 1]? = some (.loop (R0 .ready none)) ∧ W.heap[w.heap.size]? = some (.deferred (some [])))
      (fun pre W => ∃ c, Ix c pre W ∧ W.heap[w.heap.size + 1]? = some (.loop (R0 .done (some c))) ∧ W.heap[w.heap.size]? = some (.deferred (some [])))
      W1 (fun pre A' B' h hb => st hI pre A' B' h hb) (fun pre W h => hS pre W h.1) ?_ ⟨hI1, hL1, hD1⟩ (n - 1)).mono ?_
    · rintro pre x rest W args hpre ⟨hi, hl, hd⟩ hA m
      have hlt : w.heap.size + 1 < W.heap.size := (Array.getElem?_eq_some_iff.1 hl).1
      have hy := run_yield (P := Tryz.prog) (args := args) hl (by rw [hR0]; exact hps x W args hA)
      rw [hR0] at hy
      refine ⟨fn, _, assign, body, hy, roundIn_any (m := 4) (roundIn_of_wpIn hfn (hassign _ x args W _ hA ?_))⟩
      clear hy
      refine ⟨_, run_beginRound hl (by rw [hR0]), ?_⟩
      obtain ⟨W2, hW2⟩ : ∃ W2, W.putObj (w.heap.size + 1) (.loop { R0 .ready none with state := .busy }) = W2 := ⟨_, rfl⟩
      have hl2 : W2.heap[w.heap.size + 1]? = some (.loop { R0 .ready none with state := .busy }) := by rw [← hW2]; exact World.putObj_heap_same hlt
      have hd2 : W2.heap[w.heap.size]? = some (.deferred (some [])) := by rw [← hW2]; exact (World.putObj_heap_other (by omega)).trans hd
      have hz2 : w.heap.size + 2 ≤ W2.heap.size := by rw [← hW2]; simp [World.putObj]; omega
      have hi2 : I pre W2 := by rw [← hW2]; exact hI.put hi _ (by omega) _
      rw [hW2]
      refine wpIn_mono (hbody _ pre x rest args W2 hpre hz2 hi2) ?_
      have fin : ∀ (jump : Option Code) (W3 : World), (∀ k, w.heap.size ≤ k → k < w.heap.size + 2 → W3.heap[k]? = W2.heap[k]?) →
          ∃ W4, (Instr.endRound (w.heap.size + 1) jump).run Tryz.prog W3 = .ok (.bool jump.isNone) W4 ∧ W4 = W3.putObj (w.heap.size + 1) (.loop (R0 (if jump.isNone then .ready else .done) jump)) ∧
          W4.heap[w.heap.size + 1]? = some (.loop (R0 (if jump.isNone then .ready else .done) jump)) ∧ W4.heap[w.heap.size]? = some (.deferred (some [])) := fun jump W3 hk3 => by
        have hl3 := (hk3 (w.heap.size + 1) (by omega) (by omega)).trans hl2
        have hd3 := (hk3 w.heap.size (Nat.le_refl _) (by omega)).trans hd2
        have he := run_endRound (P := Tryz.prog) jump hl3
        refine ⟨_, he, by rw [hR0], ?_, (World.putObj_heap_other (by omega)).trans hd3⟩
        rw [World.putObj_heap_same (Array.getElem?_eq_some_iff.1 hl3).1, hR0]
      rintro e a3 W3 hp
      cases e with
      | normal =>
        obtain ⟨hk3, hi3⟩ := hp
        obtain ⟨W4, hr, hW4, hl4, hd4⟩ := fin none W3 hk3
        refine ⟨_, _, hr, true, rfl, ?_, hl4, hd4⟩
        rw [hW4]; exact hI.put hi3 _ (by omega) _
      | ret =>
        obtain ⟨hk3, hi3⟩ := hp
        obtain ⟨W4, hr, hW4, hl4, hd4⟩ := fin (some .ret) W3 hk3
        refine ⟨_, _, hr, false, rfl, .ret, ?_, hl4, hd4⟩
        rw [hW4]; exact (hIx _).put hi3 _ (by omega) _
      | exit id =>
        obtain ⟨hk3, hi3⟩ := hp
        obtain ⟨W4, hr, hW4, hl4, hd4⟩ := fin (some (.exit id)) W3 hk3
        refine ⟨_, _, hr, false, rfl, .exit id, ?_, hl4, hd4⟩
        rw [hW4]; exact (hIx _).put hi3 _ (by omega) _
      | goto t =>
        obtain ⟨hk3, hi3⟩ := hp
        obtain ⟨W4, hr, hW4, hl4, hd4⟩ := fin (some (.goto t)) W3 hk3
        refine ⟨_, _, hr, false, rfl, .goto t, ?_, hl4, hd4⟩
        rw [hW4]; exact (hIx _).put hi3 _ (by omega) _
      | panic ch => exact hp.elim
      | outgrown => exact hp.elim
    · rintro e W2 ⟨⟨v, rfl⟩, (⟨⟨hi, hl, hd⟩, hzW⟩ | ⟨pre, rest, hpre, c, hi, hl, hd⟩)⟩
      · refine ⟨none, _, by have := run_endLoop (P := Tryz.prog) hl (by rw [hR0]; simp); rw [hR0] at this; exact this, hdone _ _ rfl (by have := (Array.getElem?_eq_some_iff.1 hl).1; simp [World.putObj]; omega) (hI.put hi _ (by omega) _) ((World.putObj_heap_other (by omega)).trans hd)⟩
      · refine ⟨some c, _, by have := run_endLoop (P := Tryz.prog) hl (by rw [hR0]; simp); rw [hR0] at this; exact this, hstop _ c pre rest _ rfl hpre ((hIx c).put hi _ (by omega) _) ((World.putObj_heap_other (by omega)).trans hd)⟩

end Go.Proofs.YtijjoikeceechaaGreat

/-
  The log's iterator, ranged over; Lacks.
-/
set_option linter.unusedSimpArgs false
set_option linter.unusedVariables false
namespace Go.Proofs.YtijjoikeceechaaGreat
open Go.RowKit Go.Lib Go.Shelf

attribute [local go_sem] Oper.semAt_some

/-- what the iterator yields: an operation in lists of its own -/
def BydA (o : Opn) (W : World) (args : Array Value) : Prop := ∃ vd vg, args = #[opA o vd vg]

set_option maxRecDepth 100000 in
set_option maxHeartbeats 4000000 in
theorem byd_E (P : Nat → Prop) (nb : Nat) (v : Value) (ops : List (Opn × Value × Value)) :
    SeqE 40 #[.pointer (some ⟨nb, 0, none⟩)] BydA (ops.map Prod.fst) (fun W => ITR P W nb v ops) := by
  intro l J Jx W hJ hI hY h0 n
  show CallsIn Fence.wide n Tryz.prog 40 #[.func (.yield l) #[] #[], .pointer (some ⟨nb, 0, none⟩)] W _
  have i0 := hI _ _ h0
  obtain ⟨a, cap, rfl⟩ := owns_form i0.row
  have c0 := i0.box.cell 0 _ rfl
  have hlen := i0.len
  have HI := hide hI
  have HJ := hide hJ
  have HY := hide hY
  have H0 := hide h0
  clear i0 hJ hI hY h0
  refine callsIn_of_wp Tryz.func40 rfl trivial ?_ rfl
  simp only [Tryz.ntmps40, List.size_toArray, List.length_cons, List.length_nil, Nat.reduceAdd, Nat.reduceSub, Array.replicate_succ, Array.replicate_zero, List.push_toArray, List.append_toArray, List.nil_append, List.cons_append]
  gi_wp2
  gi_loopw [7] (fun iv wr => ∃ k : Nat, iv = .int .i64 (k : Nat) ∧ k ≤ ops.length ∧ Hid (J ((ops.take k).map Prod.fst) wr)) (fun iv _ => ops.length - (Lib.intOf iv).toNat)
  case atStart => exact ⟨0, rfl, by omega, by rw [List.take_zero]; exact H0⟩
  case round =>
    clear H0 c0
    obtain ⟨k, rfl, hkn, HH⟩ := hrel
    by_cases hlt : k < ops.length
    · have hlt' : (k : Int) < (ops.length : Int) := by omega
      obtain ⟨e, hx⟩ : ∃ e, ops[k]? = some e := ⟨_, List.getElem?_eq_getElem hlt⟩
      have it := unhide HI _ _ (unhide HH)
      obtain ⟨g, rfl, hgl, hcell⟩ := own_at11 it.row rfl hx
      have oe := it.re e (List.mem_of_getElem? hx)
      obtain ⟨a1, c1, h1⟩ := OwD.form oe.d
      obtain ⟨a2, c2, h2⟩ := OwR.form oe.g
      obtain ⟨o, ud, ug⟩ := e
      simp only at h1 h2
      subst h1 h2
      have q0 := hcell 0 _ rfl
      have q1 := hcell 1 _ rfl
      have q2 := hcell 2 _ rfl
      have q3 := hcell 3 _ rfl
      have q4 := hcell 4 _ rfl
      have q5 := hcell 5 _ rfl
      have q6 := hcell 6 _ rfl
      have q7 := hcell 7 _ rfl
      have q8 := hcell 8 _ rfl
      have q9 := hcell 9 _ rfl
      have q10 := hcell 10 _ rfl
      rw [Nat.add_zero] at q0
      have hsp : Hid ((ops.take k).map Prod.fst ++ o :: (ops.drop (k + 1)).map Prod.fst = ops.map Prod.fst) := by
        refine hide ?_
        have e1 : ops = ops.take k ++ (o, Value.slice a1 o.deps.length c1, Value.slice a2 o.gone.length c2) :: ops.drop (k + 1) := by
          have e2 : ops.drop k = (o, Value.slice a1 o.deps.length c1, Value.slice a2 o.gone.length c2) :: ops.drop (k + 1) := by
            rw [List.drop_eq_getElem_cons hlt]
            congr 1
            exact Option.some.inj ((List.getElem?_eq_getElem hlt).symm.trans hx)
          rw [← e2, List.take_append_drop]
        conv => rhs; rw [e1]
        simp
      have htk : Hid ((ops.take (k + 1)).map Prod.fst = (ops.take k).map Prod.fst ++ [o]) := by
        refine hide ?_
        rw [List.take_add_one, hx]
        simp
      obtain ⟨Y, hY0⟩ : ∃ Y, wr.alloc (.cells #[.int .i64 o.ds, .int .i64 o.dq, .slice a1 o.deps.length c1, .int .i64 o.kind, .int .i64 o.it, .int .i64 o.is, .int .i64 o.rt, .int .i64 o.rs, .string o.text, .slice a2 o.gone.length c2, .int .i64 o.site] 45) = Y := ⟨_, rfl⟩
      have bY : Below wr.heap.size wr Y := by rw [← hY0]; exact ballc (Below.refl _ _) _
      have xY := Bx.new wr 45 #[.int .i64 o.ds, .int .i64 o.dq, .slice a1 o.deps.length c1, .int .i64 o.kind, .int .i64 o.it, .int .i64 o.is, .int .i64 o.rt, .int .i64 o.rs, .string o.text, .slice a2 o.gone.length c2, .int .i64 o.site]
      rw [hY0] at xY
      have HCl := hide (clone_in o a1 a2 c1 c2 Y (oe.d.row.below bY) (RC.below oe.g.row bY) oe.s1 oe.s2 oe.s3)
      obtain ⟨z0, z1, z2, z3, z4, z5, z6, z7, z8, z9, z10⟩ := cells_op xY
      have yl := xY.lt
      have Hs := hide (show o.deps.length ≤ 1000000 ∧ o.gone.length ≤ 1000000 ∧ o.text.size ≤ 1000000 from ⟨oe.s1, oe.s2, oe.s3⟩)
      have BY := hide bY
      clear it oe hcell hx bY xY
      gi_wp2
      refine ⟨trivial, fun h => (by cases h), (callsIn_wide.2 (unhide HCl)).mono ?_⟩
      rintro r W1 ⟨vd', vg', rfl, hod, hog, hb1⟩
      obtain ⟨ad, cd, rfl⟩ := OwD.form hod
      obtain ⟨ag, cg, rfl⟩ := OwR.form hog
      have hj1 := unhide HJ _ _ _ (unhide HH) (bnext (unhide BY) hb1)
      obtain ⟨fn, tmps, assign, body, hy, hR⟩ := unhide HY _ o _ W1 #[opA o (.slice ad o.deps.length cd) (.slice ag o.gone.length cg)] (unhide hsp) hj1 ⟨_, _, rfl⟩ (n - 1)
      unfold opA at hy ⊢
      clear HCl hod hog hb1 BY hY0 q0 q1 q2 q3 q4 q5 q6 q7 q8 q9 q10 z0 z1 z2 z3 z4 z5 z6 z7 z8 z9 z10 hj1
      gi_wp2
      refine ⟨fun h => (by cases h), hR.mono ?_⟩
      rintro e W3 ⟨b, rfl, hJ3⟩
      cases b with
      | true =>
        have HJ3 := hide (show J ((ops.take (k + 1)).map Prod.fst) W3 by rw [unhide htk]; exact hJ3)
        clear hJ3 hR hy
        gi_wp2
        go_roundw
        case measure => show ops.length - ((k : Int) + 1).toNat < ops.length - ((k : Nat) : Int).toNat; omega
        case rel => exact ⟨k + 1, by go_num, by omega, HJ3⟩
      | false =>
        have HJ3 := hide hJ3
        clear hJ3 hR hy
        gi_wp2
        refine bodyPost_ret (results_none rfl _ _ _) rfl ?_
        refine ⟨⟨_, rfl⟩, .inr ⟨_, (ops.drop (k + 1)).map Prod.fst, ?_, unhide HJ3⟩⟩
        rw [← unhide hsp]
        simp
    · have hlt' : ¬ (k : Int) < (ops.length : Int) := by omega
      have HJl := hide (show J (ops.map Prod.fst) wr by have := unhide HH; rw [List.take_of_length_le (by omega)] at this; exact this)
      clear HH
      gi_wp2
      go_end0
      exact ⟨⟨_, rfl⟩, .inl (unhide HJl)⟩

theorem ITR.lt {P : Nat → Prop} {W : World} {nb : Nat} {v : Value} {ops : List (Opn × Value × Value)} (h : ITR P W nb v ops) : ITR (fun i => P i ∧ i < W.heap.size) W nb v ops :=
  ⟨h.box, h.row, fun e he => (h.re e he).lt, ⟨h.pn, h.box.lt⟩, fun k hk => ⟨h.pv k hk, (h.row.lt k hk).2⟩, h.len⟩
set_option maxRecDepth 100000 in
set_option maxHeartbeats 4000000 in
theorem Lacks_any (w : World) (ptr : Value) (a : Option Addr) (n c : Nat) (P : Nat → Prop) (os : List Opn) (hl : os.length ≤ 1000000) (hP : ∀ i, P i → i < w.heap.size)
    (hB : ∀ W, Below w.heap.size w W → w.heap.size < W.heap.size → Calls Tryz.prog 15 #[ptr, .slice a n c] W fun e W' => e = .returned (itV W.heap.size) ∧ IT (fun i => P i ∨ W.heap.size ≤ i) W' W.heap.size os ∧ Below W.heap.size W W') :
    Calls Tryz.prog 22 #[ptr, .slice a n c] w fun e W' => e = .returned (.int .i64 (os.length : Nat)) ∧ Below w.heap.size w W' := by
  have HB := hide (hB (w.alloc (.cells #[.int .i64 0] 3)) (ballc (Below.refl _ _) _) (by simp))
  refine (callsIn_wide (n := 6)).1 ?_
  refine callsIn_of_wp_marks Tryz.func22 rfl trivial ?_ rfl
  simp only [Tryz.ntmps22, List.size_toArray, List.length_cons, List.length_nil, Nat.reduceAdd, Nat.reduceSub, Array.replicate_succ, Array.replicate_zero, List.push_toArray, List.append_toArray, List.nil_append, List.cons_append]
  gi_wp2
  refine ⟨trivial, (callsIn_wide.2 (unhide HB)).mono ?_⟩
  rintro r W1 ⟨rfl, ⟨v, ops, hit0, rfl⟩, hb1⟩
  rw [List.length_map] at hl
  have hsz : (w.alloc (.cells #[.int .i64 0] 3)).heap.size = w.heap.size + 1 := by simp
  have hb01 : Below w.heap.size w W1 := bnext (ballc (Below.refl _ _) _) hb1
  have hz1 : w.heap.size + 1 ≤ W1.heap.size := by have := hb1.size; omega
  have bx1 : Bx W1 w.heap.size 3 #[.int .i64 0] := (Bx.new w _ _).below hb1
  have hit := hit0.lt
  obtain ⟨nb, hnb⟩ : ∃ nb, (w.alloc (.cells #[.int .i64 0] 3)).heap.size = nb := ⟨_, rfl⟩
  rw [hnb] at hit ⊢
  have hP' : ∀ i, ((P i ∨ nb ≤ i) ∧ i < W1.heap.size) → i ≠ w.heap.size := fun i hi e => by
    rcases hi.1 with h | h
    · have := hP i h; omega
    · omega
  clear hit0 hB HB hb1
  unfold itV
  gi_wp2
  refine range_E (gf := 40) (lb := #[.pointer (some ⟨nb, 0, none⟩)]) rfl (enters_of Tryz.func40 (by kernel_rfl) rfl) (byd_E _ nb v ops) (fun x W args h => by obtain ⟨_, _, rfl⟩ := h; rfl)
    (fun pre W => Bx W w.heap.size 3 #[.int .i64 (pre.length : Nat)] ∧ ITR (fun i => (P i ∨ nb ≤ i) ∧ i < W1.heap.size) W nb v ops ∧ Below w.heap.size w W)
    (fun _ _ _ => False) ?hI (fun _ _ _ _ _ hs _ _ => hs) (fun pre W h => h.2.1) ⟨bx1, hit, hb01⟩
    (fun x args => { tmps := #[ptr, .slice a n c, undef, undef, .int .i64 0, .pointer (some ⟨w.heap.size, 0, none⟩), ptr, .slice a n c, .func (.func 40) #[] #[.pointer (some ⟨nb, 0, none⟩)], args.getD 0 undef, undef, undef, undef], defers := [] }) ?assign ?body ?done ?stop
  case hI =>
    rintro s A B row ⟨h1, h2, h3⟩ hg hr
    have k := Kp.of_grown (N := fun k => row = some k) hg (fun k e => e)
    exact ⟨h1.kp k (fun e => by have := hr _ e; omega), h2.kp k (fun i e h => by have := hr _ e; omega), k.below h3 (fun i e => by have := hr _ e; omega)⟩
  case assign =>
    rintro l x args W K ⟨vd, vg, rfl⟩ hK
    gi_wp2
    simpa using hK
  case body =>
    rintro l pre x rest args W hpre hzW ⟨h1, h2, h3⟩
    have hlen : pre.length < 1000000 := by have := congrArg List.length hpre; simp at this; omega
    have c0 := h1.cell 0 _ rfl
    have f0 := h1.frozen 0
    have l0 := h1.lt
    have k := Kp.set (N := fun i => i = w.heap.size) W ⟨w.heap.size, 0, none⟩ (.int .i64 ((pre.length : Int) + 1)) rfl
    have b2 := h1.set 0 (.int .i64 ((pre.length : Int) + 1))
    gi_wp2
    refine ⟨fun q hq hq2 => k.block q (by omega) (by omega), ?_, h2.kp k (fun i e h => hP' i h e), k.below h3 (fun i e => by omega)⟩
    have e1 : Value.int .i64 ((pre ++ [x]).length : Nat) = .int .i64 ((pre.length : Int) + 1) := by simp
    rw [e1]
    simpa using b2
  case done =>
    rintro D W hD hzW ⟨h1, h2, h3⟩ hdd
    subst hD
    have c0 := h1.cell 0 _ rfl
    rw [List.length_map] at c0
    have l0 := h1.lt
    gi_wp2
    refine ⟨by simp, .inl ⟨_, _, rfl, run_takeDeferred hdd, ?_⟩⟩
    refine ⟨_, results_tmp rfl _ _ _, by rw [List.length_map]; rfl, ?_⟩
    exact (Kp.of_grown (N := fun k => k = W1.heap.size) (grownBy_putObj' W W1.heap.size _) (fun k e => by cases e; rfl)).below h3 (fun i e => by omega)
  case stop => rintro D c pre rest W hD hp h _; exact h.elim

end Go.Proofs.YtijjoikeceechaaGreat
