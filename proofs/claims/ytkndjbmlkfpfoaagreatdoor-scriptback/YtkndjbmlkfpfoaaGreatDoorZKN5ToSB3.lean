/-
  Pure: a small script's text is small; what Print answers is told by the steps alone.
-/
import Derived.Test.YtkndjbmlkfpfoaaGreatDoorZDNcToKN2
import Derived.Test.YtkndjbmlkfpfoaaGreatDoorZTM
import Derived.Test.YtkndjbmlkfpfoaaGreatDoorZSv
import Derived.Deep.Slices
import Derived.OpenShut
import Derived.ChangeSame
import Derived.ChangeArms
import Derived.SizedLaws
import Derived.Test.YtkndjbmlkfpfoaaGreatDoorZLN2ToKN3
import Derived.Test.YtkndjbmlkfpfoaaGreatDoorZKP
import Derived.Test.YtkndjbmlkfpfoaaGreatDoorZTT
import Derived.Test.YtkndjbmlkfpfoaaGreatDoorZQdToDP2

set_option linter.unusedSimpArgs false
set_option linter.unusedVariables false
namespace Go.Proofs.YtkndjbmlkfpfoaaGreatDoor
open Go.RowKit Go.Lib

/-- a step's numbers are those of Go's ints -/
structure SpI (s : Sp) : Prop where
  kind : in64 s.kind
  site : in64 s.site
  peer : in64 s.peer
  unit : in64 s.unit
  at_ : in64 s.at_
  n : in64 s.n
  dnum : ∀ x ∈ s.draws, in64 x
theorem SpI.w {s : Sp} (h : SpI s) (h1 : s.text.size ≤ 30000) (h2 : s.draws.length ≤ 400) (h3 : s.data.length ≤ 30000) : SpW s := ⟨h.kind, h.site, h.peer, h.unit, h.at_, h.n, by omega, by omega, h.dnum, by omega⟩
theorem fw_small {s : Sp} (h : SpW s) (h1 : s.text.size ≤ 30000) (h2 : s.draws.length ≤ 400) (h3 : s.data.length ≤ 30000) (f : Nat) : (blT (fw s f)).length ≤ 310000 := by
  have e1 := itoa_lim s.site h.site
  have e2 := itoa_lim s.peer h.peer
  have e3 := itoa_lim s.at_ h.at_
  have e4 := itoa_lim s.n h.n
  have e5 := blT_lim s.draws 400 h.dnum h2
  have e6 := qT_len s.text
  have e7 := qT_len (ofL s.data)
  rw [ofL_size] at e7
  simp at e6 e7
  unfold fw
  split <;> first | (simp [blT]; omega) | omega
theorem flds_small {s : Sp} (hf : ∀ f, (blT (fw s f)).length ≤ 310000) : ∀ (l : List Nat), (blT (l.flatMap (fw s))).length ≤ l.length * 310000
  | [] => by simp [blT]
  | f :: l => by
    have h1 := hf f
    have h2 := flds_small hf l
    rw [List.flatMap_cons, blT_app, List.length_append, List.length_cons]
    omega
theorem tfl_len : ∀ r ∈ tfl, r.length ≤ 3 := by decide
theorem tnm_len : ∀ r ∈ tnm, r.length ≤ 10 := by decide
theorem getD_le {α : Type} {l : List (List α)} {n : Nat} (h : ∀ r ∈ l, r.length ≤ n) (i : Nat) : (l.getD i []).length ≤ n := by
  rw [List.getD_eq_getElem?_getD]
  cases hi : l[i]? with
  | none => simp
  | some r => simpa using h r (List.mem_of_getElem? hi)
theorem stT_small {s : Sp} (h : SpW s) (h1 : s.text.size ≤ 30000) (h2 : s.draws.length ≤ 400) (h3 : s.data.length ≤ 30000) : (stT s).length ≤ 1000000 := by
  have e1 := flds_small (fun f => fw_small h h1 h2 h3 f) (tfl.getD (kx s) [])
  have e2 := getD_le tfl_len (kx s)
  have e3 := getD_le tnm_len (kx s)
  unfold stT lnT stW
  simp only [List.length_append, List.length_cons, List.length_nil]
  omega
theorem dlT_small {s : Sp} (h : SpW s) (h1 : s.text.size ≤ 30000) (h2 : s.draws.length ≤ 400) (h3 : s.data.length ≤ 30000) : (dlT s).length ≤ 1000000000 := by
  by_cases hk : isK s
  · have e := congrArg List.length (dlT_is hk)
    have e2 := stT_small h h1 h2 h3
    simp at e
    omega
  · rw [dlT_no hk]; simp
theorem smL_mem {l : List (Sp × Value × Value)} {x : Sp × Value × Value} (h : x ∈ l) : x.1.text.size + x.1.data.length ≤ smL l := by
  unfold smL
  induction l with
  | nil => cases h
  | cons a l ih =>
    rw [List.map_cons, List.sum_cons]
    rcases List.mem_cons.1 h with rfl | h
    · omega
    · have := ih h; omega
theorem pT_small : ∀ {l : List (Sp × Value × Value)}, (∀ x ∈ l, (stT x.1).length ≤ 1000000) → (pT l).length ≤ l.length * 1000000
  | [], _ => by simp [pT]
  | x :: l, h => by
    have h1 := h x (List.mem_cons_self)
    have h2 := pT_small (l := l) fun y hy => h y (List.mem_cons_of_mem _ hy)
    unfold pT at h2 ⊢
    rw [List.flatMap_cons, List.length_append, List.length_cons]
    omega
structure LitW (l : List (Sp × Value × Value)) : Prop where
  w : ∀ x ∈ l, SpW x.1
  pt : (pT l).length ≤ 1000000000
  dl : ∀ x ∈ l, (dlT x.1).length ≤ 1000000000
theorem LitS.w {l : List (Sp × Value × Value)} (h : LitS l) (hi : ∀ x ∈ l, SpI x.1) : LitW l := by
  have hb : ∀ x ∈ l, x.1.text.size ≤ 30000 ∧ x.1.data.length ≤ 30000 := fun x hx => by
    have h1 := smL_mem hx
    have h2 := h.sm
    omega
  have hw : ∀ x ∈ l, SpW x.1 := fun x hx => (hi x hx).w (hb x hx).1 (h.dr x hx) (hb x hx).2
  refine ⟨hw, ?_, fun x hx => dlT_small (hw x hx) (hb x hx).1 (h.dr x hx) (hb x hx).2⟩
  have := pT_small (l := l) fun x hx => stT_small (hw x hx) (hb x hx).1 (h.dr x hx) (hb x hx).2
  have h2 := h.len
  omega
end Go.Proofs.YtkndjbmlkfpfoaaGreatDoor

/-
  Arguments, opened: steps, within the reach of one machine.
-/
set_option linter.unusedSimpArgs false
set_option linter.unusedVariables false
namespace Go.Proofs.YtkndjbmlkfpfoaaGreatDoor
open Go.RowKit Go.Lib

theorem wf8 {n : Int} (h : (Lit.int .u8 n).wf = true) : 0 ≤ n ∧ n ≤ 255 := by
  simp [Lit.wf, IntKind.min, IntKind.max, IntKind.bits, IntKind.signed] at h
  omega
theorem open_nums {H : Type} {enc : TypeId × Value → H} {w : World} {base : Nat} {spare : Nat → Bool} {held : Bool} {fuel : Nat} {c : Value} {x : DataW H × List MemPlace}
    (h : DataW.trod enc Tryz.prog w base spare held fuel 37 [c] = some x) (hw : ∀ n ∈ x.1.weights Tryz.prog 37, n ≤ reachBytes) : ∃ l, RNm w c l ∧ (∀ y ∈ l, in64 y) ∧ l.length ≤ 140737488355328 := by
  have hb8 : Tryz.prog.bytesOf 3 = 8 := by kernel_rfl
  rcases Go.ChangeShapes.open_ints Tryz.underlying37 Tryz.underlying3 (by kernel_rfl) h with ⟨hcs, hx⟩ | ⟨ad, len, cap, zs, hcs, _, hl, hm, hz, rfl, hcell, hwz⟩
  · simp at hcs
    subst hcs
    exact ⟨[], .inl ⟨rfl, _, _, rfl⟩, (fun y hy => by cases hy), by simp⟩
  · simp at hcs
    subst hcs
    have hlz : len ≤ zs.length := by rw [hz]; split <;> omega
    have h8 := hw ((zs.take len).length * 8 + (zs.drop len).length * 8) (by simp [DataW.weights, Tryz.underlying37, hb8, Go.ChangeShapes.lits, Nat.add_mul])
    obtain ⟨l, h1, h2, h3⟩ := mk_each (enc := enN) (k := 1) (fun _ => rfl) (by omega) (Pr := in64) (w := w) (ad := ad) (len := len) (cap := cap) hl (fun i hi => ⟨zs.getD i 0, fun q y hy => by
      match q, hy with
      | 0, hy => simp [enN] at hy; subst hy; rw [Nat.mul_one, Nat.add_zero]; simpa using hcell i (by omega)
      | q + 1, hy => simp [enN] at hy, wf64 (hwz _ (by rw [List.getD_eq_getElem?_getD, List.getElem?_eq_getElem (by omega)]; exact List.getElem_mem _))⟩)
    refine ⟨l, by rw [← h2] at h1 ⊢; exact h1, h3, ?_⟩
    unfold reachBytes at h8
    simp at h8
    omega
theorem flatB : ∀ l : List UInt8, flat (fun b : UInt8 => [Value.int .u8 ((b.toNat : Nat) : Int)]) l = Lib.byteCells l
  | [] => rfl
  | x :: l => by
    have := flatB l
    unfold flat Lib.byteCells at *
    rw [List.flatMap_cons, this]
    rfl
theorem open_byts {H : Type} {enc : TypeId × Value → H} {w : World} {base : Nat} {spare : Nat → Bool} {held : Bool} {fuel : Nat} {c : Value} {x : DataW H × List MemPlace}
    (h : DataW.trod enc Tryz.prog w base spare held fuel 38 [c] = some x) (hw : ∀ n ∈ x.1.weights Tryz.prog 38, n ≤ reachBytes) : ∃ l, RBy w c l ∧ l.length ≤ 140737488355328 := by
  have hb8 : Tryz.prog.bytesOf 5 = 1 := by kernel_rfl
  rcases Go.ChangeShapes.open_ints Tryz.underlying38 Tryz.underlying5 (by kernel_rfl) h with ⟨hcs, hx⟩ | ⟨ad, len, cap, zs, hcs, _, hl, hm, hz, rfl, hcell, hwz⟩
  · simp at hcs
    subst hcs
    exact ⟨[], .inl ⟨rfl, _, _, rfl⟩, by simp⟩
  · simp at hcs
    subst hcs
    have hlz : len ≤ zs.length := by rw [hz]; split <;> omega
    have h8 := hw ((zs.take len).length * 1 + (zs.drop len).length * 1) (by simp [DataW.weights, Tryz.underlying38, hb8, Go.ChangeShapes.lits, Nat.add_mul])
    obtain ⟨l, h1, h2, h3⟩ := mk_each (enc := fun b : UInt8 => [Value.int .u8 ((b.toNat : Nat) : Int)]) (k := 1) (fun _ => rfl) (by omega) (Pr := fun _ => True) (w := w) (ad := ad) (len := len) (cap := cap) hl (fun i hi => ⟨UInt8.ofNat (zs.getD i 0).toNat, fun q y hy => by
      have hq := wf8 (hwz (zs.getD i 0) (by rw [List.getD_eq_getElem?_getD, List.getElem?_eq_getElem (by omega)]; exact List.getElem_mem _))
      match q, hy with
      | 0, hy =>
        simp only [List.getElem?_cons_zero, Option.some.injEq] at hy
        subst hy
        rw [Nat.mul_one, Nat.add_zero, hcell i (by omega)]
        have : ((UInt8.ofNat (zs.getD i 0).toNat).toNat : Int) = zs.getD i 0 := by
          rw [UInt8.toNat_ofNat']
          omega
        rw [this]
      | q + 1, hy => simp at hy, trivial⟩)
    have hfb := flatB l
    refine ⟨l, ?_, ?_⟩
    · unfold RBy
      rw [hfb, ← h2] at h1
      rw [← h2]
      exact h1
    · unfold reachBytes at h8
      simp at h8
      omega

end Go.Proofs.YtkndjbmlkfpfoaaGreatDoor

/-
  Arguments, opened: a row of steps.
-/
set_option linter.unusedSimpArgs false
set_option linter.unusedVariables false
namespace Go.Proofs.YtkndjbmlkfpfoaaGreatDoor
open Go.RowKit Go.Lib

/-- a step that came in -/
structure StI (W : World) (e : Sp × Value × Value) : Prop where
  i : SpI e.1
  dr : RNm W e.2.1 e.1.draws
  by_ : RBy W e.2.2 e.1.data
  rch : e.1.text.size ≤ 140737488355328 ∧ e.1.data.length ≤ 140737488355328 ∧ e.1.draws.length ≤ 140737488355328
set_option maxRecDepth 100000 in
theorem open_step {H : Type} {enc : TypeId × Value → H} {w : World} {base : Nat} {spare : Nat → Bool} {held : Bool} {fuel : Nat} {c0 c1 c2 c3 c4 c5 c6 c7 c8 : Value} {x : DataW H × List MemPlace}
    (hf : DataW.trod enc Tryz.prog w base spare held fuel 40 [c0, c1, c2, c3, c4, c5, c6, c7, c8] = some x) (hw : ∀ n ∈ x.1.weights Tryz.prog 40, n ≤ reachBytes) : ∃ e, [c0, c1, c2, c3, c4, c5, c6, c7, c8] = encS e ∧ StI w e := by
  obtain ⟨xs, n, _, hxe, _, hxl, hfs⟩ := DataW.trod_struct Tryz.underlying40 hf
  have hx : ∀ i, i < 9 → ∃ y, xs[i]? = some y := fun i hi => ⟨xs[i]'(by rw [hxl]; exact hi), List.getElem?_eq_getElem _⟩
  have ci : Tryz.prog.cellsOf 3 = 1 := by kernel_rfl
  have cS : Tryz.prog.cellsOf 9 = 1 := by kernel_rfl
  have cN : Tryz.prog.cellsOf 37 = 1 := by kernel_rfl
  have cB : Tryz.prog.cellsOf 38 = 1 := by kernel_rfl
  have hwe : ∀ (j : Nat) (t : TypeId) (y : DataW H × List MemPlace), ([3, 3, 3, 3, 3, 3, 9, 37, 38] : List TypeId)[j]? = some t → xs[j]? = some y → ∀ n ∈ y.1.weights Tryz.prog t, n ≤ reachBytes := by
    intro j t y ht hy n hn
    refine hw n ?_
    rw [hxe]
    show n ∈ DataW.weights Tryz.prog 40 (.agg (xs.map (·.1)))
    unfold DataW.weights
    rw [Tryz.underlying40]
    exact DataW.weights_mem_each ht (by rw [List.getElem?_map, hy]; rfl) n hn
  obtain ⟨y0, e0⟩ := hx 0 (by omega)
  have g0 := (hfs 0 _ rfl).trans e0
  simp at g0
  rw [ci] at g0
  try simp at g0
  obtain ⟨y1, e1⟩ := hx 1 (by omega)
  have g1 := (hfs 1 _ rfl).trans e1
  simp at g1
  rw [ci] at g1
  try simp at g1
  obtain ⟨y2, e2⟩ := hx 2 (by omega)
  have g2 := (hfs 2 _ rfl).trans e2
  simp at g2
  rw [ci] at g2
  try simp at g2
  obtain ⟨y3, e3⟩ := hx 3 (by omega)
  have g3 := (hfs 3 _ rfl).trans e3
  simp at g3
  rw [ci] at g3
  try simp at g3
  obtain ⟨y4, e4⟩ := hx 4 (by omega)
  have g4 := (hfs 4 _ rfl).trans e4
  simp at g4
  rw [ci] at g4
  try simp at g4
  obtain ⟨y5, e5⟩ := hx 5 (by omega)
  have g5 := (hfs 5 _ rfl).trans e5
  simp at g5
  rw [ci] at g5
  try simp at g5
  obtain ⟨y6, e6⟩ := hx 6 (by omega)
  have g6 := (hfs 6 _ rfl).trans e6
  simp at g6
  rw [cS] at g6
  try simp at g6
  obtain ⟨y7, e7⟩ := hx 7 (by omega)
  have g7 := (hfs 7 _ rfl).trans e7
  simp at g7
  rw [cN] at g7
  try simp at g7
  obtain ⟨y8, e8⟩ := hx 8 (by omega)
  have g8 := (hfs 8 _ rfl).trans e8
  simp at g8
  rw [cB] at g8
  try simp at g8
  obtain ⟨a0, q0, _, w0⟩ := DataW.trod_int Tryz.underlying3 g0
  obtain ⟨a1, q1, _, w1⟩ := DataW.trod_int Tryz.underlying3 g1
  obtain ⟨a2, q2, _, w2⟩ := DataW.trod_int Tryz.underlying3 g2
  obtain ⟨a3, q3, _, w3⟩ := DataW.trod_int Tryz.underlying3 g3
  obtain ⟨a4, q4, _, w4⟩ := DataW.trod_int Tryz.underlying3 g4
  obtain ⟨a5, q5, _, w5⟩ := DataW.trod_int Tryz.underlying3 g5
  obtain ⟨a6, q6, f6, w6⟩ := DataW.trod_string Tryz.underlying9 g6
  simp only [List.cons.injEq, and_true] at q0 q1 q2 q3 q4 q5 q6
  subst q0 q1 q2 q3 q4 q5 q6
  have h6 := hwe 6 9 y6 rfl e6 a6.data.toList.length (by rw [f6]; simp [DataW.weights])
  obtain ⟨dl, d1, d2, d3⟩ := open_nums g7 (hwe 7 37 y7 rfl e7)
  obtain ⟨bl, b1, b2⟩ := open_byts g8 (hwe 8 38 y8 rfl e8)
  refine ⟨(⟨a0, a1, a2, a3, a4, a5, a6, dl, bl⟩, c7, c8), rfl, ⟨wf64 w0, wf64 w1, wf64 w2, wf64 w3, wf64 w4, wf64 w5, d2⟩, d1, b1, ?_, b2, d3⟩
  unfold reachBytes at h6
  simp at h6
  show a6.size ≤ _
  omega
theorem open_steps {H : Type} {enc : TypeId × Value → H} {w : World} {base : Nat} {spare : Nat → Bool} {held : Bool} {fuel : Nat} {a : Option Addr} {len cap : Nat} {x : DataW H × List MemPlace}
    (h : DataW.trod enc Tryz.prog w base spare held fuel 23 [.slice a len cap] = some x) (hw : ∀ n ∈ x.1.weights Tryz.prog 23, n ≤ reachBytes) : ∃ l : List (Sp × Value × Value), RStp w (.slice a len cap) l ∧ (∀ e ∈ l, SpI e.1) ∧ RchS l ∧ l.length ≤ 9223372036854775807 := by
  rcases Go.Deep.open_slice Tryz.underlying23 h with ⟨h0, _⟩ | ⟨ad, ln, cp, m, n, D, Pl, h0, hb, hl, hm, hmm, rfl, hx⟩
  · simp only [List.cons.injEq, Value.slice.injEq, and_true] at h0
    obtain ⟨rfl, rfl, rfl⟩ := h0
    exact ⟨[], ⟨.inl ⟨rfl, _, _, rfl⟩, (fun e he => by cases he), (fun e he => by cases he)⟩, (fun e he => by cases he), (fun e he => by cases he), by simp⟩
  · simp only [List.cons.injEq, Value.slice.injEq, and_true] at h0
    obtain ⟨rfl, rfl, rfl⟩ := h0
    have hlm : len ≤ m := by rw [hmm]; split <;> omega
    have hwd : ∀ i, i < len → ∀ n ∈ (D i).weights Tryz.prog 40, n ≤ reachBytes := by
      intro i hi n hn
      refine hw n ?_
      show n ∈ DataW.weights Tryz.prog 23 (.slice ((List.range len).map D) _)
      unfold DataW.weights
      rw [Tryz.underlying23]
      simp only [List.mem_cons, List.mem_append]
      refine .inr (.inl ?_)
      have gen : ∀ (ds : List (DataW H)) (d : DataW H), d ∈ ds → n ∈ d.weights Tryz.prog 40 → n ∈ DataW.weightsAll Tryz.prog 40 ds := by
        intro ds
        induction ds with
        | nil => intro d hd; cases hd
        | cons d0 ds ih =>
          intro d hd hn
          unfold DataW.weightsAll
          rcases List.mem_cons.1 hd with rfl | hd
          · exact List.mem_append_left _ hn
          · exact List.mem_append_right _ (ih d hd hn)
      exact gen _ (D i) (List.mem_map.2 ⟨i, List.mem_range.2 hi, rfl⟩) hn
    obtain ⟨l, h1, h2, h3⟩ := @mk_each (Sp × Value × Value) ⟨(⟨0, 0, 0, 0, 0, 0, ⟨#[]⟩, [], []⟩, .slice none 0 0, .slice none 0 0)⟩ encS 9 encS_len (by omega) (StI w) w ad len cap hl (fun i hi => by
      obtain ⟨cs', h1, h2⟩ := hx i (by omega)
      have ce : Tryz.prog.cellsOf 40 = 9 := by kernel_rfl
      rw [ce] at h1
      obtain ⟨_, hlen, hcell⟩ := World.cells?_some h1
      match cs', hlen with
      | [v0, v1, v2, v3, v4, v5, v6, v7, v8], _ =>
        obtain ⟨e, he, hw⟩ := open_step h2 (hwd i hi)
        refine ⟨e, fun q x hx => ?_, hw⟩
        rw [← he] at hx
        have hq := (List.getElem?_eq_some_iff.1 hx).1
        have := hcell q (by simpa using hq)
        rw [Go.Deep.add_add] at this
        rw [this]
        exact hx)
    refine ⟨l, ⟨by rw [← h2] at h1 ⊢; exact h1, fun e he => (h3 e he).dr, fun e he => (h3 e he).by_⟩, fun e he => (h3 e he).i, fun e he => (h3 e he).rch, ?_⟩
    unfold maxLen at hm
    omega

end Go.Proofs.YtkndjbmlkfpfoaaGreatDoor

/-
  The walk of ScriptPrints, but for the law's known.
-/
set_option linter.unusedSimpArgs false
set_option linter.unusedVariables false
namespace Go.Proofs.YtkndjbmlkfpfoaaGreatDoor
open Go.RowKit Go.Lib

/-- what is asked of the law's known -/
def KnO (w : World) : Prop := ∀ W, Below w.heap.size w W → Calls Tryz.prog 9 #[] W fun e W' => e = .returned (.bool true) ∧ Below W.heap.size W W'
/-- a pair that is answered -/
theorem prA_form {l : List (Sp × Value × Value)} {e : Ending} (h : PrA l e) : ∃ (t : ByteArray) (k : Int), e = .returned (.tuple #[.string t, .int .i64 k]) := by
  rcases h with ⟨_, h⟩ | ⟨_, h⟩ <;> exact ⟨_, _, h⟩

end Go.Proofs.YtkndjbmlkfpfoaaGreatDoor

/-
  The law's known.
-/
set_option linter.unusedSimpArgs false
set_option linter.unusedVariables false
namespace Go.Proofs.YtkndjbmlkfpfoaaGreatDoor
open Go Go.RowKit Go.Lib

theorem OwT.rs {W : World} {N : Nat} {v : Value} {l : List (Sp × Value × Value)} (h : OwT W N v l) : RStp W v l := ⟨RC.of_owns h.row, fun e he => RC.of_owns (h.rows e he).1, fun e he => (h.rows e he).2.row⟩
theorem in64_d (x : Int) (h : decide (-9223372036854775808 ≤ x ∧ x ≤ 9223372036854775807) = true) : in64 x := by
  have h1 : -9223372036854775808 ≤ x ∧ x ≤ 9223372036854775807 := of_decide_eq_true h
  exact h1
theorem ks1_k : isK ks1 := ⟨by decide, by decide⟩
theorem ks2_k : isK ks2 := ⟨by decide, by decide⟩
theorem ks3_k : isK ks3 := ⟨by decide, by decide⟩
theorem ks1_w : SpW ks1 := ⟨(in64_d _ (by decide)), (in64_d _ (by decide)), (in64_d _ (by decide)), (in64_d _ (by decide)), (in64_d _ (by decide)), (in64_d _ (by decide)), by decide, by decide, (fun x hx => by cases hx), by decide⟩
theorem ks2_w : SpW ks2 := ⟨(in64_d _ (by decide)), (in64_d _ (by decide)), (in64_d _ (by decide)), (in64_d _ (by decide)), (in64_d _ (by decide)), (in64_d _ (by decide)), by decide, by decide, (fun x hx => by simp [ks2] at hx; rcases hx with rfl | rfl <;> exact in64_d _ (by decide)), by decide⟩
theorem ks3_w : SpW ks3 := ⟨(in64_d _ (by decide)), (in64_d _ (by decide)), (in64_d _ (by decide)), (in64_d _ (by decide)), (in64_d _ (by decide)), (in64_d _ (by decide)), by decide, by decide, (fun x hx => by cases hx), by decide⟩
theorem kc1_w : CpW kc1 := ⟨(in64_d _ (by decide)), (in64_d _ (by decide)), (in64_d _ (by decide)), (in64_d _ (by decide)), by decide⟩
theorem two_sp {l : List (Sp × Value × Value)} {a b : Sp} (h : l.map Prod.fst = [a, b]) : ∃ x y, l = [(a, x), (b, y)] := by
  match l, h with
  | [(p, x), (q, y)], h =>
    simp at h
    obtain ⟨rfl, rfl⟩ := h
    exact ⟨x, y, rfl⟩
  | [], h => simp at h
  | [_], h => simp at h
  | _ :: _ :: _ :: _, h => simp at h

set_option maxRecDepth 100000 in
set_option maxHeartbeats 8000000 in
theorem known_in {w : World} (hL : Lw w) : KnO w := by
  intro W hb
  have HL := hide (hL.below hb)
  have h0 := hide (Parse_all kt1 (by decide) W (unhide HL))
  unfold kt1 at h0
  clear hL hb
  go_enter Tryz.func9, Tryz.ntmps9
  go_wp2_with fail
  refine (unhide h0).mono ?_
  rintro e W1 ⟨hb1, hp⟩
  change (match prL (scL kt1) with
  | .inl (S, _) => ∃ v l, e = .returned (.tuple #[v, .int .i64 0, .int .i64 0]) ∧ OwT W1 W.heap.size v l ∧ l.map Prod.fst = S
  | .inr (ln, en) => e = .returned (.tuple #[.slice none 0 0, .int .i64 (ln : Int), .int .i64 (en : Int)])) at hp
  rw [kp_1] at hp
  obtain ⟨v, l, rfl, ho, hl⟩ := hp
  obtain ⟨⟨d1, y1⟩, ⟨d2, y2⟩, rfl⟩ := two_sp hl
  have hrs := ho.rs
  obtain ⟨g, c, rfl, hc2, cur, hg⟩ := owns_some ho.row (by simp)
  obtain ⟨da, dc, hd2⟩ := owns_form (ho.rows (ks2, d2, y2) (by simp)).1
  simp only [ks2, List.length_cons, List.length_nil, Nat.zero_add, Nat.reduceAdd] at hd2
  subst hd2
  have HRS := hide hrs
  have HB1 := hide hb1
  have hpt : pT [(ks1, d1, y1), (ks2, .slice da 2 dc, y2)] = [105, 110, 115, 101, 114, 116, 32, 49, 32, 48, 32, 34, 104, 195, 169, 34, 10, 116, 105, 99, 107, 32, 50, 32, 45, 49, 10] := by
    rw [← kp_3]
    simp [pT]
  have h1 := hide (Print_in hrs (fun x hx => by simp at hx; rcases hx with rfl | rfl; exact ks1_w; exact ks2_w) (by simp) ((unhide HL).below hb1) (by rw [hpt]; simp))
  simp only [List.length_cons, List.length_nil, Nat.zero_add, Nat.reduceAdd] at h1 HRS ⊢
  clear hb1 h0 ho hl hg cur hrs
  go_wp2_with fail
  refine (unhide h1).mono ?_
  rintro e W2 ⟨hp, hb2⟩
  rcases hp with ⟨_, rfl⟩ | ⟨⟨x, hx, hk⟩, _⟩
  case inr => exact absurd (show isK x.1 by simp at hx; rcases hx with rfl | rfl; exact ks1_k; exact ks2_k) hk
  rw [hpt, show ofL [105, 110, 115, 101, 114, 116, 32, 49, 32, 48, 32, 34, 104, 195, 169, 34, 10, 116, 105, 99, 107, 32, 50, 32, 45, 49, 10] = (⟨#[105, 110, 115, 101, 114, 116, 32, 49, 32, 48, 32, 34, 104, 195, 169, 34, 10, 116, 105, 99, 107, 32, 50, 32, 45, 49, 10]⟩ : ByteArray) from rfl]
  have HB2 := hide (bnext (unhide HB1) hb2)
  have HRS2 := hide ((unhide HRS).below hb2)
  have h2 := hide (Parse_all kt2 (by decide) W2 ((unhide HL).below (unhide HB2)))
  unfold kt2 at h2
  clear h1 hb2 HRS HB1
  go_wp2_with fail
  refine (unhide h2).mono ?_
  rintro e W3 ⟨hb3, hp⟩
  change (match prL (scL kt2) with
  | .inl (S, _) => ∃ v l, e = .returned (.tuple #[v, .int .i64 0, .int .i64 0]) ∧ OwT W3 W2.heap.size v l ∧ l.map Prod.fst = S
  | .inr (ln, en) => e = .returned (.tuple #[.slice none 0 0, .int .i64 (ln : Int), .int .i64 (en : Int)])) at hp
  rw [kp_2] at hp
  obtain rfl := hp
  have HB3 := hide (bnext (unhide HB2) hb3)
  have HRS3 := hide ((unhide HRS2).below hb3)
  clear h2 hb3 HRS2 HB2
  obtain ⟨X3, hX3⟩ : ∃ X, W3.alloc (.cells #[.int .u8 1] 5) = X := ⟨_, rfl⟩
  obtain ⟨X4, hX4⟩ : ∃ X, X3.alloc (.cells #[.int .i64 7, .int .i64 1, .int .i64 2, .slice (some ⟨W3.heap.size, 0, none⟩) 1 1, .int .i64 4, .bool true] 64) = X := ⟨_, rfl⟩
  have hz3 : X3.heap.size = W3.heap.size + 1 := by rw [← hX3]; simp
  have b3 : Below W3.heap.size W3 X3 := by rw [← hX3]; exact ballc (Below.refl _ _) _
  have b34 : Below X3.heap.size X3 X4 := by rw [← hX4]; exact ballc (Below.refl _ _) _
  have q3 : Bq X4 W3.heap.size 5 #[.int .u8 1] := by
    have h := Bq.new W3 5 #[.int .u8 1]
    rw [hX3] at h
    exact h.keep b34 h.lt
  have q4 : Bq X4 (W3.heap.size + 1) 64 #[.int .i64 7, .int .i64 1, .int .i64 2, .slice (some ⟨W3.heap.size, 0, none⟩) 1 1, .int .i64 4, .bool true] := by rw [← hX4, ← hz3]; exact Bq.new _ _ _
  have hrc : RCpy X4 (.slice (some ⟨W3.heap.size + 1, 0, none⟩) 1 1) [(kc1, .slice (some ⟨W3.heap.size, 0, none⟩) 1 1)] :=
    ⟨.inr ⟨W3.heap.size + 1, 0, 1, rfl, Nat.le_refl _, q4.lt, fun j u hu => by rw [Nat.zero_add]; exact q4.cell j u (by simpa [flat, enP, cpC, kc1] using hu)⟩,
     fun e he => by
      simp at he
      subst he
      exact .inr ⟨W3.heap.size, 0, 1, rfl, Nat.le_refl _, q3.lt, fun j u hu => by rw [Nat.zero_add]; exact q3.cell j u (by simpa [Lib.byteCells, kc1] using hu)⟩⟩
  have HB4 := hide (bnext (unhide HB3) (bnext b3 b34))
  have HRS4 := hide ((unhide HRS3).below (bnext b3 b34))
  have hcs : stT ks3 ++ csT [(kc1, Value.slice (some ⟨W3.heap.size, 0, none⟩) 1 1)] = [100, 114, 111, 112, 32, 55, 10, 32, 32, 99, 111, 112, 121, 32, 55, 32, 102, 114, 111, 109, 32, 49, 32, 116, 111, 32, 50, 32, 115, 101, 110, 116, 32, 52, 32, 98, 97, 100, 32, 34, 92, 120, 48, 49, 34, 10] := by
    rw [← kp_4]
    simp [csT]
  have h3 := hide (Tell_cp (w := X4) ks3 none 0 0 none 0 0 (some ⟨W3.heap.size + 1, 0, none⟩) 1 [(kc1, .slice (some ⟨W3.heap.size, 0, none⟩) 1 1)] (RC.nil _ _ _) (RC.nil _ _ _) ks3_w ks3_k (by decide) hrc (fun e he => by simp at he; subst he; exact kc1_w) (by simp) ((unhide HL).below (unhide HB4)) (by rw [hcs]; simp))
  rw [hcs, show ofL [100, 114, 111, 112, 32, 55, 10, 32, 32, 99, 111, 112, 121, 32, 55, 32, 102, 114, 111, 109, 32, 49, 32, 116, 111, 32, 50, 32, 115, 101, 110, 116, 32, 52, 32, 98, 97, 100, 32, 34, 92, 120, 48, 49, 34, 10] = (⟨#[100, 114, 111, 112, 32, 55, 10, 32, 32, 99, 111, 112, 121, 32, 55, 32, 102, 114, 111, 109, 32, 49, 32, 116, 111, 32, 50, 32, 115, 101, 110, 116, 32, 52, 32, 98, 97, 100, 32, 34, 92, 120, 48, 49, 34, 10]⟩ : ByteArray) from rfl] at h3
  clear b3 b34 q3 q4 hrc HB3 HRS3
  go_wp2_with fail
  try rw [hX3]
  try rw [hX4]
  refine (unhide h3).mono ?_
  rintro e W4 ⟨rfl, hb4⟩
  have HB5 := hide (bnext (unhide HB4) hb4)
  have hR5 := (unhide HRS4).below hb4
  obtain ⟨g1, o1, e1, _, cs1⟩ := hR5.at (i := 0) (e := (ks1, d1, y1)) rfl
  obtain ⟨g2, o2, e2, _, cs2⟩ := hR5.at (i := 1) (e := (ks2, .slice da 2 dc, y2)) rfl
  cases e1
  cases e2
  have t6 := cs1 6 (.string ⟨#[104, 195, 169]⟩) rfl
  have t7 := cs2 7 (.slice da 2 dc) rfl
  simp only [Nat.zero_mul, Nat.zero_add, Nat.one_mul, Nat.reduceAdd] at t6 t7
  have hd2 := hR5.dr (ks2, .slice da 2 dc, y2) (by simp)
  have bX5 := ballc (Below.refl _ W4) (.cells #[.int .i64 2, .int .i64 (-1)] 3)
  have hn5 : RNm (W4.alloc (.cells #[.int .i64 2, .int .i64 (-1)] 3)) (.slice (some ⟨W4.heap.size, 0, none⟩) 2 2) [2, -1] := by
    refine .inr ⟨W4.heap.size, 0, 2, rfl, Nat.le_refl _, by simp, fun j u hu => ?_⟩
    rw [Nat.zero_add]
    exact (Bq.new W4 3 #[.int .i64 2, .int .i64 (-1)]).cell j u (by simpa [flat, enN] using hu)
  have h4 := hide (ints_in (.slice da 2 dc) (.slice (some ⟨W4.heap.size, 0, none⟩) 2 2) [2, -1] [2, -1] _ (RC.below hd2 bX5) hn5 (by simp) (by simp))
  have HB6 := hide (bnext (unhide HB5) bX5)
  have hc0 : 2 ≤ c := by simpa using hc2
  clear hR5 cs1 cs2 hd2 bX5 hn5 h3 hb4 HRS4 HB4 HB5 hX3 hX4 hz3 hcs
  go_wp2_with fail
  refine (unhide h4).mono ?_
  rintro e W6 ⟨rfl, hb6⟩
  have HF := hide (bnext (unhide HB6) hb6)
  clear h4 hb6 HB6
  go_wp2
  go_ret
  exact ⟨rfl, unhide HF⟩
end Go.Proofs.YtkndjbmlkfpfoaaGreatDoor

/-
  The walk of ScriptParses.
-/
set_option linter.unusedSimpArgs false
set_option linter.unusedVariables false
namespace Go.Proofs.YtkndjbmlkfpfoaaGreatDoor
open Go.RowKit Go.Lib

theorem rdFs_draws : ∀ (fl : List Nat) (s : Sp) (l : List It) (s' : Sp) (r : List It), rdFs fl s l = some (s', r) → s'.draws.length + r.length ≤ s.draws.length + l.length
  | [], s, l, s', r, h => by cases h; exact Nat.le_refl _
  | f :: fl, s, l, s', r, h => by
    have h' : (match tkF s f l with | none => none | some (s', n) => rdFs fl s' (l.drop n)) = some (s', r) := h
    cases hq : tkF s f l with
    | none => rw [hq] at h'; cases h'
    | some p =>
      obtain ⟨s2, n⟩ := p
      rw [hq] at h'
      have h1 := (tkF_cnt hq).2
      have h2 := rdFs_draws fl s2 (l.drop n) s' r h'
      omega
theorem fstR_draws {L : List It} {t : Sp} (h : fstR L = some t) : t.draws.length ≤ L.length := by
  unfold fstR at h
  obtain ⟨i, hi, h⟩ := List.exists_of_findSome?_eq_some h
  cases L with
  | nil => cases h
  | cons x l =>
    have h' : (if x.w.k = 1 ∧ x.w.t = ofL (tnm.getD i []) then endR (rdFs (tfl.getD i []) (sp0 ((i : Int) + 1)) l) else none) = some t := h
    split at h'
    · cases hr : rdFs (tfl.getD i []) (sp0 ((i : Int) + 1)) l with
      | none => rw [hr] at h'; cases h'
      | some p =>
        obtain ⟨s', r⟩ := p
        rw [hr] at h'
        have := rdFs_draws _ _ _ _ _ hr
        cases r with
        | nil =>
          have e : some s' = some t := h'
          cases e
          simp only [List.length_cons]
          simp [sp0] at this
          omega
        | cons y r => cases h'
    · cases h'
theorem prL_draws : ∀ (n : Nat) (pre : List It) (S : List Sp) (L : List It), pre.length = n → prL pre = .inl (S, L) → (∀ t ∈ S, t.draws.length ≤ n) ∧ L.length ≤ n ∧ S.length ≤ n := by
  intro n
  induction n with
  | zero =>
    intro pre S L hn h
    have : pre = [] := List.eq_nil_of_length_eq_zero hn
    subst this
    cases h
    exact ⟨(fun t ht => by cases ht), Nat.le_refl _, Nat.le_refl _⟩
  | succ n ih =>
    intro pre S L hn h
    rcases List.eq_nil_or_concat pre with rfl | ⟨p, x, rfl⟩
    · cases hn
    · rw [List.concat_eq_append] at h hn
      rw [prL_snoc] at h
      have hp : p.length = n := by simpa using hn
      cases hq : prL p with
      | inr q => rw [hq] at h; obtain ⟨a, b⟩ := q; cases h
      | inl q =>
        obtain ⟨S1, L1⟩ := q
        rw [hq] at h
        obtain ⟨i1, i2, i3⟩ := ih p S1 L1 hp hq
        have h' : (if x.w.e ≠ 0 then (.inr (x.ln, x.w.e) : Pr) else if x.w.k ≠ 4 then .inl (S1, L1 ++ [x]) else match fstR L1 with | some t => .inl (S1 ++ [t], []) | none => .inr (x.ln, 19)) = .inl (S, L) := h
        split at h'
        · cases h'
        · split at h'
          · simp only [Sum.inl.injEq, Prod.mk.injEq] at h'
            obtain ⟨rfl, rfl⟩ := h'
            refine ⟨fun t ht => Nat.le_succ_of_le (i1 t ht), ?_, by omega⟩
            simp only [List.length_append, List.length_cons, List.length_nil]
            omega
          · cases hf : fstR L1 with
            | none => rw [hf] at h'; cases h'
            | some t =>
              rw [hf] at h'
              simp only [Sum.inl.injEq, Prod.mk.injEq] at h'
              obtain ⟨rfl, rfl⟩ := h'
              refine ⟨fun u hu => ?_, Nat.zero_le _, ?_⟩
              · rcases List.mem_append.1 hu with hu | hu
                · exact Nat.le_succ_of_le (i1 u hu)
                · simp at hu
                  subst hu
                  have := fstR_draws hf
                  omega
              · simp only [List.length_append, List.length_cons, List.length_nil]
                omega

end Go.Proofs.YtkndjbmlkfpfoaaGreatDoor

/-
  What Print writes is read again. Pure.
-/
set_option linter.unusedSimpArgs false
set_option linter.unusedVariables false
namespace Go.Proofs.YtkndjbmlkfpfoaaGreatDoor
open Go.RowKit Go.Lib

/-- a field's words, to lay -/
def fwL (s : Sp) (f : Nat) : List Lw1 := match f with
  | 0 => [.num s.site]
  | 1 => [.num s.peer]
  | 2 => [.num s.at_]
  | 3 => [.num s.n]
  | 4 => s.draws.map .num
  | 5 => [.quoted s.text]
  | _ => [.quoted (ofL s.data)]
theorem fwL_txt (s : Sp) : ∀ f : Nat, (fwL s f).map Lw1.txt = fw s f
  | 0 => rfl
  | 1 => rfl
  | 2 => rfl
  | 3 => rfl
  | 4 => by
    show (s.draws.map .num).map Lw1.txt = s.draws.map itoa
    rw [List.map_map]
    rfl
  | 5 => rfl
  | n + 6 => rfl
def wsL (s : Sp) : List Lw1 := (tfl.getD (kx s) []).flatMap (fwL s)
theorem wsL_txt (s : Sp) : (wsL s).map Lw1.txt = stW s := by
  unfold wsL stW
  rw [List.map_flatMap]
  congr 1
  funext f
  exact fwL_txt s f
/-- a line's items -/
def lineI : List UInt8 → Lw1 → List Lw1 → List Ii
  | g, x, [] => [⟨g, x, some 0⟩]
  | g, x, y :: l => ⟨g, x, none⟩ :: lineI [32] y l
theorem lineI_txt : ∀ (l : List Lw1) (g : List UInt8) (x : Lw1), layT (lineI g x l) = g ++ (x.txt ++ (blT (l.map Lw1.txt) ++ [10]))
  | [], g, x => by
    show (g ++ (x.txt ++ endT 0)) ++ [] = _
    simp [blT, endT]
  | y :: l, g, x => by
    show (g ++ (x.txt ++ [])) ++ layT (lineI [32] y l) = _
    rw [lineI_txt l [32] y]
    simp [blT]
theorem lineI_ok : ∀ (l : List Lw1) (g : List UInt8) (x : Lw1) (m : Bool) (rest : List Ii), (∀ b ∈ g, isBl b.toNat = true) → (m = true → g ≠ []) → x.ok → (∀ y ∈ l, y.ok) → okIs false rest → okIs m (lineI g x l ++ rest)
  | [], g, x, m, rest, h1, h2, h3, _, h5 => ⟨⟨h1, h2, h3, fun k hk => by cases hk; decide⟩, h5⟩
  | y :: l, g, x, m, rest, h1, h2, h3, h4, h5 => ⟨⟨h1, h2, h3, fun k hk => by cases hk⟩, lineI_ok l [32] y true rest (fun b hb => by simp at hb; subst hb; rfl) (fun _ => by simp) (h4 y (List.mem_cons_self ..)) (fun z hz => h4 z (List.mem_cons_of_mem _ hz)) h5⟩
/-- what a reader sees of a word -/
def keyI (x : It) : Nat × ByteArray × Int := (x.w.k, x.w.t, x.w.n)
def cnI (x : Lw1) : It := ⟨x.wd 0, 0⟩
theorem key_wd (x : Lw1) (a ln : Nat) : keyI ⟨x.wd a, ln⟩ = keyI (cnI x) := by rcases x.ways with ⟨t, rfl⟩ | ⟨y, rfl⟩ | ⟨v, rfl⟩ <;> rfl
theorem wd_k (x : Lw1) (a : Nat) : (x.wd a).k ≠ 4 := by rcases x.ways with ⟨t, rfl⟩ | ⟨y, rfl⟩ | ⟨v, rfl⟩ <;> (intro h; cases h)
theorem allN_key {l l' : List It} (h : l.map keyI = l'.map keyI) : allN l = allN l' := by
  have e : ∀ l : List It, allN l = (l.map keyI).all fun p => decide (p.1 = 3) := fun l => by
    unfold allN
    rw [List.all_map]
    rfl
  rw [e, e, h]
theorem nums_key {l l' : List It} (h : l.map keyI = l'.map keyI) : (l.map fun x => x.w.n) = l'.map fun x => x.w.n := by
  have e : ∀ l : List It, (l.map fun x => x.w.n) = (l.map keyI).map fun p => p.2.2 := fun l => by rw [List.map_map]; rfl
  rw [e, e, h]
theorem len_key {l l' : List It} (h : l.map keyI = l'.map keyI) : l.length = l'.length := by simpa using congrArg List.length h
theorem tkF_key {s : Sp} {f : Nat} {l l' : List It} (h : l.map keyI = l'.map keyI) : tkF s f l = tkF s f l' := by
  unfold tkF
  by_cases hf : f = 4
  · rw [if_pos hf, if_pos hf, allN_key h, nums_key h, len_key h]
  · rw [if_neg hf, if_neg hf]
    cases l with
    | nil =>
      cases l' with
      | nil => rfl
      | cons y l' => cases h
    | cons x l =>
      cases l' with
      | nil => cases h
      | cons y l' =>
        simp only [List.map_cons, List.cons.injEq] at h
        have h1 := h.1
        unfold keyI at h1
        simp only [Prod.mk.injEq] at h1
        simp only [h1.1, h1.2.1, h1.2.2]
theorem rdFs_key : ∀ (fl : List Nat) (s : Sp) (l l' : List It), l.map keyI = l'.map keyI → endR (rdFs fl s l) = endR (rdFs fl s l')
  | [], s, l, l', h => by
    have := len_key h
    cases l with
    | nil =>
      cases l' with
      | nil => rfl
      | cons y l' => cases h
    | cons x l =>
      cases l' with
      | nil => cases h
      | cons y l' => rfl
  | f :: fl, s, l, l', h => by
    show endR (match tkF s f l with | none => none | some (s', n) => rdFs fl s' (l.drop n)) = endR (match tkF s f l' with | none => none | some (s', n) => rdFs fl s' (l'.drop n))
    rw [tkF_key h]
    cases tkF s f l' with
    | none => rfl
    | some p =>
      obtain ⟨s', n⟩ := p
      exact rdFs_key fl s' (l.drop n) (l'.drop n) (by rw [List.map_drop, List.map_drop, h])
theorem fstR_key {l l' : List It} (h : l.map keyI = l'.map keyI) : fstR l = fstR l' := by
  unfold fstR
  congr 1
  funext i
  cases l with
  | nil =>
    cases l' with
    | nil => rfl
    | cons y l' => cases h
  | cons x l =>
    cases l' with
    | nil => cases h
    | cons y l' =>
      simp only [List.map_cons, List.cons.injEq] at h
      have h1 := h.1
      unfold keyI at h1
      simp only [Prod.mk.injEq] at h1
      show (if x.w.k = 1 ∧ x.w.t = ofL (tnm.getD i []) then endR (rdFs (tfl.getD i []) (sp0 ((i : Int) + 1)) l) else none) = (if y.w.k = 1 ∧ y.w.t = ofL (tnm.getD i []) then endR (rdFs (tfl.getD i []) (sp0 ((i : Int) + 1)) l') else none)
      rw [h1.1, h1.2.1, rdFs_key _ _ l l' h.2]
/-- a line is read -/
theorem lineI_pr : ∀ (l : List Lw1) (g : List UInt8) (x : Lw1) (a line : Nat) (m : Bool) (rest : List Ii) (S : List Sp) (L : List It), ∃ (a' line' : Nat) (ws : List It), ws.map keyI = (x :: l).map (fun y => keyI (cnI y)) ∧
    (layW a line m (lineI g x l ++ rest)).foldl prI (.inl (S, L)) = (layW a' line' false rest).foldl prI (match fstR (L ++ ws) with | some t => .inl (S ++ [t], []) | none => .inr (line, 19))
  | [], g, x, a, line, m, rest, S, L => by
    refine ⟨a + (⟨g, x, some 0⟩ : Ii).txt.length, (⟨g, x, some 0⟩ : Ii).ln line, [⟨x.wd (a + g.length), line⟩], by simp [key_wd], ?_⟩
    show ((⟨x.wd (a + g.length), line⟩ :: endI (a + g.length + x.txt.length + endC 0) line :: []) ++ layW (a + (⟨g, x, some 0⟩ : Ii).txt.length) ((⟨g, x, some 0⟩ : Ii).ln line) false rest).foldl prI (.inl (S, L)) = _
    rw [List.foldl_append]
    congr 1
    show prI (prI (.inl (S, L)) ⟨x.wd (a + g.length), line⟩) (endI (a + g.length + x.txt.length + endC 0) line) = _
    have e1 : prI (.inl (S, L)) ⟨x.wd (a + g.length), line⟩ = .inl (S, L ++ [⟨x.wd (a + g.length), line⟩]) := by
      show (if (x.wd (a + g.length)).e ≠ 0 then _ else _) = _
      rw [if_neg (by simpa using x.e0 _), if_pos (wd_k x _)]
    rw [e1]
    rfl
  | y :: l, g, x, a, line, m, rest, S, L => by
    obtain ⟨a', line', ws, h1, h2⟩ := lineI_pr l [32] y (a + (⟨g, x, none⟩ : Ii).txt.length) line true rest S (L ++ [⟨x.wd (a + g.length), line⟩])
    refine ⟨a', line', ⟨x.wd (a + g.length), line⟩ :: ws, by rw [List.map_cons, h1, key_wd]; rfl, ?_⟩
    have e1 : prI (.inl (S, L)) ⟨x.wd (a + g.length), line⟩ = .inl (S, L ++ [⟨x.wd (a + g.length), line⟩]) := by
      show (if (x.wd (a + g.length)).e ≠ 0 then _ else _) = _
      rw [if_neg (by simpa using x.e0 _), if_pos (wd_k x _)]
    show (layW (a + (⟨g, x, none⟩ : Ii).txt.length) line true (lineI [32] y l ++ rest)).foldl prI (prI (.inl (S, L)) ⟨x.wd (a + g.length), line⟩) = _
    rw [e1, h2, List.append_assoc]
    rfl
/-- a step with what its kind has -/
def cpF (s acc : Sp) (f : Nat) : Sp := match f with
  | 0 => acc.num 0 s.site
  | 1 => acc.num 1 s.peer
  | 2 => acc.num 2 s.at_
  | 3 => acc.num 3 s.n
  | 4 => acc.dr s.draws
  | 5 => acc.txt s.text
  | _ => acc.dat s.data
def bareS (s : Sp) : Sp := (tfl.getD (kx s) []).foldl (cpF s) (sp0 s.kind)
theorem rdFs_ws (s : Sp) : ∀ (fl : List Nat) (acc : Sp), (∀ f ∈ fl, f ≠ 4) → (∀ f ∈ fl, f < 7) → rdFs fl acc ((fl.flatMap (fwL s)).map cnI) = some (fl.foldl (cpF s) acc, [])
  | [], acc, _, _ => rfl
  | f :: fl, acc, h4, h7 => by
    have ih := fun acc => rdFs_ws s fl acc (fun g hg => h4 g (List.mem_cons_of_mem _ hg)) (fun g hg => h7 g (List.mem_cons_of_mem _ hg))
    have hf4 := h4 f (List.mem_cons_self ..)
    have hf7 := h7 f (List.mem_cons_self ..)
    have : f = 0 ∨ f = 1 ∨ f = 2 ∨ f = 3 ∨ f = 5 ∨ f = 6 := by omega
    rcases this with rfl | rfl | rfl | rfl | rfl | rfl <;> exact ih _
theorem allN_nums (l : List Int) : allN ((l.map Lw1.num).map cnI) = true := by
  unfold allN
  rw [List.all_eq_true]
  intro x hx
  simp only [List.mem_map] at hx
  obtain ⟨a, ⟨b, _, rfl⟩, rfl⟩ := hx
  rfl
theorem fst_ws {s : Sp} (hk : isK s) : fstR ((Lw1.plain (tnm.getD (kx s) []) :: wsL s).map cnI) = some (bareS s) := by
  have hkx : ((kx s : Nat) : Int) + 1 = s.kind := by unfold kx; have := hk.1; omega
  have hk14 : kx s < 14 := by unfold kx; have := hk.2; omega
  have hh : hitN (cnI (Lw1.plain (tnm.getD (kx s) []))) (kx s) := ⟨rfl, rfl⟩
  rw [List.map_cons, fstR_hit _ hk14 hh, hkx]
  by_cases h5 : kx s = 5
  · have h6 : s.kind = 6 := by omega
    unfold wsL bareS
    rw [h5, h6]
    show endR (rdFs (tfl.getD 5 []) (sp0 6) (([4].flatMap (fwL s)).map cnI)) = _
    rw [rd_tick]
    have e : [4].flatMap (fwL s) = s.draws.map .num := by simp [fwL]
    rw [e, allN_nums, if_pos rfl]
    congr 1
    show (sp0 6).dr _ = (sp0 6).dr s.draws
    congr 1
    rw [List.map_map, List.map_map]
    exact List.map_id _
  · unfold wsL bareS
    rw [rdFs_ws s _ _ (tfl_ne4 _ hk14 h5) (tfl_lt _ hk14)]
    rfl
theorem bare_kx {s : Sp} (hk : isK s) : (bareS s).kind = s.kind ∧ stT (bareS s) = stT s ∧ bareS (bareS s) = bareS s ∧ isK (bareS s) := by
  obtain ⟨k, a, b, c, d, e, f, g, h⟩ := s
  have h1 : k = 1 ∨ k = 2 ∨ k = 3 ∨ k = 4 ∨ k = 5 ∨ k = 6 ∨ k = 7 ∨ k = 8 ∨ k = 9 ∨ k = 10 ∨ k = 11 ∨ k = 12 ∨ k = 13 ∨ k = 14 := by have h1 := hk.1; have h2 := hk.2; simp only at h1 h2; omega
  rcases h1 with rfl | rfl | rfl | rfl | rfl | rfl | rfl | rfl | rfl | rfl | rfl | rfl | rfl | rfl <;> exact ⟨rfl, rfl, rfl, hk⟩
def itS (s : Sp) : List Ii := lineI [] (.plain (tnm.getD (kx s) [])) (wsL s)
theorem itS_txt (s : Sp) : layT (itS s) = stT s := by
  unfold itS
  rw [lineI_txt, wsL_txt]
  rfl
theorem layT_app (l m : List Ii) : layT (l ++ m) = layT l ++ layT m := by simp [layT]
theorem itS_all (l : List Sp) : layT (l.flatMap itS) = l.flatMap stT := by
  induction l with
  | nil => rfl
  | cons s l ih => rw [List.flatMap_cons, List.flatMap_cons, layT_app, itS_txt, ih]
theorem nm_bytes : ∀ i, i < 14 → (tnm.getD i []).all (fun b => decide (33 ≤ b.toNat ∧ b.toNat ≠ 127 ∧ b.toNat ≠ 34 ∧ b.toNat ≠ 35 ∧ b.toNat < 128)) = true ∧ tnm.getD i [] ≠ [] ∧ bgN (ofL (tnm.getD i [])) = false := by decide +kernel
theorem nm_ok {i : Nat} (hi : i < 14) : (Lw1.plain (tnm.getD i [])).ok := by
  obtain ⟨h1, h2, h3⟩ := nm_bytes i hi
  have hb : ∀ b ∈ tnm.getD i [], 33 ≤ b.toNat ∧ b.toNat ≠ 127 ∧ b.toNat ≠ 34 ∧ b.toNat ≠ 35 ∧ b.toNat < 128 := fun b hb => of_decide_eq_true (List.all_eq_true.1 h1 b hb)
  exact ⟨⟨fun b h => ⟨(hb b h).1, (hb b h).2.1, (hb b h).2.2.1, (hb b h).2.2.2.1⟩, ok_low _ (fun b h => (hb b h).2.2.2.2)⟩, h2, h3⟩
/-- a step's numbers are Go's -/
structure SpN (s : Sp) : Prop where
  site : in64 s.site
  peer : in64 s.peer
  at_ : in64 s.at_
  n : in64 s.n
  dnum : ∀ x ∈ s.draws, in64 x
theorem fwL_ok {s : Sp} (h : SpN s) : ∀ f, ∀ y ∈ fwL s f, y.ok
  | 0, y, hy => by simp [fwL] at hy; subst hy; exact h.site
  | 1, y, hy => by simp [fwL] at hy; subst hy; exact h.peer
  | 2, y, hy => by simp [fwL] at hy; subst hy; exact h.at_
  | 3, y, hy => by simp [fwL] at hy; subst hy; exact h.n
  | 4, y, hy => by
    simp only [fwL, List.mem_map] at hy
    obtain ⟨v, hv, rfl⟩ := hy
    exact h.dnum v hv
  | 5, y, hy => by simp [fwL] at hy; subst hy; exact True.intro
  | n + 6, y, hy => by simp [fwL] at hy; subst hy; exact True.intro
theorem itS_ok : ∀ (l : List Sp), (∀ s ∈ l, isK s ∧ SpN s) → okIs false (l.flatMap itS)
  | [], _ => True.intro
  | s :: l, h => by
    rw [List.flatMap_cons]
    have hs := h s (List.mem_cons_self ..)
    have hk14 : kx s < 14 := by unfold kx; have := hs.1.2; omega
    refine lineI_ok _ _ _ _ _ (fun b hb => by cases hb) (fun e => by cases e) (nm_ok hk14) (fun y hy => ?_) (itS_ok l (fun t ht => h t (List.mem_cons_of_mem _ ht)))
    unfold wsL at hy
    obtain ⟨f, _, hf⟩ := List.mem_flatMap.1 hy
    exact fwL_ok hs.2 f y hf
theorem itS_pr : ∀ (l : List Sp) (a line : Nat) (S : List Sp), (∀ s ∈ l, isK s) → (layW a line false (l.flatMap itS)).foldl prI (.inl (S, [])) = .inl (S ++ l.map bareS, [])
  | [], a, line, S, _ => by
    show (.inl (S, []) : Pr) = _
    simp
  | s :: l, a, line, S, h => by
    rw [List.flatMap_cons]
    obtain ⟨a', line', ws, h1, h2⟩ := lineI_pr (wsL s) [] (.plain (tnm.getD (kx s) [])) a line false (l.flatMap itS) S []
    have e : fstR ([] ++ ws) = some (bareS s) := by
      rw [List.nil_append, ← fst_ws (h s (List.mem_cons_self ..))]
      refine fstR_key ?_
      rw [h1, List.map_map]
      rfl
    rw [e] at h2
    show (layW a line false (lineI [] (.plain (tnm.getD (kx s) [])) (wsL s) ++ l.flatMap itS)).foldl prI _ = _
    rw [h2]
    show (layW a' line' false (l.flatMap itS)).foldl prI (.inl (S ++ [bareS s], [])) = _
    rw [itS_pr l a' line' (S ++ [bareS s]) (fun t ht => h t (List.mem_cons_of_mem _ ht))]
    simp
/-- what Print writes Parse reads -/
theorem parse_print {l : List Sp} (h : ∀ s ∈ l, isK s ∧ SpN s) : prL (scL (ofL (l.flatMap stT))) = .inl (l.map bareS, []) := by
  rw [← itS_all, scL_lay _ (itS_ok l h)]
  exact itS_pr l 0 1 [] (fun s hs => (h s hs).1)
end Go.Proofs.YtkndjbmlkfpfoaaGreatDoor

/-
  What a text's steps are: how much of it they hold. Pure.
-/
set_option linter.unusedSimpArgs false
set_option linter.unusedVariables false
namespace Go.Proofs.YtkndjbmlkfpfoaaGreatDoor
open Go.RowKit Go.Lib

theorem rdA_len (s : ByteArray) (f : Nat) : ∀ (i : Nat) (acc : List UInt8), s.size - i ≤ f → i ≤ s.size → (rdA s i acc).1.length ≤ acc.length + 4 * ((rdA s i acc).2.1 - i) ∧ i ≤ (rdA s i acc).2.1 := by
  induction f with
  | zero =>
    intro i acc h hi
    rw [rdA_end (by omega)]; exact ⟨Nat.zero_le _, hi⟩
  | succ g IH =>
    intro i acc h hi
    by_cases hlt : i < s.size
    · by_cases h1 : by_ s i = 34
      · rw [rdA_quote hlt h1]; exact ⟨Nat.le_add_right _ _, Nat.le_succ _⟩
      · by_cases h2 : by_ s i = 92
        · cases he : escE s i with
          | none => rw [rdA_none hlt h2 he]; exact ⟨Nat.zero_le _, Nat.le_refl _⟩
          | some v =>
            obtain ⟨x, k⟩ := v
            have hn := escE_n he
            rw [rdA_some hlt h2 he]
            have ih := IH (i + k) (acc ++ x) (by omega) (by omega)
            rw [List.length_append] at ih
            exact ⟨by omega, by omega⟩
        · cases hr : rawB s i with
          | true => rw [rdA_raw hlt h1 h2 hr]; exact ⟨Nat.zero_le _, Nat.le_refl _⟩
          | false =>
            have hw := wd_pos s i hlt
            have hw2 := wd_le s i hlt
            have he4 := encL_le4 ((rn s i : Nat) : Int)
            rw [rdA_rune hlt h1 h2 hr]
            have ih := IH (i + wd s i) (acc ++ encL (rn s i : Nat)) (by omega) (by omega)
            rw [List.length_append] at ih
            exact ⟨by omega, by omega⟩
    · rw [rdA_end hlt]; exact ⟨Nat.zero_le _, hi⟩

def wtI (x : It) : Nat := x.w.t.size + 1
def wtL (l : List It) : Nat := (l.map wtI).sum
theorem wtL_cons (x : It) (l : List It) : wtL (x :: l) = wtI x + wtL l := rfl
theorem wtL_app (l m : List It) : wtL (l ++ m) = wtL l + wtL m := by unfold wtL; rw [List.map_append, List.sum_append]
theorem wtL_len (l : List It) : l.length ≤ wtL l := by
  induction l with
  | nil => exact Nat.le_refl _
  | cons x l ih => rw [wtL_cons]; unfold wtI; simp only [List.length_cons]; omega
theorem wdAt_w (s : ByteArray) (i : Nat) (h : i < s.size) (hw : isWe (by_ s i) = false) : (wdAt s i).t.size + 1 ≤ 6 * (s.size - i) ∧ ((wdAt s i).e = 0 → (wdAt s i).t.size + 1 ≤ 6 * ((wdAt s i).nx - i)) := by
  have h0 : ∀ he : (wdAt s i).e = 0, i < (wdAt s i).nx ∧ (wdAt s i).nx ≤ s.size := fun he => wdAt_nx s i h hw he
  have key : (wdAt s i).e = 0 → (wdAt s i).t.size + 1 ≤ 6 * ((wdAt s i).nx - i) := fun he => by
    have hn := h0 he
    unfold wdAt at he hn ⊢
    split
    · rename_i hq
      rw [if_pos hq] at he hn
      have hl := rdA_len s _ (i + 1) [] (Nat.le_refl _) (by omega)
      rw [← rdA_zero] at hl
      unfold qdW at he hn ⊢
      split
      · rename_i hc
        rw [if_pos hc] at hn
        show (ofL (rdE s (i + 1)).1).size + 1 ≤ 6 * ((rdE s (i + 1)).2.1 - i)
        rw [ofL_size]
        have : i < (rdE s (i + 1)).2.1 := hn.1
        simp only [List.length_nil] at hl
        omega
      · rename_i hc
        rw [if_neg hc] at he
        cases he
    · rename_i hq
      rw [if_neg hq] at he hn
      unfold bwW at he hn ⊢
      split
      · rename_i hc
        rw [if_pos hc] at he
        exact absurd he hc
      · rename_i hc
        rw [if_neg hc] at he hn
        split
        · rename_i hb
          rw [if_pos hb] at hn
          show (s.extract i (bwA s i).1).size + 1 ≤ 6 * ((bwA s i).1 - i)
          rw [ByteArray.size_extract]
          have : i < (bwA s i).1 := hn.1
          omega
        · rename_i hb
          rw [if_neg hb] at he hn
          split
          · rename_i hd
            rw [hd] at he
            cases he
          · rename_i n hd
            rw [hd] at hn
            show 0 + 1 ≤ 6 * ((bwA s i).1 - i)
            have : i < (bwA s i).1 := hn.1
            omega
  refine ⟨?_, key⟩
  by_cases he : (wdAt s i).e = 0
  · have := key he
    have := h0 he
    omega
  · have : (wdAt s i).t.size = 0 := by
      unfold wdAt at he ⊢
      split
      · rename_i hq
        rw [if_pos hq] at he
        unfold qdW at he ⊢
        split
        · rename_i hc; rw [if_pos hc] at he; exact absurd rfl he
        · rfl
      · rename_i hq
        rw [if_neg hq] at he
        unfold bwW at he ⊢
        split
        · rfl
        · rename_i hc
          rw [if_neg hc] at he
          split
          · rename_i hb; rw [if_pos hb] at he; exact absurd rfl he
          · rename_i hb
            rw [if_neg hb] at he
            split
            · rfl
            · rename_i n hd; rw [hd] at he; exact absurd rfl he
    omega
theorem scF_w (s : ByteArray) : ∀ (f i line : Nat) (m : Bool), i ≤ s.size → wtL (scF s f i line m) ≤ 6 * (s.size - i) + 2
  | 0, _, _, _, _ => by simp [scF, wtL]
  | f + 1, i, line, m, hi => by
    have he : ∀ m : Bool, wtL (if m then [endI i line] else []) ≤ 1 := fun m => by
      cases m with
      | false => exact Nat.zero_le _
      | true => exact Nat.le_refl 1
    unfold scF
    split
    · have := he m; omega
    · rename_i c0
      have hlt : i < s.size := by omega
      split
      · have hb := bhL_bounds s i hlt
        have ih := scF_w s f (bhL s i) (line + 1) false hb.2
        rw [wtL_app]
        have := he m
        omega
      · rename_i c1
        split
        · have ih := scF_w s f (i + 1) line m (by omega)
          omega
        · rename_i c2
          split
          · have hr := rmE_bounds s _ i (Nat.le_refl _) hi
            have ih := scF_w s f (rmE s i) line m hr.2.1
            omega
          · rename_i c3
            have hw := wdAt_w s i hlt (we_of s i c1 c2 c3)
            rw [wtL_cons]
            show (wdAt s i).t.size + 1 + wtL _ ≤ _
            split
            · rename_i h0
              have hn := wdAt_nx s i hlt (we_of s i c1 c2 c3) h0
              have ih := scF_w s f (wdAt s i).nx line true hn.2
              have := hw.2 h0
              omega
            · have : wtL [] = 0 := rfl
              omega
theorem scL_w (s : ByteArray) : wtL (scL s) ≤ 6 * s.size + 2 := scF_w s _ 0 1 false (Nat.zero_le _)
theorem wdAt_n (s : ByteArray) (i : Nat) : in64 (wdAt s i).n := by
  have h0 : in64 0 := in64_d _ (by decide)
  unfold wdAt
  split
  · unfold qdW
    split <;> exact h0
  · unfold bwW
    split
    · exact h0
    · split
      · exact h0
      · split
        · exact h0
        · rename_i n hd
          exact (decN_some hd).2
theorem scF_n (s : ByteArray) : ∀ (f i line : Nat) (m : Bool), ∀ x ∈ scF s f i line m, in64 x.w.n
  | 0, _, _, _ => by intro x hx; simp [scF] at hx
  | f + 1, i, line, m => by
    have h1 := scF_n s f (bhL s i) (line + 1) false
    have h2 := scF_n s f (i + 1) line m
    have h3 := scF_n s f (rmE s i) line m
    have h4 := scF_n s f (wdAt s i).nx line true
    have he : ∀ x ∈ (if m then [endI i line] else []), in64 x.w.n := fun x hx => by
      cases m with
      | true =>
        simp at hx
        subst hx
        exact in64_d 0 (by decide)
      | false => simp at hx
    intro x hx
    unfold scF at hx
    split at hx
    · exact he x hx
    · split at hx
      · rcases List.mem_append.1 hx with hx | hx
        · exact he x hx
        · exact h1 x hx
      · split at hx
        · exact h2 x hx
        · split at hx
          · exact h3 x hx
          · rcases List.mem_cons.1 hx with hx | hx
            · rw [hx]
              exact wdAt_n s i
            · split at hx
              · exact h4 x hx
              · simp at hx
theorem scL_n (s : ByteArray) : ∀ x ∈ scL s, in64 x.w.n := scF_n s _ 0 1 false
end Go.Proofs.YtkndjbmlkfpfoaaGreatDoor

/-
  The steps that a text says: they are bare, and are read again. Pure.
-/
set_option linter.unusedSimpArgs false
set_option linter.unusedVariables false
namespace Go.Proofs.YtkndjbmlkfpfoaaGreatDoor
open Go.RowKit Go.Lib

/-- a field that is set -/
def fldF (s : Sp) (f : Nat) (p : Int × ByteArray × List UInt8 × List Int) : Sp := match f with
  | 0 => s.num 0 p.1
  | 1 => s.num 1 p.1
  | 2 => s.num 2 p.1
  | 3 => s.num 3 p.1
  | 4 => s.dr p.2.2.2
  | 5 => s.txt p.2.1
  | _ => s.dat p.2.2.1
def wS (t : Sp) : Nat := t.text.size + t.data.length + t.draws.length
theorem tk_form {s s' : Sp} {f n : Nat} {l : List It} (hf : f < 7) (h : tkF s f l = some (s', n)) :
    (∃ p, s' = fldF s f p) ∧ wS s' + wtL (l.drop n) ≤ wS s + wtL l ∧ (SpN s → (∀ x ∈ l, in64 x.w.n) → SpN s') := by
  unfold tkF at h
  by_cases h4 : f = 4
  · subst h4
    rw [if_pos rfl] at h
    split at h
    · simp only [Option.some.injEq, Prod.mk.injEq] at h
      obtain ⟨rfl, rfl⟩ := h
      refine ⟨⟨(0, ⟨#[]⟩, [], _), rfl⟩, ?_, fun hs hx => ⟨hs.site, hs.peer, hs.at_, hs.n, fun v hv => ?_⟩⟩
      · rw [List.drop_length]
        have := wtL_len l
        show s.text.size + s.data.length + (s.draws ++ l.map fun x => x.w.n).length + 0 ≤ _
        rw [List.length_append, List.length_map]
        unfold wS
        omega
      · rcases List.mem_append.1 hv with hv | hv
        · exact hs.dnum v hv
        · obtain ⟨x, hx2, rfl⟩ := List.mem_map.1 hv
          exact hx x hx2
    · cases h
  · rw [if_neg h4] at h
    cases l with
    | nil => cases h
    | cons x l =>
      simp only at h
      split at h
      · rename_i hf4
        split at h
        · simp only [Option.some.injEq, Prod.mk.injEq] at h
          obtain ⟨rfl, rfl⟩ := h
          have hq : f = 0 ∨ f = 1 ∨ f = 2 ∨ f = 3 := by omega
          have hw : wS (s.num f x.w.n) + wtL ((x :: l).drop 1) ≤ wS s + wtL (x :: l) := by
            have e : wS (s.num f x.w.n) = wS s := by rcases hq with rfl | rfl | rfl | rfl <;> rfl
            rw [e, wtL_cons]
            show wS s + wtL l ≤ _
            omega
          refine ⟨⟨(x.w.n, ⟨#[]⟩, [], []), ?_⟩, hw, fun hs hx => ?_⟩
          · rcases hq with rfl | rfl | rfl | rfl <;> rfl
          · have hn := hx x (List.mem_cons_self ..)
            rcases hq with rfl | rfl | rfl | rfl
            · exact ⟨hn, hs.peer, hs.at_, hs.n, hs.dnum⟩
            · exact ⟨hs.site, hn, hs.at_, hs.n, hs.dnum⟩
            · exact ⟨hs.site, hs.peer, hn, hs.n, hs.dnum⟩
            · exact ⟨hs.site, hs.peer, hs.at_, hn, hs.dnum⟩
        · cases h
      · rename_i hf4
        split at h
        · simp only [Option.some.injEq, Prod.mk.injEq] at h
          obtain ⟨rfl, rfl⟩ := h
          have hq : f = 5 ∨ f = 6 := by omega
          rcases hq with rfl | rfl
          · refine ⟨⟨(0, x.w.t, [], []), rfl⟩, ?_, fun hs hx => ⟨hs.site, hs.peer, hs.at_, hs.n, hs.dnum⟩⟩
            show x.w.t.size + s.data.length + s.draws.length + wtL l ≤ _
            rw [wtL_cons]
            unfold wS wtI
            omega
          · refine ⟨⟨(0, ⟨#[]⟩, _, []), rfl⟩, ?_, fun hs hx => ⟨hs.site, hs.peer, hs.at_, hs.n, hs.dnum⟩⟩
            show s.text.size + x.w.t.data.toList.length + s.draws.length + wtL l ≤ _
            have e : x.w.t.data.toList.length = x.w.t.size := Array.length_toList
            rw [e, wtL_cons]
            unfold wS wtI
            omega
        · cases h
theorem rd_form : ∀ (fl : List Nat) (s : Sp) (l : List It) (t : Sp) (r : List It), (∀ f ∈ fl, f < 7) → rdFs fl s l = some (t, r) →
    (∃ ps : List (Int × ByteArray × List UInt8 × List Int), ps.length = fl.length ∧ t = (fl.zip ps).foldl (fun a q => fldF a q.1 q.2) s) ∧ wS t + wtL r ≤ wS s + wtL l ∧ (SpN s → (∀ x ∈ l, in64 x.w.n) → SpN t)
  | [], s, l, t, r, _, h => by
    cases h
    exact ⟨⟨[], rfl, rfl⟩, Nat.le_refl _, fun hs _ => hs⟩
  | f :: fl, s, l, t, r, hf, h => by
    have h' : (match tkF s f l with | none => none | some (s', n) => rdFs fl s' (l.drop n)) = some (t, r) := h
    cases hq : tkF s f l with
    | none => rw [hq] at h'; cases h'
    | some p =>
      obtain ⟨s2, n⟩ := p
      rw [hq] at h'
      obtain ⟨⟨p, e1⟩, e2, e3⟩ := tk_form (hf f (List.mem_cons_self ..)) hq
      obtain ⟨⟨ps, g1, g2⟩, g3, g4⟩ := rd_form fl s2 (l.drop n) t r (fun g hg => hf g (List.mem_cons_of_mem _ hg)) h'
      refine ⟨⟨p :: ps, by rw [List.length_cons, List.length_cons, g1], ?_⟩, by omega, fun hs hx => g4 (e3 hs hx) (fun x hx2 => hx x (List.mem_of_mem_drop hx2))⟩
      rw [g2, e1]
      rfl
theorem bare_of {i : Nat} (hi : i < 14) {ps : List (Int × ByteArray × List UInt8 × List Int)} (hp : ps.length = (tfl.getD i []).length) :
    bareS (((tfl.getD i []).zip ps).foldl (fun a q => fldF a q.1 q.2) (sp0 ((i : Int) + 1))) = ((tfl.getD i []).zip ps).foldl (fun a q => fldF a q.1 q.2) (sp0 ((i : Int) + 1)) ∧ (((tfl.getD i []).zip ps).foldl (fun a q => fldF a q.1 q.2) (sp0 ((i : Int) + 1))).kind = (i : Int) + 1 ∧ (((tfl.getD i []).zip ps).foldl (fun a q => fldF a q.1 q.2) (sp0 ((i : Int) + 1))).unit = 0 := by
  have h : i = 0 ∨ i = 1 ∨ i = 2 ∨ i = 3 ∨ i = 4 ∨ i = 5 ∨ i = 6 ∨ i = 7 ∨ i = 8 ∨ i = 9 ∨ i = 10 ∨ i = 11 ∨ i = 12 ∨ i = 13 := by omega
  match ps, hp with
  | [], hp => rcases h with rfl | rfl | rfl | rfl | rfl | rfl | rfl | rfl | rfl | rfl | rfl | rfl | rfl | rfl <;> first | exact ⟨rfl, rfl, rfl⟩ | (exfalso; revert hp; decide)
  | [a], hp => rcases h with rfl | rfl | rfl | rfl | rfl | rfl | rfl | rfl | rfl | rfl | rfl | rfl | rfl | rfl <;> first | exact ⟨rfl, rfl, rfl⟩ | (exfalso; simp [tfl] at hp)
  | [a, b], hp => rcases h with rfl | rfl | rfl | rfl | rfl | rfl | rfl | rfl | rfl | rfl | rfl | rfl | rfl | rfl <;> first | exact ⟨rfl, rfl, rfl⟩ | (exfalso; simp [tfl] at hp)
  | [a, b, c], hp => rcases h with rfl | rfl | rfl | rfl | rfl | rfl | rfl | rfl | rfl | rfl | rfl | rfl | rfl | rfl <;> first | exact ⟨rfl, rfl, rfl⟩ | (exfalso; simp [tfl] at hp)
  | a :: b :: c :: d :: ps, hp => exfalso; have := tfl_le i hi; simp only [List.length_cons] at hp; omega
/-- a step that was read -/
structure SpP (t : Sp) : Prop where
  k : isK t
  n : SpN t
  b : bareS t = t
  u : t.unit = 0
theorem sp0_n (k : Int) : SpN (sp0 k) := ⟨in64_d 0 (by decide), in64_d 0 (by decide), in64_d 0 (by decide), in64_d 0 (by decide), fun x hx => by cases hx⟩
theorem fstR_p {L : List It} {t : Sp} (h : fstR L = some t) (hn : ∀ x ∈ L, in64 x.w.n) : SpP t ∧ wS t + 1 ≤ wtL L ∧ L.length = 1 + (wsL t).length := by
  unfold fstR at h
  obtain ⟨i, hi, h⟩ := List.exists_of_findSome?_eq_some h
  have hi14 := List.mem_range.1 hi
  cases L with
  | nil => cases h
  | cons x l =>
    have h' : (if x.w.k = 1 ∧ x.w.t = ofL (tnm.getD i []) then endR (rdFs (tfl.getD i []) (sp0 ((i : Int) + 1)) l) else none) = some t := h
    split at h'
    · cases hr : rdFs (tfl.getD i []) (sp0 ((i : Int) + 1)) l with
      | none => rw [hr] at h'; cases h'
      | some p =>
        obtain ⟨s', r⟩ := p
        rw [hr] at h'
        cases r with
        | nil =>
          have e : some s' = some t := h'
          obtain rfl := Option.some.inj e
          obtain ⟨⟨ps, g1, g2⟩, g3, g4⟩ := rd_form _ _ _ _ _ (tfl_lt i hi14) hr
          obtain ⟨b1, b2, b3⟩ := bare_of hi14 g1
          rw [← g2] at b1 b2 b3
          have hk : isK s' := by unfold isK; rw [b2]; omega
          have hkx : kx s' = i := by unfold kx; rw [b2]; omega
          refine ⟨⟨hk, g4 (sp0_n _) (fun y hy => hn y (List.mem_cons_of_mem _ hy)), b1, b3⟩, ?_, ?_⟩
          · have e0 : wS (sp0 ((i : Int) + 1)) = 0 := rfl
            have e1 : wtL ([] : List It) = 0 := rfl
            rw [wtL_cons]
            unfold wtI
            omega
          · unfold wsL
            rw [hkx]
            by_cases h5 : i = 5
            · subst h5
              have h6 := rd_tick l
              have hr' : rdFs (tfl.getD 5 []) (sp0 6) l = some (s', []) := hr
              rw [hr'] at h6
              have h7 : some s' = if allN l = true then some ((sp0 6).dr (l.map fun x => x.w.n)) else none := h6
              split at h7
              · cases h7
                show (x :: l).length = 1 + ([4].flatMap (fwL _)).length
                simp [fwL, Sp.dr]
                omega
              · cases h7
            · have hl := rdFs_len _ _ _ _ _ (tfl_ne4 i hi14 h5) hr
              have hw : ∀ fl : List Nat, (∀ f ∈ fl, f ≠ 4) → (fl.flatMap (fwL s')).length = fl.length := by
                intro fl
                induction fl with
                | nil => intro _; rfl
                | cons f fl ih =>
                  intro hf
                  have hf4 := hf f (List.mem_cons_self ..)
                  rw [List.flatMap_cons, List.length_append, ih (fun g hg => hf g (List.mem_cons_of_mem _ hg)), List.length_cons]
                  have : (fwL s' f).length = 1 := by
                    unfold fwL
                    split <;> first | rfl | exact absurd rfl hf4
                  omega
              rw [hw _ (tfl_ne4 i hi14 h5), List.length_cons]
              simp only [List.length_nil, Nat.add_zero] at hl
              omega
        | cons y r => cases h'
    · cases h'
/-- what the steps of a text hold -/
def sumW (S : List Sp) : Nat := (S.map fun t => wS t + 1).sum
def sumC (S : List Sp) : Nat := (S.map fun t => 2 + (wsL t).length).sum
theorem prL_p : ∀ (n : Nat) (pre : List It) (S : List Sp) (L : List It), pre.length = n → (∀ x ∈ pre, in64 x.w.n) → prL pre = .inl (S, L) → (∀ t ∈ S, SpP t) ∧ sumW S + wtL L ≤ wtL pre ∧ sumC S + L.length ≤ pre.length ∧ ∀ x ∈ L, in64 x.w.n := by
  intro n
  induction n with
  | zero =>
    intro pre S L hn _ h
    have : pre = [] := List.eq_nil_of_length_eq_zero hn
    subst this
    cases h
    exact ⟨(fun t ht => by cases ht), Nat.le_refl _, Nat.le_refl _, (fun x hx => by cases hx)⟩
  | succ n ih =>
    intro pre S L hn hi h
    rcases List.eq_nil_or_concat pre with rfl | ⟨p, x, rfl⟩
    · cases hn
    · rw [List.concat_eq_append] at h hn hi ⊢
      rw [prL_snoc] at h
      have hp : p.length = n := by simpa using hn
      have hip : ∀ y ∈ p, in64 y.w.n := fun y hy => hi y (List.mem_append_left _ hy)
      have hx := hi x (by simp)
      have ew : wtL (p ++ [x]) = wtL p + (x.w.t.size + 1) := by rw [wtL_app]; rfl
      rw [ew, List.length_append]
      cases hq : prL p with
      | inr q => rw [hq] at h; obtain ⟨a, b⟩ := q; cases h
      | inl q =>
        obtain ⟨S1, L1⟩ := q
        rw [hq] at h
        obtain ⟨i1, i2, i3, i4⟩ := ih p S1 L1 hp hip hq
        have h' : (if x.w.e ≠ 0 then (.inr (x.ln, x.w.e) : Pr) else if x.w.k ≠ 4 then .inl (S1, L1 ++ [x]) else match fstR L1 with | some t => .inl (S1 ++ [t], []) | none => .inr (x.ln, 19)) = .inl (S, L) := h
        split at h'
        · cases h'
        · split at h'
          · simp only [Sum.inl.injEq, Prod.mk.injEq] at h'
            obtain ⟨rfl, rfl⟩ := h'
            have e2 : wtL (L1 ++ [x]) = wtL L1 + (x.w.t.size + 1) := by rw [wtL_app]; rfl
            refine ⟨i1, by omega, by simp only [List.length_append, List.length_cons, List.length_nil]; omega, fun y hy => ?_⟩
            rcases List.mem_append.1 hy with hy | hy
            · exact i4 y hy
            · simp at hy; subst hy; exact hx
          · cases hf : fstR L1 with
            | none => rw [hf] at h'; cases h'
            | some t =>
              rw [hf] at h'
              simp only [Sum.inl.injEq, Prod.mk.injEq] at h'
              obtain ⟨rfl, rfl⟩ := h'
              obtain ⟨f1, f2, f3⟩ := fstR_p hf i4
              have e3 : sumW (S1 ++ [t]) = sumW S1 + (wS t + 1) := by unfold sumW; rw [List.map_append, List.sum_append]; rfl
              have e4 : sumC (S1 ++ [t]) = sumC S1 + (2 + (wsL t).length) := by unfold sumC; rw [List.map_append, List.sum_append]; rfl
              have e5 : wtL ([] : List It) = 0 := rfl
              refine ⟨fun u hu => ?_, by rw [e3, e5]; omega, by rw [e4]; simp only [List.length_nil, List.length_cons]; omega, fun y hy => by cases hy⟩
              rcases List.mem_append.1 hu with hu | hu
              · exact i1 u hu
              · simp at hu; subst hu; exact f1
end Go.Proofs.YtkndjbmlkfpfoaaGreatDoor

/-
  What is laid of steps: how long it is, what it holds. Pure.
-/
set_option linter.unusedSimpArgs false
set_option linter.unusedVariables false
namespace Go.Proofs.YtkndjbmlkfpfoaaGreatDoor
open Go.RowKit Go.Lib

theorem lineI_cnt : ∀ (l : List Lw1) (g : List UInt8) (x : Lw1) (a line : Nat) (m : Bool) (rest : List Ii), ∃ a' line', (layW a line m (lineI g x l ++ rest)).length = l.length + 2 + (layW a' line' false rest).length
  | [], g, x, a, line, m, rest => by
    refine ⟨a + (⟨g, x, some 0⟩ : Ii).txt.length, (⟨g, x, some 0⟩ : Ii).ln line, ?_⟩
    show ((⟨x.wd (a + g.length), line⟩ :: endI (a + g.length + x.txt.length + endC 0) line :: []) ++ layW (a + (⟨g, x, some 0⟩ : Ii).txt.length) ((⟨g, x, some 0⟩ : Ii).ln line) false rest).length = _
    rw [List.length_append]
    rfl
  | y :: l, g, x, a, line, m, rest => by
    obtain ⟨a', line', h⟩ := lineI_cnt l [32] y (a + (⟨g, x, none⟩ : Ii).txt.length) line true rest
    refine ⟨a', line', ?_⟩
    show (⟨x.wd (a + g.length), line⟩ :: layW (a + (⟨g, x, none⟩ : Ii).txt.length) line true (lineI [32] y l ++ rest)).length = _
    rw [List.length_cons, h, List.length_cons]
    omega
theorem itS_cnt : ∀ (l : List Sp) (a line : Nat), (layW a line false (l.flatMap itS)).length = sumC l
  | [], _, _ => rfl
  | s :: l, a, line => by
    rw [List.flatMap_cons]
    obtain ⟨a', line', h⟩ := lineI_cnt (wsL s) [] (.plain (tnm.getD (kx s) [])) a line false (l.flatMap itS)
    have h' : (layW a line false (itS s ++ l.flatMap itS)).length = (wsL s).length + 2 + (layW a' line' false (l.flatMap itS)).length := h
    rw [h', itS_cnt l]
    unfold sumC
    rw [List.map_cons, List.sum_cons]
    omega
theorem layW_t (B : Nat) : ∀ (l : List Ii) (a line : Nat) (m : Bool), (∀ y ∈ l, ∀ a, (y.x.wd a).t.size ≤ B) → ∀ x ∈ layW a line m l, x.w.t.size ≤ B
  | [], a, line, m, _, x, hx => by
    cases m with
    | false => cases hx
    | true =>
      have hx' : x ∈ [endI a line] := hx
      simp at hx'
      subst hx'
      exact Nat.zero_le _
  | y :: l, a, line, m, h, x, hx => by
    rcases List.mem_append.1 hx with hx | hx
    · unfold Ii.its at hx
      rcases List.mem_cons.1 hx with rfl | hx
      · exact h y (List.mem_cons_self ..) _
      · cases he : y.en with
        | none => rw [he] at hx; cases hx
        | some k =>
          rw [he] at hx
          have hx' := List.mem_singleton.1 hx
          rw [hx']
          exact Nat.zero_le _
    · exact layW_t B l _ _ _ (fun z hz => h z (List.mem_cons_of_mem _ hz)) x hx
theorem lineI_x : ∀ (l : List Lw1) (g : List UInt8) (x : Lw1), ∀ y ∈ lineI g x l, y.x = x ∨ y.x ∈ l
  | [], g, x, y, hy => by
    have hy' : y ∈ [(⟨g, x, some 0⟩ : Ii)] := hy
    simp at hy'
    subst hy'
    exact .inl rfl
  | z :: l, g, x, y, hy => by
    rcases List.mem_cons.1 hy with rfl | hy
    · exact .inl rfl
    · rcases lineI_x l [32] z y hy with h | h
      · exact .inr (h ▸ List.mem_cons_self ..)
      · exact .inr (List.mem_cons_of_mem _ h)
theorem itS_t {B : Nat} (hB : 10 ≤ B) {l : List Sp} (h : ∀ s ∈ l, s.text.size ≤ B ∧ s.data.length ≤ B) : ∀ y ∈ l.flatMap itS, ∀ a, (y.x.wd a).t.size ≤ B := by
  intro y hy a
  obtain ⟨s, hs, hy⟩ := List.mem_flatMap.1 hy
  have hb := h s hs
  have hw : ∀ z ∈ wsL s, (z.wd a).t.size ≤ B := fun z hz => by
    unfold wsL at hz
    obtain ⟨f, _, hf⟩ := List.mem_flatMap.1 hz
    unfold fwL at hf
    split at hf
    · simp at hf; subst hf; exact Nat.zero_le _
    · simp at hf; subst hf; exact Nat.zero_le _
    · simp at hf; subst hf; exact Nat.zero_le _
    · simp at hf; subst hf; exact Nat.zero_le _
    · obtain ⟨v, _, rfl⟩ := List.mem_map.1 hf; exact Nat.zero_le _
    · simp at hf; subst hf; exact hb.1
    · simp at hf; subst hf; show (ofL s.data).size ≤ B; rw [ofL_size]; exact hb.2
  rcases lineI_x _ _ _ y hy with e | e
  · rw [e]
    show (ofL (tnm.getD (kx s) [])).size ≤ B
    rw [ofL_size]
    have := getD_le tnm_len (kx s)
    omega
  · exact hw _ e
/-- what Parse asks of a text that was laid -/
theorem laid_len {l : List Sp} (h : ∀ s ∈ l, isK s ∧ SpN s) : (scL (ofL (l.flatMap stT))).length = sumC l := by
  rw [← itS_all, scL_lay _ (itS_ok l h)]
  exact itS_cnt l 0 1
theorem laid_t {B : Nat} (hB : 10 ≤ B) {l : List Sp} (h : ∀ s ∈ l, isK s ∧ SpN s) (hb : ∀ s ∈ l, s.text.size ≤ B ∧ s.data.length ≤ B) : ∀ x ∈ scL (ofL (l.flatMap stT)), x.w.t.size ≤ B := by
  rw [← itS_all, scL_lay _ (itS_ok l h)]
  exact layW_t B _ 0 1 false (itS_t hB hb)
theorem fw_len2 {s : Sp} (h : SpN s) (f : Nat) : (blT (fw s f)).length ≤ 40 + 22 * wS s := by
  have e1 := itoa_lim s.site h.site
  have e2 := itoa_lim s.peer h.peer
  have e3 := itoa_lim s.at_ h.at_
  have e4 := itoa_lim s.n h.n
  have e5 := blT_lim s.draws s.draws.length h.dnum (Nat.le_refl _)
  have e6 := qT_len s.text
  have e7 := qT_len (ofL s.data)
  rw [ofL_size] at e7
  simp at e6 e7
  unfold wS
  unfold fw
  split <;> first | (simp [blT]; omega) | omega
theorem flds_len2 {s : Sp} {B : Nat} (hf : ∀ f, (blT (fw s f)).length ≤ B) : ∀ (l : List Nat), (blT (l.flatMap (fw s))).length ≤ l.length * B
  | [] => by simp [blT]
  | f :: l => by
    have h1 := hf f
    have h2 := flds_len2 hf l
    rw [List.flatMap_cons, blT_app, List.length_append, List.length_cons, Nat.succ_mul]
    omega
theorem stT_len2 {s : Sp} (h : SpN s) : (stT s).length ≤ 200 * (wS s + 1) := by
  have e1 := flds_len2 (fun f => fw_len2 h f) (tfl.getD (kx s) [])
  have e2 := getD_le tfl_len (kx s)
  have e3 := getD_le tnm_len (kx s)
  have e4 : (tfl.getD (kx s) []).length * (40 + 22 * wS s) ≤ 3 * (40 + 22 * wS s) := Nat.mul_le_mul_right _ e2
  unfold stT lnT stW
  simp only [List.length_append, List.length_cons, List.length_nil]
  omega
theorem all_len2 : ∀ {l : List Sp}, (∀ s ∈ l, SpN s) → (l.flatMap stT).length ≤ 200 * sumW l
  | [], _ => Nat.zero_le _
  | s :: l, h => by
    have h1 := stT_len2 (h s (List.mem_cons_self ..))
    have h2 := all_len2 (l := l) (fun t ht => h t (List.mem_cons_of_mem _ ht))
    rw [List.flatMap_cons, List.length_append]
    have e : sumW (s :: l) = wS s + 1 + sumW l := by unfold sumW; rw [List.map_cons, List.sum_cons]
    rw [e]
    omega
theorem sumW_mem : ∀ {l : List Sp} {s : Sp}, s ∈ l → wS s + 1 ≤ sumW l
  | t :: l, s, h => by
    have e : sumW (t :: l) = wS t + 1 + sumW l := by unfold sumW; rw [List.map_cons, List.sum_cons]
    rcases List.mem_cons.1 h with rfl | h
    · omega
    · have := sumW_mem h; omega
theorem pT_fst (l : List (Sp × Value × Value)) : pT l = (l.map Prod.fst).flatMap stT := by
  unfold pT
  rw [List.flatMap_map]
end Go.Proofs.YtkndjbmlkfpfoaaGreatDoor
