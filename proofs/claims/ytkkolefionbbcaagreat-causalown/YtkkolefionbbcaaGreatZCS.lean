/-
  The law's scripts, opened; much.
-/
import Derived.Test.YtkkolefionbbcaaGreatZXCRP
import Derived.Test.YtkkolefionbbcaaGreatZCL2
import Derived.Test.YtkkolefionbbcaaGreatZQ5
set_option linter.unusedSimpArgs false
set_option linter.unusedVariables false
namespace Go.Proofs.YtkkolefionbbcaaGreat
open Go.RowKit Go.Lib

/-- an operation whose lists lie somewhere -/
structure ElW (W : World) (e : Opn × Value × Value) : Prop where
  vd : ∃ a c, e.2.1 = .slice a e.1.deps.length c
  vg : ∃ a c, e.2.2 = .slice a e.1.gone.length c
  rd : RI W e.2.1 e.1.deps
  rg : RR W e.2.2 e.1.gone
  inn : InA e.1

set_option maxRecDepth 100000 in
theorem open_opL {H : Type} {enc : TypeId × Value → H} {w : World} {base : Nat} {spare : Nat → Bool} {held : Bool} {fuel : Nat} {c0 c1 c2 c3 c4 c5 c6 c7 c8 c9 c10 : Value} {x : DataW H × List MemPlace}
    (hf : DataW.trod enc Tryz.prog w base spare held fuel 42 [c0, c1, c2, c3, c4, c5, c6, c7, c8, c9, c10] = some x) : ∃ e, [c0, c1, c2, c3, c4, c5, c6, c7, c8, c9, c10] = encO e ∧ ElW w e := by
  obtain ⟨xs, n, _, _, _, hxl, hfs⟩ := DataW.trod_struct Tryz.underlying42 hf
  have hx : ∀ i, i < 8 → ∃ y, xs[i]? = some y := fun i hi => ⟨xs[i]'(by rw [hxl]; exact hi), List.getElem?_eq_getElem _⟩
  have ci : Tryz.prog.cellsOf 3 = 1 := by kernel_rfl
  have cD : Tryz.prog.cellsOf 28 = 2 := by kernel_rfl
  have cI : Tryz.prog.cellsOf 39 = 2 := by kernel_rfl
  have cV : Tryz.prog.cellsOf 23 = 1 := by kernel_rfl
  have cS : Tryz.prog.cellsOf 9 = 1 := by kernel_rfl
  have cR : Tryz.prog.cellsOf 40 = 1 := by kernel_rfl
  obtain ⟨y0, e0⟩ := hx 0 (by omega)
  have g0 := (hfs 0 _ rfl).trans e0
  obtain ⟨y1, e1⟩ := hx 1 (by omega)
  have g1 := (hfs 1 _ rfl).trans e1
  obtain ⟨y2, e2⟩ := hx 2 (by omega)
  have g2 := (hfs 2 _ rfl).trans e2
  obtain ⟨y3, e3⟩ := hx 3 (by omega)
  have g3 := (hfs 3 _ rfl).trans e3
  obtain ⟨y4, e4⟩ := hx 4 (by omega)
  have g4 := (hfs 4 _ rfl).trans e4
  obtain ⟨y5, e5⟩ := hx 5 (by omega)
  have g5 := (hfs 5 _ rfl).trans e5
  obtain ⟨y6, e6⟩ := hx 6 (by omega)
  have g6 := (hfs 6 _ rfl).trans e6
  obtain ⟨y7, e7⟩ := hx 7 (by omega)
  have g7 := (hfs 7 _ rfl).trans e7
  simp at g0
  rw [cD] at g0
  try simp at g0
  simp at g1
  rw [cV] at g1
  try simp at g1
  simp at g2
  rw [ci] at g2
  try simp at g2
  simp at g3
  rw [cI] at g3
  try simp at g3
  simp at g4
  rw [cI] at g4
  try simp at g4
  simp at g5
  rw [cS] at g5
  try simp at g5
  simp at g6
  rw [cR] at g6
  try simp at g6
  simp at g7
  rw [ci] at g7
  try simp at g7
  obtain ⟨a0, a1, rfl, rfl, w0, w1⟩ := open_two ⟨_, _, Tryz.underlying28, rfl, rfl, rfl, rfl⟩ g0
  obtain ⟨a3, q3, _, w3⟩ := DataW.trod_int Tryz.underlying3 g2
  obtain ⟨a4, a5, rfl, rfl, w4, w5⟩ := open_two ⟨_, _, Tryz.underlying39, rfl, rfl, rfl, rfl⟩ g3
  obtain ⟨a6, a7, rfl, rfl, w6, w7⟩ := open_two ⟨_, _, Tryz.underlying39, rfl, rfl, rfl, rfl⟩ g4
  obtain ⟨a8, q8, _, w8⟩ := DataW.trod_string Tryz.underlying9 g5
  obtain ⟨a10, q10, _, w10⟩ := DataW.trod_int Tryz.underlying3 g7
  simp only [List.cons.injEq, and_true] at q3 q8 q10
  subst q3 q8 q10
  obtain ⟨ad, ld, cd, rfl⟩ : ∃ a l c, c2 = .slice a l c := by
    rcases Go.Deep.open_slice Tryz.underlying23 g1 with ⟨h0, _⟩ | ⟨ad, ln, cp, m, n, D, Pl, h0, _⟩
    · simp at h0; exact ⟨_, _, _, h0⟩
    · simp at h0; exact ⟨_, _, _, h0⟩
  obtain ⟨ag, lg, cg, rfl⟩ : ∃ a l c, c9 = .slice a l c := by
    rcases Go.Deep.open_slice Tryz.underlying40 g6 with ⟨h0, _⟩ | ⟨ad, ln, cp, m, n, D, Pl, h0, _⟩
    · simp at h0; exact ⟨_, _, _, h0⟩
    · simp at h0; exact ⟨_, _, _, h0⟩
  obtain ⟨l, h1, rfl, h3, h4⟩ := open_dots g1
  obtain ⟨g, k1, rfl, k3, k4⟩ := open_runs g6
  unfold maxLen at h3 k3 w8
  exact ⟨(⟨a0, a1, l, a3, a4, a5, a6, a7, a8, g, a10⟩, .slice ad l.length cd, .slice ag g.length cg), rfl, ⟨_, _, rfl⟩, ⟨_, _, rfl⟩, h1, k1, ⟨w0, w1, wf64 w3, w4, w5, w6, w7, wf64 w10, k4, w8⟩⟩


/-- a step: its operation, whether it is not offered, how many are taken -/
structure Stp where
  op : Opn
  vd : Value
  vg : Value
  nt : Bool
  tk : Int
def encS (s : Stp) : List Value := [.int .i64 s.op.ds, .int .i64 s.op.dq, s.vd, .int .i64 s.op.kind, .int .i64 s.op.it, .int .i64 s.op.is, .int .i64 s.op.rt, .int .i64 s.op.rs, .string s.op.text, s.vg, .int .i64 s.op.site, .bool s.nt, .int .i64 s.tk]
theorem encS_len (s : Stp) : (encS s).length = 13 := rfl
/-- a step whose lists lie somewhere -/
structure StW (W : World) (s : Stp) : Prop where
  d : ∃ a c, s.vd = .slice a s.op.deps.length c
  g : ∃ a c, s.vg = .slice a s.op.gone.length c
  rd : RI W s.vd s.op.deps
  rg : RR W s.vg s.op.gone
  inn : InA s.op
  tk : in64 s.tk
theorem StW.below {W W' : World} {s : Stp} (h : StW W s) (hb : Below W.heap.size W W') : StW W' s := ⟨h.d, h.g, h.rd.below hb, RC.below h.rg hb, h.inn, h.tk⟩
theorem rs_at {W : World} {a : Option Addr} {n c : Nat} {l : List Stp} (h : RC W (.slice a n c) l.length (flat encS l)) {i : Nat} {e : Stp} (hi : l[i]? = some e) : ∃ b off, a = some ⟨b, off, none⟩ ∧ b < W.heap.size ∧ ∀ q v, (encS e)[q]? = some v → W.cell? ⟨b, off + i * 13 + q, none⟩ = some v := by
  have hl := (List.getElem?_eq_some_iff.1 hi).1
  rcases h with ⟨h0, _⟩ | ⟨b, off, cap, e', h1, h2, hc⟩
  · omega
  · simp at e'
    obtain ⟨rfl, _⟩ := e'
    refine ⟨b, off, rfl, h2, fun q v hv => ?_⟩
    have hq : q < 13 := by have := (List.getElem?_eq_some_iff.1 hv).1; rwa [encS_len] at this
    have := hc (i * 13 + q) v ((flat_get encS_len l i q e hi hq).trans hv)
    rwa [← Nat.add_assoc] at this

set_option maxRecDepth 100000 in
theorem open_stepL {H : Type} {enc : TypeId × Value → H} {w : World} {base : Nat} {spare : Nat → Bool} {held : Bool} {fuel : Nat} {c0 c1 c2 c3 c4 c5 c6 c7 c8 c9 c10 k u : Value} {x : DataW H × List MemPlace}
    (hf : DataW.trod enc Tryz.prog w base spare held fuel 44 [c0, c1, c2, c3, c4, c5, c6, c7, c8, c9, c10, k, u] = some x) : ∃ s, [c0, c1, c2, c3, c4, c5, c6, c7, c8, c9, c10, k, u] = encS s ∧ StW w s := by
  obtain ⟨xs, n, _, _, _, hxl, hfs⟩ := DataW.trod_struct Tryz.underlying44 hf
  have hx : ∀ i, i < 3 → ∃ y, xs[i]? = some y := fun i hi => ⟨xs[i]'(by rw [hxl]; exact hi), List.getElem?_eq_getElem _⟩
  have ci : Tryz.prog.cellsOf 3 = 1 := by kernel_rfl
  have cO : Tryz.prog.cellsOf 42 = 11 := by kernel_rfl
  have cb : Tryz.prog.cellsOf 4 = 1 := by kernel_rfl
  obtain ⟨y0, e0⟩ := hx 0 (by omega)
  have g0 := (hfs 0 _ rfl).trans e0
  obtain ⟨y1, e1⟩ := hx 1 (by omega)
  have g1 := (hfs 1 _ rfl).trans e1
  obtain ⟨y2, e2⟩ := hx 2 (by omega)
  have g2 := (hfs 2 _ rfl).trans e2
  simp at g0
  rw [cO] at g0
  try simp at g0
  simp at g1
  rw [cb] at g1
  try simp at g1
  simp at g2
  rw [ci] at g2
  try simp at g2
  try rw [cO] at g1
  try simp at g1
  try rw [cO] at g2
  try simp at g2
  try rw [cb] at g2
  try simp at g2
  obtain ⟨e, he, hw⟩ := open_opL g0
  obtain ⟨a1, q1, _⟩ := DataW.trod_bool Tryz.underlying4 g1
  obtain ⟨a2, q2, _, w2⟩ := DataW.trod_int Tryz.underlying3 g2
  simp only [List.cons.injEq, and_true] at q1 q2
  subst q1 q2
  refine ⟨⟨e.1, e.2.1, e.2.2, a1, a2⟩, ?_, hw.vd, hw.vg, hw.rd, hw.rg, hw.inn, wf64 w2⟩
  show [c0, c1, c2, c3, c4, c5, c6, c7, c8, c9, c10] ++ [_, _] = _
  rw [he]
  rfl

theorem open_steps {H : Type} {enc : TypeId × Value → H} {w : World} {base : Nat} {spare : Nat → Bool} {held : Bool} {fuel : Nat} {a : Option Addr} {len cap : Nat} {x : DataW H × List MemPlace}
    (h : DataW.trod enc Tryz.prog w base spare held fuel 24 [.slice a len cap] = some x) : ∃ l : List Stp, RC w (.slice a len cap) l.length (flat encS l) ∧ l.length = len ∧ len ≤ maxLen ∧ ∀ e ∈ l, StW w e := by
  rcases Go.Deep.open_slice Tryz.underlying24 h with ⟨h0, _⟩ | ⟨ad, ln, cp, m, n, D, Pl, h0, hb, hl, hm, hmm, _, hx⟩
  · simp only [List.cons.injEq, Value.slice.injEq, and_true] at h0
    obtain ⟨rfl, rfl, rfl⟩ := h0
    exact ⟨[], .inl ⟨rfl, _, _, rfl⟩, rfl, by unfold maxLen; omega, fun e he => by cases he⟩
  · simp only [List.cons.injEq, Value.slice.injEq, and_true] at h0
    obtain ⟨rfl, rfl, rfl⟩ := h0
    have hlm : len ≤ m := by rw [hmm]; split <;> omega
    obtain ⟨l, h1, h2, h3⟩ := @mk_each Stp ⟨⟨⟨0, 0, [], 0, 0, 0, 0, 0, ByteArray.empty, [], 0⟩, .slice none 0 0, .slice none 0 0, false, 0⟩⟩ encS 13 encS_len (by omega) (StW w) w ad len cap hl (fun i hi => by
      obtain ⟨cs', h1, h2⟩ := hx i (by omega)
      have ce : Tryz.prog.cellsOf 44 = 13 := by kernel_rfl
      rw [ce] at h1
      obtain ⟨_, hlen, hcell⟩ := World.cells?_some h1
      match cs', hlen with
      | [v0, v1, v2, v3, v4, v5, v6, v7, v8, v9, v10, v11, v12], _ =>
        obtain ⟨e, he, hw⟩ := open_stepL h2
        refine ⟨e, fun q x hx => ?_, hw⟩
        rw [← he] at hx
        have hq := (List.getElem?_eq_some_iff.1 hx).1
        have := hcell q (by simpa using hq)
        rw [Go.Deep.add_add] at this
        rw [this]
        exact hx)
    exact ⟨l, by rw [← h2] at h1 ⊢; exact h1, h2, by omega, h3⟩

def bigB (s : Stp) : Bool := decide (3000 < s.op.deps.length) || decide (3000 < s.op.gone.length) || decide (3000 < s.op.text.size)
def muchB (ss : List Stp) : Bool := decide (300 < ss.length) || ss.any bigB
theorem much_small {ss : List Stp} (h : muchB ss = false) : ss.length ≤ 300 ∧ ∀ s ∈ ss, s.op.deps.length ≤ 3000 ∧ s.op.gone.length ≤ 3000 ∧ s.op.text.size ≤ 3000 := by
  unfold muchB at h
  rw [Bool.or_eq_false_iff, decide_eq_false_iff_not, List.any_eq_false] at h
  refine ⟨by omega, fun s hs => ?_⟩
  have := h.2 s hs
  unfold bigB at this
  simp at this
  omega
set_option maxRecDepth 100000 in
set_option maxHeartbeats 4000000 in
theorem much_in (a : Option Addr) (n c : Nat) (ss : List Stp) (w : World) (h : RC w (.slice a n c) ss.length (flat encS ss)) (hn : ss.length = n) (hw : ∀ s ∈ ss, StW w s) (hmx : n ≤ 9223372036854775807) :
    Calls Tryz.prog 9 #[.slice a n c] w fun e W => e = .returned (.bool (muchB ss)) ∧ Below w.heap.size w W := by
  obtain ⟨R, hR⟩ : ∃ R, muchB ss = R := ⟨_, rfl⟩
  rw [hR]
  unfold muchB at hR
  rw [hn] at hR
  by_cases h3 : 300 < n
  · have h3' : (300 : Int) < (n : Int) := by omega
    rw [decide_eq_true h3, Bool.true_or] at hR
    subst hR
    clear h hn hw
    go_enter Tryz.func9, Tryz.ntmps9
    go_wp2
    go_ret
    exact ⟨rfl, Below.refl _ _⟩
  have h3' : ¬ (300 : Int) < (n : Int) := by omega
  rw [decide_eq_false h3, Bool.false_or] at hR
  have Hn := hide hn
  have H := hide h
  have Hw := hide hw
  have HR := hide hR
  clear hn h hw hR
  go_enter Tryz.func9, Tryz.ntmps9
  go_wp2
  go_loopw [3] (fun iv wr => ∃ i : Nat, iv = .int .i64 (i : Nat) ∧ i ≤ n ∧ Hid ((∀ j s, j < i → ss[j]? = some s → bigB s = false) ∧ Below w.heap.size w wr)) (fun iv _ => n - (RowKit.intOf iv).toNat)
  case atStart => exact ⟨0, rfl, by omega, hide ⟨fun j s hj => absurd hj (by omega), Below.refl _ _⟩⟩
  case round =>
    obtain ⟨i, rfl, hi, HI⟩ := hrel
    by_cases hlt : i < n
    · have hlt' : (i : Int) < (n : Int) := by omega
      obtain ⟨s, hx⟩ : ∃ s, ss[i]? = some s := ⟨_, List.getElem?_eq_getElem (by rw [unhide Hn]; exact hlt)⟩
      obtain ⟨b0, off, rfl, hb0, hc⟩ := rs_at (RC.below (unhide H) (unhide HI).2) hx
      obtain ⟨ad, cd, hvd⟩ := (unhide Hw s (List.mem_of_getElem? hx)).d
      obtain ⟨ag, cg, hvg⟩ := (unhide Hw s (List.mem_of_getElem? hx)).g
      have q0 := hc 0 _ rfl
      have q1 := hc 1 _ rfl
      have q2 := hc 2 _ rfl
      have q3 := hc 3 _ rfl
      have q4 := hc 4 _ rfl
      have q5 := hc 5 _ rfl
      have q6 := hc 6 _ rfl
      have q7 := hc 7 _ rfl
      have q8 := hc 8 _ rfl
      have q9 := hc 9 _ rfl
      have q10 := hc 10 _ rfl
      rw [hvd] at q2
      rw [hvg] at q9
      simp only [Nat.add_zero] at q0
      have HBg := hide (big_in s.op ad ag s.op.deps.length cd s.op.gone.length cg wr)
      obtain ⟨B, hB⟩ : ∃ B, bigB s = B := ⟨_, rfl⟩
      rw [show (decide (3000 < s.op.deps.length) || decide (3000 < s.op.gone.length) || decide (3000 < s.op.text.size)) = B from hB] at HBg
      have HB := hide hB
      have Hx := hide hx
      clear hB hx hc hvd hvg
      go_wp2_with fail
      refine (unhide HBg).mono ?_
      rintro e W1 ⟨rfl, b1⟩
      have B1 := hide (bnext (unhide HI).2 b1)
      clear HBg b1 q0 q1 q2 q3 q4 q5 q6 q7 q8 q9 q10
      cases B with
      | true =>
        have Hf := hide (show R = true by rw [← unhide HR, List.any_eq_true]; exact ⟨s, List.mem_of_getElem? (unhide Hx), unhide HB⟩)
        go_wp2
        go_ret
        exact ⟨by rw [unhide Hf]; rfl, unhide B1⟩
      | false =>
        go_wp2
        go_roundw
        case rel =>
          refine ⟨i + 1, by go_num, by omega, hide ⟨fun j s' hj hs' => ?_, unhide B1⟩⟩
          by_cases ej : j = i
          · subst ej; rw [unhide Hx] at hs'; cases hs'; exact unhide HB
          · exact (unhide HI).1 j s' (by omega) hs'
        case measure => show n - ((i : Int) + 1).toNat < n - ((i : Nat) : Int).toNat; omega
    · have hlt' : ¬ (i : Int) < (n : Int) := by omega
      have Hf := hide (show R = false by
        rw [← unhide HR, List.any_eq_false]
        intro s hs
        obtain ⟨j, hj, ej⟩ := List.getElem_of_mem hs
        have := (unhide HI).1 j s (by have := unhide Hn; omega) (by rw [List.getElem?_eq_getElem hj, ej])
        simp [this])
      go_wp2
      go_ret
      exact ⟨by rw [unhide Hf]; rfl, (unhide HI).2⟩

end Go.Proofs.YtkkolefionbbcaaGreat
