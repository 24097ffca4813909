/-
  The law's scripts: how steps lie, and how much there is.
-/
import Derived.Test.YtehmbbnmjiojgaaZLK3
set_option linter.unusedSimpArgs false
set_option linter.unusedVariables false
namespace Go.Proofs.Ytehmbbnmjiojgaa
open Go.RowKit Go.Lib

/-- a step: its kind, its operation, its vector -/
structure Stp where
  kind : Int
  op : Opn
  vec : List (Int × Int)
  vd : Value
  vg : Value
  vv : Value
def encS (s : Stp) : List Value := [.int .i64 s.kind, .int .i64 s.op.ds, .int .i64 s.op.dq, s.vd, .int .i64 s.op.kind, .int .i64 s.op.it, .int .i64 s.op.is, .int .i64 s.op.rt, .int .i64 s.op.rs, .string s.op.text, s.vg, .int .i64 s.op.site, s.vv]
theorem encS_len (s : Stp) : (encS s).length = 13 := rfl
/-- its lists are slices of their lengths -/
structure StF (s : Stp) : Prop where
  d : ∃ a c, s.vd = .slice a s.op.deps.length c
  g : ∃ a c, s.vg = .slice a s.op.gone.length c
  v : ∃ a c, s.vv = .slice a s.vec.length c
theorem rs_at {W : World} {a : Option Addr} {n c : Nat} {l : List Stp} (h : RC W (.slice a n c) l.length (flat encS l)) {i : Nat} {e : Stp} (hi : l[i]? = some e) : ∃ b off, a = some ⟨b, off, none⟩ ∧ b < W.heap.size ∧ ∀ q v, (encS e)[q]? = some v → W.cell? ⟨b, off + i * 13 + q, none⟩ = some v := by
  have hl := (List.getElem?_eq_some_iff.1 hi).1
  rcases h with ⟨h0, _⟩ | ⟨b, off, cap, e', h1, h2, hc⟩
  · omega
  · simp at e'
    obtain ⟨rfl, _⟩ := e'
    refine ⟨b, off, rfl, h2, fun q v hv => ?_⟩
    have hq : q < 13 := by have := (List.getElem?_eq_some_iff.1 hv).1; rwa [encS_len] at this
    have := hc (i * 13 + q) v ((flat_get encS_len l i q e hi hq).trans hv)
    rwa [← Nat.add_assoc] at this
def stT (s : Stp) : Nat := s.op.text.size + s.op.deps.length + s.op.gone.length + s.vec.length
def stB (s : Stp) : Bool := decide (60000 < s.op.text.size) || (decide (60000 < s.op.deps.length) || (decide (60000 < s.op.gone.length) || decide (60000 < s.vec.length)))
def muL : List Stp → Nat → Bool
  | [], n => decide (60000 < n)
  | s :: r, n => stB s || muL r (n + stT s)
def muchB (ss : List Stp) (b : Nat) : Bool := decide (200 < ss.length) || (decide (60000 < b) || muL ss 0)
theorem muL_small : ∀ (l : List Stp) (n : Nat), muL l n = false → ∀ s ∈ l, s.op.text.size ≤ 60000 ∧ s.op.deps.length ≤ 60000 ∧ s.op.gone.length ≤ 60000 ∧ s.vec.length ≤ 60000
  | [], n, _, s, h => by cases h
  | x :: l, n, hm, s, h => by
    rw [muL, Bool.or_eq_false_iff] at hm
    rcases List.mem_cons.1 h with rfl | h
    · have := hm.1
      unfold stB at this
      simp at this
      omega
    · exact muL_small l _ hm.2 s h

set_option maxRecDepth 100000 in
set_option maxHeartbeats 8000000 in
theorem much_in (a : Option Addr) (n c : Nat) (ss : List Stp) (a2 : Option Addr) (n2 c2 : Nat) (w : World) (h : RC w (.slice a n c) ss.length (flat encS ss)) (hn : ss.length = n) (hf : ∀ s ∈ ss, StF s) (hmx : n ≤ 9223372036854775807) (hmx2 : n2 ≤ 9223372036854775807) :
    Calls Try.prog 4 #[.slice a n c, .slice a2 n2 c2] w fun e W => e = .returned (.bool (muchB ss n2)) ∧ Below w.heap.size w W := by
  unfold muchB
  rw [hn]
  by_cases h200 : 200 < n
  · have h200' : (200 : Int) < (n : Int) := by omega
    rw [decide_eq_true h200]
    clear h hf
    go_enter Try.func4, Try.ntmps4
    go_wp2
    go_ret
    exact ⟨rfl, Below.refl _ _⟩
  have h200' : ¬ (200 : Int) < (n : Int) := by omega
  rw [decide_eq_false h200]
  by_cases h60 : 60000 < n2
  · have h60' : (60000 : Int) < (n2 : Int) := by omega
    rw [decide_eq_true h60]
    clear h hf
    go_enter Try.func4, Try.ntmps4
    go_wp2
    go_ret
    exact ⟨rfl, Below.refl _ _⟩
  have h60' : ¬ (60000 : Int) < (n2 : Int) := by omega
  rw [decide_eq_false h60, Bool.false_or, Bool.false_or]
  obtain ⟨M, hM⟩ : ∃ M, muL ss 0 = M := ⟨_, rfl⟩
  rw [hM]
  have H := hide h
  have HM := hide hM
  have HF := hide hf
  have Hn := hide hn
  clear h hM hf hn h60
  go_enter Try.func4, Try.ntmps4
  go_wp2
  go_loopw [5, 6] (fun nv iv wr => ∃ (i k : Nat), iv = .int .i64 (i : Nat) ∧ nv = .int .i64 (k : Nat) ∧ i ≤ n ∧ k ≤ i * 240000 ∧ Hid (muL (ss.drop i) k = M) ∧ Hid (Below w.heap.size w wr)) (fun _ iv _ => n - (Lib.intOf iv).toNat)
  case atStart => exact ⟨0, 0, rfl, rfl, by omega, by omega, HM, hide (Below.refl _ _)⟩
  case round =>
    obtain ⟨i, k, rfl, rfl, hi, hk, HI, HB⟩ := hrel
    by_cases hlt : i < n
    · have hlt' : (i : Int) < (n : Int) := by omega
      have hls : i < ss.length := by rw [unhide Hn]; exact hlt
      obtain ⟨s, hx⟩ : ∃ s, ss[i]? = some s := ⟨_, List.getElem?_eq_getElem hls⟩
      have hdr : ss.drop i = s :: ss.drop (i + 1) := by
        rw [List.drop_eq_getElem_cons hls]
        congr 1
        exact Option.some.inj ((List.getElem?_eq_getElem hls).symm.trans hx)
      obtain ⟨b0, off, rfl, hb0, hcell⟩ := rs_at ((unhide H).below (unhide HB)) hx
      obtain ⟨⟨ad, cd, hd⟩, ⟨ag, cg, hg⟩, ⟨av, cv, hv⟩⟩ := unhide HF s (List.mem_of_getElem? hx)
      have hMs := unhide HI
      rw [hdr, muL] at hMs
      obtain ⟨kind, o, vl, vd, vg, vv⟩ := s
      simp only at hd hg hv
      subst hd hg hv
      have q1 := hcell 1 _ rfl
      have q2 := hcell 2 _ rfl
      have q3 := hcell 3 _ rfl
      have q4 := hcell 4 _ rfl
      have q5 := hcell 5 _ rfl
      have q6 := hcell 6 _ rfl
      have q7 := hcell 7 _ rfl
      have q8 := hcell 8 _ rfl
      have q9 := hcell 9 _ rfl
      have q10 := hcell 10 _ rfl
      have q11 := hcell 11 _ rfl
      have q12 := hcell 12 _ rfl
      simp only at q1 q2 q3 q4 q5 q6 q7 q8 q9 q10 q11 q12
      obtain ⟨Y, hY⟩ : ∃ Y, wr.alloc (.cells #[.int .i64 o.ds, .int .i64 o.dq, .slice ad o.deps.length cd, .int .i64 o.kind, .int .i64 o.it, .int .i64 o.is, .int .i64 o.rt, .int .i64 o.rs, .string o.text, .slice ag o.gone.length cg, .int .i64 o.site] 38) = Y := ⟨_, rfl⟩
      have bY : Below wr.heap.size wr Y := by rw [← hY]; exact ballc (Below.refl _ _) _
      have xY := Bx.new wr 38 #[.int .i64 o.ds, .int .i64 o.dq, .slice ad o.deps.length cd, .int .i64 o.kind, .int .i64 o.it, .int .i64 o.is, .int .i64 o.rt, .int .i64 o.rs, .string o.text, .slice ag o.gone.length cg, .int .i64 o.site]
      rw [hY] at xY
      have BY := hide (bnext (unhide HB) bY)
      have z2 := xY.cell 2 _ rfl
      have z8 := xY.cell 8 _ rfl
      have z9 := xY.cell 9 _ rfl
      have yl := xY.lt
      have y12 := cell_below q12 bY
      have yb := Nat.lt_of_lt_of_le hb0 bY.size
      have HMs := hide hMs
      unfold stB stT at HMs
      simp only at HMs
      clear hcell hx hdr hMs bY xY HI HB
      have fin : ∀ {A B : Bool}, A = true → (A || B) = M → M = true := fun {A B} h1 h2 => by rw [← h2, h1, Bool.true_or]
      by_cases g1 : 60000 < o.text.size
      · have g1' : (60000 : Int) < (o.text.size : Int) := by omega
        have HMt := hide (fin (by rw [decide_eq_true g1]; rfl) (unhide HMs))
        clear HMs fin
        go_wp2
        go_ret
        exact ⟨by rw [unhide HMt]; rfl, unhide BY⟩
      have g1' : ¬ (60000 : Int) < (o.text.size : Int) := by omega
      by_cases g2 : 60000 < o.deps.length
      · have g2' : (60000 : Int) < (o.deps.length : Int) := by omega
        have HMt := hide (fin (by rw [decide_eq_true g2]; simp) (unhide HMs))
        clear HMs fin
        go_wp2
        go_ret
        exact ⟨by rw [unhide HMt]; rfl, unhide BY⟩
      have g2' : ¬ (60000 : Int) < (o.deps.length : Int) := by omega
      by_cases g3 : 60000 < o.gone.length
      · have g3' : (60000 : Int) < (o.gone.length : Int) := by omega
        have HMt := hide (fin (by rw [decide_eq_true g3]; simp) (unhide HMs))
        clear HMs fin
        go_wp2
        go_ret
        exact ⟨by rw [unhide HMt]; rfl, unhide BY⟩
      have g3' : ¬ (60000 : Int) < (o.gone.length : Int) := by omega
      by_cases g4 : 60000 < vl.length
      · have g4' : (60000 : Int) < (vl.length : Int) := by omega
        have HMt := hide (fin (by rw [decide_eq_true g4]; simp) (unhide HMs))
        clear HMs fin
        go_wp2
        go_ret
        exact ⟨by rw [unhide HMt]; rfl, unhide BY⟩
      have g4' : ¬ (60000 : Int) < (vl.length : Int) := by omega
      have HM2 : Hid (muL (ss.drop (i + 1)) (k + (o.text.size + o.deps.length + o.gone.length + vl.length)) = M) := by
        have := unhide HMs
        rw [decide_eq_false g1, decide_eq_false g2, decide_eq_false g3, decide_eq_false g4] at this
        exact hide (by simpa using this)
      have hk2 : (k : Int) ≤ 48000000 := by omega
      have hk3 : k + (o.text.size + o.deps.length + o.gone.length + vl.length) ≤ (i + 1) * 240000 := by omega
      clear HMs fin
      go_wp2
      go_quiet (fail)
      go_wp2
      go_roundw
      case measure => show n - ((i : Int) + 1).toNat < n - ((i : Nat) : Int).toNat; omega
      case rel => exact ⟨i + 1, k + (o.text.size + o.deps.length + o.gone.length + vl.length), by go_num, by go_num, by omega, hk3, HM2, hide (bdrew (unhide BY) _)⟩
    · have hlt' : ¬ (i : Int) < (n : Int) := by omega
      have HMf : Hid (decide (60000 < k) = M) := by
        have := unhide HI
        rw [List.drop_eq_nil_of_le (by rw [unhide Hn]; omega), muL] at this
        exact hide this
      by_cases hk6 : 60000 < k
      · have hk6' : (60000 : Int) < (k : Int) := by omega
        go_wp2
        go_ret
        exact ⟨by rw [← unhide HMf, decide_eq_true hk6]; rfl, unhide HB⟩
      · have hk6' : ¬ (60000 : Int) < (k : Int) := by omega
        have hd6 : decide ((60000 : Int) < (k : Int)) = false := decide_eq_false hk6'
        go_wp2
        go_ret
        refine ⟨?_, unhide HB⟩
        rw [← unhide HMf, decide_eq_false hk6]
        first | rfl | (show Ending.returned (.bool (decide ((60000 : Int) < (k : Int)))) = _; rw [hd6])

end Go.Proofs.Ytehmbbnmjiojgaa
