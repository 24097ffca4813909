/-
  Rows of Edits; add and Weight.
-/
import Derived.Test.YtlbgfcbhpmhhpabZXMake
set_option linter.unusedSimpArgs false
set_option linter.unusedVariables false
namespace Go.Proofs.Ytlbgfcbhpmhhpab
open Go.RowKit Go.Lib

/-- a slice holds these Edits -/
def RE (W : World) (v : Value) (l : List Ed) : Prop :=
  (l = [] ∧ ∃ a cap, v = .slice a 0 cap) ∨ ∃ b off cap, v = .slice (some ⟨b, off, none⟩) l.length cap ∧ ∀ j e, l[j]? = some e → W.cell? ⟨b, off + j * 3, none⟩ = some (.int .i64 e.1) ∧ W.cell? ⟨b, off + j * 3 + 1, none⟩ = some (.int .i64 e.2.1) ∧ W.cell? ⟨b, off + j * 3 + 2, none⟩ = some (.string e.2.2)

theorem cell_below {W W' : World} {a : Addr} {v : Value} (h : W.cell? a = some v) (hb : Below W.heap.size W W') : W'.cell? a = some v := by
  have hl := World.block_lt_of_cell? _ _ h
  rw [← h]
  unfold World.cell?
  rw [hb.block _ hl]
theorem RE.below {W W' : World} {v : Value} {l : List Ed} (h : RE W v l) (hb : Below W.heap.size W W') : RE W' v l := by
  rcases h with h | ⟨b, off, cap, e, hc⟩
  · exact .inl h
  · exact .inr ⟨b, off, cap, e, fun j e he => let ⟨h0, h1, h2⟩ := hc j e he; ⟨cell_below h0 hb, cell_below h1 hb, cell_below h2 hb⟩⟩
theorem RE.of_owns {W : World} {B : Nat} {v : Value} {l : List Ed} (h : W.ownsRow B 31 3 v l.length (edsC l)) : RE W v l := by
  have h0 := h
  obtain ⟨hl, (⟨rfl, hn⟩ | ⟨g, cap, cur, rfl, hbg, hg, hc1, hc2, hc3, hc4⟩)⟩ := h
  · exact .inl ⟨List.eq_nil_of_length_eq_zero hn, _, _, rfl⟩
  · refine .inr ⟨g, 0, cap, rfl, fun j e he => ?_⟩
    have hj := (List.getElem?_eq_some_iff.1 he).1
    have c := fun q (hq : q < 3) => (h0.cellAt (j * 3 + q) (by omega)).trans (edsC_get l j q e he hq)
    rw [Nat.zero_add]
    exact ⟨c 0 (by omega), c 1 (by omega), c 2 (by omega)⟩
theorem RE.len {W : World} {a : Option Addr} {n cap : Nat} {l : List Ed} (h : RE W (.slice a n cap) l) : n = l.length := by
  rcases h with ⟨rfl, _, _, e⟩ | ⟨b, off, c, e, _⟩
  · simp at e; simp [e]
  · simp at e; exact e.2.1
theorem RE.form {W : World} {v : Value} {l : List Ed} (h : RE W v l) : ∃ a cap, v = .slice a l.length cap := by
  rcases h with ⟨rfl, a, c, e⟩ | ⟨b, off, c, e, _⟩
  · exact ⟨a, c, e⟩
  · exact ⟨_, _, e⟩

/-- three cells of an Edit's own -/
def Box3 (W : World) (b : Nat) (v0 v1 v2 : Value) : Prop := W.heap[b]? = some (.cells #[v0, v1, v2] 31 (0, 0))
theorem Box3.new (W : World) (v0 v1 v2 : Value) : Box3 (W.alloc (.cells #[v0, v1, v2] 31)) W.heap.size v0 v1 v2 := World.alloc_heap_new W _
theorem Box3.lt {W : World} {b : Nat} {v0 v1 v2 : Value} (h : Box3 W b v0 v1 v2) : b < W.heap.size := (Array.getElem?_eq_some_iff.1 h).1
theorem Box3.below {W W' : World} {b : Nat} {v0 v1 v2 : Value} (h : Box3 W b v0 v1 v2) (hb : Below W.heap.size W W') : Box3 W' b v0 v1 v2 := (hb.block _ h.lt).trans h
theorem Box3.facts {W : World} {b : Nat} {v0 v1 v2 : Value} (h : Box3 W b v0 v1 v2) : W.cell? ⟨b, 0, none⟩ = some v0 ∧ W.cell? ⟨b, 1, none⟩ = some v1 ∧ W.cell? ⟨b, 2, none⟩ = some v2 := by
  have e : W.heap[b]? = some (.cells #[v0, v1, v2] 31 (0, 0)) := h
  refine ⟨?_, ?_, ?_⟩ <;> simp [World.cell?, e]

/-- the sum, no more than the greatest int -/
def addI (n m : Int) : Int := n + min m (9223372036854775807 - n)

set_option maxRecDepth 100000 in
theorem add_in (n m : Int) (w : World) (h0 : 0 ≤ n) (h1 : n ≤ 9223372036854775807) (h2 : 0 ≤ m) (h3 : m ≤ 9223372036854775807) :
    Calls Try.prog 20 #[.int .i64 n, .int .i64 m] w fun e W => e = .returned (.int .i64 (addI n m)) ∧ W = w := by
  obtain ⟨R, hR⟩ : ∃ R, addI n m = R := ⟨_, rfl⟩
  rw [hR]
  have HR := hide hR
  clear hR
  go_enter Try.func20, Try.ntmps20
  go_wp2
  all_goals
    go_ret
    refine ⟨?_, rfl⟩
    have hr := unhide HR
    unfold addI at hr
    show Ending.returned (Value.int .i64 _) = Ending.returned (Value.int .i64 _)
    congr 2
    omega

/-- what a change weighs -/
def wtL : Int → List Ed → Int
  | n, [] => n
  | n, e :: l => wtL (addI (addI n (max e.2.1 0)) ((allL e.2.2).length : Nat)) l

theorem addI_ok {n m : Int} (h0 : 0 ≤ n) (h1 : n ≤ 9223372036854775807) (h2 : 0 ≤ m) : 0 ≤ addI n m ∧ addI n m ≤ 9223372036854775807 := by unfold addI; omega

/-- numbers of 64 bits, texts not too long -/
def EdOk (e : Ed) : Prop := -9223372036854775808 ≤ e.1 ∧ e.1 ≤ 9223372036854775807 ∧ -9223372036854775808 ≤ e.2.1 ∧ e.2.1 ≤ 9223372036854775807 ∧ e.2.2.size ≤ 1000000000

set_option maxRecDepth 100000 in
set_option maxHeartbeats 4000000 in
theorem weight_in (l : List Ed) (v : Value) (w : World) (h : RE w v l) (hl : l.length ≤ 1000000000) (hok : ∀ e ∈ l, EdOk e) :
    Calls Try.prog 9 #[v] w fun e W => e = .returned (.int .i64 (wtL 0 l)) ∧ Below w.heap.size w W := by
  rcases h with ⟨rfl, a, cap, rfl⟩ | ⟨b, off, cap, rfl, hc⟩
  · go_enter Try.func9, Try.ntmps9
    go_wp2
    go_loopw [3, 8] (fun nv iv wr => nv = .int .i64 0 ∧ iv = .int .i64 0 ∧ wr = w) (fun _ _ _ => 0)
    case atStart => exact ⟨rfl, rfl, rfl⟩
    case round =>
      obtain ⟨rfl, rfl, rfl⟩ := hrel
      go_wp2
      go_ret
      exact ⟨rfl, Below.refl _ _⟩
  · have Hc := hide hc
    have Hok := hide hok
    obtain ⟨L, hL⟩ : ∃ L, l.length = L := ⟨_, rfl⟩
    rw [hL] at hl ⊢
    have HL := hide hL
    clear hc hok hL
    go_enter Try.func9, Try.ntmps9
    go_wp2
    go_loopw [3, 8] (fun nv iv wr => ∃ (i : Nat) (n : Int), i ≤ L ∧ iv = .int .i64 (i : Nat) ∧ nv = .int .i64 n ∧ 0 ≤ n ∧ n ≤ 9223372036854775807 ∧ Hid (wtL n (l.drop i) = wtL 0 l) ∧ Below w.heap.size w wr) (fun _ iv _ => L - (RowKit.intOf iv).toNat)
    case atStart => exact ⟨0, 0, by omega, rfl, rfl, by omega, by omega, hide rfl, Below.refl _ _⟩
    case round =>
      obtain ⟨i, n, hi, rfl, rfl, hn0, hn1, hw, hB⟩ := hrel
      have hsz := hB.size
      by_cases hlt : i < L
      · have hlt' : i < l.length := by rw [unhide HL]; exact hlt
        obtain ⟨c0, c1, c2⟩ := unhide Hc i _ (List.getElem?_eq_getElem hlt')
        have b0 := World.block_lt_of_cell? _ _ c0
        simp only at b0
        have hstep : wtL n (l.drop i) = wtL (addI (addI n (max l[i].2.1 0)) ((allL l[i].2.2).length : Nat)) (l.drop (i + 1)) := by rw [List.drop_eq_getElem_cons hlt']; rfl
        have hek := unhide Hok _ (List.getElem_mem hlt')
        obtain ⟨⟨k, d, t⟩, he⟩ : ∃ e, l[i] = e := ⟨_, rfl⟩
        rw [he] at c0 c1 c2 hstep hek
        simp only at c0 c1 c2 hstep
        obtain ⟨hk1, hk2, hk3, hk4, hk5⟩ := hek
        simp only at hk1 hk2 hk3 hk4 hk5
        have c0' := cell_below c0 hB
        have c1' := cell_below c1 hB
        have c2' := cell_below c2 hB
        have b0' : b < wr.heap.size := by omega
        have i1 : (i : Int) < (L : Int) := by omega
        have hcl := allL_length t
        obtain ⟨T, hT⟩ : ∃ T, (allL t).length = T := ⟨_, rfl⟩
        have hcnt := fun W => hide (count_in t (by omega) W)
        simp only [hT] at hcnt
        rw [hT] at hstep hcl
        obtain ⟨m, hm⟩ : ∃ m, max d 0 = m := ⟨_, rfl⟩
        have hm0 : 0 ≤ m ∧ m ≤ 9223372036854775807 := by omega
        rw [hm] at hstep
        have Hm := hide hm
        have Hstep := hide hstep
        have hq := addI_ok hn0 hn1 hm0.1
        have hq2 := addI_ok hq.1 hq.2 (show (0 : Int) ≤ (T : Int) by omega)
        have ha1 := fun W => hide (add_in n m W hn0 hn1 hm0.1 hm0.2)
        have ha2 := fun W => hide (add_in (addI n m) (T : Int) W hq.1 hq.2 (by omega) (by omega))
        clear c0 c1 c2 hstep he hT hm
        go_wp2_with fail
        all_goals
          refine (add_in n _ _ hn0 hn1 (by omega) (by omega)).mono ?_
          rintro e W1 ⟨rfl, rfl⟩
          go_wp2_with fail
          refine (unhide (hcnt _)).mono ?_
          rintro e W2 ⟨rfl, hB2⟩
          go_wp2_with fail
          refine (add_in (addI n _) (T : Int) _ (addI_ok hn0 hn1 (by omega)).1 (addI_ok hn0 hn1 (by omega)).2 (by omega) (by omega)).mono ?_
          rintro e W3 ⟨rfl, rfl⟩
          go_wp2
          go_roundw
          case rel =>
            refine ⟨i + 1, _, by omega, by go_num, rfl, ?_, ?_, hide ?_, (hB.alloc hsz _).trans (hB2.mono (by simp; omega))⟩
            · exact (addI_ok (addI_ok hn0 hn1 (by omega)).1 (addI_ok hn0 hn1 (by omega)).2 (by omega)).1
            · exact (addI_ok (addI_ok hn0 hn1 (by omega)).1 (addI_ok hn0 hn1 (by omega)).2 (by omega)).2
            · have hm' := unhide Hm
              rw [← unhide hw, unhide Hstep]
              first | rw [show m = 0 by omega] | rw [show m = d by omega]
          case measure => simp [RowKit.intOf]; omega
      · have hd : l.drop i = [] := List.drop_eq_nil_of_le (by rw [unhide HL]; omega)
        have hr : n = wtL 0 l := by
          have := unhide hw
          rw [hd] at this
          exact this
        have Hr := hide hr
        clear hd hr
        go_wp2
        go_ret
        exact ⟨by rw [← unhide Hr]; rfl, hB⟩

end Go.Proofs.Ytlbgfcbhpmhhpab
