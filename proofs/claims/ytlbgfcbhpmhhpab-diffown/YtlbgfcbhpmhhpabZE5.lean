/-
  Invert.
-/
import Derived.Test.YtlbgfcbhpmhhpabZE3
import Derived.Test.YtlbgfcbhpmhhpabZE4
import Derived.Deep.RegionWith
set_option linter.unusedSimpArgs false
set_option linter.unusedVariables false
namespace Go.Proofs.Ytlbgfcbhpmhhpab
open Go.RowKit Go.Lib

/-- the change that leads back -/
def ivL : ByteArray → List Ed → List Ed
  | _, [] => []
  | s, e :: l => (e.1, (((allL e.2.2).length : Nat) : Int), cutL (cutR s e.1) e.2.1) :: ivL (rst s e) l
theorem ivL_length : ∀ (s : ByteArray) (l : List Ed), (ivL s l).length = l.length
  | _, [] => rfl
  | s, e :: l => by simp [ivL, ivL_length (rst s e) l]

theorem mkEd (N : Nat) (hN : N ≤ 1000000000) : ∃ Z : Array Value, Z.size = N * 3 ∧ ∀ w : World, (Instr.makeSlice 23 (.int .i64 (N : Nat)) (.int .i64 (N : Nat))).run Try.prog w = .ok (.slice (some ⟨w.heap.size, 0, none⟩) N N) (w.alloc (.cells Z 31)) := by
  obtain ⟨i, hi, hz, hs, hb⟩ := info_parts infoEdit
  refine ⟨madeCells (Value.agg #[.int .i64 0, .int .i64 0, .string ⟨#[]⟩]).cells (N * 3), by rw [size_madeCells], fun w => ?_⟩
  have := run_make (P := Try.prog) w 23 31 i _ Try.underlying23 hi hz .i64 .i64 (N : Int) (N : Int) (by omega) (Int.le_refl _) (by rw [hb]; omega) (by omega)
  rw [hs, Int.toNat_natCast] at this
  exact this

/-- a row under way, and the Edit that is looked at -/
structure Iv (W : World) (G q i : Nat) (C : Array Value) (v0 v1 v2 : Value) : Prop where
  row : W.heap[G]? = some (.cells C 31 (0, 0))
  box : Box3 W q v0 v1 v2
  hi : i * 3 + 2 < C.size
theorem Iv.below {W W' : World} {G q i : Nat} {C : Array Value} {v0 v1 v2 : Value} (h : Iv W G q i C v0 v1 v2) (hb : Below W.heap.size W W') : Iv W' G q i C v0 v1 v2 :=
  ⟨(hb.block _ (Array.getElem?_eq_some_iff.1 h.row).1).trans h.row, h.box.below hb, h.hi⟩
theorem Iv.facts {W : World} {G q i : Nat} {C : Array Value} {v0 v1 v2 : Value} (h : Iv W G q i C v0 v1 v2) :
    (W.cell? ⟨q, 0, none⟩ = some v0 ∧ W.cell? ⟨q, 1, none⟩ = some v1 ∧ W.cell? ⟨q, 2, none⟩ = some v2) ∧ q < W.heap.size ∧ G < W.heap.size ∧
    (∃ u, W.cell? ⟨G, i * 3, none⟩ = some u) ∧ (∃ u, W.cell? ⟨G, i * 3 + 1, none⟩ = some u) ∧ (∃ u, W.cell? ⟨G, i * 3 + 2, none⟩ = some u) ∧
    W.frozen? ⟨G, i * 3, none⟩ = false ∧ W.frozen? ⟨G, i * 3 + 1, none⟩ = false ∧ W.frozen? ⟨G, i * 3 + 2, none⟩ = false := by
  have hi := h.hi
  refine ⟨h.box.facts, h.box.lt, (Array.getElem?_eq_some_iff.1 h.row).1, ⟨C[i * 3]'(by omega), ?_⟩, ⟨C[i * 3 + 1]'(by omega), ?_⟩, ⟨C[i * 3 + 2]'(by omega), ?_⟩, frozen_of h.row, frozen_of h.row, frozen_of h.row⟩ <;> (rw [cell_of h.row]; simp)

theorem set3_take (a b d : Value) : ∀ (n : Nat) (c : List Value), n + 2 < c.length → (((c.set n a).set (n + 1) b).set (n + 2) d).take (n + 3) = c.take n ++ [a, b, d]
  | 0, x :: y :: z :: r, _ => by simp
  | 0, [], h => by simp at h
  | 0, [_], h => by simp at h
  | 0, [_, _], h => by simp at h
  | n + 1, [], h => by simp at h
  | n + 1, x :: c, h => by
    have ih := set3_take a b d n c (by simp at h; omega)
    simp only [List.set_cons_succ, List.take_succ_cons, List.cons_append]
    rw [← ih]
theorem Iv.store {W : World} {G q i : Nat} {C : Array Value} {v0 v1 v2 : Value} (h : Iv W G q i C v0 v1 v2) (M : List Ed) (e : Ed) (hM : M.length = i) (ht : C.toList.take (i * 3) = edsC M) :
    ∃ C' : Array Value, (((W.setCell ⟨G, i * 3, none⟩ (.int .i64 e.1)).setCell ⟨G, i * 3 + 1, none⟩ (.int .i64 e.2.1)).setCell ⟨G, i * 3 + 2, none⟩ (.string e.2.2)).heap[G]? = some (.cells C' 31 (0, 0)) ∧ C'.size = C.size ∧ C'.toList.take ((i + 1) * 3) = edsC (M ++ [e]) := by
  refine ⟨_, heap_set _ _ (heap_set _ _ (heap_set _ _ h.row)), by simp, ?_⟩
  have hi := h.hi
  rw [edsC_append, ← ht]
  have := set3_take (.int .i64 e.1) (.int .i64 e.2.1) (.string e.2.2) (i * 3) C.toList (by simpa using hi)
  rw [show (i + 1) * 3 = i * 3 + 3 by omega]
  simp only [Array.toList_setIfInBounds]
  rw [this]
  rfl

set_option maxRecDepth 100000 in
set_option maxHeartbeats 4000000 in
theorem invert_in (s : ByteArray) (l : List Ed) (v : Value) (w : World) (h : RE w v l) (hs : s.size ≤ 1000000000) (hl : l.length ≤ 1000000000) (hok : ∀ e ∈ l, EdOk e) :
    Calls Try.prog 6 #[.string s, v] w fun e W => ∃ u, e = .returned (.tuple #[u, .int .i64 (chk s l)]) ∧ W.ownsRow w.heap.size 31 3 u (if chk s l = 0 then ivL s l else []).length (edsC (if chk s l = 0 then ivL s l else [])) ∧ Below w.heap.size w W := by
  have hck := fun W hr => hide (check_in s l v W hr hs hl hok)
  by_cases hz : chk s l = 0
  · rw [if_pos hz]
    rw [hz] at hck ⊢
    clear hz
    have hck0 := hide (unhide (hck w h))
    have hil := ivL_length s l
    rw [hil]
    obtain ⟨Z, hZ, mk⟩ := mkEd l.length hl
    obtain ⟨a, cap, rfl⟩ := h.form
    have Hre := hide h
    have Hok := hide hok
    obtain ⟨L, hL⟩ : ∃ L, l.length = L := ⟨_, rfl⟩
    rw [hL] at hl hck0 hZ mk Hre hil ⊢
    have HL := hide hL
    have HZ := hide hZ
    have Hil := hide hil
    clear hck h hok hL hZ hil
    go_enter Try.func6, Try.ntmps6
    go_wp2_with fail
    refine (unhide hck0).mono ?_
    rintro e W1 ⟨rfl, hB1⟩
    go_wp2_with fail
    have hrow0 : (W1.alloc (.cells Z 31)).heap[W1.heap.size]? = some (.cells Z 31 (0, 0)) := World.alloc_heap_new W1 _
    have hB2 : Below W1.heap.size W1 (W1.alloc (.cells Z 31)) := (Below.refl _ _).alloc (Nat.le_refl _) _
    have hz2 : W1.heap.size < (W1.alloc (.cells Z 31)).heap.size := by simp
    obtain ⟨W2, hW2⟩ : ∃ W2, W1.alloc (.cells Z 31) = W2 := ⟨_, rfl⟩
    have Hrow0 := hide hrow0
    rw [hW2] at Hrow0 hB2 hz2 ⊢
    clear hW2 hck0 hrow0 mk
    obtain ⟨G, hG⟩ : ∃ G, W1.heap.size = G := ⟨_, rfl⟩
    rw [hG] at Hrow0 hB2 hz2 ⊢
    have hGw : w.heap.size ≤ G := by rw [← hG]; exact hB1.size
    clear hG
    go_loopw [0, 22] (fun sv iv wr => ∃ (i : Nat) (s' : ByteArray) (M : List Ed) (C : Array Value), i ≤ L ∧ iv = .int .i64 (i : Nat) ∧ sv = .string s' ∧ s'.size ≤ 1000000000 ∧ M.length = i ∧ Hid (M ++ ivL s' (l.drop i) = ivL s l) ∧ wr.heap[G]? = some (.cells C 31 (0, 0)) ∧ C.size = L * 3 ∧ Hid (C.toList.take (i * 3) = edsC M) ∧ Below G W1 wr) (fun _ iv _ => L - (RowKit.intOf iv).toNat)
    case atStart => exact ⟨0, s, [], Z, by omega, rfl, rfl, hs, rfl, hide rfl, unhide Hrow0, unhide HZ, hide (by simp [edsC]), hB2⟩
    case round =>
      obtain ⟨i, s', M, C, hi, rfl, rfl, hs', hM, hw, hrow, hC, htk, hB⟩ := hrel
      have HMl := hide hM
      have HC := hide hC
      have Hrow := hide hrow
      have hGz := (Array.getElem?_eq_some_iff.1 hrow).1
      clear hM hrow
      by_cases hlt : i < L
      · have hlt' : i < l.length := by rw [unhide HL]; exact hlt
        rcases unhide Hre with ⟨e0, _⟩ | ⟨b, off, cap', e0, hc⟩
        · rw [e0] at hlt'; simp at hlt'
        simp only [Value.slice.injEq] at e0
        obtain ⟨rfl, hLL, rfl⟩ := e0
        clear hLL
        obtain ⟨c0, c1, c2⟩ := hc i _ (List.getElem?_eq_getElem hlt')
        have hstep : ivL s' (l.drop i) = (l[i].1, (((allL l[i].2.2).length : Nat) : Int), cutL (cutR s' l[i].1) l[i].2.1) :: ivL (rst s' l[i]) (l.drop (i + 1)) := by rw [List.drop_eq_getElem_cons hlt']; rfl
        have hek := unhide Hok _ (List.getElem_mem hlt')
        obtain ⟨⟨k, d, t⟩, he⟩ : ∃ e, l[i] = e := ⟨_, rfl⟩
        rw [he] at c0 c1 c2 hstep hek
        simp only at c0 c1 c2 hstep
        have hBw : Below w.heap.size w wr := hB1.trans (hB.mono hGw)
        have c0' := cell_below c0 hBw
        have c1' := cell_below c1 hBw
        have c2' := cell_below c2 hBw
        have b0' := World.block_lt_of_cell? _ _ c0'
        simp only at b0'
        have i1 : (i : Int) < (L : Int) := by omega
        have hsp := fun W => hide (split_in s' k d t W hs' hek)
        have hts : t.size ≤ 1000000000 := hek.2.2.2.2
        have hrz : (rst s' (k, d, t)).size ≤ 1000000000 := by
          have h1 := cutR_size s' k
          have h2 := cutR_size (cutR s' k) d
          unfold rst
          simp only
          omega
        have hrd : rst s' (k, d, t) = cutR (cutR s' k) d := rfl
        rw [hrd] at hrz hstep
        have hDz : (cutL (cutR s' k) d).size ≤ 1000000000 := by
          have h1 := cutR_size s' k
          have h2 := cutL_size (cutR s' k) d
          omega
        have hw' := unhide hw
        rw [hstep] at hw'
        have Hw' := hide hw'
        have hcnt := fun W => hide (count_in t (by omega) W)
        have hcl := allL_length t
        clear hw' hstep hrd he c0 c1 c2 hc hw hek
        generalize cutL s' k = A at *
        generalize cutL (cutR s' k) d = D at *
        generalize cutR (cutR s' k) d = R at *
        generalize (allL t).length = T at *
        have hcln := fun W => hide (sclone_in D W hDz)
        go_wp2_with fail
        refine (unhide (hsp _)).mono ?_
        rintro e W3 ⟨rfl, hB3⟩
        have hiv0 : Iv (wr.alloc (.cells #[.int .i64 k, .int .i64 d, .string t] 31)) G wr.heap.size i C (.int .i64 k) (.int .i64 d) (.string t) := ⟨(((Below.refl _ wr).alloc (Nat.le_refl _) _).block G hGz).trans (unhide Hrow), Box3.new wr _ _ _, by omega⟩
        have hiv := hiv0.below hB3
        have hBa : Below G W1 W3 := (hB.alloc (by omega) _).trans (hB3.mono (by simp; omega))
        obtain ⟨⟨x0, x1, x2⟩, q0, q1, ⟨y0, z0⟩, ⟨y1, z1⟩, ⟨y2, z2⟩, f0, f1, f2⟩ := hiv.facts
        have Hiv := hide hiv
        clear hiv hiv0 hB3
        go_wp2_with fail
        go_region_with (first
          | (go_at_call 11; refine (unhide (hcnt _)).mono ?_; rintro e W4 ⟨rfl, hB4⟩; have hiv4 := hide (hB4); obtain ⟨⟨x0', x1', x2'⟩, q0', q1', ⟨y0', z0'⟩, ⟨y1', z1'⟩, ⟨y2', z2'⟩, f0', f1', f2'⟩ := ((unhide Hiv).below ⟨hB4.os, hB4.tape, hB4.output, hB4.size, hB4.block⟩).facts)
          | (go_at_call 17; refine (unhide (hcln _)).mono ?_; rintro e W5 ⟨rfl, hB5⟩; have hiv5 := hide (hB5); obtain ⟨⟨x0'', x1'', x2''⟩, q0'', q1'', ⟨y0'', z0''⟩, ⟨y1'', z1''⟩, ⟨y2'', z2''⟩, f0'', f1'', f2''⟩ := (((unhide Hiv).below ⟨hB4.os, hB4.tape, hB4.output, hB4.size, hB4.block⟩).below ⟨hB5.os, hB5.tape, hB5.output, hB5.size, hB5.block⟩).facts))
        all_goals
          have hb5 : Below W3.heap.size W3 W5 := (⟨hB4.os, hB4.tape, hB4.output, hB4.size, hB4.block⟩ : Below W3.heap.size W3 W4).trans ((⟨hB5.os, hB5.tape, hB5.output, hB5.size, hB5.block⟩ : Below W4.heap.size W4 W5).mono hB4.size)
          obtain ⟨C', k1, k2, k3⟩ := ((unhide Hiv).below hb5).store M (k, (T : Int), D) (unhide HMl) (unhide htk)
          have hbn : Below G W1 W5 := hBa.trans (hb5.mono (by omega))
          have Hk1 := hide k1
          have Hk3 := hide k3
          clear k1 k3
          go_wp2
          go_roundw
          case rel => exact ⟨i + 1, R, M ++ [(k, (T : Int), D)], C', by omega, by go_num, rfl, hrz, by rw [List.length_append, unhide HMl]; rfl, hide (by rw [List.append_assoc]; exact unhide Hw'), unhide Hk1, by rw [k2]; exact unhide HC, hide (unhide Hk3), ((hbn.setCell (p := ⟨G, i * 3, none⟩) (Nat.le_refl _) _).setCell (p := ⟨G, i * 3 + 1, none⟩) (Nat.le_refl _) _).setCell (p := ⟨G, i * 3 + 2, none⟩) (Nat.le_refl _) _⟩
          case measure => simp [RowKit.intOf]; omega
      · have hd : l.drop i = [] := List.drop_eq_nil_of_le (by rw [unhide HL]; omega)
        have hfin : M = ivL s l := by
          have := unhide hw
          rw [hd] at this
          simpa [ivL] using this
        have hiL : i = L := by omega
        have htk' := unhide htk
        rw [hfin, hiL] at htk'
        have hown : wr.ownsRow w.heap.size 31 3 (.slice (some ⟨G, 0, none⟩) L L) L (edsC (ivL s l)) := by
          refine ⟨by rw [edsC_length, unhide Hil], .inr ⟨G, L, C, rfl, hGw, unhide Hrow, Nat.le_refl _, by unfold maxLen; omega, hC, htk'⟩⟩
        have Hown := hide hown
        clear hd hfin hiL htk' hown hC
        go_wp2
        go_ret2
        exact ⟨_, rfl, unhide Hown, hB1.trans (hB.mono hGw)⟩
  · rw [if_neg hz]
    have hzd : ((chk s l) != 0) = true := by rw [bne_iff_ne]; exact hz
    obtain ⟨a, cap, rfl⟩ := h.form
    have hck0 := hide (unhide (hck w h))
    generalize chk s l = E at *
    clear hck h hz
    go_enter Try.func6, Try.ntmps6
    go_wp2_with fail
    refine (unhide hck0).mono ?_
    rintro e W1 ⟨rfl, hB1⟩
    go_wp2
    go_ret2
    exact ⟨_, rfl, World.ownsRow_nil _ _ _ _, hB1⟩

end Go.Proofs.Ytlbgfcbhpmhhpab
