/-
  The law's turned: pieces from the last one on.
-/
import Derived.Test.YtnejgbjidonpiaaGoes
set_option linter.unusedSimpArgs false
set_option linter.unusedVariables false
namespace Go.Proofs.Ytnejgbjidonpiaa
open Go.RowKit Go.Lib Go.Shelf

set_option maxRecDepth 100000 in
set_option maxHeartbeats 2000000 in
theorem turned_in (s : ByteArray) (L : List Nat) (a : Option Addr) (cap : Nat) (w : World) (hL : L.length ≤ 1000000) (hown : w.ownsRow 0 44 4 (.slice a L.length cap) L.length (pcsC s L)) :
    Calls Try.prog 30 #[.slice a L.length cap] w fun e W' => ∃ v, e = .returned v ∧ W'.ownsRow w.heap.size 44 4 v L.length (pcsC s L.reverse) ∧ Below w.heap.size w W' := by
  obtain ⟨i0, hi, hz0, hz1, hz2⟩ := info_parts infoPiece
  have Ho := hide hown
  clear hown
  go_enter Try.func30, Try.ntmps30
  go_wp2
  go_loopw [3, 4] (fun lv iv wr => ((iv = .int .i64 (-1) ∧ wr.ownsRow w.heap.size 44 4 lv L.length (pcsC s L.reverse)) ∨ ∃ j : Nat, j < L.length ∧ iv = .int .i64 j ∧ wr.ownsRow w.heap.size 44 4 lv (L.length - (j + 1)) (pcsC s (L.drop (j + 1)).reverse)) ∧ Below w.heap.size w wr) (fun _ iv _ => (RowKit.intOf iv + 1).toNat)
  case atStart =>
    refine ⟨?_, Below.refl _ _⟩
    by_cases h0 : L.length = 0
    · left
      obtain rfl : L = [] := List.eq_nil_of_length_eq_zero h0
      exact ⟨rfl, World.ownsRow_nil _ _ _ _⟩
    · right
      refine ⟨L.length - 1, by omega, by congr 1; omega, ?_⟩
      rw [show L.length - 1 + 1 = L.length from by omega, List.drop_length, Nat.sub_self]
      exact World.ownsRow_nil _ _ _ _
  case round =>
    obtain ⟨hcase, hB⟩ := hrel
    rcases hcase with ⟨rfl, hrow⟩ | ⟨j, hj, rfl, hrow⟩
    · go_wp2
      go_ret
      exact ⟨_, rfl, hrow, hB⟩
    · have how := owns4_below (unhide Ho) hB
      obtain ⟨g, rfl⟩ := owns4_addr how (by omega)
      obtain ⟨x, hx⟩ : ∃ x, L[j]? = some x := ⟨_, List.getElem?_eq_getElem hj⟩
      have c0 := pcs_cell how hx 0 (by omega)
      have c1 := pcs_cell how hx 1 (by omega)
      have c2 := pcs_cell how hx 2 (by omega)
      have c3 := pcs_cell how hx 3 (by omega)
      simp only [pcC, List.getElem?_cons_zero, List.getElem?_cons_succ, Nat.add_zero] at c0 c1 c2 c3
      have hst : (L.drop j).reverse = (L.drop (j + 1)).reverse ++ [x] := by
        rw [List.drop_eq_getElem_cons hj]
        rw [List.getElem?_eq_getElem hj] at hx
        simp at hx
        rw [hx]; simp
      have Hst := hide hst
      clear hst hx how
      have hsz := hB.size
      have i1 : (j : Int) < (L.length : Int) := by omega
      have hjl : (0 : Int) ≤ (j : Int) := by omega
      go_wp2_with (at_builtin; refine wpList_append_own _ rfl _ _ 36 rfl w.heap.size 44 i0 _ 4 32 Try.underlying36 hi hz0 hz1 hz2 rfl (by decide) u3 (L.length - (j + 1)) (pcsC s (L.drop (j + 1)).reverse) rfl (hrow.alloc _) ⟨wr.heap.size, 0, none⟩ 1 1 (pcC s x) rfl rfl (new_four _ _ _ _ _ _) (by simp [pcC, Value.oneCell']) (by unfold maxLen; omega) (by omega) (by simp; omega) ?_; intro v4 W4 ho4 hg4 _)
      go_roundw
      case rel =>
        have hB4 := (hB.alloc hsz _).grown hg4 (by simp; omega) (fun k e => (hrow.lt k e).1)
        have ho5 : W4.ownsRow w.heap.size 44 4 v4 (L.length - j) (pcsC s (L.drop j).reverse) := by
          rw [unhide Hst, show L.length - j = L.length - (j + 1) + 1 from by omega]
          simpa [pcsC] using ho4
        refine ⟨?_, hB4⟩
        cases j with
        | zero => left; exact ⟨rfl, by simpa using ho5⟩
        | succ m => right; exact ⟨m, by omega, by simp, ho5⟩
      case measure => simp [RowKit.intOf]

/-- a world that holds the pieces both ways, the two iterators, and their boxes -/
structure Held (s : ByteArray) (w0 : World) (B bp bq ball bback s1 s2 : Nat) (ap aq : Option Addr) (cp cq : Nat) : Prop where
  size : w0.heap.size = B
  lp : bp < B
  lq : bq < B
  la : ball < B
  lb : bback < B
  l1 : s1 < B
  l2 : s2 < B
  kp : w0.cell? ⟨bp, 0, none⟩ = some (.slice ap (allL s).length cp)
  kq : w0.cell? ⟨bq, 0, none⟩ = some (.slice aq (allL s).length cq)
  ka : w0.cell? ⟨ball, 0, none⟩ = some (.func (.func 41) #[] #[.pointer (some ⟨s1, 0, none⟩)])
  kb : w0.cell? ⟨bback, 0, none⟩ = some (.func (.func 42) #[] #[.pointer (some ⟨s2, 0, none⟩)])
  k1 : w0.cell? ⟨s1, 0, none⟩ = some (.string s)
  k2 : w0.cell? ⟨s2, 0, none⟩ = some (.string s)
  op : w0.ownsRow 0 44 4 (.slice ap (allL s).length cp) (allL s).length (pcsC s (allL s))
  oq : w0.ownsRow 0 44 4 (.slice aq (allL s).length cq) (allL s).length (pcsC s (allL s).reverse)

theorem Held.later {s : ByteArray} {w0 W : World} {B bp bq ball bback s1 s2 : Nat} {ap aq : Option Addr} {cp cq : Nat} (h : Held s w0 B bp bq ball bback s1 s2 ap aq cp cq) (hb : Below B w0 W) :
    Held s W W.heap.size bp bq ball bback s1 s2 ap aq cp cq := by
  have hs := hb.size
  rw [h.size] at hs
  have hb' : Below w0.heap.size w0 W := by rw [h.size]; exact hb
  exact ⟨rfl, Nat.lt_of_lt_of_le h.lp hs, Nat.lt_of_lt_of_le h.lq hs, Nat.lt_of_lt_of_le h.la hs, Nat.lt_of_lt_of_le h.lb hs, Nat.lt_of_lt_of_le h.l1 hs, Nat.lt_of_lt_of_le h.l2 hs,
    (hb.cell (p := ⟨bp, 0, none⟩) h.lp).trans h.kp, (hb.cell (p := ⟨bq, 0, none⟩) h.lq).trans h.kq, (hb.cell (p := ⟨ball, 0, none⟩) h.la).trans h.ka, (hb.cell (p := ⟨bback, 0, none⟩) h.lb).trans h.kb, (hb.cell (p := ⟨s1, 0, none⟩) h.l1).trans h.k1, (hb.cell (p := ⟨s2, 0, none⟩) h.l2).trans h.k2, owns4_below h.op hb', owns4_below h.oq hb'⟩

theorem Held.goesAll {s : ByteArray} {w0 : World} {B bp bq ball bback s1 s2 : Nat} {ap aq : Option Addr} {cp cq : Nat} (h : Held s w0 B bp bq ball bback s1 s2 ap aq cp cq) (hL : (allL s).length ≤ 1000000) (stop : Int) :
    Calls Try.prog 33 #[.func (.func 41) #[] #[.pointer (some ⟨s1, 0, none⟩)], .slice ap (allL s).length cp, .int .i64 stop] w0 fun e W' => e = .returned (.bool true) ∧ Below w0.heap.size w0 W' :=
  goes_in _ s1 s _ (iterOK_all s1 s) (enters_of Try.func41 (by kernel_rfl) rfl) ap cp stop w0 hL h.k1 (by rw [h.size]; exact h.l1) h.op
theorem Held.goesBack {s : ByteArray} {w0 : World} {B bp bq ball bback s1 s2 : Nat} {ap aq : Option Addr} {cp cq : Nat} (h : Held s w0 B bp bq ball bback s1 s2 ap aq cp cq) (hL : (allL s).length ≤ 1000000) (hs : s.size ≤ maxLen) (stop : Int) :
    Calls Try.prog 33 #[.func (.func 42) #[] #[.pointer (some ⟨s2, 0, none⟩)], .slice aq (allL s).length cq, .int .i64 stop] w0 fun e W' => e = .returned (.bool true) ∧ Below w0.heap.size w0 W' := by
  have hr : (allL s).reverse.length = (allL s).length := List.length_reverse
  have := goes_in _ s2 s _ (iterOK_back s2 s hs) (enters_of Try.func42 (by kernel_rfl) rfl) aq cq stop w0 (by rw [hr]; exact hL) h.k2 (by rw [h.size]; exact h.l2) (by rw [hr]; exact h.oq)
  rw [hr] at this
  exact this

def JL (B : Nat) (w0 : World) (pre : List Nat) (W : World) : Prop := (Boxed W B 3 (.int .i64 (pre.length : Nat)) ∧ Boxed W (B + 1) 4 (.bool true)) ∧ Below B w0 W
def JLx (B : Nat) (w0 : World) (pre : List Nat) (W : World) : Prop := Boxed W (B + 1) 4 (.bool true) ∧ Below B w0 W

theorem JL_abides (B B' : Nat) (w0 : World) (hw0 : w0.heap.size = B) (hB' : B ≤ B') : AbidesFrom B' (JL B w0) := by
  rintro pre W W' row ⟨⟨h0, h1⟩, hB⟩ hg hr
  have hr' : ∀ r, row = some r → ∃ o : Obj, W.heap[r]? = some o ∧ o.isWalk = true := fun r e => (hr r e).2
  exact ⟨⟨boxed_walk h0 hg hr', boxed_walk h1 hg hr'⟩, hB.grown hg (by rw [← hw0]; exact hB.size) (fun k e => Nat.le_trans hB' (hr k e).1)⟩

theorem boxed_below {W W' : World} {B : Nat} {t : TypeId} {v : Value} (h : Boxed W B t v) (hb : Below W.heap.size W W') : Boxed W' B t v := (hb.block B h.lt).trans h
theorem keeps_below {W W' : World} (hb : Below W.heap.size W W') : KeepsWalks W W' := ⟨hb.size, fun k o hk _ => (hb.block k (Array.getElem?_eq_some_iff.1 hk).1).trans hk⟩

set_option maxRecDepth 100000 in
set_option maxHeartbeats 2000000 in
theorem goesLaw1_in (s : ByteArray) (hs : s.size ≤ maxLen) (w0 : World) (B bp bq ball bback s1 s2 : Nat) (ap aq : Option Addr) (cp cq : Nat) (H : Held s w0 B bp bq ball bback s1 s2 ap aq cp cq) (hL : (allL s).length ≤ 1000000) :
    GoesOn 34 #[.pointer (some ⟨B + 1, 0, none⟩), .pointer (some ⟨B, 0, none⟩), .pointer (some ⟨bp, 0, none⟩), .pointer (some ⟨ball, 0, none⟩), .pointer (some ⟨bback, 0, none⟩), .pointer (some ⟨bq, 0, none⟩)] s (allL s) (JL B w0) (JLx B w0) := by
  rintro pre i rest W hpre hi ⟨⟨hn, hok⟩, hB⟩
  have hx : (allL s)[pre.length]? = some i := by rw [← hpre]; simp
  have hlt : pre.length < (allL s).length := (List.getElem?_eq_some_iff.1 hx).1
  have H1 := H.later hB
  obtain ⟨g, hg⟩ := owns4_addr H1.op (by omega)
  subst hg
  have c0 := pcs_cell H1.op hx 0 (by omega)
  have c1 := pcs_cell H1.op hx 1 (by omega)
  simp only [pcC, List.getElem?_cons_zero, List.getElem?_cons_succ, Nat.add_zero] at c0 c1
  have kp := H1.kp
  have kq := H1.kq
  have ka := H1.ka
  have kb := H1.kb
  have p0 := hn.cell
  have p1 := hok.cell
  have f0 := hn.frozen
  have f1 := hok.frozen
  have i1 : (pre.length : Int) < ((allL s).length : Int) := by omega
  have q1 : decide ((pre.length : Int) < ((allL s).length : Int)) = true := by simp; omega
  have q2 : ((i : Int) == (i : Int)) = true := by simp
  have q3 : ((rn s i : Int) == (rn s i : Int)) = true := by simp
  have e1 : Value.int .i64 ((pre ++ [i]).length : Nat) = .int .i64 ((pre.length : Int) + 1) := by simp
  have E1 := hide e1
  have HH := hide H1
  clear e1 hpre hx H H1
  show Calls Try.prog 34 #[.int .i64 (i : Nat), .int .i32 (rn s i : Nat), .pointer (some ⟨B + 1, 0, none⟩), .pointer (some ⟨B, 0, none⟩), .pointer (some ⟨bp, 0, none⟩), .pointer (some ⟨ball, 0, none⟩), .pointer (some ⟨bback, 0, none⟩), .pointer (some ⟨bq, 0, none⟩)] W _
  by_cases h20 : (pre.length : Int) + 1 < 20
  · have q4 : decide ((pre.length : Int) + 1 < 20) = true := by simp; omega
    go_enter Try.func34, Try.ntmps34
    go_wp2_with fail
    refine ((unhide HH).goesAll hL _).mono ?_
    rintro e W2 ⟨rfl, hB2⟩
    have H2 := (unhide HH).later hB2
    have kq2 := H2.kq
    have kb2 := H2.kb
    have hn2 := boxed_below hn hB2
    have hok2 := boxed_below hok hB2
    have p02 := hn2.cell
    have HH2 := hide H2
    clear H2 kp kq ka kb p0 p1 f0 f1 c0 c1
    go_wp2_with fail
    refine ((unhide HH2).goesBack hL hs _).mono ?_
    rintro e W3 ⟨rfl, hB3⟩
    have hn3 := boxed_below hn2 hB3
    have hok3 := boxed_below hok2 hB3
    have p03 := hn3.cell
    have p13 := hok3.cell
    have f03 := hn3.frozen
    have f13 := hok3.frozen
    have hB4 : Below B w0 W3 := (hB.trans (hB2.mono (Nat.le_of_lt hn.lt))).trans (hB3.mono (Nat.le_of_lt hn2.lt))
    have hKw : KeepsWalks W W3 := (keeps_below hB2).trans (keeps_below hB3)
    clear hn2 hok2 p02 kq2 kb2 hB2 hB3 hB HH HH2 hn hok
    go_wp2
    go_ret
    refine .inl ⟨rfl, ⟨⟨?_, (hok3.set _).other (by omega) _⟩, (hB4.setCell (p := ⟨B + 1, 0, none⟩) (by simp) _).setCell (p := ⟨B, 0, none⟩) (by simp) _⟩, (hKw.trans (KeepsWalks.setCell _ _ _)).trans (KeepsWalks.setCell _ _ _)⟩
    rw [unhide E1]
    exact (hn3.other (by omega) _).set _
  · have q4 : decide ((pre.length : Int) + 1 < 20) = false := by simp; omega
    go_enter Try.func34, Try.ntmps34
    go_wp2_with fail
    refine ((unhide HH).goesAll hL _).mono ?_
    rintro e W2 ⟨rfl, hB2⟩
    have H2 := (unhide HH).later hB2
    have kq2 := H2.kq
    have kb2 := H2.kb
    have hn2 := boxed_below hn hB2
    have hok2 := boxed_below hok hB2
    have p02 := hn2.cell
    have HH2 := hide H2
    clear H2 kp kq ka kb p0 p1 f0 f1 c0 c1
    go_wp2_with fail
    refine ((unhide HH2).goesBack hL hs _).mono ?_
    rintro e W3 ⟨rfl, hB3⟩
    have hn3 := boxed_below hn2 hB3
    have hok3 := boxed_below hok2 hB3
    have p03 := hn3.cell
    have p13 := hok3.cell
    have f03 := hn3.frozen
    have f13 := hok3.frozen
    have hB4 : Below B w0 W3 := (hB.trans (hB2.mono (Nat.le_of_lt hn.lt))).trans (hB3.mono (Nat.le_of_lt hn2.lt))
    have hKw : KeepsWalks W W3 := (keeps_below hB2).trans (keeps_below hB3)
    clear hn2 hok2 p02 kq2 kb2 hB2 hB3 hB HH HH2 hn hok
    go_wp2
    go_ret
    exact .inr ⟨rfl, (hok3.set _).other (by omega) _, (hB4.setCell (p := ⟨B + 1, 0, none⟩) (by simp) _).setCell (p := ⟨B, 0, none⟩) (by simp) _⟩

theorem back_in (s : ByteArray) (w : World) :
    Calls Try.prog 32 #[.string s] w fun e w' => e = .returned (.func (.func 42) #[] #[.pointer (some ⟨w.heap.size, 0, none⟩)]) ∧ w' = w.alloc (.cells #[.string s] 9) := by
  go_enter Try.func32, Try.ntmps32
  go_wp2
  go_ret
  exact ⟨rfl, rfl⟩

end Go.Proofs.Ytnejgbjidonpiaa
