/-
  The law GlyphRange's closure: what All hands it is laid behind one another.
-/
import Derived.Test.YtnejgbjidonpiaaClo
import Derived.Test.YtnejgbjidonpiaaRefUse
import Derived.RangeFuncBox
import Derived.OneCell
set_option linter.unusedSimpArgs false
set_option linter.unusedVariables false
namespace Go.Proofs.Ytnejgbjidonpiaa
open Go.RowKit Go.Lib Go.Shelf

theorem infoIntR : (Try.prog.info? 3).map (fun i => (i.zero, i.size, i.bytes)) = some (some (.int .i64 0), 1, 8) := by kernel_rfl

/-- rows of two types are two rows -/
theorem rows_apart {W : World} {B B' e e' m m' n n' : Nat} {v v' : Value} {xs xs' : List Value} (h : W.ownsRow B e m v n xs) (h' : W.ownsRow B' e' m' v' n' xs') (hne : e ≠ e') : v.ownBlock = none ∨ v.ownBlock ≠ v'.ownBlock := by
  rcases h.2 with ⟨rfl, _⟩ | ⟨g, cap, cur, rfl, _, hgb, _⟩
  · exact .inl rfl
  · refine .inr fun e1 => ?_
    rcases h'.2 with ⟨rfl, _⟩ | ⟨g', cap', cur', rfl, _, hgb', _⟩
    · simp [Value.ownBlock] at e1
    · obtain rfl : g = g' := by simpa [Value.ownBlock] using e1
      rw [hgb] at hgb'
      simp at hgb'
      exact hne hgb'.2

theorem row_walk {W W' : World} {B e m n : Nat} {v : Value} {xs : List Value} {row : Option Nat} (h : W.ownsRow B e m v n xs) (hg : W.grownBy W' row) (hr : ∀ r, row = some r → ∃ o : Obj, W.heap[r]? = some o ∧ o.isWalk = true) : W'.ownsRow B e m v n xs := by
  refine h.kept hg ?_
  rcases h.2 with ⟨rfl, _⟩ | ⟨g, cap, cur, rfl, _, hgb, _⟩
  · exact .inl rfl
  · refine .inr fun e' => ?_
    obtain ⟨o, ho, hc⟩ := hr g (by simpa [Value.ownBlock] using e'.symm)
    rw [hgb] at ho; cases ho; cases hc

/-- a box is kept where a row of another type grows -/
theorem boxed_row {W W' : World} {B b t e m n : Nat} {u v : Value} {xs : List Value} (h : Boxed W B t u) (hte : t ≠ e) (hr : W.ownsRow b e m v n xs) (hg : W.grownBy W' v.ownBlock) : Boxed W' B t u := h.kept hg (h.not_row hte hr)

theorem row_keeps {W W' : World} {b e m n : Nat} {v : Value} {xs : List Value} (hr : W.ownsRow b e m v n xs) (hg : W.grownBy W' v.ownBlock) : KeepsWalks W W' := KeepsWalks.of_grownBy hg fun j o ej hj => by
  rcases hr.2 with ⟨rfl, _⟩ | ⟨g, cap, cur, rfl, _, hgb, _⟩
  · simp [Value.ownBlock] at ej
  · obtain rfl : g = j := by simpa [Value.ownBlock] using ej
    rw [hgb] at hj; cases hj; rfl

def atsC (l : List Nat) : List Value := l.map fun (i : Nat) => Value.int .i64 (i : Int)
def rnsC (s : ByteArray) (l : List Nat) : List Value := l.map fun (i : Nat) => Value.int .i32 (rn s i : Int)

/-- the boxes of GlyphRange, while All goes on -/
def JR (s : ByteArray) (N bs bp bf : Nat) (w0 : World) (pre : List Nat) (W : World) : Prop :=
  ∃ pv fv, (Boxed W bs 9 (.string s) ∧ Boxed W bp 46 pv ∧ Boxed W bf 31 fv) ∧
    W.ownsRow N 3 1 pv pre.length (atsC pre) ∧ W.ownsRow N 21 1 fv pre.length (rnsC s pre) ∧ Below N w0 W

theorem JR_abides (s : ByteArray) (N bs bp bf B' : Nat) (w0 : World) (hw0 : w0.heap.size = N) (hB' : N ≤ B') : AbidesFrom B' (JR s N bs bp bf w0) := by
  rintro pre W W' row ⟨pv, fv, ⟨h0, h1, h2⟩, hp, hf, hB⟩ hg hr
  have hr' : ∀ r, row = some r → ∃ o : Obj, W.heap[r]? = some o ∧ o.isWalk = true := fun r e => (hr r e).2
  have bw : ∀ {B : Nat} {t : TypeId} {v : Value}, Boxed W B t v → Boxed W' B t v := fun {B t v} h => h.kept hg (fun e => by
    obtain ⟨o, ho, hw⟩ := hr' B e.symm
    rw [show W.heap[B]? = _ from h] at ho
    cases ho
    cases hw)
  exact ⟨pv, fv, ⟨bw h0, bw h1, bw h2⟩, row_walk hp hg hr', row_walk hf hg hr', hB.grown hg (by rw [← hw0]; exact hB.size) (fun k e => Nat.le_trans hB' (hr k e).1)⟩

set_option maxRecDepth 100000 in
set_option maxHeartbeats 2000000 in
theorem range1_in (s : ByteArray) (hs : s.size ≤ 20000) (N bs bp bf : Nat) (w0 : World) (hw0 : w0.heap.size = N) (h1 : N ≤ bs) (h2 : N ≤ bp) (h3 : N ≤ bf) (hsp : bs ≠ bp) (hsf : bs ≠ bf) (hpf : bp ≠ bf) :
    GoesOn 35 #[.pointer (some ⟨bp, 0, none⟩), .pointer (some ⟨bf, 0, none⟩), .pointer (some ⟨bs, 0, none⟩)] s (allL s) (JR s N bs bp bf w0) (fun _ _ => False) := by
  rintro pre i rest W hpre hi ⟨pv, fv, ⟨b0, b1, b2⟩, hp, hf, hB⟩
  have hlen : pre.length + 1 ≤ s.size := by
    have e1 := allL_length s
    rw [← hpre] at e1
    simp at e1
    omega
  obtain ⟨i0, hi0, hz0, hz1, hz2⟩ := info_parts infoIntR
  obtain ⟨j0, hj0, hy0, hy1, hy2⟩ := info_parts info32r
  have p1 := b1.cell
  have hsz := hB.size
  rw [hw0] at hsz
  have Hf := hide hf
  have Hw0 := hide hw0
  clear hpre hf hw0
  show Calls Try.prog 35 #[.int .i64 (i : Nat), .int .i32 (rn s i : Nat), .pointer (some ⟨bp, 0, none⟩), .pointer (some ⟨bf, 0, none⟩), .pointer (some ⟨bs, 0, none⟩)] W _
  go_enter Try.func35, Try.ntmps35
  go_wp2_with (at_builtin; refine wpList_append_own _ rfl _ _ 46 rfl N 3 i0 (.int .i64 0) 1 8 Try.underlying46 hi0 hz0 hz1 hz2 rfl (by decide) pv pre.length (atsC pre) rfl (hp.alloc _) ⟨W.heap.size, 0, none⟩ 1 1 [.int .i64 (i : Int)] rfl rfl (cell_one_new _ _ _) (by simp [Value.oneCell']) (by unfold maxLen; omega) (by omega) (by simp; omega) ?_)
  intro v4 W4 ho4 hg4 _
  obtain ⟨g1, c1, rfl⟩ := ownsRow_succ ho4
  have b0' := boxed_row (b0.alloc _) (by decide) (hp.alloc _) hg4
  have b1' := boxed_row (b1.alloc _) (by decide) (hp.alloc _) hg4
  have b2' := boxed_row (b2.alloc _) (by decide) (hp.alloc _) hg4
  have hf' := ((unhide Hf).alloc (.cells #[.int .i64 (i : Int)] 3)).kept hg4 (rows_apart (unhide Hf) hp (by decide))
  have hB4 := (hB.alloc hsz (.cells #[.int .i64 (i : Int)] 3)).grown hg4 (by simp; omega) (fun k e => (hp.lt k e).1)
  have q1 := b1'.cell
  have q2 := b1'.frozen
  have Ho4 := hide ho4
  have Hk4 : KeepsWalks W W4 := (KeepsWalks.alloc _ _).trans (row_keeps (hp.alloc _) hg4)
  clear b0 b1 b2 hp Hf hB p1 hg4 ho4
  have hsz4 := hB4.size
  rw [unhide Hw0] at hsz4
  have r0 := b0'.other hsp (.slice (some ⟨g1, 0, none⟩) (pre.length + 1) c1)
  have r1 := b1'.set (.slice (some ⟨g1, 0, none⟩) (pre.length + 1) c1)
  have r2 := b2'.other (Ne.symm hpf) (.slice (some ⟨g1, 0, none⟩) (pre.length + 1) c1)
  have rp := ownsRow_setCell_other (unhide Ho4) (a := ⟨bp, 0, none⟩) (b1'.not_row (by decide) (unhide Ho4)).symm (.slice (some ⟨g1, 0, none⟩) (pre.length + 1) c1)
  have rf := ownsRow_setCell_other hf' (a := ⟨bp, 0, none⟩) (b1'.not_row (by decide) hf').symm (.slice (some ⟨g1, 0, none⟩) (pre.length + 1) c1)
  have rB := hB4.setCell (p := ⟨bp, 0, none⟩) h2 (.slice (some ⟨g1, 0, none⟩) (pre.length + 1) c1)
  have rk : KeepsWalks W (W4.setCell ⟨bp, 0, none⟩ (.slice (some ⟨g1, 0, none⟩) (pre.length + 1) c1)) := Hk4.trans (KeepsWalks.setCell _ _ _)
  have RP := hide rp
  have HB := hide rB
  have hsz5 := rB.size
  rw [unhide Hw0] at hsz5
  have s2 := r2.cell
  have hsz6 : (W4.setCell ⟨bp, 0, none⟩ (.slice (some ⟨g1, 0, none⟩) (pre.length + 1) c1)).heap.size = W4.heap.size := by simp [World.setCell]
  have hcn := cell_one_new (W4.setCell ⟨bp, 0, none⟩ (.slice (some ⟨g1, 0, none⟩) (pre.length + 1) c1)) (.int .i32 (rn s i : Int)) 21
  rw [hsz6] at hcn
  clear rp rB b0' b1' b2' hf' hB4 Ho4
  go_wp2_with (at_builtin; refine wpList_append_own _ rfl _ _ 31 rfl N 21 j0 (.int .i32 0) 1 4 Try.underlying31 hj0 hy0 hy1 hy2 rfl (by decide) fv pre.length (rnsC s pre) rfl (rf.alloc _) ⟨W4.heap.size, 0, none⟩ 1 1 [.int .i32 (rn s i : Int)] rfl rfl hcn (by simp [Value.oneCell']) (by unfold maxLen; omega) (by omega) (by simp; omega) ?_)
  intro v6 W6 ho6 hg6 _
  obtain ⟨g2, c2, rfl⟩ := ownsRow_succ ho6
  have t0 := boxed_row (r0.alloc _) (by decide) (rf.alloc _) hg6
  have t1 := boxed_row (r1.alloc _) (by decide) (rf.alloc _) hg6
  have t2 := boxed_row (r2.alloc _) (by decide) (rf.alloc _) hg6
  have tp := ((unhide RP).alloc (.cells #[.int .i32 (rn s i : Int)] 21)).kept hg6 (rows_apart (unhide RP) rf (by decide))
  have tB := ((unhide HB).alloc hsz5 (.cells #[.int .i32 (rn s i : Int)] 21)).grown hg6 (by simp; omega) (fun k e => (rf.lt k e).1)
  have tk := (rk.trans (KeepsWalks.alloc _ _)).trans (row_keeps (rf.alloc _) hg6)
  have u0 := t0.other hsf (.slice (some ⟨g2, 0, none⟩) (pre.length + 1) c2)
  have u1 := t1.other hpf (.slice (some ⟨g2, 0, none⟩) (pre.length + 1) c2)
  have u2 := t2.set (.slice (some ⟨g2, 0, none⟩) (pre.length + 1) c2)
  have up := ownsRow_setCell_other tp (a := ⟨bf, 0, none⟩) (t2.not_row (by decide) tp).symm (.slice (some ⟨g2, 0, none⟩) (pre.length + 1) c2)
  have uf := ownsRow_setCell_other ho6 (a := ⟨bf, 0, none⟩) (t2.not_row (by decide) ho6).symm (.slice (some ⟨g2, 0, none⟩) (pre.length + 1) c2)
  have uB := tB.setCell (p := ⟨bf, 0, none⟩) h3 (.slice (some ⟨g2, 0, none⟩) (pre.length + 1) c2)
  have uk : KeepsWalks W (W6.setCell ⟨bf, 0, none⟩ (.slice (some ⟨g2, 0, none⟩) (pre.length + 1) c2)) := tk.trans (KeepsWalks.setCell _ _ _)
  have k1 := t2.cell
  have k2 := t2.frozen
  have l0 := u0.cell
  have l1 := u1.cell
  have HU : Hid (JR s N bs bp bf w0 (pre ++ [i]) (W6.setCell ⟨bf, 0, none⟩ (.slice (some ⟨g2, 0, none⟩) (pre.length + 1) c2))) := hide ⟨_, _, ⟨u0, u1, u2⟩, by simpa [atsC] using up, by simpa [rnsC] using uf, uB⟩
  have UK := hide uk
  have m1 : decide (((pre.length + 1 : Nat) : Int) ≤ (s.size : Int)) = true := by simp; omega
  have m2 : decide ((pre.length : Int) + 1 ≤ (s.size : Int)) = true := by simp; omega
  clear t0 t1 t2 tp tB tk u0 u1 u2 up uf uB uk ho6 hg6 r0 r1 r2 rf RP HB rk
  go_wp2
  go_ret
  exact .inl ⟨rfl, unhide HU, unhide UK⟩

end Go.Proofs.Ytnejgbjidonpiaa
