/-
  Chapter 8's law OpEdges returns true for every operation and every two numbers, and leaves its arguments as they were; no condition.
-/
import Derived.Test.YtmhiecifllgkcaaRows
import Derived.WalkKit
import Derived.ProofKit
import Derived.OpenShut
import Derived.ShutString
import Derived.ChangeOld
import Derived.Below
import Derived.Test.YtmhiecifllgkcaaZEG3
import Derived.Deep.CutRange
import Derived.Deep.QuietTactic
import Derived.BigQuiet
set_option linter.unusedVariables false
set_option linter.unusedSimpArgs false
namespace Go.Proofs.Ytmhiecifllgkcaa
namespace LOpEdges
open Go.ChangeShapes Go.WideShapes Go.ChangeAt Go.RowKit Go.Lib
open Go.ChangeMaps (open_string shut_string)

theorem RC.heap {W W' : World} {v : Value} {n : Nat} {C : List Value} (h : RC W v n C) (e : W.heap = W'.heap) : RC W' v n C := by
  rcases h with h | ⟨b, off, cap, ev, h1, h2, h3⟩
  · exact .inl h
  · exact .inr ⟨b, off, cap, ev, h1, by rw [← e]; exact h2, fun j x hx => by have := h3 j x hx; unfold World.cell? at this ⊢; rw [← e]; exact this⟩
theorem toList_pos' {s : ByteArray} (h : 0 < s.size) : s.toList.isEmpty = false := by
  rw [ByteArray.toList_eq]
  cases hl : s.data.toList with
  | nil =>
    have h2 : s.data.size = 0 := by rw [← Array.length_toList, hl]; rfl
    have h3 : s.size = s.data.size := rfl
    omega
  | cons a l => rfl

/-- an operation with one thing turned, in its box, and whether it is one -/
structure Ed (w wx : World) (bx : Nat) (vd : Value) (E : Value) : Prop where
  ex : ∃ (o' : Opn) (vg' : Value), E = .bool (okO o') ∧ InO o' ∧ Bx wx bx 30 #[.int .i64 o'.ds, .int .i64 o'.dq, vd, .int .i64 o'.kind, .int .i64 o'.it, .int .i64 o'.is, .int .i64 o'.rt, .int .i64 o'.rs, .string o'.text, vg', .int .i64 o'.site] ∧ RI wx vd o'.deps ∧ RR wx vg' o'.gone ∧ Below w.heap.size w wx

set_option maxRecDepth 100000 in
set_option maxHeartbeats 8000000 in
theorem walk (o : Opn) (ad ag : Option Addr) (cd cg : Nat) (n1 n2 : Int) (w : World) (w0 : RI w (.slice ad o.deps.length cd) o.deps ∧ RR w (.slice ag o.gone.length cg) o.gone ∧ InA o) (w1 : (Lit.int .i64 n1).wf = true) (w2 : (Lit.int .i64 n2).wf = true) :
    Calls Try.prog 3 #[opA o (.slice ad o.deps.length cd) (.slice ag o.gone.length cg), .int .i64 n1, .int .i64 n2] w fun e W => e = .returned (.bool true) ∧ Below w.heap.size w W := by
  obtain ⟨hd, hg, hi⟩ := w0
  have hv64 := wf64 w2
  clear w1 w2
  obtain ⟨X, hX⟩ : ∃ X, w.alloc (.cells #[.int .i64 o.ds, .int .i64 o.dq, .slice ad o.deps.length cd, .int .i64 o.kind, .int .i64 o.it, .int .i64 o.is, .int .i64 o.rt, .int .i64 o.rs, .string o.text, .slice ag o.gone.length cg, .int .i64 o.site] 30) = X := ⟨_, rfl⟩
  have HX : Bx X w.heap.size 30 #[.int .i64 o.ds, .int .i64 o.dq, .slice ad o.deps.length cd, .int .i64 o.kind, .int .i64 o.it, .int .i64 o.is, .int .i64 o.rt, .int .i64 o.rs, .string o.text, .slice ag o.gone.length cg, .int .i64 o.site] := by rw [← hX]; exact Bx.new w _ _
  have bX : Below w.heap.size w X := by rw [← hX]; exact ballc (Below.refl _ _) _
  have HA := hide (fun (W : World) (h : Below X.heap.size X W) => show Bx W w.heap.size 30 #[.int .i64 o.ds, .int .i64 o.dq, .slice ad o.deps.length cd, .int .i64 o.kind, .int .i64 o.it, .int .i64 o.is, .int .i64 o.rt, .int .i64 o.rs, .string o.text, .slice ag o.gone.length cg, .int .i64 o.site] ∧ RI W (.slice ad o.deps.length cd) o.deps ∧ RR W (.slice ag o.gone.length cg) o.gone from ⟨HX.below h, (hd.below bX).below h, RC.below (RC.below hg bX) h⟩)
  have HL := hide (fun W => long_in o ad ag cd cg W hi.text)
  have HK := hide (fun W => known_in W)
  have Hd := hide hd
  have Hg := hide hg
  obtain ⟨x0, x1, x2, x3, x4, x5, x6, x7, x8, x9, x10⟩ := cells_op HX
  have xl := HX.lt
  have B0 := hide bX
  have HI := hide hi
  clear hd hg bX hi HX
  cases hlo : longO o
  rotate_left
  · rw [hlo] at HL
    clear hlo
    unfold opA at HL ⊢
    go_enter Try.func3, Try.ntmps3
    go_wp2_with fail
    refine (unhide HL _).mono ?_
    rintro r W1 ⟨rfl, hb⟩
    replace B0 := hide (bnext (unhide B0) hb)
    clear hb
    go_wp2_with fail
    refine (unhide HK _).mono ?_
    rintro r W2 ⟨rfl, hb⟩
    replace B0 := hide (bnext (unhide B0) hb)
    go_wp2
    go_ret
    exact ⟨rfl, unhide B0⟩
  rw [hlo] at HL
  have hin : InO o := by
    unfold longO at hlo
    simp at hlo
    exact (unhide HI).fit (by omega) (by omega) (by omega)
  have hsm : o.deps.length ≤ 3000 ∧ o.gone.length ≤ 3000 ∧ o.text.size ≤ 60000 := by unfold longO at hlo; simp at hlo; omega
  have HCk := hide (fun W hd hg => OCheck_in o (.slice ad o.deps.length cd) (.slice ag o.gone.length cg) W hd hg hin)
  clear hlo HI
  have HIn := hide hin
  clear hin
  by_cases hok : okO o = true
  rotate_left
  · have hc : chkO o = 10 := by unfold chkO; rw [if_neg hok]
    rw [hc] at HCk
    clear hok hc
    unfold opA at HL HCk ⊢
    go_enter Try.func3, Try.ntmps3
    have HN := hide (unhide HL X)
    go_wp2_with fail
    refine (unhide HN).mono ?_
    rintro r W1 ⟨rfl, hb⟩
    replace B0 := hide (bnext (unhide B0) hb)
    clear x0 x1 x2 x3 x4 x5 x6 x7 x8 x9 x10
    obtain ⟨ha1, ha2, ha3⟩ := unhide HA W1 hb
    obtain ⟨x0, x1, x2, x3, x4, x5, x6, x7, x8, x9, x10⟩ := cells_op ha1
    have HN2 := hide (unhide HCk W1 ha2 ha3)
    clear hb HN ha1 ha2 ha3
    go_wp2_with fail
    refine (unhide HN2).mono ?_
    rintro r W3 ⟨rfl, hb⟩
    replace B0 := hide (bnext (unhide B0) hb)
    clear hb HN2
    go_wp2_with fail
    refine (unhide HK _).mono ?_
    rintro r W5 ⟨rfl, hb⟩
    replace B0 := hide (bnext (unhide B0) hb)
    go_wp2
    go_ret
    exact ⟨rfl, unhide B0⟩
  have hc : chkO o = 0 := by unfold chkO; rw [if_pos hok]
  rw [hc] at HCk
  have Hok := hide hok
  have HCx := hide (fun (o' : Opn) (vd vg : Value) W hd hg hi => OCheck_in o' vd vg W hd hg hi)
  clear hc hok
  unfold opA at HL HCk HCx ⊢
  go_enter Try.func3, Try.ntmps3
  have HN := hide (unhide HL X)
  go_wp2_with fail
  refine (unhide HN).mono ?_
  rintro r W1 ⟨rfl, hb⟩
  clear x0 x1 x2 x3 x4 x5 x6 x7 x8 x9 x10
  obtain ⟨ha1, ha2, ha3⟩ := unhide HA W1 hb
  obtain ⟨x0, x1, x2, x3, x4, x5, x6, x7, x8, x9, x10⟩ := cells_op ha1
  have HN2 := hide (unhide HCk W1 ha2 ha3)
  have Hb1 := hide hb
  clear hb HN ha1 ha2 ha3 HL HCk
  go_wp2_with fail
  refine (unhide HN2).mono ?_
  rintro r W2 ⟨rfl, hb⟩
  have hb2 := bnext (unhide Hb1) hb
  have hB2 := bnext (unhide B0) hb2
  obtain ⟨ha1, ha2, ha3⟩ := unhide HA W2 hb2
  clear x0 x1 x2 x3 x4 x5 x6 x7 x8 x9 x10 xl
  obtain ⟨x0, x1, x2, x3, x4, x5, x6, x7, x8, x9, x10⟩ := cells_op ha1
  have xl := ha1.lt
  obtain ⟨Y, hY⟩ : ∃ Y, W2.alloc (.cells #[.int .i64 o.ds, .int .i64 o.dq, .slice ad o.deps.length cd, .int .i64 o.kind, .int .i64 o.it, .int .i64 o.is, .int .i64 o.rt, .int .i64 o.rs, .string o.text, .slice ag o.gone.length cg, .int .i64 o.site] 30) = Y := ⟨_, rfl⟩
  have bY : Below W2.heap.size W2 Y := by rw [← hY]; exact ballc (Below.refl _ _) _
  have HYx : Bx Y W2.heap.size 30 #[.int .i64 o.ds, .int .i64 o.dq, .slice ad o.deps.length cd, .int .i64 o.kind, .int .i64 o.it, .int .i64 o.is, .int .i64 o.rt, .int .i64 o.rs, .string o.text, .slice ag o.gone.length cg, .int .i64 o.site] := by rw [← hY]; exact Bx.new W2 _ _
  have HAY := hide (fun (W : World) (h : Below Y.heap.size Y W) => show Bx W w.heap.size 30 #[.int .i64 o.ds, .int .i64 o.dq, .slice ad o.deps.length cd, .int .i64 o.kind, .int .i64 o.it, .int .i64 o.is, .int .i64 o.rt, .int .i64 o.rs, .string o.text, .slice ag o.gone.length cg, .int .i64 o.site] ∧ Bx W W2.heap.size 30 #[.int .i64 o.ds, .int .i64 o.dq, .slice ad o.deps.length cd, .int .i64 o.kind, .int .i64 o.it, .int .i64 o.is, .int .i64 o.rt, .int .i64 o.rs, .string o.text, .slice ag o.gone.length cg, .int .i64 o.site] ∧ Below w.heap.size w W from ⟨(ha1.below bY).below h, HYx.below h, bnext hB2 (bnext bY h)⟩)
  obtain ⟨y0, y1, y2, y3, y4, y5, y6, y7, y8, y9, y10⟩ := cells_op (ha1.below bY)
  have yl := (ha1.below bY).lt
  have hbxw : w.heap.size < W2.heap.size := xl
  have HBw := hide hbxw
  obtain ⟨ins, hins⟩ : ∃ b, (o.kind == 1) = b := ⟨_, rfl⟩
  clear hb hb2 hB2 ha1 ha2 ha3 bY HYx HN2 Hb1 HA B0 hbxw
  go_wp2
  clear x0 x1 x2 x3 x4 x5 x6 x7 x8 x9 x10 xl hY y0 y1 y2 y3 y4 y5 y6 y7 y8 y9 y10 yl
  go_loopw [10] (fun nv wr => ∃ (pos f : Nat) (pre : List Nat), nv = .int .i64 (pre.length : Nat) ∧ wr.heap[Y.heap.size]? = some (.stringIter o.text pos) ∧ Hid (pre ++ posL o.text f pos = allL o.text) ∧ o.text.size ≤ pos + f ∧ Hid (Below Y.heap.size Y wr)) (fun _ wr => o.text.size - wr.iterPos Y.heap.size)
  case atStart => exact ⟨0, o.text.size, [], rfl, World.iter_heap Y o.text 0, hide rfl, by omega, hide (ballc (Below.refl _ _) _)⟩
  case round =>
    obtain ⟨pos, f, pre, rfl, hit, hacc, hfu, HB⟩ := hrel
    by_cases hp : pos < o.text.size
    · have hnx : ∀ ty, (Instr.next (.pointer (some ⟨Y.heap.size, 0, none⟩)) true ty).run Try.prog wr = .ok (.tuple #[.bool true, .int .i64 (pos : Nat), .int .i32 (rn o.text pos : Nat)]) (wr.iterAt Y.heap.size o.text (pos + wd o.text pos)) := fun ty => Lib.run_next_any_at wr Y.heap.size o.text pos ty hit hp
      have hwd := wd_pos o.text pos hp
      have hit2 := Lib.iterAt_heap wr Y.heap.size o.text pos (pos + wd o.text pos) hit
      obtain ⟨g, rfl⟩ : ∃ g, f = g + 1 := ⟨f - 1, by omega⟩
      have hacc2 : Hid (pre ++ pos :: posL o.text g (pos + wd o.text pos) = allL o.text) := by rw [← posL_step o.text g pos hp]; exact hacc
      have hpl : pre.length ≤ 60000 := by
        have h1 := allL_length o.text
        have h2 := congrArg List.length (unhide hacc)
        rw [List.length_append] at h2
        omega
      have HB2 := hide ((unhide HB).grown (iterAt_grown wr Y.heap.size o.text (pos + wd o.text pos)) (unhide HB).size (fun k e => by cases e; exact Nat.le_refl _))
      clear hacc
      go_wp2
      go_roundw
      case rel => exact ⟨pos + wd o.text pos, g, pre ++ [pos], by simp, hit2, hide (by rw [← unhide hacc2]; simp), by omega, HB2⟩
      case measure =>
        simp only [World.iterPos, hit2, hit]
        omega
    · have hnx : ∀ ty, (Instr.next (.pointer (some ⟨Y.heap.size, 0, none⟩)) true ty).run Try.prog wr = .ok (.tuple #[.bool false]) wr := fun ty => Lib.run_next_end_at wr Y.heap.size o.text pos ty hit hp
      have hpre : pre = allL o.text := by rw [← unhide hacc, posL_end o.text f pos hp]; simp
      obtain ⟨L, hL⟩ : ∃ L, pre.length = L := ⟨_, rfl⟩
      have hcnt : cntO o.text = (L : Int) := by rw [← hL, hpre]; rfl
      have hLs : L ≤ 60000 := by have h1 := allL_length o.text; rw [← hpre] at h1; omega
      rw [hL]
      have Hcnt := hide hcnt
      clear hacc hpre hL hcnt hfu
      obtain ⟨hbo, hbx, hBw⟩ := unhide HAY wr (unhide HB)
      obtain ⟨x0, x1, x2, x3, x4, x5, x6, x7, x8, x9, x10⟩ := cells_op hbo
      have xl := hbo.lt
      have HBX := hide hbx
      have HBW := hide hBw
      have HBO := hide hbo
      obtain ⟨z0, z1, z2, z3, z4, z5, z6, z7, z8, z9, z10⟩ := cells_op hbx
      have zf := fun k => hbx.frozen k
      have zl := hbx.lt
      obtain ⟨bx, hbxe⟩ : ∃ b, W2.heap.size = b := ⟨_, rfl⟩
      have hlt := unhide HBw
      rw [hbxe] at z0 z1 z2 z3 z4 z5 z6 z7 z8 z9 z10 zf zl HBX hlt ⊢
      clear hbo hbx hBw HAY HBw hbxe
      have g0 := zf 0
      have g1 := zf 1
      have g3 := zf 3
      have g4 := zf 4
      have g5 := zf 5
      have g6 := zf 6
      have g7 := zf 7
      have g8 := zf 8
      have g9 := zf 9
      have g10 := zf 10
      clear zf
      by_cases c0 : n1 = 0
      · subst c0
        have hx' : Bx (wr.setCell ⟨bx, 3, none⟩ (.int .i64 n2)) bx 30 #[.int .i64 o.ds, .int .i64 o.dq, .slice ad o.deps.length cd, .int .i64 n2, .int .i64 o.it, .int .i64 o.is, .int .i64 o.rt, .int .i64 o.rs, .string o.text, .slice ag o.gone.length cg, .int .i64 o.site] := by simpa using (unhide HBX).set 3 (.int .i64 n2)
        have hB' : Below w.heap.size w (wr.setCell ⟨bx, 3, none⟩ (.int .i64 n2)) := (Kp.set (N := fun k => k = bx) wr ⟨bx, 3, none⟩ (.int .i64 n2) rfl).below (unhide HBW) (fun i e => by omega)
        have xo := (unhide HBO).kp (Kp.set (N := fun k => k = bx) wr ⟨bx, 3, none⟩ (.int .i64 n2) rfl) (by omega)
        obtain ⟨w0', w1', w2', w3', w4', w5', w6', w7', w8', w9', w10'⟩ := cells_op xo
        have hed := edge_kind (unhide Hok) n2
        obtain ⟨E, hE⟩ : ∃ E, okO { o with kind := n2 } = E := ⟨_, rfl⟩
        rw [hE] at hed
        clear xo HBO HBX
        by_cases h1 : n2 = o.kind
        · try simp [h1] at hed
          subst h1
          try simp at hed
          subst hed
          have HN := hide (unhide HCx { o with kind := (o.kind) } (.slice ad o.deps.length cd) (.slice ag o.gone.length cg) (wr.setCell ⟨bx, 3, none⟩ (.int .i64 (o.kind))) ((unhide Hd).below hB') (RC.below (unhide Hg) hB') ⟨(unhide HIn).ds, (unhide HIn).dq, hv64, (unhide HIn).it, (unhide HIn).is, (unhide HIn).rt, (unhide HIn).rs, (unhide HIn).site, (unhide HIn).deps, (unhide HIn).text, (unhide HIn).gone, (unhide HIn).many⟩)
          unfold chkO at HN
          rw [hE] at HN
          have HBt := hide hB'
          obtain ⟨x0', x1', x2', x3', x4', x5', x6', x7', x8', x9', x10'⟩ := cells_op hx'
          have xl' := hx'.lt
          clear HCx hB' hx' hE
          simp only [reduceIte, Bool.false_eq_true] at HN
          go_wp2_with fail
          refine (unhide HN).mono ?_
          rintro r W8 ⟨rfl, hb8⟩
          have HB8 := hide (bnext (unhide HBt) hb8)
          clear hb8
          go_wp2_with fail
          refine (unhide HK _).mono ?_
          rintro r W9 ⟨rfl, hb9⟩
          go_wp2
          go_ret
          exact ⟨rfl, bnext (unhide HB8) hb9⟩
        · have h1q : (n2 == o.kind) = false := by simp [h1]
          try simp [h1] at hed
          try simp at hed
          subst hed
          have HN := hide (unhide HCx { o with kind := n2 } (.slice ad o.deps.length cd) (.slice ag o.gone.length cg) (wr.setCell ⟨bx, 3, none⟩ (.int .i64 n2)) ((unhide Hd).below hB') (RC.below (unhide Hg) hB') ⟨(unhide HIn).ds, (unhide HIn).dq, hv64, (unhide HIn).it, (unhide HIn).is, (unhide HIn).rt, (unhide HIn).rs, (unhide HIn).site, (unhide HIn).deps, (unhide HIn).text, (unhide HIn).gone, (unhide HIn).many⟩)
          unfold chkO at HN
          rw [hE] at HN
          have HBt := hide hB'
          obtain ⟨x0', x1', x2', x3', x4', x5', x6', x7', x8', x9', x10'⟩ := cells_op hx'
          have xl' := hx'.lt
          clear HCx hB' hx' hE
          simp only [reduceIte, Bool.false_eq_true] at HN
          go_wp2_with fail
          refine (unhide HN).mono ?_
          rintro r W8 ⟨rfl, hb8⟩
          have HB8 := hide (bnext (unhide HBt) hb8)
          clear hb8
          go_wp2_with fail
          refine (unhide HK _).mono ?_
          rintro r W9 ⟨rfl, hb9⟩
          go_wp2
          go_ret
          exact ⟨rfl, bnext (unhide HB8) hb9⟩
      · by_cases c1 : n1 = 1
        · subst c1
          have hx' : Bx (wr.setCell ⟨bx, 1, none⟩ (.int .i64 n2)) bx 30 #[.int .i64 o.ds, .int .i64 n2, .slice ad o.deps.length cd, .int .i64 o.kind, .int .i64 o.it, .int .i64 o.is, .int .i64 o.rt, .int .i64 o.rs, .string o.text, .slice ag o.gone.length cg, .int .i64 o.site] := by simpa using (unhide HBX).set 1 (.int .i64 n2)
          have hB' : Below w.heap.size w (wr.setCell ⟨bx, 1, none⟩ (.int .i64 n2)) := (Kp.set (N := fun k => k = bx) wr ⟨bx, 1, none⟩ (.int .i64 n2) rfl).below (unhide HBW) (fun i e => by omega)
          have xo := (unhide HBO).kp (Kp.set (N := fun k => k = bx) wr ⟨bx, 1, none⟩ (.int .i64 n2) rfl) (by omega)
          obtain ⟨w0', w1', w2', w3', w4', w5', w6', w7', w8', w9', w10'⟩ := cells_op xo
          have hed := edge_seq (unhide Hok) n2
          obtain ⟨E, hE⟩ : ∃ E, okO { o with dq := n2 } = E := ⟨_, rfl⟩
          rw [hE] at hed
          clear xo HBO HBX
          by_cases h1 : n2 = o.dq
          · try simp [h1] at hed
            subst h1
            try simp at hed
            subst hed
            have HN := hide (unhide HCx { o with dq := (o.dq) } (.slice ad o.deps.length cd) (.slice ag o.gone.length cg) (wr.setCell ⟨bx, 1, none⟩ (.int .i64 (o.dq))) ((unhide Hd).below hB') (RC.below (unhide Hg) hB') ⟨(unhide HIn).ds, hv64, (unhide HIn).kind, (unhide HIn).it, (unhide HIn).is, (unhide HIn).rt, (unhide HIn).rs, (unhide HIn).site, (unhide HIn).deps, (unhide HIn).text, (unhide HIn).gone, (unhide HIn).many⟩)
            unfold chkO at HN
            rw [hE] at HN
            have HBt := hide hB'
            obtain ⟨x0', x1', x2', x3', x4', x5', x6', x7', x8', x9', x10'⟩ := cells_op hx'
            have xl' := hx'.lt
            clear HCx hB' hx' hE
            simp only [reduceIte, Bool.false_eq_true] at HN
            go_wp2_with fail
            refine (unhide HN).mono ?_
            rintro r W8 ⟨rfl, hb8⟩
            have HB8 := hide (bnext (unhide HBt) hb8)
            clear hb8
            go_wp2_with fail
            refine (unhide HK _).mono ?_
            rintro r W9 ⟨rfl, hb9⟩
            go_wp2
            go_ret
            exact ⟨rfl, bnext (unhide HB8) hb9⟩
          · have h1q : (n2 == o.dq) = false := by simp [h1]
            try simp [h1] at hed
            try simp at hed
            subst hed
            have HN := hide (unhide HCx { o with dq := n2 } (.slice ad o.deps.length cd) (.slice ag o.gone.length cg) (wr.setCell ⟨bx, 1, none⟩ (.int .i64 n2)) ((unhide Hd).below hB') (RC.below (unhide Hg) hB') ⟨(unhide HIn).ds, hv64, (unhide HIn).kind, (unhide HIn).it, (unhide HIn).is, (unhide HIn).rt, (unhide HIn).rs, (unhide HIn).site, (unhide HIn).deps, (unhide HIn).text, (unhide HIn).gone, (unhide HIn).many⟩)
            unfold chkO at HN
            rw [hE] at HN
            have HBt := hide hB'
            obtain ⟨x0', x1', x2', x3', x4', x5', x6', x7', x8', x9', x10'⟩ := cells_op hx'
            have xl' := hx'.lt
            clear HCx hB' hx' hE
            simp only [reduceIte, Bool.false_eq_true] at HN
            go_wp2_with fail
            refine (unhide HN).mono ?_
            rintro r W8 ⟨rfl, hb8⟩
            have HB8 := hide (bnext (unhide HBt) hb8)
            clear hb8
            go_wp2_with fail
            refine (unhide HK _).mono ?_
            rintro r W9 ⟨rfl, hb9⟩
            go_wp2
            go_ret
            exact ⟨rfl, bnext (unhide HB8) hb9⟩
        · by_cases c2 : n1 = 2
          · subst c2
            have hx' : Bx (wr.setCell ⟨bx, 10, none⟩ (.int .i64 n2)) bx 30 #[.int .i64 o.ds, .int .i64 o.dq, .slice ad o.deps.length cd, .int .i64 o.kind, .int .i64 o.it, .int .i64 o.is, .int .i64 o.rt, .int .i64 o.rs, .string o.text, .slice ag o.gone.length cg, .int .i64 n2] := by simpa using (unhide HBX).set 10 (.int .i64 n2)
            have hB' : Below w.heap.size w (wr.setCell ⟨bx, 10, none⟩ (.int .i64 n2)) := (Kp.set (N := fun k => k = bx) wr ⟨bx, 10, none⟩ (.int .i64 n2) rfl).below (unhide HBW) (fun i e => by omega)
            have xo := (unhide HBO).kp (Kp.set (N := fun k => k = bx) wr ⟨bx, 10, none⟩ (.int .i64 n2) rfl) (by omega)
            obtain ⟨w0', w1', w2', w3', w4', w5', w6', w7', w8', w9', w10'⟩ := cells_op xo
            have hed := edge_site (unhide Hok) n2
            obtain ⟨E, hE⟩ : ∃ E, okO { o with site := n2 } = E := ⟨_, rfl⟩
            rw [hE] at hed
            clear xo HBO HBX
            by_cases h1 : n2 = o.site
            · try simp [h1] at hed
              subst h1
              try simp at hed
              subst hed
              have HN := hide (unhide HCx { o with site := (o.site) } (.slice ad o.deps.length cd) (.slice ag o.gone.length cg) (wr.setCell ⟨bx, 10, none⟩ (.int .i64 (o.site))) ((unhide Hd).below hB') (RC.below (unhide Hg) hB') ⟨(unhide HIn).ds, (unhide HIn).dq, (unhide HIn).kind, (unhide HIn).it, (unhide HIn).is, (unhide HIn).rt, (unhide HIn).rs, hv64, (unhide HIn).deps, (unhide HIn).text, (unhide HIn).gone, (unhide HIn).many⟩)
              unfold chkO at HN
              rw [hE] at HN
              have HBt := hide hB'
              obtain ⟨x0', x1', x2', x3', x4', x5', x6', x7', x8', x9', x10'⟩ := cells_op hx'
              have xl' := hx'.lt
              clear HCx hB' hx' hE
              simp only [reduceIte, Bool.false_eq_true] at HN
              go_wp2_with fail
              refine (unhide HN).mono ?_
              rintro r W8 ⟨rfl, hb8⟩
              have HB8 := hide (bnext (unhide HBt) hb8)
              clear hb8
              go_wp2_with fail
              refine (unhide HK _).mono ?_
              rintro r W9 ⟨rfl, hb9⟩
              go_wp2
              go_ret
              exact ⟨rfl, bnext (unhide HB8) hb9⟩
            · have h1q : (n2 == o.site) = false := by simp [h1]
              try simp [h1] at hed
              by_cases h2 : o.kind = 3
              · have h2q : (o.kind == 3) = true := by simp [h2]
                try simp [h2] at hed
                clear h2
                by_cases h3 : 1 ≤ n2
                · try simp [h3] at hed
                  by_cases h4 : n2 ≤ 16
                  · try simp [h4] at hed
                    try simp at hed
                    subst hed
                    have HN := hide (unhide HCx { o with site := n2 } (.slice ad o.deps.length cd) (.slice ag o.gone.length cg) (wr.setCell ⟨bx, 10, none⟩ (.int .i64 n2)) ((unhide Hd).below hB') (RC.below (unhide Hg) hB') ⟨(unhide HIn).ds, (unhide HIn).dq, (unhide HIn).kind, (unhide HIn).it, (unhide HIn).is, (unhide HIn).rt, (unhide HIn).rs, hv64, (unhide HIn).deps, (unhide HIn).text, (unhide HIn).gone, (unhide HIn).many⟩)
                    unfold chkO at HN
                    rw [hE] at HN
                    have HBt := hide hB'
                    obtain ⟨x0', x1', x2', x3', x4', x5', x6', x7', x8', x9', x10'⟩ := cells_op hx'
                    have xl' := hx'.lt
                    clear HCx hB' hx' hE
                    simp only [reduceIte, Bool.false_eq_true] at HN
                    go_wp2_with fail
                    refine (unhide HN).mono ?_
                    rintro r W8 ⟨rfl, hb8⟩
                    have HB8 := hide (bnext (unhide HBt) hb8)
                    clear hb8
                    go_wp2_with fail
                    refine (unhide HK _).mono ?_
                    rintro r W9 ⟨rfl, hb9⟩
                    go_wp2
                    go_ret
                    exact ⟨rfl, bnext (unhide HB8) hb9⟩
                  · try simp [h4] at hed
                    try simp at hed
                    subst hed
                    have HN := hide (unhide HCx { o with site := n2 } (.slice ad o.deps.length cd) (.slice ag o.gone.length cg) (wr.setCell ⟨bx, 10, none⟩ (.int .i64 n2)) ((unhide Hd).below hB') (RC.below (unhide Hg) hB') ⟨(unhide HIn).ds, (unhide HIn).dq, (unhide HIn).kind, (unhide HIn).it, (unhide HIn).is, (unhide HIn).rt, (unhide HIn).rs, hv64, (unhide HIn).deps, (unhide HIn).text, (unhide HIn).gone, (unhide HIn).many⟩)
                    unfold chkO at HN
                    rw [hE] at HN
                    have HBt := hide hB'
                    obtain ⟨x0', x1', x2', x3', x4', x5', x6', x7', x8', x9', x10'⟩ := cells_op hx'
                    have xl' := hx'.lt
                    clear HCx hB' hx' hE
                    simp only [reduceIte, Bool.false_eq_true] at HN
                    go_wp2_with fail
                    refine (unhide HN).mono ?_
                    rintro r W8 ⟨rfl, hb8⟩
                    have HB8 := hide (bnext (unhide HBt) hb8)
                    clear hb8
                    go_wp2_with fail
                    refine (unhide HK _).mono ?_
                    rintro r W9 ⟨rfl, hb9⟩
                    go_wp2
                    go_ret
                    exact ⟨rfl, bnext (unhide HB8) hb9⟩
                · try simp [h3] at hed
                  try simp at hed
                  subst hed
                  have HN := hide (unhide HCx { o with site := n2 } (.slice ad o.deps.length cd) (.slice ag o.gone.length cg) (wr.setCell ⟨bx, 10, none⟩ (.int .i64 n2)) ((unhide Hd).below hB') (RC.below (unhide Hg) hB') ⟨(unhide HIn).ds, (unhide HIn).dq, (unhide HIn).kind, (unhide HIn).it, (unhide HIn).is, (unhide HIn).rt, (unhide HIn).rs, hv64, (unhide HIn).deps, (unhide HIn).text, (unhide HIn).gone, (unhide HIn).many⟩)
                  unfold chkO at HN
                  rw [hE] at HN
                  have HBt := hide hB'
                  obtain ⟨x0', x1', x2', x3', x4', x5', x6', x7', x8', x9', x10'⟩ := cells_op hx'
                  have xl' := hx'.lt
                  clear HCx hB' hx' hE
                  simp only [reduceIte, Bool.false_eq_true] at HN
                  go_wp2_with fail
                  refine (unhide HN).mono ?_
                  rintro r W8 ⟨rfl, hb8⟩
                  have HB8 := hide (bnext (unhide HBt) hb8)
                  clear hb8
                  go_wp2_with fail
                  refine (unhide HK _).mono ?_
                  rintro r W9 ⟨rfl, hb9⟩
                  go_wp2
                  go_ret
                  exact ⟨rfl, bnext (unhide HB8) hb9⟩
              · have h2q : (o.kind == 3) = false := by simp [h2]
                try simp [h2] at hed
                try simp at hed
                subst hed
                have HN := hide (unhide HCx { o with site := n2 } (.slice ad o.deps.length cd) (.slice ag o.gone.length cg) (wr.setCell ⟨bx, 10, none⟩ (.int .i64 n2)) ((unhide Hd).below hB') (RC.below (unhide Hg) hB') ⟨(unhide HIn).ds, (unhide HIn).dq, (unhide HIn).kind, (unhide HIn).it, (unhide HIn).is, (unhide HIn).rt, (unhide HIn).rs, hv64, (unhide HIn).deps, (unhide HIn).text, (unhide HIn).gone, (unhide HIn).many⟩)
                unfold chkO at HN
                rw [hE] at HN
                have HBt := hide hB'
                obtain ⟨x0', x1', x2', x3', x4', x5', x6', x7', x8', x9', x10'⟩ := cells_op hx'
                have xl' := hx'.lt
                clear HCx hB' hx' hE
                simp only [reduceIte, Bool.false_eq_true] at HN
                go_wp2_with fail
                refine (unhide HN).mono ?_
                rintro r W8 ⟨rfl, hb8⟩
                have HB8 := hide (bnext (unhide HBt) hb8)
                clear hb8
                go_wp2_with fail
                refine (unhide HK _).mono ?_
                rintro r W9 ⟨rfl, hb9⟩
                go_wp2
                go_ret
                exact ⟨rfl, bnext (unhide HB8) hb9⟩
          · by_cases c3 : n1 = 3
            · subst c3
              have hx' : Bx (wr.setCell ⟨bx, 4, none⟩ (.int .i64 n2)) bx 30 #[.int .i64 o.ds, .int .i64 o.dq, .slice ad o.deps.length cd, .int .i64 o.kind, .int .i64 n2, .int .i64 o.is, .int .i64 o.rt, .int .i64 o.rs, .string o.text, .slice ag o.gone.length cg, .int .i64 o.site] := by simpa using (unhide HBX).set 4 (.int .i64 n2)
              have hB' : Below w.heap.size w (wr.setCell ⟨bx, 4, none⟩ (.int .i64 n2)) := (Kp.set (N := fun k => k = bx) wr ⟨bx, 4, none⟩ (.int .i64 n2) rfl).below (unhide HBW) (fun i e => by omega)
              have xo := (unhide HBO).kp (Kp.set (N := fun k => k = bx) wr ⟨bx, 4, none⟩ (.int .i64 n2) rfl) (by omega)
              obtain ⟨w0', w1', w2', w3', w4', w5', w6', w7', w8', w9', w10'⟩ := cells_op xo
              have hed := edge_time (unhide Hok) n2
              obtain ⟨E, hE⟩ : ∃ E, okO { o with it := n2 } = E := ⟨_, rfl⟩
              rw [hE] at hed
              clear xo HBO HBX
              rw [unhide Hcnt] at hed
              by_cases h1 : n2 = o.it
              · try simp [h1] at hed
                subst h1
                try simp at hed
                subst hed
                have HN := hide (unhide HCx { o with it := (o.it) } (.slice ad o.deps.length cd) (.slice ag o.gone.length cg) (wr.setCell ⟨bx, 4, none⟩ (.int .i64 (o.it))) ((unhide Hd).below hB') (RC.below (unhide Hg) hB') ⟨(unhide HIn).ds, (unhide HIn).dq, (unhide HIn).kind, hv64, (unhide HIn).is, (unhide HIn).rt, (unhide HIn).rs, (unhide HIn).site, (unhide HIn).deps, (unhide HIn).text, (unhide HIn).gone, (unhide HIn).many⟩)
                unfold chkO at HN
                rw [hE] at HN
                have HBt := hide hB'
                obtain ⟨x0', x1', x2', x3', x4', x5', x6', x7', x8', x9', x10'⟩ := cells_op hx'
                have xl' := hx'.lt
                clear HCx hB' hx' hE
                simp only [reduceIte, Bool.false_eq_true] at HN
                go_wp2_with fail
                refine (unhide HN).mono ?_
                rintro r W8 ⟨rfl, hb8⟩
                have HB8 := hide (bnext (unhide HBt) hb8)
                clear hb8
                go_wp2_with fail
                refine (unhide HK _).mono ?_
                rintro r W9 ⟨rfl, hb9⟩
                go_wp2
                go_ret
                exact ⟨rfl, bnext (unhide HB8) hb9⟩
              · have h1q : (n2 == o.it) = false := by simp [h1]
                try simp [h1] at hed
                by_cases h2 : o.kind = 1
                · obtain rfl : ins = true := by rw [← hins]; simp [h2]
                  have h2q : (o.kind == 1) = true := by simp [h2]
                  try simp [h2] at hed
                  clear h2
                  by_cases h3 : o.rt < n2
                  · try simp [h3] at hed
                    by_cases h4 : 1 ≤ n2
                    · try simp [h4] at hed
                      by_cases h5 : n2 ≤ 2147483647 - (L : Int) + 1
                      · try simp [h5] at hed
                        try simp at hed
                        subst hed
                        have HN := hide (unhide HCx { o with it := n2 } (.slice ad o.deps.length cd) (.slice ag o.gone.length cg) (wr.setCell ⟨bx, 4, none⟩ (.int .i64 n2)) ((unhide Hd).below hB') (RC.below (unhide Hg) hB') ⟨(unhide HIn).ds, (unhide HIn).dq, (unhide HIn).kind, hv64, (unhide HIn).is, (unhide HIn).rt, (unhide HIn).rs, (unhide HIn).site, (unhide HIn).deps, (unhide HIn).text, (unhide HIn).gone, (unhide HIn).many⟩)
                        unfold chkO at HN
                        rw [hE] at HN
                        have HBt := hide hB'
                        obtain ⟨x0', x1', x2', x3', x4', x5', x6', x7', x8', x9', x10'⟩ := cells_op hx'
                        have xl' := hx'.lt
                        clear HCx hB' hx' hE
                        simp only [reduceIte, Bool.false_eq_true] at HN
                        go_wp2_with fail
                        refine (unhide HN).mono ?_
                        rintro r W8 ⟨rfl, hb8⟩
                        have HB8 := hide (bnext (unhide HBt) hb8)
                        clear hb8
                        go_wp2_with fail
                        refine (unhide HK _).mono ?_
                        rintro r W9 ⟨rfl, hb9⟩
                        go_wp2
                        go_ret
                        exact ⟨rfl, bnext (unhide HB8) hb9⟩
                      · try simp [h5] at hed
                        try simp at hed
                        subst hed
                        have HN := hide (unhide HCx { o with it := n2 } (.slice ad o.deps.length cd) (.slice ag o.gone.length cg) (wr.setCell ⟨bx, 4, none⟩ (.int .i64 n2)) ((unhide Hd).below hB') (RC.below (unhide Hg) hB') ⟨(unhide HIn).ds, (unhide HIn).dq, (unhide HIn).kind, hv64, (unhide HIn).is, (unhide HIn).rt, (unhide HIn).rs, (unhide HIn).site, (unhide HIn).deps, (unhide HIn).text, (unhide HIn).gone, (unhide HIn).many⟩)
                        unfold chkO at HN
                        rw [hE] at HN
                        have HBt := hide hB'
                        obtain ⟨x0', x1', x2', x3', x4', x5', x6', x7', x8', x9', x10'⟩ := cells_op hx'
                        have xl' := hx'.lt
                        clear HCx hB' hx' hE
                        simp only [reduceIte, Bool.false_eq_true] at HN
                        go_wp2_with fail
                        refine (unhide HN).mono ?_
                        rintro r W8 ⟨rfl, hb8⟩
                        have HB8 := hide (bnext (unhide HBt) hb8)
                        clear hb8
                        go_wp2_with fail
                        refine (unhide HK _).mono ?_
                        rintro r W9 ⟨rfl, hb9⟩
                        go_wp2
                        go_ret
                        exact ⟨rfl, bnext (unhide HB8) hb9⟩
                    · try simp [h4] at hed
                      try simp at hed
                      subst hed
                      have HN := hide (unhide HCx { o with it := n2 } (.slice ad o.deps.length cd) (.slice ag o.gone.length cg) (wr.setCell ⟨bx, 4, none⟩ (.int .i64 n2)) ((unhide Hd).below hB') (RC.below (unhide Hg) hB') ⟨(unhide HIn).ds, (unhide HIn).dq, (unhide HIn).kind, hv64, (unhide HIn).is, (unhide HIn).rt, (unhide HIn).rs, (unhide HIn).site, (unhide HIn).deps, (unhide HIn).text, (unhide HIn).gone, (unhide HIn).many⟩)
                      unfold chkO at HN
                      rw [hE] at HN
                      have HBt := hide hB'
                      obtain ⟨x0', x1', x2', x3', x4', x5', x6', x7', x8', x9', x10'⟩ := cells_op hx'
                      have xl' := hx'.lt
                      clear HCx hB' hx' hE
                      simp only [reduceIte, Bool.false_eq_true] at HN
                      go_wp2_with fail
                      refine (unhide HN).mono ?_
                      rintro r W8 ⟨rfl, hb8⟩
                      have HB8 := hide (bnext (unhide HBt) hb8)
                      clear hb8
                      go_wp2_with fail
                      refine (unhide HK _).mono ?_
                      rintro r W9 ⟨rfl, hb9⟩
                      go_wp2
                      go_ret
                      exact ⟨rfl, bnext (unhide HB8) hb9⟩
                  · try simp [h3] at hed
                    try simp at hed
                    subst hed
                    have HN := hide (unhide HCx { o with it := n2 } (.slice ad o.deps.length cd) (.slice ag o.gone.length cg) (wr.setCell ⟨bx, 4, none⟩ (.int .i64 n2)) ((unhide Hd).below hB') (RC.below (unhide Hg) hB') ⟨(unhide HIn).ds, (unhide HIn).dq, (unhide HIn).kind, hv64, (unhide HIn).is, (unhide HIn).rt, (unhide HIn).rs, (unhide HIn).site, (unhide HIn).deps, (unhide HIn).text, (unhide HIn).gone, (unhide HIn).many⟩)
                    unfold chkO at HN
                    rw [hE] at HN
                    have HBt := hide hB'
                    obtain ⟨x0', x1', x2', x3', x4', x5', x6', x7', x8', x9', x10'⟩ := cells_op hx'
                    have xl' := hx'.lt
                    clear HCx hB' hx' hE
                    simp only [reduceIte, Bool.false_eq_true] at HN
                    go_wp2_with fail
                    refine (unhide HN).mono ?_
                    rintro r W8 ⟨rfl, hb8⟩
                    have HB8 := hide (bnext (unhide HBt) hb8)
                    clear hb8
                    go_wp2_with fail
                    refine (unhide HK _).mono ?_
                    rintro r W9 ⟨rfl, hb9⟩
                    go_wp2
                    go_ret
                    exact ⟨rfl, bnext (unhide HB8) hb9⟩
                · obtain rfl : ins = false := by rw [← hins]; simp [h2]
                  have h2q : (o.kind == 1) = false := by simp [h2]
                  try simp [h2] at hed
                  try simp at hed
                  subst hed
                  have HN := hide (unhide HCx { o with it := n2 } (.slice ad o.deps.length cd) (.slice ag o.gone.length cg) (wr.setCell ⟨bx, 4, none⟩ (.int .i64 n2)) ((unhide Hd).below hB') (RC.below (unhide Hg) hB') ⟨(unhide HIn).ds, (unhide HIn).dq, (unhide HIn).kind, hv64, (unhide HIn).is, (unhide HIn).rt, (unhide HIn).rs, (unhide HIn).site, (unhide HIn).deps, (unhide HIn).text, (unhide HIn).gone, (unhide HIn).many⟩)
                  unfold chkO at HN
                  rw [hE] at HN
                  have HBt := hide hB'
                  obtain ⟨x0', x1', x2', x3', x4', x5', x6', x7', x8', x9', x10'⟩ := cells_op hx'
                  have xl' := hx'.lt
                  clear HCx hB' hx' hE
                  simp only [reduceIte, Bool.false_eq_true] at HN
                  go_wp2_with fail
                  refine (unhide HN).mono ?_
                  rintro r W8 ⟨rfl, hb8⟩
                  have HB8 := hide (bnext (unhide HBt) hb8)
                  clear hb8
                  go_wp2_with fail
                  refine (unhide HK _).mono ?_
                  rintro r W9 ⟨rfl, hb9⟩
                  go_wp2
                  go_ret
                  exact ⟨rfl, bnext (unhide HB8) hb9⟩
            · by_cases c4 : n1 = 4
              · subst c4
                have hx' : Bx (wr.setCell ⟨bx, 5, none⟩ (.int .i64 n2)) bx 30 #[.int .i64 o.ds, .int .i64 o.dq, .slice ad o.deps.length cd, .int .i64 o.kind, .int .i64 o.it, .int .i64 n2, .int .i64 o.rt, .int .i64 o.rs, .string o.text, .slice ag o.gone.length cg, .int .i64 o.site] := by simpa using (unhide HBX).set 5 (.int .i64 n2)
                have hB' : Below w.heap.size w (wr.setCell ⟨bx, 5, none⟩ (.int .i64 n2)) := (Kp.set (N := fun k => k = bx) wr ⟨bx, 5, none⟩ (.int .i64 n2) rfl).below (unhide HBW) (fun i e => by omega)
                have xo := (unhide HBO).kp (Kp.set (N := fun k => k = bx) wr ⟨bx, 5, none⟩ (.int .i64 n2) rfl) (by omega)
                obtain ⟨w0', w1', w2', w3', w4', w5', w6', w7', w8', w9', w10'⟩ := cells_op xo
                have hed := edge_isite (unhide Hok) n2
                obtain ⟨E, hE⟩ : ∃ E, okO { o with is := n2 } = E := ⟨_, rfl⟩
                rw [hE] at hed
                clear xo HBO HBX
                by_cases h1 : n2 = o.is
                · try simp [h1] at hed
                  subst h1
                  try simp at hed
                  subst hed
                  have HN := hide (unhide HCx { o with is := (o.is) } (.slice ad o.deps.length cd) (.slice ag o.gone.length cg) (wr.setCell ⟨bx, 5, none⟩ (.int .i64 (o.is))) ((unhide Hd).below hB') (RC.below (unhide Hg) hB') ⟨(unhide HIn).ds, (unhide HIn).dq, (unhide HIn).kind, (unhide HIn).it, hv64, (unhide HIn).rt, (unhide HIn).rs, (unhide HIn).site, (unhide HIn).deps, (unhide HIn).text, (unhide HIn).gone, (unhide HIn).many⟩)
                  unfold chkO at HN
                  rw [hE] at HN
                  have HBt := hide hB'
                  obtain ⟨x0', x1', x2', x3', x4', x5', x6', x7', x8', x9', x10'⟩ := cells_op hx'
                  have xl' := hx'.lt
                  clear HCx hB' hx' hE
                  simp only [reduceIte, Bool.false_eq_true] at HN
                  go_wp2_with fail
                  refine (unhide HN).mono ?_
                  rintro r W8 ⟨rfl, hb8⟩
                  have HB8 := hide (bnext (unhide HBt) hb8)
                  clear hb8
                  go_wp2_with fail
                  refine (unhide HK _).mono ?_
                  rintro r W9 ⟨rfl, hb9⟩
                  go_wp2
                  go_ret
                  exact ⟨rfl, bnext (unhide HB8) hb9⟩
                · have h1q : (n2 == o.is) = false := by simp [h1]
                  try simp [h1] at hed
                  try simp at hed
                  subst hed
                  have HN := hide (unhide HCx { o with is := n2 } (.slice ad o.deps.length cd) (.slice ag o.gone.length cg) (wr.setCell ⟨bx, 5, none⟩ (.int .i64 n2)) ((unhide Hd).below hB') (RC.below (unhide Hg) hB') ⟨(unhide HIn).ds, (unhide HIn).dq, (unhide HIn).kind, (unhide HIn).it, hv64, (unhide HIn).rt, (unhide HIn).rs, (unhide HIn).site, (unhide HIn).deps, (unhide HIn).text, (unhide HIn).gone, (unhide HIn).many⟩)
                  unfold chkO at HN
                  rw [hE] at HN
                  have HBt := hide hB'
                  obtain ⟨x0', x1', x2', x3', x4', x5', x6', x7', x8', x9', x10'⟩ := cells_op hx'
                  have xl' := hx'.lt
                  clear HCx hB' hx' hE
                  simp only [reduceIte, Bool.false_eq_true] at HN
                  go_wp2_with fail
                  refine (unhide HN).mono ?_
                  rintro r W8 ⟨rfl, hb8⟩
                  have HB8 := hide (bnext (unhide HBt) hb8)
                  clear hb8
                  go_wp2_with fail
                  refine (unhide HK _).mono ?_
                  rintro r W9 ⟨rfl, hb9⟩
                  go_wp2
                  go_ret
                  exact ⟨rfl, bnext (unhide HB8) hb9⟩
              · by_cases c5 : n1 = 5
                · subst c5
                  have hx' : Bx (wr.setCell ⟨bx, 6, none⟩ (.int .i64 n2)) bx 30 #[.int .i64 o.ds, .int .i64 o.dq, .slice ad o.deps.length cd, .int .i64 o.kind, .int .i64 o.it, .int .i64 o.is, .int .i64 n2, .int .i64 o.rs, .string o.text, .slice ag o.gone.length cg, .int .i64 o.site] := by simpa using (unhide HBX).set 6 (.int .i64 n2)
                  have hB' : Below w.heap.size w (wr.setCell ⟨bx, 6, none⟩ (.int .i64 n2)) := (Kp.set (N := fun k => k = bx) wr ⟨bx, 6, none⟩ (.int .i64 n2) rfl).below (unhide HBW) (fun i e => by omega)
                  have xo := (unhide HBO).kp (Kp.set (N := fun k => k = bx) wr ⟨bx, 6, none⟩ (.int .i64 n2) rfl) (by omega)
                  obtain ⟨w0', w1', w2', w3', w4', w5', w6', w7', w8', w9', w10'⟩ := cells_op xo
                  have hed := edge_rtime (unhide Hok) n2
                  obtain ⟨E, hE⟩ : ∃ E, okO { o with rt := n2 } = E := ⟨_, rfl⟩
                  rw [hE] at hed
                  clear xo HBO HBX
                  go_upto_region 30 with fail
                  obtain ⟨bg, hbg⟩ : ∃ b, (decide (n2 = 0) && decide (o.rs = 0)) = b := ⟨_, rfl⟩
                  go_cut [11] from 149 to 156 (fun v wx => v = .bool bg ∧ wx = (wr.setCell ⟨bx, 6, none⟩ (.int .i64 n2)))
                  case first =>
                    clear HCx HK HIn Hd Hg Hok hx' hB' hed hE
                    by_cases h6 : n2 = 0
                    · try simp [h6] at hed
                      subst h6
                      by_cases h7 : o.rs = 0
                      · have h7q : (o.rs == 0) = true := by simp [h7]
                        try simp [h7] at hed
                        clear h7
                        go_wp2
                        go_meet
                        exact ⟨by rw [← hbg]; first | (simp []; done) | (have h7 := h7q; simp at h7; simp [h7]), rfl⟩
                      · have h7q : (o.rs == 0) = false := by simp [h7]
                        try simp [h7] at hed
                        go_wp2
                        go_meet
                        exact ⟨by rw [← hbg]; first | (simp [h7]; done) | (have h7 := h7q; simp at h7; simp [h7]), rfl⟩
                    · have h6q : (n2 == 0) = false := by simp [h6]
                      try simp [h6] at hed
                      go_wp2
                      go_meet
                      exact ⟨by rw [← hbg]; first | (simp [h6]; done) | (have h7 := h7q; simp at h7; simp [h7]), rfl⟩
                  case rest =>
                  obtain ⟨rfl, rfl⟩ := hcut
                  rw [hbg] at hed
                  by_cases h1 : n2 = o.rt
                  · try simp [h1] at hed
                    subst h1
                    try simp at hed
                    subst hed
                    have HN := hide (unhide HCx { o with rt := (o.rt) } (.slice ad o.deps.length cd) (.slice ag o.gone.length cg) (wr.setCell ⟨bx, 6, none⟩ (.int .i64 (o.rt))) ((unhide Hd).below hB') (RC.below (unhide Hg) hB') ⟨(unhide HIn).ds, (unhide HIn).dq, (unhide HIn).kind, (unhide HIn).it, (unhide HIn).is, hv64, (unhide HIn).rs, (unhide HIn).site, (unhide HIn).deps, (unhide HIn).text, (unhide HIn).gone, (unhide HIn).many⟩)
                    unfold chkO at HN
                    rw [hE] at HN
                    have HBt := hide hB'
                    obtain ⟨x0', x1', x2', x3', x4', x5', x6', x7', x8', x9', x10'⟩ := cells_op hx'
                    have xl' := hx'.lt
                    clear HCx hB' hx' hE
                    simp only [reduceIte, Bool.false_eq_true] at HN
                    go_wp2_with fail
                    refine (unhide HN).mono ?_
                    rintro r W8 ⟨rfl, hb8⟩
                    have HB8 := hide (bnext (unhide HBt) hb8)
                    clear hb8
                    go_wp2_with fail
                    refine (unhide HK _).mono ?_
                    rintro r W9 ⟨rfl, hb9⟩
                    go_wp2
                    go_ret
                    exact ⟨rfl, bnext (unhide HB8) hb9⟩
                  · have h1q : (n2 == o.rt) = false := by simp [h1]
                    try simp [h1] at hed
                    by_cases h2 : o.kind = 1
                    · obtain rfl : ins = true := by rw [← hins]; simp [h2]
                      have h2q : (o.kind == 1) = true := by simp [h2]
                      try simp [h2] at hed
                      clear h2
                      by_cases h3 : n2 < o.it
                      · try simp [h3] at hed
                        cases bg with
                        | true =>
                          try simp at hed
                          subst hed
                          have HN := hide (unhide HCx { o with rt := n2 } (.slice ad o.deps.length cd) (.slice ag o.gone.length cg) (wr.setCell ⟨bx, 6, none⟩ (.int .i64 n2)) ((unhide Hd).below hB') (RC.below (unhide Hg) hB') ⟨(unhide HIn).ds, (unhide HIn).dq, (unhide HIn).kind, (unhide HIn).it, (unhide HIn).is, hv64, (unhide HIn).rs, (unhide HIn).site, (unhide HIn).deps, (unhide HIn).text, (unhide HIn).gone, (unhide HIn).many⟩)
                          unfold chkO at HN
                          rw [hE] at HN
                          have HBt := hide hB'
                          obtain ⟨x0', x1', x2', x3', x4', x5', x6', x7', x8', x9', x10'⟩ := cells_op hx'
                          have xl' := hx'.lt
                          clear HCx hB' hx' hE
                          simp only [reduceIte, Bool.false_eq_true] at HN
                          go_wp2_with fail
                          refine (unhide HN).mono ?_
                          rintro r W8 ⟨rfl, hb8⟩
                          have HB8 := hide (bnext (unhide HBt) hb8)
                          clear hb8
                          go_wp2_with fail
                          refine (unhide HK _).mono ?_
                          rintro r W9 ⟨rfl, hb9⟩
                          go_wp2
                          go_ret
                          exact ⟨rfl, bnext (unhide HB8) hb9⟩
                        | false =>
                          by_cases h4 : 1 ≤ n2
                          · try simp [h4] at hed
                            by_cases h5 : 1 ≤ o.rs
                            · try simp [h5] at hed
                              try simp at hed
                              subst hed
                              have HN := hide (unhide HCx { o with rt := n2 } (.slice ad o.deps.length cd) (.slice ag o.gone.length cg) (wr.setCell ⟨bx, 6, none⟩ (.int .i64 n2)) ((unhide Hd).below hB') (RC.below (unhide Hg) hB') ⟨(unhide HIn).ds, (unhide HIn).dq, (unhide HIn).kind, (unhide HIn).it, (unhide HIn).is, hv64, (unhide HIn).rs, (unhide HIn).site, (unhide HIn).deps, (unhide HIn).text, (unhide HIn).gone, (unhide HIn).many⟩)
                              unfold chkO at HN
                              rw [hE] at HN
                              have HBt := hide hB'
                              obtain ⟨x0', x1', x2', x3', x4', x5', x6', x7', x8', x9', x10'⟩ := cells_op hx'
                              have xl' := hx'.lt
                              clear HCx hB' hx' hE
                              simp only [reduceIte, Bool.false_eq_true] at HN
                              go_wp2_with fail
                              refine (unhide HN).mono ?_
                              rintro r W8 ⟨rfl, hb8⟩
                              have HB8 := hide (bnext (unhide HBt) hb8)
                              clear hb8
                              go_wp2_with fail
                              refine (unhide HK _).mono ?_
                              rintro r W9 ⟨rfl, hb9⟩
                              go_wp2
                              go_ret
                              exact ⟨rfl, bnext (unhide HB8) hb9⟩
                            · try simp [h5] at hed
                              try simp at hed
                              subst hed
                              have HN := hide (unhide HCx { o with rt := n2 } (.slice ad o.deps.length cd) (.slice ag o.gone.length cg) (wr.setCell ⟨bx, 6, none⟩ (.int .i64 n2)) ((unhide Hd).below hB') (RC.below (unhide Hg) hB') ⟨(unhide HIn).ds, (unhide HIn).dq, (unhide HIn).kind, (unhide HIn).it, (unhide HIn).is, hv64, (unhide HIn).rs, (unhide HIn).site, (unhide HIn).deps, (unhide HIn).text, (unhide HIn).gone, (unhide HIn).many⟩)
                              unfold chkO at HN
                              rw [hE] at HN
                              have HBt := hide hB'
                              obtain ⟨x0', x1', x2', x3', x4', x5', x6', x7', x8', x9', x10'⟩ := cells_op hx'
                              have xl' := hx'.lt
                              clear HCx hB' hx' hE
                              simp only [reduceIte, Bool.false_eq_true] at HN
                              go_wp2_with fail
                              refine (unhide HN).mono ?_
                              rintro r W8 ⟨rfl, hb8⟩
                              have HB8 := hide (bnext (unhide HBt) hb8)
                              clear hb8
                              go_wp2_with fail
                              refine (unhide HK _).mono ?_
                              rintro r W9 ⟨rfl, hb9⟩
                              go_wp2
                              go_ret
                              exact ⟨rfl, bnext (unhide HB8) hb9⟩
                          · try simp [h4] at hed
                            try simp at hed
                            subst hed
                            have HN := hide (unhide HCx { o with rt := n2 } (.slice ad o.deps.length cd) (.slice ag o.gone.length cg) (wr.setCell ⟨bx, 6, none⟩ (.int .i64 n2)) ((unhide Hd).below hB') (RC.below (unhide Hg) hB') ⟨(unhide HIn).ds, (unhide HIn).dq, (unhide HIn).kind, (unhide HIn).it, (unhide HIn).is, hv64, (unhide HIn).rs, (unhide HIn).site, (unhide HIn).deps, (unhide HIn).text, (unhide HIn).gone, (unhide HIn).many⟩)
                            unfold chkO at HN
                            rw [hE] at HN
                            have HBt := hide hB'
                            obtain ⟨x0', x1', x2', x3', x4', x5', x6', x7', x8', x9', x10'⟩ := cells_op hx'
                            have xl' := hx'.lt
                            clear HCx hB' hx' hE
                            simp only [reduceIte, Bool.false_eq_true] at HN
                            go_wp2_with fail
                            refine (unhide HN).mono ?_
                            rintro r W8 ⟨rfl, hb8⟩
                            have HB8 := hide (bnext (unhide HBt) hb8)
                            clear hb8
                            go_wp2_with fail
                            refine (unhide HK _).mono ?_
                            rintro r W9 ⟨rfl, hb9⟩
                            go_wp2
                            go_ret
                            exact ⟨rfl, bnext (unhide HB8) hb9⟩
                      · try simp [h3] at hed
                        try simp at hed
                        subst hed
                        have HN := hide (unhide HCx { o with rt := n2 } (.slice ad o.deps.length cd) (.slice ag o.gone.length cg) (wr.setCell ⟨bx, 6, none⟩ (.int .i64 n2)) ((unhide Hd).below hB') (RC.below (unhide Hg) hB') ⟨(unhide HIn).ds, (unhide HIn).dq, (unhide HIn).kind, (unhide HIn).it, (unhide HIn).is, hv64, (unhide HIn).rs, (unhide HIn).site, (unhide HIn).deps, (unhide HIn).text, (unhide HIn).gone, (unhide HIn).many⟩)
                        unfold chkO at HN
                        rw [hE] at HN
                        have HBt := hide hB'
                        obtain ⟨x0', x1', x2', x3', x4', x5', x6', x7', x8', x9', x10'⟩ := cells_op hx'
                        have xl' := hx'.lt
                        clear HCx hB' hx' hE
                        simp only [reduceIte, Bool.false_eq_true] at HN
                        go_wp2_with fail
                        refine (unhide HN).mono ?_
                        rintro r W8 ⟨rfl, hb8⟩
                        have HB8 := hide (bnext (unhide HBt) hb8)
                        clear hb8
                        go_wp2_with fail
                        refine (unhide HK _).mono ?_
                        rintro r W9 ⟨rfl, hb9⟩
                        go_wp2
                        go_ret
                        exact ⟨rfl, bnext (unhide HB8) hb9⟩
                    · obtain rfl : ins = false := by rw [← hins]; simp [h2]
                      have h2q : (o.kind == 1) = false := by simp [h2]
                      try simp [h2] at hed
                      try simp at hed
                      subst hed
                      have HN := hide (unhide HCx { o with rt := n2 } (.slice ad o.deps.length cd) (.slice ag o.gone.length cg) (wr.setCell ⟨bx, 6, none⟩ (.int .i64 n2)) ((unhide Hd).below hB') (RC.below (unhide Hg) hB') ⟨(unhide HIn).ds, (unhide HIn).dq, (unhide HIn).kind, (unhide HIn).it, (unhide HIn).is, hv64, (unhide HIn).rs, (unhide HIn).site, (unhide HIn).deps, (unhide HIn).text, (unhide HIn).gone, (unhide HIn).many⟩)
                      unfold chkO at HN
                      rw [hE] at HN
                      have HBt := hide hB'
                      obtain ⟨x0', x1', x2', x3', x4', x5', x6', x7', x8', x9', x10'⟩ := cells_op hx'
                      have xl' := hx'.lt
                      clear HCx hB' hx' hE
                      simp only [reduceIte, Bool.false_eq_true] at HN
                      go_wp2_with fail
                      refine (unhide HN).mono ?_
                      rintro r W8 ⟨rfl, hb8⟩
                      have HB8 := hide (bnext (unhide HBt) hb8)
                      clear hb8
                      go_wp2_with fail
                      refine (unhide HK _).mono ?_
                      rintro r W9 ⟨rfl, hb9⟩
                      go_wp2
                      go_ret
                      exact ⟨rfl, bnext (unhide HB8) hb9⟩
                · by_cases c6 : n1 = 6
                  · subst c6
                    have hx' : Bx (wr.setCell ⟨bx, 7, none⟩ (.int .i64 n2)) bx 30 #[.int .i64 o.ds, .int .i64 o.dq, .slice ad o.deps.length cd, .int .i64 o.kind, .int .i64 o.it, .int .i64 o.is, .int .i64 o.rt, .int .i64 n2, .string o.text, .slice ag o.gone.length cg, .int .i64 o.site] := by simpa using (unhide HBX).set 7 (.int .i64 n2)
                    have hB' : Below w.heap.size w (wr.setCell ⟨bx, 7, none⟩ (.int .i64 n2)) := (Kp.set (N := fun k => k = bx) wr ⟨bx, 7, none⟩ (.int .i64 n2) rfl).below (unhide HBW) (fun i e => by omega)
                    have xo := (unhide HBO).kp (Kp.set (N := fun k => k = bx) wr ⟨bx, 7, none⟩ (.int .i64 n2) rfl) (by omega)
                    obtain ⟨w0', w1', w2', w3', w4', w5', w6', w7', w8', w9', w10'⟩ := cells_op xo
                    have hed := edge_rsite (unhide Hok) n2
                    obtain ⟨E, hE⟩ : ∃ E, okO { o with rs := n2 } = E := ⟨_, rfl⟩
                    rw [hE] at hed
                    clear xo HBO HBX
                    go_upto_region 34 with fail
                    obtain ⟨bg, hbg⟩ : ∃ b, (decide (n2 = 0) && decide (o.rt = 0)) = b := ⟨_, rfl⟩
                    go_cut [12] from 190 to 197 (fun v wx => v = .bool bg ∧ wx = (wr.setCell ⟨bx, 7, none⟩ (.int .i64 n2)))
                    case first =>
                      clear HCx HK HIn Hd Hg Hok hx' hB' hed hE
                      by_cases h6 : n2 = 0
                      · try simp [h6] at hed
                        subst h6
                        by_cases h7 : o.rt = 0
                        · have h7q : (o.rt == 0) = true := by simp [h7]
                          try simp [h7] at hed
                          clear h7
                          go_wp2
                          go_meet
                          exact ⟨by rw [← hbg]; first | (simp []; done) | (have h7 := h7q; simp at h7; simp [h7]), rfl⟩
                        · have h7q : (o.rt == 0) = false := by simp [h7]
                          try simp [h7] at hed
                          go_wp2
                          go_meet
                          exact ⟨by rw [← hbg]; first | (simp [h7]; done) | (have h7 := h7q; simp at h7; simp [h7]), rfl⟩
                      · have h6q : (n2 == 0) = false := by simp [h6]
                        try simp [h6] at hed
                        go_wp2
                        go_meet
                        exact ⟨by rw [← hbg]; first | (simp [h6]; done) | (have h7 := h7q; simp at h7; simp [h7]), rfl⟩
                    case rest =>
                    obtain ⟨rfl, rfl⟩ := hcut
                    rw [hbg] at hed
                    by_cases h1 : n2 = o.rs
                    · try simp [h1] at hed
                      subst h1
                      try simp at hed
                      subst hed
                      have HN := hide (unhide HCx { o with rs := (o.rs) } (.slice ad o.deps.length cd) (.slice ag o.gone.length cg) (wr.setCell ⟨bx, 7, none⟩ (.int .i64 (o.rs))) ((unhide Hd).below hB') (RC.below (unhide Hg) hB') ⟨(unhide HIn).ds, (unhide HIn).dq, (unhide HIn).kind, (unhide HIn).it, (unhide HIn).is, (unhide HIn).rt, hv64, (unhide HIn).site, (unhide HIn).deps, (unhide HIn).text, (unhide HIn).gone, (unhide HIn).many⟩)
                      unfold chkO at HN
                      rw [hE] at HN
                      have HBt := hide hB'
                      obtain ⟨x0', x1', x2', x3', x4', x5', x6', x7', x8', x9', x10'⟩ := cells_op hx'
                      have xl' := hx'.lt
                      clear HCx hB' hx' hE
                      simp only [reduceIte, Bool.false_eq_true] at HN
                      go_wp2_with fail
                      refine (unhide HN).mono ?_
                      rintro r W8 ⟨rfl, hb8⟩
                      have HB8 := hide (bnext (unhide HBt) hb8)
                      clear hb8
                      go_wp2_with fail
                      refine (unhide HK _).mono ?_
                      rintro r W9 ⟨rfl, hb9⟩
                      go_wp2
                      go_ret
                      exact ⟨rfl, bnext (unhide HB8) hb9⟩
                    · have h1q : (n2 == o.rs) = false := by simp [h1]
                      try simp [h1] at hed
                      by_cases h2 : o.kind = 1
                      · obtain rfl : ins = true := by rw [← hins]; simp [h2]
                        have h2q : (o.kind == 1) = true := by simp [h2]
                        try simp [h2] at hed
                        clear h2
                        cases bg with
                        | true =>
                          try simp at hed
                          subst hed
                          have HN := hide (unhide HCx { o with rs := n2 } (.slice ad o.deps.length cd) (.slice ag o.gone.length cg) (wr.setCell ⟨bx, 7, none⟩ (.int .i64 n2)) ((unhide Hd).below hB') (RC.below (unhide Hg) hB') ⟨(unhide HIn).ds, (unhide HIn).dq, (unhide HIn).kind, (unhide HIn).it, (unhide HIn).is, (unhide HIn).rt, hv64, (unhide HIn).site, (unhide HIn).deps, (unhide HIn).text, (unhide HIn).gone, (unhide HIn).many⟩)
                          unfold chkO at HN
                          rw [hE] at HN
                          have HBt := hide hB'
                          obtain ⟨x0', x1', x2', x3', x4', x5', x6', x7', x8', x9', x10'⟩ := cells_op hx'
                          have xl' := hx'.lt
                          clear HCx hB' hx' hE
                          simp only [reduceIte, Bool.false_eq_true] at HN
                          go_wp2_with fail
                          refine (unhide HN).mono ?_
                          rintro r W8 ⟨rfl, hb8⟩
                          have HB8 := hide (bnext (unhide HBt) hb8)
                          clear hb8
                          go_wp2_with fail
                          refine (unhide HK _).mono ?_
                          rintro r W9 ⟨rfl, hb9⟩
                          go_wp2
                          go_ret
                          exact ⟨rfl, bnext (unhide HB8) hb9⟩
                        | false =>
                          by_cases h3 : 1 ≤ o.rt
                          · try simp [h3] at hed
                            by_cases h4 : 1 ≤ n2
                            · try simp [h4] at hed
                              by_cases h5 : n2 ≤ 16
                              · try simp [h5] at hed
                                try simp at hed
                                subst hed
                                have HN := hide (unhide HCx { o with rs := n2 } (.slice ad o.deps.length cd) (.slice ag o.gone.length cg) (wr.setCell ⟨bx, 7, none⟩ (.int .i64 n2)) ((unhide Hd).below hB') (RC.below (unhide Hg) hB') ⟨(unhide HIn).ds, (unhide HIn).dq, (unhide HIn).kind, (unhide HIn).it, (unhide HIn).is, (unhide HIn).rt, hv64, (unhide HIn).site, (unhide HIn).deps, (unhide HIn).text, (unhide HIn).gone, (unhide HIn).many⟩)
                                unfold chkO at HN
                                rw [hE] at HN
                                have HBt := hide hB'
                                obtain ⟨x0', x1', x2', x3', x4', x5', x6', x7', x8', x9', x10'⟩ := cells_op hx'
                                have xl' := hx'.lt
                                clear HCx hB' hx' hE
                                simp only [reduceIte, Bool.false_eq_true] at HN
                                go_wp2_with fail
                                refine (unhide HN).mono ?_
                                rintro r W8 ⟨rfl, hb8⟩
                                have HB8 := hide (bnext (unhide HBt) hb8)
                                clear hb8
                                go_wp2_with fail
                                refine (unhide HK _).mono ?_
                                rintro r W9 ⟨rfl, hb9⟩
                                go_wp2
                                go_ret
                                exact ⟨rfl, bnext (unhide HB8) hb9⟩
                              · try simp [h5] at hed
                                try simp at hed
                                subst hed
                                have HN := hide (unhide HCx { o with rs := n2 } (.slice ad o.deps.length cd) (.slice ag o.gone.length cg) (wr.setCell ⟨bx, 7, none⟩ (.int .i64 n2)) ((unhide Hd).below hB') (RC.below (unhide Hg) hB') ⟨(unhide HIn).ds, (unhide HIn).dq, (unhide HIn).kind, (unhide HIn).it, (unhide HIn).is, (unhide HIn).rt, hv64, (unhide HIn).site, (unhide HIn).deps, (unhide HIn).text, (unhide HIn).gone, (unhide HIn).many⟩)
                                unfold chkO at HN
                                rw [hE] at HN
                                have HBt := hide hB'
                                obtain ⟨x0', x1', x2', x3', x4', x5', x6', x7', x8', x9', x10'⟩ := cells_op hx'
                                have xl' := hx'.lt
                                clear HCx hB' hx' hE
                                simp only [reduceIte, Bool.false_eq_true] at HN
                                go_wp2_with fail
                                refine (unhide HN).mono ?_
                                rintro r W8 ⟨rfl, hb8⟩
                                have HB8 := hide (bnext (unhide HBt) hb8)
                                clear hb8
                                go_wp2_with fail
                                refine (unhide HK _).mono ?_
                                rintro r W9 ⟨rfl, hb9⟩
                                go_wp2
                                go_ret
                                exact ⟨rfl, bnext (unhide HB8) hb9⟩
                            · try simp [h4] at hed
                              try simp at hed
                              subst hed
                              have HN := hide (unhide HCx { o with rs := n2 } (.slice ad o.deps.length cd) (.slice ag o.gone.length cg) (wr.setCell ⟨bx, 7, none⟩ (.int .i64 n2)) ((unhide Hd).below hB') (RC.below (unhide Hg) hB') ⟨(unhide HIn).ds, (unhide HIn).dq, (unhide HIn).kind, (unhide HIn).it, (unhide HIn).is, (unhide HIn).rt, hv64, (unhide HIn).site, (unhide HIn).deps, (unhide HIn).text, (unhide HIn).gone, (unhide HIn).many⟩)
                              unfold chkO at HN
                              rw [hE] at HN
                              have HBt := hide hB'
                              obtain ⟨x0', x1', x2', x3', x4', x5', x6', x7', x8', x9', x10'⟩ := cells_op hx'
                              have xl' := hx'.lt
                              clear HCx hB' hx' hE
                              simp only [reduceIte, Bool.false_eq_true] at HN
                              go_wp2_with fail
                              refine (unhide HN).mono ?_
                              rintro r W8 ⟨rfl, hb8⟩
                              have HB8 := hide (bnext (unhide HBt) hb8)
                              clear hb8
                              go_wp2_with fail
                              refine (unhide HK _).mono ?_
                              rintro r W9 ⟨rfl, hb9⟩
                              go_wp2
                              go_ret
                              exact ⟨rfl, bnext (unhide HB8) hb9⟩
                          · try simp [h3] at hed
                            try simp at hed
                            subst hed
                            have HN := hide (unhide HCx { o with rs := n2 } (.slice ad o.deps.length cd) (.slice ag o.gone.length cg) (wr.setCell ⟨bx, 7, none⟩ (.int .i64 n2)) ((unhide Hd).below hB') (RC.below (unhide Hg) hB') ⟨(unhide HIn).ds, (unhide HIn).dq, (unhide HIn).kind, (unhide HIn).it, (unhide HIn).is, (unhide HIn).rt, hv64, (unhide HIn).site, (unhide HIn).deps, (unhide HIn).text, (unhide HIn).gone, (unhide HIn).many⟩)
                            unfold chkO at HN
                            rw [hE] at HN
                            have HBt := hide hB'
                            obtain ⟨x0', x1', x2', x3', x4', x5', x6', x7', x8', x9', x10'⟩ := cells_op hx'
                            have xl' := hx'.lt
                            clear HCx hB' hx' hE
                            simp only [reduceIte, Bool.false_eq_true] at HN
                            go_wp2_with fail
                            refine (unhide HN).mono ?_
                            rintro r W8 ⟨rfl, hb8⟩
                            have HB8 := hide (bnext (unhide HBt) hb8)
                            clear hb8
                            go_wp2_with fail
                            refine (unhide HK _).mono ?_
                            rintro r W9 ⟨rfl, hb9⟩
                            go_wp2
                            go_ret
                            exact ⟨rfl, bnext (unhide HB8) hb9⟩
                      · obtain rfl : ins = false := by rw [← hins]; simp [h2]
                        have h2q : (o.kind == 1) = false := by simp [h2]
                        try simp [h2] at hed
                        try simp at hed
                        subst hed
                        have HN := hide (unhide HCx { o with rs := n2 } (.slice ad o.deps.length cd) (.slice ag o.gone.length cg) (wr.setCell ⟨bx, 7, none⟩ (.int .i64 n2)) ((unhide Hd).below hB') (RC.below (unhide Hg) hB') ⟨(unhide HIn).ds, (unhide HIn).dq, (unhide HIn).kind, (unhide HIn).it, (unhide HIn).is, (unhide HIn).rt, hv64, (unhide HIn).site, (unhide HIn).deps, (unhide HIn).text, (unhide HIn).gone, (unhide HIn).many⟩)
                        unfold chkO at HN
                        rw [hE] at HN
                        have HBt := hide hB'
                        obtain ⟨x0', x1', x2', x3', x4', x5', x6', x7', x8', x9', x10'⟩ := cells_op hx'
                        have xl' := hx'.lt
                        clear HCx hB' hx' hE
                        simp only [reduceIte, Bool.false_eq_true] at HN
                        go_wp2_with fail
                        refine (unhide HN).mono ?_
                        rintro r W8 ⟨rfl, hb8⟩
                        have HB8 := hide (bnext (unhide HBt) hb8)
                        clear hb8
                        go_wp2_with fail
                        refine (unhide HK _).mono ?_
                        rintro r W9 ⟨rfl, hb9⟩
                        go_wp2
                        go_ret
                        exact ⟨rfl, bnext (unhide HB8) hb9⟩
                  · by_cases c7 : n1 = 7
                    · subst c7
                      have hx' : Bx (wr.setCell ⟨bx, 8, none⟩ (.string (o.text ++ ⟨#[195]⟩))) bx 30 #[.int .i64 o.ds, .int .i64 o.dq, .slice ad o.deps.length cd, .int .i64 o.kind, .int .i64 o.it, .int .i64 o.is, .int .i64 o.rt, .int .i64 o.rs, .string (o.text ++ ⟨#[195]⟩), .slice ag o.gone.length cg, .int .i64 o.site] := by simpa using (unhide HBX).set 8 (.string (o.text ++ ⟨#[195]⟩))
                      have hB' : Below w.heap.size w (wr.setCell ⟨bx, 8, none⟩ (.string (o.text ++ ⟨#[195]⟩))) := (Kp.set (N := fun k => k = bx) wr ⟨bx, 8, none⟩ (.string (o.text ++ ⟨#[195]⟩)) rfl).below (unhide HBW) (fun i e => by omega)
                      have xo := (unhide HBO).kp (Kp.set (N := fun k => k = bx) wr ⟨bx, 8, none⟩ (.string (o.text ++ ⟨#[195]⟩)) rfl) (by omega)
                      obtain ⟨w0', w1', w2', w3', w4', w5', w6', w7', w8', w9', w10'⟩ := cells_op xo
                      have hed := edge_c3 o
                      obtain ⟨E, hE⟩ : ∃ E, okO { o with text := o.text ++ ⟨#[195]⟩ } = E := ⟨_, rfl⟩
                      rw [hE] at hed
                      clear xo HBO HBX
                      subst hed
                      have HN := hide (unhide HCx { o with text := o.text ++ ⟨#[195]⟩ } (.slice ad o.deps.length cd) (.slice ag o.gone.length cg) (wr.setCell ⟨bx, 8, none⟩ (.string (o.text ++ ⟨#[195]⟩))) ((unhide Hd).below hB') (RC.below (unhide Hg) hB') ⟨(unhide HIn).ds, (unhide HIn).dq, (unhide HIn).kind, (unhide HIn).it, (unhide HIn).is, (unhide HIn).rt, (unhide HIn).rs, (unhide HIn).site, (unhide HIn).deps, (by show (o.text ++ (⟨#[195]⟩ : ByteArray)).size ≤ 140737488355328; rw [c3_size]; omega), (unhide HIn).gone, (unhide HIn).many⟩)
                      unfold chkO at HN
                      rw [hE] at HN
                      have HBt := hide hB'
                      obtain ⟨x0', x1', x2', x3', x4', x5', x6', x7', x8', x9', x10'⟩ := cells_op hx'
                      have xl' := hx'.lt
                      clear HCx hB' hx' hE
                      simp only [reduceIte, Bool.false_eq_true] at HN
                      go_wp2_with fail
                      refine (unhide HN).mono ?_
                      rintro r W8 ⟨rfl, hb8⟩
                      have HB8 := hide (bnext (unhide HBt) hb8)
                      clear hb8
                      go_wp2_with fail
                      refine (unhide HK _).mono ?_
                      rintro r W9 ⟨rfl, hb9⟩
                      go_wp2
                      go_ret
                      exact ⟨rfl, bnext (unhide HB8) hb9⟩
                    · by_cases c8 : n1 = 8
                      · subst c8
                        have hx' : Bx (wr.setCell ⟨bx, 8, none⟩ (.string ⟨#[]⟩)) bx 30 #[.int .i64 o.ds, .int .i64 o.dq, .slice ad o.deps.length cd, .int .i64 o.kind, .int .i64 o.it, .int .i64 o.is, .int .i64 o.rt, .int .i64 o.rs, .string ⟨#[]⟩, .slice ag o.gone.length cg, .int .i64 o.site] := by simpa using (unhide HBX).set 8 (.string ⟨#[]⟩)
                        have hB' : Below w.heap.size w (wr.setCell ⟨bx, 8, none⟩ (.string ⟨#[]⟩)) := (Kp.set (N := fun k => k = bx) wr ⟨bx, 8, none⟩ (.string ⟨#[]⟩) rfl).below (unhide HBW) (fun i e => by omega)
                        have xo := (unhide HBO).kp (Kp.set (N := fun k => k = bx) wr ⟨bx, 8, none⟩ (.string ⟨#[]⟩) rfl) (by omega)
                        obtain ⟨w0', w1', w2', w3', w4', w5', w6', w7', w8', w9', w10'⟩ := cells_op xo
                        have hed := edge_empty (unhide Hok)
                        obtain ⟨E, hE⟩ : ∃ E, okO { o with text := ⟨#[]⟩ } = E := ⟨_, rfl⟩
                        rw [hE] at hed
                        clear xo HBO HBX
                        have ht := text_empty o.text
                        by_cases h1 : o.text.size = 0
                        · rw [decide_eq_true h1] at ht hed
                          subst hed
                          have ht8 : o.text.toList.isEmpty = true := by rw [of_decide_eq_true ht]; simp [ByteArray.toList_eq]
                          clear ht
                          have HN := hide (unhide HCx { o with text := ⟨#[]⟩ } (.slice ad o.deps.length cd) (.slice ag o.gone.length cg) (wr.setCell ⟨bx, 8, none⟩ (.string ⟨#[]⟩)) ((unhide Hd).below hB') (RC.below (unhide Hg) hB') ⟨(unhide HIn).ds, (unhide HIn).dq, (unhide HIn).kind, (unhide HIn).it, (unhide HIn).is, (unhide HIn).rt, (unhide HIn).rs, (unhide HIn).site, (unhide HIn).deps, (by show (⟨#[]⟩ : ByteArray).size ≤ 140737488355328; decide), (unhide HIn).gone, (unhide HIn).many⟩)
                          unfold chkO at HN
                          rw [hE] at HN
                          have HBt := hide hB'
                          obtain ⟨x0', x1', x2', x3', x4', x5', x6', x7', x8', x9', x10'⟩ := cells_op hx'
                          have xl' := hx'.lt
                          clear HCx hB' hx' hE
                          simp only [reduceIte, Bool.false_eq_true] at HN
                          go_wp2_with fail
                          refine (unhide HN).mono ?_
                          rintro r W8 ⟨rfl, hb8⟩
                          have HB8 := hide (bnext (unhide HBt) hb8)
                          clear hb8
                          go_wp2_with fail
                          refine (unhide HK _).mono ?_
                          rintro r W9 ⟨rfl, hb9⟩
                          go_wp2
                          go_ret
                          exact ⟨rfl, bnext (unhide HB8) hb9⟩
                        · rw [decide_eq_false h1] at ht hed
                          subst hed
                          have ht8 : o.text.toList.isEmpty = false := toList_pos' (by omega)
                          clear ht
                          have HN := hide (unhide HCx { o with text := ⟨#[]⟩ } (.slice ad o.deps.length cd) (.slice ag o.gone.length cg) (wr.setCell ⟨bx, 8, none⟩ (.string ⟨#[]⟩)) ((unhide Hd).below hB') (RC.below (unhide Hg) hB') ⟨(unhide HIn).ds, (unhide HIn).dq, (unhide HIn).kind, (unhide HIn).it, (unhide HIn).is, (unhide HIn).rt, (unhide HIn).rs, (unhide HIn).site, (unhide HIn).deps, (by show (⟨#[]⟩ : ByteArray).size ≤ 140737488355328; decide), (unhide HIn).gone, (unhide HIn).many⟩)
                          unfold chkO at HN
                          rw [hE] at HN
                          have HBt := hide hB'
                          obtain ⟨x0', x1', x2', x3', x4', x5', x6', x7', x8', x9', x10'⟩ := cells_op hx'
                          have xl' := hx'.lt
                          clear HCx hB' hx' hE
                          simp only [reduceIte, Bool.false_eq_true] at HN
                          go_wp2_with fail
                          refine (unhide HN).mono ?_
                          rintro r W8 ⟨rfl, hb8⟩
                          have HB8 := hide (bnext (unhide HBt) hb8)
                          clear hb8
                          go_wp2_with fail
                          refine (unhide HK _).mono ?_
                          rintro r W9 ⟨rfl, hb9⟩
                          go_wp2
                          go_ret
                          exact ⟨rfl, bnext (unhide HB8) hb9⟩
                      · by_cases c9 : n1 = 9
                        · subst c9
                          obtain ⟨Z, hZ⟩ : ∃ Z, wr.alloc (.cells #[] 36) = Z := ⟨_, rfl⟩
                          have bZ : Below wr.heap.size wr Z := by rw [← hZ]; exact ballc (Below.refl _ _) _
                          have O1 : Z.ownsRow wr.heap.size 36 3 (.slice (some ⟨wr.heap.size, 0, none⟩) 0 0) ([] : List ((Int × Int) × Int)).length (flat encR []) := by rw [← hZ]; exact own_emptyR wr
                          obtain ⟨v7, W7, hr7, O2, hg7, hn7⟩ := app_runs Z 28 wr.heap.size _ (.slice ag o.gone.length cg) [] o.gone O1 (by simp) (RC.below (unhide Hg) (bnext (unhide HBW) bZ)) bZ.size (by simp) (by omega)
                          have B7 : Below wr.heap.size wr W7 := bZ.grown hg7 bZ.size (fun k e => by simp [Value.ownBlock] at e; omega)
                          obtain ⟨Z7, hZ7⟩ : ∃ Z, W7.alloc (.cells #[.int .i64 n2, .int .i64 0, .int .i64 1] 36) = Z := ⟨_, rfl⟩
                          have bZ7 : Below W7.heap.size W7 Z7 := by rw [← hZ7]; exact ballc (Below.refl _ _) _
                          have R7 : RR Z7 (.slice (some ⟨W7.heap.size, 0, none⟩) 1 1) [((n2, 0), 1)] := by rw [← hZ7]; exact RC.lit W7 36 #[.int .i64 n2, .int .i64 0, .int .i64 1] 1
                          have O2' : Z7.ownsRow wr.heap.size 36 3 v7 ([] ++ o.gone).length (flat encR ([] ++ o.gone)) := owns_kp (N := fun _ => False) O2 (Kp.of_below bZ7) (fun _ _ e => e)
                          obtain ⟨v8, W8, hr8, O3, hg8, hn8⟩ := app_runs Z7 28 wr.heap.size v7 _ ([] ++ o.gone) [((n2, 0), 1)] O2' hn7 R7 (Nat.le_trans B7.size bZ7.size) (by simp; omega) (by simp)
                          have B8 : Below wr.heap.size wr W8 := (bnext B7 bZ7).grown hg8 (bnext B7 bZ7).size (fun k e => (O2'.lt k e).1)
                          obtain ⟨n8, hn8e⟩ : ∃ n, (([] ++ o.gone) ++ [((n2, 0), (1 : Int))]).length = n := ⟨_, rfl⟩
                          rw [hn8e] at O3
                          obtain ⟨a8, c8, rfl⟩ := owns_form O3
                          obtain ⟨a7, c7, rfl⟩ := owns_form O2
                          have hx8 := (unhide HBX).below B8
                          obtain ⟨m0', m1', m2', m3', m4', m5', m6', m7', m8', m9', m10'⟩ := cells_op ((unhide HBO).below bZ)
                          have ml := ((unhide HBO).below bZ).lt
                          have hx' : Bx (W8.setCell ⟨bx, 9, none⟩ (.slice a8 n8 c8)) bx 30 #[.int .i64 o.ds, .int .i64 o.dq, .slice ad o.deps.length cd, .int .i64 o.kind, .int .i64 o.it, .int .i64 o.is, .int .i64 o.rt, .int .i64 o.rs, .string o.text, .slice a8 n8 c8, .int .i64 o.site] := by simpa using hx8.set 9 _
                          have kp9 := Kp.set (N := fun k => k = bx) W8 ⟨bx, 9, none⟩ (.slice a8 n8 c8) rfl
                          have hB' : Below w.heap.size w (W8.setCell ⟨bx, 9, none⟩ (.slice a8 n8 c8)) := kp9.below (bnext (unhide HBW) B8) (fun i e => by omega)
                          have hRR : RR (W8.setCell ⟨bx, 9, none⟩ (.slice a8 n8 c8)) (.slice a8 n8 c8) (([] ++ o.gone) ++ [((n2, 0), 1)]) := by
                            show RC _ _ (([] ++ o.gone) ++ [((n2, 0), (1 : Int))]).length _
                            rw [hn8e]
                            exact RC.of_owns (owns_kp O3 kp9 (fun i hi e => by have := (O3.lt i hi).1; omega))
                          obtain ⟨q0', q1', q2', q3', q4', q5', q6', q7', q8', q9', q10'⟩ := cells_op hx8
                          have qf := hx8.frozen 9
                          have ql := hx8.lt
                          have hed : okO { o with gone := ([] ++ o.gone) ++ [((n2, 0), 1)] } = false := edge_gone o n2
                          obtain ⟨E, hE⟩ : ∃ E, okO { o with gone := ([] ++ o.gone) ++ [((n2, 0), 1)] } = E := ⟨_, rfl⟩
                          rw [hE] at hed
                          subst hed
                          rw [List.nil_append] at hr7 hr8
                          have Hr7 := hide hr7
                          have Hr8 := hide hr8
                          have HRR := hide hRR
                          clear O1 O2 O2' O3 R7 hg7 hg8 hn7 hn8 B7 bZ bZ7 B8 hx8 kp9 hr7 hr8 HBO HBX hn8e hRR
                          have HN := hide (unhide HCx { o with gone := ([] ++ o.gone) ++ [((n2, 0), 1)] } (.slice ad o.deps.length cd) (.slice a8 n8 c8) (W8.setCell ⟨bx, 9, none⟩ (.slice a8 n8 c8)) ((unhide Hd).below hB') (unhide HRR) ⟨(unhide HIn).ds, (unhide HIn).dq, (unhide HIn).kind, (unhide HIn).it, (unhide HIn).is, (unhide HIn).rt, (unhide HIn).rs, (unhide HIn).site, (unhide HIn).deps, (unhide HIn).text, (fun r hr => by simp at hr; rcases hr with hr | rfl; exact (unhide HIn).gone r hr; exact ⟨⟨hv64, by constructor <;> simp⟩, by constructor <;> simp⟩), (by simp; omega)⟩)
                          unfold chkO at HN
                          rw [hE] at HN
                          have HBt := hide hB'
                          obtain ⟨x0', x1', x2', x3', x4', x5', x6', x7', x8', x9', x10'⟩ := cells_op hx'
                          have xl' := hx'.lt
                          clear HCx hB' hx' hE
                          simp only [reduceIte, Bool.false_eq_true] at HN
                          go_upto_region 42 with fail
                          clear hX hnx hit x0 x1 x2 x3 x4 x5 x6 x7 x8 x10 z0 z1 z2 z3 z4 z5 z6 z7 z8 z9 z10 g0 g1 g3 g4 g5 g6 g7 g8 g9 g10 m0' m1' m2' m3' m4' m5' m6' m7' m8' m10' HIn Hok Hd Hg HRR q0' q1' q2' q3' q4' q5' q6' q7' q8' q10'
                          go_wp2_with (at_builtin; first | (have Hr7' := Hr7; clear Hr7; refine wpList_append_eq rfl _ _ 28 rfl _ _ _ _ rfl rfl (unhide Hr7') ?_; clear Hr7') | refine wpList_append_eq rfl _ _ 28 rfl _ _ _ _ rfl rfl (unhide Hr8) ?_)
                          refine (unhide HN).mono ?_
                          rintro r W8 ⟨rfl, hb8⟩
                          have HB8 := hide (bnext (unhide HBt) hb8)
                          clear hb8
                          go_wp2_with fail
                          refine (unhide HK _).mono ?_
                          rintro r W9 ⟨rfl, hb9⟩
                          go_wp2
                          go_ret
                          exact ⟨rfl, bnext (unhide HB8) hb9⟩
                        · have c0q : (n1 == 0) = false := by simp [c0]
                          have c1q : (n1 == 1) = false := by simp [c1]
                          have c2q : (n1 == 2) = false := by simp [c2]
                          have c3q : (n1 == 3) = false := by simp [c3]
                          have c4q : (n1 == 4) = false := by simp [c4]
                          have c5q : (n1 == 5) = false := by simp [c5]
                          have c6q : (n1 == 6) = false := by simp [c6]
                          have c7q : (n1 == 7) = false := by simp [c7]
                          have c8q : (n1 == 8) = false := by simp [c8]
                          have c9q : (n1 == 9) = false := by simp [c9]
                          have hx' : Bx (wr.setCell ⟨bx, 0, none⟩ (.int .i64 n2)) bx 30 #[.int .i64 n2, .int .i64 o.dq, .slice ad o.deps.length cd, .int .i64 o.kind, .int .i64 o.it, .int .i64 o.is, .int .i64 o.rt, .int .i64 o.rs, .string o.text, .slice ag o.gone.length cg, .int .i64 o.site] := by simpa using (unhide HBX).set 0 (.int .i64 n2)
                          have hB' : Below w.heap.size w (wr.setCell ⟨bx, 0, none⟩ (.int .i64 n2)) := (Kp.set (N := fun k => k = bx) wr ⟨bx, 0, none⟩ (.int .i64 n2) rfl).below (unhide HBW) (fun i e => by omega)
                          have xo := (unhide HBO).kp (Kp.set (N := fun k => k = bx) wr ⟨bx, 0, none⟩ (.int .i64 n2) rfl) (by omega)
                          obtain ⟨w0', w1', w2', w3', w4', w5', w6', w7', w8', w9', w10'⟩ := cells_op xo
                          have hed := edge_dsite (unhide Hok) n2
                          obtain ⟨E, hE⟩ : ∃ E, okO { o with ds := n2 } = E := ⟨_, rfl⟩
                          rw [hE] at hed
                          clear xo HBO HBX
                          have hk1 : decide (o.kind = 1) = ins := by rw [← hins]; rfl
                          rw [hk1] at hed
                          obtain ⟨G, hG⟩ : ∃ G, getV o.deps n2 = G := ⟨_, rfl⟩
                          rw [hG] at hed
                          have HG := hide hG
                          have Hed := hide hed
                          have hdq1 := (OkN.of (unhide Hok)).dq
                          have hdeps := hide (OkN.of (unhide Hok)).deps
                          have HD' := hide ((unhide Hd).below hB')
                          have HG' := hide (RC.below (unhide Hg) hB')
                          have HX' := hide hx'
                          have HBt := hide hB'
                          have HE := hide hE
                          clear hk1 hG hed hx' hB' hE
                          obtain ⟨x0', x1', x2', x3', x4', x5', x6', x7', x8', x9', x10'⟩ := cells_op (unhide HX')
                          have xl' := (unhide HX').lt
                          have HN := hide (fun nq => unhide HCx { o with ds := n2 } (.slice ad o.deps.length cd) (.slice ag o.gone.length cg) ((wr.setCell ⟨bx, 0, none⟩ (.int .i64 n2)).drewN nq) ((unhide Hd).below (bdrew (unhide HBt) nq)) (RC.below (unhide Hg) (bdrew (unhide HBt) nq)) ⟨hv64, (unhide HIn).dq, (unhide HIn).kind, (unhide HIn).it, (unhide HIn).is, (unhide HIn).rt, (unhide HIn).rs, (unhide HIn).site, (unhide HIn).deps, (unhide HIn).text, (unhide HIn).gone, (unhide HIn).many⟩)
                          unfold chkO at HN
                          rw [unhide HE] at HN
                          clear HCx HX' HE HG' HIn Hd Hg Hok
                          by_cases h1 : n2 = o.ds
                          · subst h1
                            obtain rfl : E = true := by rw [unhide Hed]; simp
                            clear Hed
                            simp only [reduceIte] at HN
                            go_upto_region 12 with fail
                            go_quiet (fail)
                            go_wp2_with fail
                            refine (unhide HN _).mono ?_
                            rintro r W8 ⟨rfl, hb8⟩
                            have HB8 := hide (bnext (bdrew (unhide HBt) _) hb8)
                            clear hb8
                            go_wp2_with fail
                            refine (unhide HK _).mono ?_
                            rintro r W9 ⟨rfl, hb9⟩
                            go_wp2
                            go_ret
                            exact ⟨rfl, bnext (unhide HB8) hb9⟩
                          · have h1q : (n2 == o.ds) = false := by simp [h1]
                            cases ins with
                            | true =>
                              obtain rfl : E = false := by rw [unhide Hed]; simp [h1]
                              clear Hed h1
                              simp only [reduceIte, Bool.false_eq_true] at HN
                              go_upto_region 12 with fail
                              go_quiet (fail)
                              go_wp2_with fail
                              refine (unhide HN _).mono ?_
                              rintro r W8 ⟨rfl, hb8⟩
                              have HB8 := hide (bnext (bdrew (unhide HBt) _) hb8)
                              clear hb8
                              go_wp2_with fail
                              refine (unhide HK _).mono ?_
                              rintro r W9 ⟨rfl, hb9⟩
                              go_wp2
                              go_ret
                              exact ⟨rfl, bnext (unhide HB8) hb9⟩
                            | false =>
                              by_cases h3 : 1 ≤ n2
                              · by_cases h4 : n2 ≤ 16
                                · have HOf : ∀ W', (wr.setCell ⟨bx, 0, none⟩ (.int .i64 n2)).heap = W'.heap → Calls Try.prog 7 #[.slice ad o.deps.length cd, .int .i64 n2] W' fun e w2 => e = .returned (.int .i64 G) ∧ w2 = W' := fun W' hh => by
                                    have := of_in ad o.deps.length cd o.deps n2 W' (RC.heap (unhide HD') hh) rfl (by omega) (unhide hdeps) h3 h4
                                    rw [unhide HG] at this
                                    exact this
                                  replace HOf := hide HOf
                                  by_cases h5 : G = o.dq - 1
                                  · obtain rfl : E = true := by rw [unhide Hed]; simp [h1, h3, h4, h5]
                                    subst h5
                                    clear Hed h1
                                    simp only [reduceIte] at HN
                                    go_upto_region 12 with fail
                                    go_quiet ((go_at_call 7; exact Calls.quiet_of_same (unhide HOf _ rfl)))
                                    go_wp2_with fail
                                    refine (unhide HN _).mono ?_
                                    rintro r W8 ⟨rfl, hb8⟩
                                    have HB8 := hide (bnext (bdrew (unhide HBt) _) hb8)
                                    clear hb8
                                    go_wp2_with fail
                                    refine (unhide HK _).mono ?_
                                    rintro r W9 ⟨rfl, hb9⟩
                                    go_wp2
                                    go_ret
                                    exact ⟨rfl, bnext (unhide HB8) hb9⟩
                                  · obtain rfl : E = false := by rw [unhide Hed]; simp [h1, h3, h4, h5]
                                    have h5q : (G == o.dq - 1) = false := by simp [h5]
                                    clear Hed h1
                                    simp only [reduceIte, Bool.false_eq_true] at HN
                                    go_upto_region 12 with fail
                                    go_quiet ((go_at_call 7; exact Calls.quiet_of_same (unhide HOf _ rfl)))
                                    go_wp2_with fail
                                    refine (unhide HN _).mono ?_
                                    rintro r W8 ⟨rfl, hb8⟩
                                    have HB8 := hide (bnext (bdrew (unhide HBt) _) hb8)
                                    clear hb8
                                    go_wp2_with fail
                                    refine (unhide HK _).mono ?_
                                    rintro r W9 ⟨rfl, hb9⟩
                                    go_wp2
                                    go_ret
                                    exact ⟨rfl, bnext (unhide HB8) hb9⟩
                                · obtain rfl : E = false := by rw [unhide Hed]; simp [h1, h4]
                                  have h4d : decide (n2 ≤ 16) = false := by simp [h4]
                                  clear Hed h1
                                  simp only [reduceIte, Bool.false_eq_true] at HN
                                  go_upto_region 12 with fail
                                  go_quiet (fail)
                                  go_wp2_with fail
                                  refine (unhide HN _).mono ?_
                                  rintro r W8 ⟨rfl, hb8⟩
                                  have HB8 := hide (bnext (bdrew (unhide HBt) _) hb8)
                                  clear hb8
                                  go_wp2_with fail
                                  refine (unhide HK _).mono ?_
                                  rintro r W9 ⟨rfl, hb9⟩
                                  go_wp2
                                  go_ret
                                  exact ⟨rfl, bnext (unhide HB8) hb9⟩
                              · obtain rfl : E = false := by rw [unhide Hed]; simp [h1, h3]
                                have h3d : decide (1 ≤ n2) = false := by simp [h3]
                                clear Hed h1
                                simp only [reduceIte, Bool.false_eq_true] at HN
                                go_upto_region 12 with fail
                                go_quiet (fail)
                                go_wp2_with fail
                                refine (unhide HN _).mono ?_
                                rintro r W8 ⟨rfl, hb8⟩
                                have HB8 := hide (bnext (bdrew (unhide HBt) _) hb8)
                                clear hb8
                                go_wp2_with fail
                                refine (unhide HK _).mono ?_
                                rintro r W9 ⟨rfl, hb9⟩
                                go_wp2
                                go_ret
                                exact ⟨rfl, bnext (unhide HB8) hb9⟩

theorem own : ownKnob Try.prog.godebug = none := by kernel_rfl
theorem laidOut2 : laidOutB Try.prog = true := by kernel_rfl

set_option maxRecDepth 100000 in
theorem lifted (os : Os) (started : os.Started) (H : Type) (enc : TypeId × Value → H) :
    ReturnsInHanded {} Try.checked os 3 .any (Rows.opEdgesSpec.pre6 enc Try.prog Try.f3 Rows.opEdgesRow.domain false) (Rows.opEdgesSpec.post enc Try.prog Try.f3 false true false false) := by
  refine returnsInHanded_of_change (C := Try.checked) own started (by kernel_rfl) Try.func3
    (ChangeSpec.witness6 (enc := enc) (C := Try.checked) false ⟨#[], #[.agg #[.int .i64 0, .int .i64 0, .slice none 0 0, .int .i64 0, .int .i64 0, .int .i64 0, .int .i64 0, .int .i64 0, .string ByteArray.empty, .slice none 0 0, .int .i64 0], .int .i64 0, .int .i64 0], []⟩ 8 (by kernel_rfl) (by kernel_rfl) (by kernel_rfl) (by kernel_rfl)) ?_
  intro W base args ds gs before hval0 hW hcnd _
  have hval : ∀ (j : Nat) t v, Try.f3.params[j]? = some t → args[j]? = some v → Value.okWide Try.prog W .any base t v := hval0
  have hW' := hW
  obtain ⟨p, q, hA0, hV, rfl, hfz, hnd⟩ := hW
  have hA : DataW.TrodAll enc Try.prog W 0 (fun _ => true) true Try.f3.params.toList args.toList ds p := hA0
  rw [Try.params3] at hA hval
  obtain ⟨v0, vs0, d0, ds0, p0, q0, hargs, rfl, rfl, h0, r0⟩ := trodAll_cons hA
  obtain ⟨v1, vs1, d1, ds1, p1, q1, rfl, rfl, rfl, h1, r1⟩ := trodAll_cons r0
  obtain ⟨v2, vs2, d2, ds2, p2, q2, rfl, rfl, rfl, h2, r2⟩ := trodAll_cons r1
  obtain ⟨rfl, rfl, rfl⟩ := trodAll_nil r2
  obtain rfl : args = #[v0, v1, v2] := by cases args; simp_all
  obtain ⟨rfl, rfl⟩ := trodVars_none hV
  have k0 := h0
  have lt0 : ∀ x ∈ p0, x.block < W.heap.size := by obtain ⟨m, hm⟩ := k0; exact DataW.trod_lt m _ _ _ hm
  obtain ⟨o0, ad0, ag0, cd0, cg0, rfl, w0⟩ := open_op (hval 0 30 v0 rfl rfl) h0
  obtain ⟨a1, rfl, rfl, rfl, w1⟩ := open_int Try.underlying3 (hval 1 3 v1 rfl rfl) h1
  obtain ⟨a2, rfl, rfl, rfl, w2⟩ := open_int Try.underlying3 (hval 2 3 v2 rfl rfl) h2
  clear hA0 hval0
  refine (walk o0 ad0 ag0 cd0 cg0 a1 a2 W w0 w1 w2).mono fun e W' ⟨he, bel⟩ => ?_
  subst he
  exact ⟨_, rfl, _, _, _, [], _, [], hW', trodAll_mk1 (shut_bool Try.underlying4 _), (trodAll_cons_mk (Below.trod laidOut2 (by kernel_rfl) (of_decide_eq_true (by kernel_rfl)) k0 bel lt0) (trodAll_cons_mk (shut_int Try.underlying3 w1) (trodAll_cons_mk (shut_int Try.underlying3 w2) trodAll_mk0))), rfl, bel.frame _, fun h => by cases h⟩

theorem over : Rows.opEdgesRow.holds Try.pinned (OpenSpec.ofChange Rows.opEdgesSpec) :=
  OpenClaim.holds_of_wide 3 Try.f3 rfl rfl rfl rfl rfl rfl rfl ⟨rfl, rfl, rfl, rfl, rfl⟩ rfl rfl rfl rfl rfl (by kernel_rfl) Try.func3 (by kernel_rfl)
    (of_decide_eq_true (by kernel_rfl)) (by unfold Func.isWrapper; first | (rw [if_pos (by decide +kernel)]; kernel_rfl) | (rw [if_neg (by decide +kernel)]; exact ⟨rfl, rfl⟩))
    (fun os started H enc _ => lifted os started H enc)

end LOpEdges

theorem opEdges_holds : Rows.OpEdgesSaid := LOpEdges.over

end Go.Proofs.Ytmhiecifllgkcaa
