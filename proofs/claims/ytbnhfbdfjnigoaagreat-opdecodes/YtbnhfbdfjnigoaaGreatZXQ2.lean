/-
  Two operations, held against each other.
-/
import Derived.Test.YtbnhfbdfjnigoaaGreatZQ1
import Derived.Test.YtbnhfbdfjnigoaaGreatZXP7

set_option linter.unusedSimpArgs false
set_option linter.unusedVariables false
namespace Go.Proofs.YtbnhfbdfjnigoaaGreat
open Go.RowKit Go.Lib

def headB (a b : Opn) : Bool := decide ((a.ds, a.dq) = (b.ds, b.dq)) && (decide (a.kind = b.kind) && (decide ((a.it, a.is) = (b.it, b.is)) && (decide ((a.rt, a.rs) = (b.rt, b.rs)) && (decide (a.text = b.text) && decide (a.site = b.site)))))
def sameB (a b : Opn) : Bool := headB a b && (decide (a.deps = b.deps) && decide (a.gone = b.gone))
theorem sameB_iff (a b : Opn) : sameB a b = true ↔ a = b := by
  obtain ⟨a0, a1, a2, a3, a4, a5, a6, a7, a8, a9, a10⟩ := a
  obtain ⟨b0, b1, b2, b3, b4, b5, b6, b7, b8, b9, b10⟩ := b
  unfold sameB headB
  simp only [Bool.and_eq_true, decide_eq_true_eq, Prod.mk.injEq, Opn.mk.injEq]
  constructor
  · rintro ⟨⟨⟨h0, h1⟩, h3, ⟨h4, h5⟩, ⟨h6, h7⟩, h8, h10⟩, h2, h9⟩
    exact ⟨h0, h1, h2, h3, h4, h5, h6, h7, h8, h9, h10⟩
  · rintro ⟨h0, h1, h2, h3, h4, h5, h6, h7, h8, h9, h10⟩
    exact ⟨⟨⟨h0, h1⟩, h3, ⟨h4, h5⟩, ⟨h6, h7⟩, h8, h10⟩, h2, h9⟩

set_option maxRecDepth 100000 in
set_option maxHeartbeats 4000000 in
/-- where something but the lists' things parts -/
theorem same_head (xds xdq xkind xit xis xrt xrs xsite yds ydq ykind yit yis yrt yrs ysite : Int) (xtext ytext : ByteArray) (ad ag bd bg : Option Addr) (ld cd lg cg ld' dd lg' dg : Nat) (w : World)
    (hne : ¬ ((xds, xdq) = (yds, ydq) ∧ xkind = ykind ∧ (xit, xis) = (yit, yis) ∧ (xrt, xrs) = (yrt, yrs) ∧ xtext = ytext ∧ xsite = ysite ∧ ld = ld' ∧ lg = lg')) :
    Calls Tryz.prog 7 #[.agg #[.int .i64 xds, .int .i64 xdq, .slice ad ld cd, .int .i64 xkind, .int .i64 xit, .int .i64 xis, .int .i64 xrt, .int .i64 xrs, .string xtext, .slice ag lg cg, .int .i64 xsite], .agg #[.int .i64 yds, .int .i64 ydq, .slice bd ld' dd, .int .i64 ykind, .int .i64 yit, .int .i64 yis, .int .i64 yrt, .int .i64 yrs, .string ytext, .slice bg lg' dg, .int .i64 ysite]] w fun e W => e = .returned (.bool false) ∧ Below w.heap.size w W := by
  have B0 := hide (ballc (ballc (Below.refl w.heap.size w) (.cells #[.int .i64 xds, .int .i64 xdq, .slice ad ld cd, .int .i64 xkind, .int .i64 xit, .int .i64 xis, .int .i64 xrt, .int .i64 xrs, .string xtext, .slice ag lg cg, .int .i64 xsite] 32)) (.cells #[.int .i64 yds, .int .i64 ydq, .slice bd ld' dd, .int .i64 ykind, .int .i64 yit, .int .i64 yis, .int .i64 yrt, .int .i64 yrs, .string ytext, .slice bg lg' dg, .int .i64 ysite] 32))
  by_cases h : (xds, xdq) = (yds, ydq)
  rotate_left
  · clear hne
    have hqD : ∀ W, (binOp .neq 25 (.agg #[.int .i64 xds, .int .i64 xdq]) (.agg #[.int .i64 yds, .int .i64 ydq])).run Tryz.prog W = .ok (.bool true) W := fun W => by rw [neqD, decide_eq_false h]; rfl
    clear h
    go_enter Tryz.func7, Tryz.ntmps7
    go_wp2
    go_ret
    exact ⟨rfl, unhide B0⟩
  simp only [Prod.mk.injEq] at h; obtain ⟨rfl, rfl⟩ := h
  by_cases h : xkind = ykind
  rotate_left
  · clear hne
    have hk : (xkind != ykind) = true := by simpa using h
    clear h
    go_enter Tryz.func7, Tryz.ntmps7
    go_wp2
    go_ret
    exact ⟨rfl, unhide B0⟩
  subst h
  by_cases h : (xit, xis) = (yit, yis)
  rotate_left
  · clear hne
    have hqI : ∀ W, (binOp .neq 29 (.agg #[.int .i64 xit, .int .i64 xis]) (.agg #[.int .i64 yit, .int .i64 yis])).run Tryz.prog W = .ok (.bool true) W := fun W => by rw [neqI, decide_eq_false h]; rfl
    clear h
    go_enter Tryz.func7, Tryz.ntmps7
    go_wp2
    go_ret
    exact ⟨rfl, unhide B0⟩
  simp only [Prod.mk.injEq] at h; obtain ⟨rfl, rfl⟩ := h
  by_cases h : (xrt, xrs) = (yrt, yrs)
  rotate_left
  · clear hne
    have hqR : ∀ W, (binOp .neq 29 (.agg #[.int .i64 xrt, .int .i64 xrs]) (.agg #[.int .i64 yrt, .int .i64 yrs])).run Tryz.prog W = .ok (.bool true) W := fun W => by rw [neqI, decide_eq_false h]; rfl
    clear h
    go_enter Tryz.func7, Tryz.ntmps7
    go_wp2
    go_ret
    exact ⟨rfl, unhide B0⟩
  simp only [Prod.mk.injEq] at h; obtain ⟨rfl, rfl⟩ := h
  by_cases h : xtext = ytext
  rotate_left
  · clear hne
    have ht : (xtext.toList == ytext.toList) = false := by
      rw [beq_eq_false_iff_ne]
      intro e
      rw [ByteArray.toList_eq, ByteArray.toList_eq] at e
      exact h (ByteArray.ext (Array.toList_inj.1 e))
    clear h
    go_enter Tryz.func7, Tryz.ntmps7
    go_wp2
    go_ret
    exact ⟨rfl, unhide B0⟩
  subst h
  by_cases h : xsite = ysite
  rotate_left
  · clear hne
    have hk : (xsite != ysite) = true := by simpa using h
    clear h
    go_enter Tryz.func7, Tryz.ntmps7
    go_wp2
    go_ret
    exact ⟨rfl, unhide B0⟩
  subst h
  by_cases h : ld = ld'
  rotate_left
  · clear hne
    have hk : ((ld : Int) != (ld' : Int)) = true := by simp; omega
    clear h
    go_enter Tryz.func7, Tryz.ntmps7
    go_wp2
    go_ret
    exact ⟨rfl, unhide B0⟩
  subst h
  by_cases h : lg = lg'
  rotate_left
  · clear hne
    have hk : ((lg : Int) != (lg' : Int)) = true := by simp; omega
    clear h
    go_enter Tryz.func7, Tryz.ntmps7
    go_wp2
    go_ret
    exact ⟨rfl, unhide B0⟩
  subst h
  exact absurd ⟨rfl, rfl, rfl, rfl, rfl, rfl, rfl, rfl⟩ hne

set_option maxRecDepth 100000 in
set_option maxHeartbeats 4000000 in
/-- where only the lists' things can part -/
theorem same_rows (ds dq kind it is rt rs site : Int) (text : ByteArray) (d d' : List (Int × Int)) (g g' : List ((Int × Int) × Int)) (ad ag bd bg : Option Addr) (cd cg dd dg : Nat) (w : World)
    (hd : RI w (.slice ad d.length cd) d) (hd' : RI w (.slice bd d.length dd) d') (hg : RR w (.slice ag g.length cg) g) (hg' : RR w (.slice bg g.length dg) g') (e1 : d'.length = d.length) (e2 : g'.length = g.length) (l1 : d.length ≤ 140737488355328) (l2 : g.length ≤ 140737488355328) :
    Calls Tryz.prog 7 #[.agg #[.int .i64 ds, .int .i64 dq, .slice ad d.length cd, .int .i64 kind, .int .i64 it, .int .i64 is, .int .i64 rt, .int .i64 rs, .string text, .slice ag g.length cg, .int .i64 site], .agg #[.int .i64 ds, .int .i64 dq, .slice bd d.length dd, .int .i64 kind, .int .i64 it, .int .i64 is, .int .i64 rt, .int .i64 rs, .string text, .slice bg g.length dg, .int .i64 site]] w fun e W => e = .returned (.bool (decide (d = d') && decide (g = g'))) ∧ Below w.heap.size w W := by
  obtain ⟨L, hL⟩ : ∃ L, d.length = L := ⟨_, rfl⟩
  obtain ⟨M, hM⟩ : ∃ M, g.length = M := ⟨_, rfl⟩
  obtain ⟨X, hX⟩ : ∃ X, (w.alloc (.cells #[.int .i64 ds, .int .i64 dq, .slice ad L cd, .int .i64 kind, .int .i64 it, .int .i64 is, .int .i64 rt, .int .i64 rs, .string text, .slice ag M cg, .int .i64 site] 32)).alloc (.cells #[.int .i64 ds, .int .i64 dq, .slice bd L dd, .int .i64 kind, .int .i64 it, .int .i64 is, .int .i64 rt, .int .i64 rs, .string text, .slice bg M dg, .int .i64 site] 32) = X := ⟨_, rfl⟩
  have HA : Bx X w.heap.size 32 #[.int .i64 ds, .int .i64 dq, .slice ad L cd, .int .i64 kind, .int .i64 it, .int .i64 is, .int .i64 rt, .int .i64 rs, .string text, .slice ag M cg, .int .i64 site] := by rw [← hX]; exact (Bx.new w _ _).below (ballc (Below.refl _ _) _)
  have HB : Bx X (w.heap.size + 1) 32 #[.int .i64 ds, .int .i64 dq, .slice bd L dd, .int .i64 kind, .int .i64 it, .int .i64 is, .int .i64 rt, .int .i64 rs, .string text, .slice bg M dg, .int .i64 site] := by
    rw [← hX]
    have := Bx.new (w.alloc (.cells #[.int .i64 ds, .int .i64 dq, .slice ad L cd, .int .i64 kind, .int .i64 it, .int .i64 is, .int .i64 rt, .int .i64 rs, .string text, .slice ag M cg, .int .i64 site] 32)) 32 #[.int .i64 ds, .int .i64 dq, .slice bd L dd, .int .i64 kind, .int .i64 it, .int .i64 is, .int .i64 rt, .int .i64 rs, .string text, .slice bg M dg, .int .i64 site]
    rw [World.size_alloc] at this
    exact this
  have B0 : Below w.heap.size w X := by rw [← hX]; exact ballc (ballc (Below.refl _ _) _) _
  have HD : Hid (RI X (.slice ad L cd) d) := by rw [← hL]; exact hd.below B0
  have HD' : Hid (RI X (.slice bd L dd) d') := by rw [← hL]; exact hd'.below B0
  have HG : Hid (RR X (.slice ag M cg) g) := by rw [← hM]; exact RC.below hg B0
  have HG' : Hid (RR X (.slice bg M dg) g') := by rw [← hM]; exact RC.below hg' B0
  rw [hL] at e1 l1 ⊢
  rw [hM] at e2 l2 ⊢
  have HL := hide hL
  have HL' := hide e1
  have HM := hide hM
  have HM' := hide e2
  replace B0 := hide B0
  have hqD : ∀ W, (binOp .neq 25 (.agg #[.int .i64 ds, .int .i64 dq]) (.agg #[.int .i64 ds, .int .i64 dq])).run Tryz.prog W = .ok (.bool false) W := fun W => by rw [neqD, decide_eq_true rfl]; rfl
  have hqI : ∀ W, (binOp .neq 29 (.agg #[.int .i64 it, .int .i64 is]) (.agg #[.int .i64 it, .int .i64 is])).run Tryz.prog W = .ok (.bool false) W := fun W => by rw [neqI, decide_eq_true rfl]; rfl
  have hqR : ∀ W, (binOp .neq 29 (.agg #[.int .i64 rt, .int .i64 rs]) (.agg #[.int .i64 rt, .int .i64 rs])).run Tryz.prog W = .ok (.bool false) W := fun W => by rw [neqI, decide_eq_true rfl]; rfl
  obtain ⟨D, hD⟩ : ∃ D, (decide (d = d') && decide (g = g')) = D := ⟨_, rfl⟩
  rw [hD]
  replace hD := hide hD
  obtain ⟨a0, a1, a2, a3, a4, a5, a6, a7, a8, a9, a10⟩ := cells_op HA
  obtain ⟨b0, b1, b2, b3, b4, b5, b6, b7, b8, b9, b10⟩ := cells_op HB
  have al := HA.lt
  have bl := HB.lt
  clear hd hd' hg hg' hL hM e1 e2 HA HB
  go_enter Tryz.func7, Tryz.ntmps7
  go_wp2
  clear hX hqD hqI hqR a0 a1 a3 a4 a5 a6 a7 a8 a10 b0 b1 b3 b4 b5 b6 b7 b8 b10
  go_loopw [5] (fun iv wr => ∃ i n : Nat, i ≤ L ∧ iv = .int .i64 (i : Nat) ∧ Hid (d.take i = d'.take i) ∧ wr = X.drewN n) (fun iv _ => L - (RowKit.intOf iv).toNat)
  case atStart => exact ⟨0, 0, by omega, rfl, hide rfl, rfl⟩
  case round =>
    obtain ⟨i, nd, hi, rfl, htk, rfl⟩ := hrel
    by_cases hlt : i < L
    · have hlt' : i < d.length := by rw [unhide HL]; exact hlt
      have hlt'' : i < d'.length := by rw [unhide HL']; exact hlt
      obtain ⟨b, off, rfl, q0, c0, c1⟩ := RI.at (unhide HD) (List.getElem?_eq_getElem hlt')
      obtain ⟨b', off', rfl, q1, d0, d1⟩ := RI.at (unhide HD') (List.getElem?_eq_getElem hlt'')
      have i1 : (i : Int) < (L : Int) := by omega
      have hnq := neqI2 d[i] d'[i]
      by_cases he : d[i] = d'[i]
      · have hde : decide (d[i] = d'[i]) = true := decide_eq_true he
        rw [hde] at hnq
        have Htk' := hide (show d.take (i + 1) = d'.take (i + 1) by
          rw [List.take_add_one, List.take_add_one, unhide htk, List.getElem?_eq_getElem hlt', List.getElem?_eq_getElem hlt'', he])
        clear he hde
        generalize d[i] = e at *
        generalize d'[i] = e' at *
        obtain ⟨t, s⟩ := e
        obtain ⟨t', s'⟩ := e'
        (try simp only at *)
        go_wp2
        go_quiet (fail)
        go_wp2
        go_roundw
        case rel => exact ⟨i + 1, _, by omega, by go_num, hide (unhide Htk'), rfl⟩
        case measure => simp [RowKit.intOf]; omega
      · have hde : decide (d[i] = d'[i]) = false := decide_eq_false he
        rw [hde] at hnq
        have Hfin := hide (show D = false by
          rw [← unhide hD, decide_eq_false (fun e => by subst e; exact he rfl)]
          rfl)
        clear he hde
        generalize d[i] = e at *
        generalize d'[i] = e' at *
        obtain ⟨t, s⟩ := e
        obtain ⟨t', s'⟩ := e'
        (try simp only at *)
        go_wp2
        go_quiet (fail)
        go_wp2
        go_ret
        exact ⟨by rw [unhide Hfin]; rfl, bdrew (bdrew (unhide B0) _) _⟩
    · have Hdd := hide (show d = d' by
        have h := unhide htk
        rwa [List.take_of_length_le (by rw [unhide HL]; omega), List.take_of_length_le (by rw [unhide HL']; omega)] at h)
      have i1 : ¬ (i : Int) < (L : Int) := by omega
      go_wp2
      go_loopw [6] (fun jv wr => ∃ j n : Nat, j ≤ M ∧ jv = .int .i64 (j : Nat) ∧ Hid (g.take j = g'.take j) ∧ wr = X.drewN n) (fun jv _ => M - (RowKit.intOf jv).toNat)
      case atStart => exact ⟨0, nd, by omega, rfl, hide rfl, rfl⟩
      case round =>
        clear htk
        obtain ⟨j, nd2, hj, rfl, htk, rfl⟩ := hrel
        by_cases hlt2 : j < M
        · have hlt' : j < g.length := by rw [unhide HM]; exact hlt2
          have hlt'' : j < g'.length := by rw [unhide HM']; exact hlt2
          obtain ⟨b, off, rfl, q0, c0, c1, c2⟩ := RR.at (unhide HG) (List.getElem?_eq_getElem hlt')
          obtain ⟨b', off', rfl, q1, d0, d1, d2⟩ := RR.at (unhide HG') (List.getElem?_eq_getElem hlt'')
          have i2 : (j : Int) < (M : Int) := by omega
          have hnq := neqR g[j] g'[j]
          by_cases he : g[j] = g'[j]
          · have hde : decide (g[j] = g'[j]) = true := decide_eq_true he
            rw [hde] at hnq
            have Htk' := hide (show g.take (j + 1) = g'.take (j + 1) by
              rw [List.take_add_one, List.take_add_one, unhide htk, List.getElem?_eq_getElem hlt', List.getElem?_eq_getElem hlt'', he])
            clear he hde
            generalize g[j] = e at *
            generalize g'[j] = e' at *
            obtain ⟨⟨t, s⟩, c⟩ := e
            obtain ⟨⟨t', s'⟩, c'⟩ := e'
            (try simp only at *)
            go_wp2
            go_quiet (fail)
            go_wp2
            go_roundw
            case rel => exact ⟨j + 1, _, by omega, by go_num, hide (unhide Htk'), rfl⟩
            case measure => simp [RowKit.intOf]; omega
          · have hde : decide (g[j] = g'[j]) = false := decide_eq_false he
            rw [hde] at hnq
            have Hfin := hide (show D = false by
              rw [← unhide hD, decide_eq_false (p := g = g') (fun e => by subst e; exact he rfl), Bool.and_false])
            clear he hde
            generalize g[j] = e at *
            generalize g'[j] = e' at *
            obtain ⟨⟨t, s⟩, c⟩ := e
            obtain ⟨⟨t', s'⟩, c'⟩ := e'
            (try simp only at *)
            go_wp2
            go_quiet (fail)
            go_wp2
            go_ret
            exact ⟨by rw [unhide Hfin]; rfl, bdrew (bdrew (unhide B0) _) _⟩
        · have Hfin := hide (show D = true by
            have h := unhide htk
            rw [List.take_of_length_le (by rw [unhide HM]; omega), List.take_of_length_le (by rw [unhide HM']; omega)] at h
            rw [← unhide hD, decide_eq_true (unhide Hdd), decide_eq_true h]
            rfl)
          have i2 : ¬ (j : Int) < (M : Int) := by omega
          go_wp2
          go_ret
          exact ⟨by rw [unhide Hfin]; rfl, bdrew (unhide B0) _⟩

theorem same_in (a b : Opn) (vd vg ud ug : Value) (w : World) (hd : RI w vd a.deps) (hg : RR w vg a.gone) (hd' : RI w ud b.deps) (hg' : RR w ug b.gone) (l1 : a.deps.length ≤ 140737488355328) (l2 : a.gone.length ≤ 140737488355328) :
    Calls Tryz.prog 7 #[opA a vd vg, opA b ud ug] w fun e W => e = .returned (.bool (sameB a b)) ∧ Below w.heap.size w W := by
  obtain ⟨ad, cd, rfl⟩ := hd.form
  obtain ⟨ag, cg, rfl⟩ := RC.form hg
  obtain ⟨bd, dd, rfl⟩ := hd'.form
  obtain ⟨bg, dg, rfl⟩ := RC.form hg'
  unfold opA
  by_cases h : (a.ds, a.dq) = (b.ds, b.dq) ∧ a.kind = b.kind ∧ (a.it, a.is) = (b.it, b.is) ∧ (a.rt, a.rs) = (b.rt, b.rs) ∧ a.text = b.text ∧ a.site = b.site ∧ a.deps.length = b.deps.length ∧ a.gone.length = b.gone.length
  · obtain ⟨k0, k1, k2, k3, k4, k5, k6, k7⟩ := h
    have e : sameB a b = (decide (a.deps = b.deps) && decide (a.gone = b.gone)) := by
      unfold sameB headB
      rw [decide_eq_true k0, decide_eq_true k1, decide_eq_true k2, decide_eq_true k3, decide_eq_true k4, decide_eq_true k5]
      simp
    rw [e]
    simp only [Prod.mk.injEq] at k0 k2 k3
    rw [← k0.1, ← k0.2, ← k1, ← k2.1, ← k2.2, ← k3.1, ← k3.2, ← k4, ← k5, ← k6, ← k7]
    rw [← k6] at hd'
    rw [← k7] at hg'
    exact same_rows _ _ _ _ _ _ _ _ _ a.deps b.deps a.gone b.gone ad ag bd bg cd cg dd dg w hd hd' hg hg' k6.symm k7.symm l1 l2
  · have e : sameB a b = false := by
      rw [Bool.eq_false_iff]
      intro e
      have := (sameB_iff a b).1 e
      subst this
      exact h ⟨rfl, rfl, rfl, rfl, rfl, rfl, rfl, rfl⟩
    rw [e]
    exact same_head _ _ _ _ _ _ _ _ _ _ _ _ _ _ _ _ _ _ _ _ _ _ _ _ _ _ _ _ _ _ w h

end Go.Proofs.YtbnhfbdfjnigoaaGreat

/-
  The laws' own: long, example.
-/
set_option linter.unusedSimpArgs false
set_option linter.unusedVariables false
namespace Go.Proofs.YtbnhfbdfjnigoaaGreat
open Go.RowKit Go.Lib

def exO : Opn := ⟨1, 2, [(1, 1)], 1, 5, 1, 4, 3, ⟨#[104, 195, 169]⟩, [], 0⟩
def exL : List Nat := [1, 1, 2, 1, 1, 1, 5, 4, 3, 3, 104, 195, 169]
theorem ex_ok : okO exO = true := by kernel_rfl
theorem ex_chk : chkO exO = 0 := by kernel_rfl
theorem ex_last : lastO exO = 6 := by kernel_rfl
theorem ex_enc : encL exO = exL := by kernel_rfl
theorem ex_dec : decO exL = (exO, 0) := by kernel_rfl
theorem zO_chk : chkO zO = 10 := by kernel_rfl
theorem ex_in : InO exO := ⟨⟨by decide, by decide⟩, ⟨by decide, by decide⟩, ⟨by decide, by decide⟩, ⟨by decide, by decide⟩, ⟨by decide, by decide⟩, ⟨by decide, by decide⟩, ⟨by decide, by decide⟩, ⟨by decide, by decide⟩, by decide, by decide, fun r hr => (by cases hr), by decide⟩
theorem zO_in : InO zO := ⟨in64_0, in64_0, in64_0, in64_0, in64_0, in64_0, in64_0, in64_0, by decide, by decide, fun r hr => (by cases hr), by decide⟩

def longO (o : Opn) : Bool := decide (3000 < o.deps.length) || decide (3000 < o.gone.length) || decide (60000 < o.text.size)

set_option maxRecDepth 100000 in
theorem example_in (w : World) :
    Calls Tryz.prog 18 #[] w fun e W => ∃ ad cd, e = .returned (opA exO (.slice ad 1 cd) (.slice none 0 0)) ∧ RI W (.slice ad 1 cd) exO.deps ∧ Below w.heap.size w W := by
  unfold opA exO
  simp only
  go_enter Tryz.func18, Tryz.ntmps18
  go_wp2
  have HB := (Bx.new w 32 #[.int .i64 1, .int .i64 2, .slice (some ⟨w.heap.size + 1, 0, none⟩) 1 1, .int .i64 1, .int .i64 5, .int .i64 1, .int .i64 4, .int .i64 3, .string ⟨#[104, 195, 169]⟩, .slice none 0 0, .int .i64 0]).below (ballc (Below.refl _ _) (.cells #[.int .i64 1, .int .i64 1] 25))
  have HR := RC.lit (w.alloc (.cells #[.int .i64 1, .int .i64 2, .slice (some ⟨w.heap.size + 1, 0, none⟩) 1 1, .int .i64 1, .int .i64 5, .int .i64 1, .int .i64 4, .int .i64 3, .string ⟨#[104, 195, 169]⟩, .slice none 0 0, .int .i64 0] 32)) 25 #[.int .i64 1, .int .i64 1] 1
  rw [World.size_alloc] at HR
  refine bodyPost_ret (results_cell_row rfl _ _ w.heap.size _ _ _ _ rfl HB Tryz.underlying32 rfl sizeO) rfl ?_
  exact ⟨_, _, rfl, HR, ballc (ballc (Below.refl _ _) _) _⟩

end Go.Proofs.YtbnhfbdfjnigoaaGreat
