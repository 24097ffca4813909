/-
  The document's Windows; the law's same.
-/
import Derived.Test.YtmglnaldpcmakaaZDE
set_option linter.unusedSimpArgs false
set_option linter.unusedVariables false
namespace Go.Proofs.Ytmglnaldpcmakaa
open Go.RowKit Go.Lib Go.Shelf

/-- there are such windows -/
theorem winP_ex (es : List Ev) (lv : List Int) (frm to : Int) : ∃ L, WinP es lv frm to L ∧ L.length ≤ es.length := by
  obtain ⟨came, hc⟩ : ∃ came, (arrL (sitesL lv) (max frm 0) to es).mergeSort (fun x y => decide (x.last ≤ y.last)) = came := ⟨_, rfl⟩
  have hm : ∀ x, x ∈ came ↔ x ∈ arrL (sitesL lv) (max frm 0) to es := fun x => by rw [← hc, List.mem_mergeSort]
  have ho : came.Pairwise (fun x y => x.last ≤ y.last) := by
    rw [← hc]
    have := List.pairwise_mergeSort (le := fun x y : Arr => decide (x.last ≤ y.last)) (fun a b c h1 h2 => by simp at *; omega) (fun a b => by simp; omega) (arrL (sitesL lv) (max frm 0) to es)
    exact this.imp (fun h => by simpa using h)
  obtain ⟨L, hL⟩ := Sk.lsW_ex ((sitesL lv).length * ((sitesL lv).length - 1)) (max frm 0) came
  refine ⟨L, Sk.lsW_winP hm ho hL, ?_⟩
  have h1 := Sk.lsW_len hL
  have h2 := arrL_len (sitesL lv) (max frm 0) to es
  have h3 : came.length = (arrL (sitesL lv) (max frm 0) to es).length := by rw [← hc, List.length_mergeSort]
  omega

theorem endR_nil {es : List Ev} {lv : List Int} {f to r : Int} (h : EndR es lv f to r) (k : IsW es lv to f []) : r = -1 := by
  rcases h with h | ⟨_, h1, h2, _⟩
  · exact h.1
  · exact absurd h1 (k r h2)
theorem endR_cons {es : List Ev} {lv : List Int} {f to r : Int} {x : Int × Int} {l : List (Int × Int)} (h : EndR es lv f to r) (k : IsW es lv to f (x :: l)) : x = (f, r) ∧ f < r ∧ r ≤ to ∧ IsW es lv to r l := by
  obtain ⟨k1, k2, k3, k4, k5⟩ := k
  rcases h with h | ⟨h0, h1, h2, h3⟩
  · exact absurd k2 (h.2 _ k3)
  · have e : x.2 = r := Int.le_antisymm (k4 _ h1) (h3 _ k2)
    rw [e] at k5
    exact ⟨by rw [← k1, ← e], h0, h2, k5⟩

set_option maxRecDepth 100000 in
set_option maxHeartbeats 8000000 in
theorem refWindows_in (w : World) (ev sv : Value) (es : List Ev) (lv : List Int) (frm to : Int) (hev : RV w ev es) (hsv : RN w sv lv) (hl : es.length ≤ 100000) (hlv : lv.length ≤ 10000) (hto : to ≤ 9223372036854775807) :
    Calls Try.prog 12 #[ev, sv, .int .i64 frm, .int .i64 to] w fun e W => ∃ v l, e = .returned v ∧ OwW W w.heap.size v l ∧ WinP es lv frm to l ∧ l.length ≤ es.length ∧ Below w.heap.size w W := by
  have HSv := hide (several_in w sv lv hsv (by omega))
  have HEn := hide (fun W (hb : Below w.heap.size w W) (hs : Sev lv) f (hf : 0 ≤ f) => end_in W ev sv es lv f to (hev.below hb) (hsv.below hb) hl hlv hs hf hto)
  obtain ⟨ae, ce, rfl⟩ := hev.form
  obtain ⟨av, cv, rfl⟩ := hsv.form
  obtain ⟨L, hL, hLl⟩ := winP_ex es lv frm to
  by_cases hs : Sev lv
  · rw [decide_eq_true hs] at HSv
    have hW : IsW es lv to (max frm 0) L := by unfold WinP at hL; rw [if_pos hs] at hL; exact hL
    have HW := hide hW
    have HL := hide hL
    have Hs := hide hs
    have hEn := hide (fun W (hb : Below w.heap.size w W) f (hf : 0 ≤ f) => unhide HEn W hb hs f hf)
    have hpos : 0 ≤ max frm 0 := by omega
    clear hev hsv hs hL hW HEn
    generalize es.length = n at *
    generalize lv.length = m at *
    by_cases hneg : frm < 0
    · have hfr : max frm 0 = 0 := by omega
      rw [hfr] at HW
      go_enter Try.func12, Try.ntmps12
      go_wp2_with fail
      refine (unhide HSv).mono ?_
      rintro e W1 ⟨rfl, hb1⟩
      have Hb1 := hide hb1
      clear hb1 HSv
      go_wp2
      go_loopw [2, 9] (fun fv uv wr => ∃ (f : Int) (v : Value), fv = .int .i64 f ∧ uv = v ∧ Hid (∃ pre rest, pre ++ rest = L ∧ 0 ≤ f ∧ IsW es lv to f rest ∧ OwW wr w.heap.size v pre ∧ Below w.heap.size w wr)) (fun fv _ _ => (to - RowKit.intOf fv).toNat)
      case atStart => exact ⟨_, _, rfl, rfl, hide ⟨[], L, rfl, by omega, unhide HW, World.ownsRow_nil _ _ _ _, unhide Hb1⟩⟩
      case round =>
        obtain ⟨f, v, rfl, rfl, HI⟩ := hrel
        obtain ⟨pre, rest, hpr, hf0, hiw, hown, hb⟩ := unhide HI
        have hend := hide (unhide hEn wr hb f hf0)
        have hpl : pre.length ≤ n := by have := congrArg List.length hpr; rw [List.length_append] at this; omega
        have Hpr := hide hpr
        have Hiw := hide hiw
        have Hown := hide hown
        have Hb := hide hb
        clear hpr hiw hown hb HI
        go_wp2_with fail
        refine (unhide hend).mono ?_
        rintro e W2 ⟨r, rfl, hr, hb2⟩
        have Hr := hide hr
        have Hb2 := hide (bnext (unhide Hb) hb2)
        have hown2 := owns_below (unhide Hown) hb2
        clear hr hb2 hend
        cases rest with
        | nil =>
          obtain rfl : r = -1 := endR_nil (unhide Hr) (unhide Hiw)
          have hLe : pre = L := by rw [← unhide Hpr, List.append_nil]
          subst hLe
          have Ho2 := hide hown2
          obtain ⟨a, c, rfl⟩ := OwW.form hown2
          clear hown2
          go_wp2
          go_ret
          exact ⟨_, _, rfl, unhide Ho2, unhide HL, hpl, unhide Hb2⟩
        | cons x rest =>
          obtain ⟨rfl, hfr', hrt, hiw'⟩ := endR_cons (unhide Hr) (unhide Hiw)
          have hr0 : ¬ r < 0 := by omega
          obtain ⟨v', W3, hrun, hown3, hgr, _⟩ := append_wn W2 28 w.heap.size _ pre (f, r) hown2 (unhide Hb2).size (by omega)
          have hbel : Below w.heap.size w W3 := (Kp.of_grown (N := fun k => u9.ownBlock = some k) hgr (fun k e => e)).below (ballc (unhide Hb2) _) (fun i e => owns_ge hown2 i e)
          have hres : Hid (∃ pre' rest', pre' ++ rest' = L ∧ 0 ≤ r ∧ IsW es lv to r rest' ∧ OwW W3 w.heap.size v' pre' ∧ Below w.heap.size w W3) := ⟨pre ++ [(f, r)], rest, by rw [← unhide Hpr, List.append_assoc]; rfl, by omega, hiw', hown3, hbel⟩
          obtain ⟨a, c, rfl⟩ := OwW.form hown2
          obtain ⟨a', c', rfl⟩ := OwW.form hown3
          have e9 : (pre ++ [(f, r)]).length = pre.length + 1 := by simp
          have Hrun := hide hrun
          rw [e9] at Hrun hres
          clear hrun hown3 hgr hbel hown2 Hown e9 hiw'
          go_wp2_with (at_builtin; refine wpList_append_eq rfl _ _ 28 28 rfl _ _ _ _ rfl rfl (unhide Hrun) ?_)
          go_roundw
          case rel => exact ⟨r, _, rfl, rfl, hres⟩
          case measure => show (to - r).toNat < (to - f).toNat; omega
    · have hfr : max frm 0 = frm := by omega
      rw [hfr] at HW
      go_enter Try.func12, Try.ntmps12
      go_wp2_with fail
      refine (unhide HSv).mono ?_
      rintro e W1 ⟨rfl, hb1⟩
      have Hb1 := hide hb1
      clear hb1 HSv
      go_wp2
      go_loopw [2, 9] (fun fv uv wr => ∃ (f : Int) (v : Value), fv = .int .i64 f ∧ uv = v ∧ Hid (∃ pre rest, pre ++ rest = L ∧ 0 ≤ f ∧ IsW es lv to f rest ∧ OwW wr w.heap.size v pre ∧ Below w.heap.size w wr)) (fun fv _ _ => (to - RowKit.intOf fv).toNat)
      case atStart => exact ⟨_, _, rfl, rfl, hide ⟨[], L, rfl, by omega, unhide HW, World.ownsRow_nil _ _ _ _, unhide Hb1⟩⟩
      case round =>
        obtain ⟨f, v, rfl, rfl, HI⟩ := hrel
        obtain ⟨pre, rest, hpr, hf0, hiw, hown, hb⟩ := unhide HI
        have hend := hide (unhide hEn wr hb f hf0)
        have hpl : pre.length ≤ n := by have := congrArg List.length hpr; rw [List.length_append] at this; omega
        have Hpr := hide hpr
        have Hiw := hide hiw
        have Hown := hide hown
        have Hb := hide hb
        clear hpr hiw hown hb HI
        go_wp2_with fail
        refine (unhide hend).mono ?_
        rintro e W2 ⟨r, rfl, hr, hb2⟩
        have Hr := hide hr
        have Hb2 := hide (bnext (unhide Hb) hb2)
        have hown2 := owns_below (unhide Hown) hb2
        clear hr hb2 hend
        cases rest with
        | nil =>
          obtain rfl : r = -1 := endR_nil (unhide Hr) (unhide Hiw)
          have hLe : pre = L := by rw [← unhide Hpr, List.append_nil]
          subst hLe
          have Ho2 := hide hown2
          obtain ⟨a, c, rfl⟩ := OwW.form hown2
          clear hown2
          go_wp2
          go_ret
          exact ⟨_, _, rfl, unhide Ho2, unhide HL, hpl, unhide Hb2⟩
        | cons x rest =>
          obtain ⟨rfl, hfr', hrt, hiw'⟩ := endR_cons (unhide Hr) (unhide Hiw)
          have hr0 : ¬ r < 0 := by omega
          obtain ⟨v', W3, hrun, hown3, hgr, _⟩ := append_wn W2 28 w.heap.size _ pre (f, r) hown2 (unhide Hb2).size (by omega)
          have hbel : Below w.heap.size w W3 := (Kp.of_grown (N := fun k => u9.ownBlock = some k) hgr (fun k e => e)).below (ballc (unhide Hb2) _) (fun i e => owns_ge hown2 i e)
          have hres : Hid (∃ pre' rest', pre' ++ rest' = L ∧ 0 ≤ r ∧ IsW es lv to r rest' ∧ OwW W3 w.heap.size v' pre' ∧ Below w.heap.size w W3) := ⟨pre ++ [(f, r)], rest, by rw [← unhide Hpr, List.append_assoc]; rfl, by omega, hiw', hown3, hbel⟩
          obtain ⟨a, c, rfl⟩ := OwW.form hown2
          obtain ⟨a', c', rfl⟩ := OwW.form hown3
          have e9 : (pre ++ [(f, r)]).length = pre.length + 1 := by simp
          have Hrun := hide hrun
          rw [e9] at Hrun hres
          clear hrun hown3 hgr hbel hown2 Hown e9 hiw'
          go_wp2_with (at_builtin; refine wpList_append_eq rfl _ _ 28 28 rfl _ _ _ _ rfl rfl (unhide Hrun) ?_)
          go_roundw
          case rel => exact ⟨r, _, rfl, rfl, hres⟩
          case measure => show (to - r).toNat < (to - f).toNat; omega
  · rw [decide_eq_false hs] at HSv
    obtain rfl : L = [] := by unfold WinP at hL; rw [if_neg hs] at hL; exact hL
    have HL := hide hL
    clear hev hsv hs hL HEn
    generalize es.length = n at *
    generalize lv.length = m at *
    go_enter Try.func12, Try.ntmps12
    go_wp2_with fail
    refine (unhide HSv).mono ?_
    rintro e W1 ⟨rfl, hb1⟩
    have Hb1 := hide hb1
    clear hb1 HSv
    go_wp2
    go_ret
    exact ⟨_, [], rfl, World.ownsRow_nil _ _ _ _, unhide HL, by simp, unhide Hb1⟩

set_option maxRecDepth 100000 in
set_option maxHeartbeats 4000000 in
theorem same_in (w : World) (va vb : Value) (l m : List (Int × Int)) (ha : RG w va l) (hb : RG w vb m) (hl : l.length ≤ 1000000) (hm : m.length ≤ 1000000) : Calls Try.prog 11 #[va, vb] w fun e W => e = .returned (.bool (decide (l = m))) ∧ Below w.heap.size w W := by
  obtain ⟨aa, ca, rfl⟩ := ha.form
  obtain ⟨ab, cb, rfl⟩ := hb.form
  obtain ⟨R, hR⟩ : ∃ R : Bool, decide (l = m) = R := ⟨_, rfl⟩
  rw [hR]
  have HR := hide hR
  have HA := hide ha
  have HB := hide hb
  obtain ⟨n, hn⟩ : ∃ n, l.length = n := ⟨_, rfl⟩
  obtain ⟨k, hk⟩ : ∃ k, m.length = k := ⟨_, rfl⟩
  have Hn := hide hn
  have Hk := hide hk
  rw [hn] at hl ⊢
  rw [hk] at hm ⊢
  clear hR ha hb hn hk
  by_cases hnk : n = k
  · subst hnk
    go_enter Try.func11, Try.ntmps11
    go_wp2
    go_loopw [5] (fun iv wr => ∃ i : Nat, i ≤ n ∧ iv = .int .i64 (i : Nat) ∧ Hid (l.take i = m.take i ∧ Below w.heap.size w wr)) (fun iv _ => n - (RowKit.intOf iv).toNat)
    case atStart => exact ⟨0, Nat.zero_le _, rfl, hide ⟨rfl, Below.refl _ _⟩⟩
    case round =>
      obtain ⟨i, hi, rfl, HI⟩ := hrel
      by_cases hlt : i < n
      · have hlt' : (i : Int) < (n : Int) := by omega
        have hil : i < l.length := by rw [unhide Hn]; exact hlt
        have him : i < m.length := by rw [unhide Hk]; exact hlt
        obtain ⟨⟨x1, x2⟩, hx⟩ : ∃ x, l[i]? = some x := ⟨_, List.getElem?_eq_getElem hil⟩
        obtain ⟨⟨y1, y2⟩, hy⟩ : ∃ y, m[i]? = some y := ⟨_, List.getElem?_eq_getElem him⟩
        have hra := (unhide HA).below (unhide HI).2
        have hrb := (unhide HB).below (unhide HI).2
        rw [unhide Hn] at hra
        rw [unhide Hk] at hrb
        obtain ⟨b1, o1, rfl, _, p0, p1⟩ := RG.at hra hx
        obtain ⟨b2, o2, rfl, _, q0, q1⟩ := RG.at hrb hy
        simp only [] at p0 p1 q0 q1
        have Hx := hide hx
        have Hy := hide hy
        have Hb := hide (unhide HI).2
        have Ht := hide (unhide HI).1
        clear hx hy hra hrb HI
        by_cases he : x1 = y1 ∧ x2 = y2
        · obtain ⟨rfl, rfl⟩ := he
          go_wp2
          go_quiet (fail)
          have hb2 := hide (bdrew (unhide Hb) nq)
          go_wp2
          go_roundw
          case rel =>
            refine ⟨i + 1, by omega, by go_num, hide ⟨?_, unhide hb2⟩⟩
            rw [List.take_add_one, List.take_add_one, unhide Ht, unhide Hx, unhide Hy]
          case measure => show n - ((i : Int) + 1).toNat < n - ((i : Nat) : Int).toNat; omega
        · obtain rfl : R = false := by
            rw [← unhide HR]
            refine decide_eq_false fun e => he ?_
            have h1 := unhide Hx
            have h2 := unhide Hy
            rw [e, h2] at h1
            simp at h1
            exact ⟨h1.1.symm, h1.2.symm⟩
          by_cases h1 : x1 = y1
          · have h2 : x2 ≠ y2 := fun e => he ⟨h1, e⟩
            subst h1
            have h2' : (x2 == y2) = false := by rw [beq_eq_false_iff_ne]; exact h2
            have h2'' : (x2 != y2) = true := by rw [bne_iff_ne]; exact h2
            clear he
            go_wp2
            go_quiet (fail)
            have hb2 := hide (bdrew (unhide Hb) nq)
            go_wp2
            go_ret
            exact ⟨rfl, unhide hb2⟩
          · have h1' : (x1 == y1) = false := by rw [beq_eq_false_iff_ne]; exact h1
            have h1'' : (x1 != y1) = true := by rw [bne_iff_ne]; exact h1
            clear he
            go_wp2
            go_quiet (fail)
            have hb2 := hide (bdrew (unhide Hb) nq)
            go_wp2
            go_ret
            exact ⟨rfl, unhide hb2⟩
      · have hlt' : ¬ (i : Int) < (n : Int) := by omega
        obtain rfl : R = true := by
          rw [← unhide HR]
          have h1 := (unhide HI).1
          rw [List.take_of_length_le (by rw [unhide Hn]; omega), List.take_of_length_le (by rw [unhide Hk]; omega)] at h1
          exact decide_eq_true h1
        have hb := hide (unhide HI).2
        clear HI
        go_wp2
        go_ret
        exact ⟨rfl, unhide hb⟩
  · obtain rfl : R = false := by
      rw [← unhide HR]
      refine decide_eq_false fun e => hnk ?_
      rw [← unhide Hn, ← unhide Hk, e]
    have hnk' : ((n : Int) != (k : Int)) = true := by rw [bne_iff_ne]; omega
    go_enter Try.func11, Try.ntmps11
    go_wp2
    go_ret
    exact ⟨rfl, Below.refl _ _⟩

end Go.Proofs.Ytmglnaldpcmakaa
