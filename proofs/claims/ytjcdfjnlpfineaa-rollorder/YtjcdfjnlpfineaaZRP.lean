/-
  For RollOrder: what calls lead to, whatever their order.
-/
import Derived.Test.YtjcdfjnlpfineaaZRT
set_option linter.unusedSimpArgs false
set_option linter.unusedVariables false
namespace Go.Proofs.Ytjcdfjnlpfineaa
open Go.RowKit Go.Lib
variable {w W W' : World} {b b' : Nat} {s s' : St}

theorem do_has (s : St) (x : Stp) : doB s x = (hasB (doS s x) x.site != hasB s x.site) := by
  unfold doB doS
  cases x.lv
  · exact jo_has s x.site
  · exact lv_has s x.site
theorem or_twice (m : Wd) (y : Int) : m ||| bitW y ||| bitW y = m ||| bitW y := or_same (fun h => by rw [or_at, h]; simp)
theorem do_twice (s : St) (x : Stp) : doS (doS s x) x = doS s x ∧ doB (doS s x) x = false := by
  unfold doS doB
  cases x.lv
  · simp only [Bool.false_eq_true, if_false]
    unfold joS joB stp stB St.m
    simp only [or_twice]
    simp
  · simp only [if_true]
    unfold lvS lvB stp stB St.m
    simp only [or_twice]
    simp
theorem do_e (s : St) (x : Stp) : (doS s x).e = if doB s x then s.e + 1 else s.e := by
  unfold doS doB
  cases x.lv
  · simp only [Bool.false_eq_true, if_false]
    unfold joS joB stp stB
    by_cases q : memW (s.j ||| bitW x.site) s.l = s.m
    · rw [if_pos q, decide_eq_true q]; rfl
    · rw [if_neg q, decide_eq_false q]; rfl
  · simp only [if_true]
    unfold lvS lvB stp stB
    by_cases q : memW s.j (s.l ||| bitW x.site) = s.m
    · rw [if_pos q, decide_eq_true q]; rfl
    · rw [if_neg q, decide_eq_false q]; rfl
theorem do_j (s : St) (x : Stp) (i : Nat) : (doS s x).j.getLsbD i = (s.j.getLsbD i || (!x.lv && (siteB x.site && decide (i = x.site.toNat)))) := by
  unfold doS
  cases x.lv
  · simp only [Bool.false_eq_true, if_false, Bool.not_false, Bool.true_and]
    exact or_at s.j x.site i
  · simp only [if_true, Bool.not_true, Bool.false_and, Bool.or_false]
    rfl
theorem do_l (s : St) (x : Stp) (i : Nat) : (doS s x).l.getLsbD i = (s.l.getLsbD i || (x.lv && (siteB x.site && decide (i = x.site.toNat)))) := by
  unfold doS
  cases x.lv
  · simp only [Bool.false_eq_true, if_false, Bool.false_and, Bool.or_false]
    rfl
  · simp only [if_true, Bool.true_and]
    exact or_at s.l x.site i
/-- is a Join (a Leave) of a site among calls? -/
def jnB (l : List Stp) (y : Int) : Bool := l.any fun x => !x.lv && (x.site == y)
def lfB (l : List Stp) (y : Int) : Bool := l.any fun x => x.lv && (x.site == y)
theorem jnB_app (l m : List Stp) (y : Int) : jnB (l ++ m) y = (jnB l y || jnB m y) := by unfold jnB; rw [List.any_append]
theorem lfB_app (l m : List Stp) (y : Int) : lfB (l ++ m) y = (lfB l y || lfB m y) := by unfold lfB; rw [List.any_append]
/-- what calls that were made lead to -/
structure Led (s : St) (l : List Stp) : Prop where
  j : ∀ i, s.j.getLsbD i = (decide (1 ≤ i ∧ i ≤ 16) && jnB l (i : Int))
  l : ∀ i, s.l.getLsbD i = (decide (1 ≤ i ∧ i ≤ 16) && lfB l (i : Int))
theorem Led.nil : Led nilS [] := ⟨fun i => by simp [nilS, jnB], fun i => by simp [nilS, lfB]⟩
theorem site_eq (y : Int) (i : Nat) : (siteB y && decide (i = y.toNat)) = (decide (1 ≤ i ∧ i ≤ 16) && (y == (i : Int))) := by
  rw [Bool.eq_iff_iff, Bool.and_eq_true, Bool.and_eq_true, siteB_iff, decide_eq_true_eq, decide_eq_true_eq, beq_iff_eq]
  constructor
  · rintro ⟨h1, h2⟩; exact ⟨by omega, by omega⟩
  · rintro ⟨h1, h2⟩; exact ⟨by omega, by omega⟩
theorem Led.do {l : List Stp} (h : Led s l) (x : Stp) : Led (doS s x) (l ++ [x]) := by
  refine ⟨fun i => ?_, fun i => ?_⟩
  · rw [do_j, h.j i, jnB_app, site_eq, Bool.and_or_distrib_left]
    congr 1
    unfold jnB
    obtain ⟨lv, st⟩ := x
    cases lv <;> simp
  · rw [do_l, h.l i, lfB_app, site_eq, Bool.and_or_distrib_left]
    congr 1
    unfold lfB
    obtain ⟨lv, st⟩ := x
    cases lv <;> simp
theorem led_same {l m : List Stp} (h : Led s l) (h' : Led s' m) (e : ∀ x, x ∈ l ↔ x ∈ m) : s.j = s'.j ∧ s.l = s'.l := by
  have e1 : ∀ y, jnB l y = jnB m y := fun y => by
    unfold jnB
    rw [Bool.eq_iff_iff, List.any_eq_true, List.any_eq_true]
    exact ⟨fun ⟨x, hx, hp⟩ => ⟨x, (e x).1 hx, hp⟩, fun ⟨x, hx, hp⟩ => ⟨x, (e x).2 hx, hp⟩⟩
  have e2 : ∀ y, lfB l y = lfB m y := fun y => by
    unfold lfB
    rw [Bool.eq_iff_iff, List.any_eq_true, List.any_eq_true]
    exact ⟨fun ⟨x, hx, hp⟩ => ⟨x, (e x).1 hx, hp⟩, fun ⟨x, hx, hp⟩ => ⟨x, (e x).2 hx, hp⟩⟩
  exact ⟨wd_ext fun i => by rw [h.j i, h'.j i, e1], wd_ext fun i => by rw [h.l i, h'.l i, e2]⟩
theorem led_has {l : List Stp} (h : Led s l) (y : Int) (hy : siteB y = true) : hasB s y = (jnB l y && !lfB l y) ∧ knwB s y = (jnB l y || lfB l y) := by
  have hb := siteB_iff.1 hy
  have e1 : s.j.getLsbD y.toNat = jnB l y := by rw [h.j, decide_eq_true (by omega), Bool.true_and, show ((y.toNat : Nat) : Int) = y by omega]
  have e2 : s.l.getLsbD y.toNat = lfB l y := by rw [h.l, decide_eq_true (by omega), Bool.true_and, show ((y.toNat : Nat) : Int) = y by omega]
  unfold hasB knwB
  rw [hy, e1, e2, Bool.true_and, Bool.true_and]
  exact ⟨rfl, rfl⟩
/-- is a call a Leave ahead of all Joins? -/
def eaB (l : List Stp) (x : Stp) : Bool := x.lv && siteB x.site && !jnB l x.site
/-- where no Leave came early -/
structure Tim (s : St) : Prop where
  sub : ∀ i, s.l.getLsbD i = true → s.j.getLsbD i = true
  ep : s.e = (cnt s.m : Nat) + 2 * (cnt s.l : Nat)
theorem Tim.nil : Tim nilS := ⟨fun i h => by simp [nilS] at h, by show (0 : Int) = _; rw [show nilS.m = 0#32 by rfl, show nilS.l = 0#32 by rfl, cnt_zero]; rfl⟩
theorem Tim.do {l : List Stp} (h : Tim s) (hl : Led s l) (x : Stp) (he : eaB l x = false) : Tim (doS s x) := by
  by_cases hs : siteB x.site = true
  · have hb := siteB_iff.1 hs
    unfold doS
    cases hlv : x.lv with
    | false =>
      simp only [Bool.false_eq_true, if_false]
      by_cases hj : s.j.getLsbD x.site.toNat = true
      · have e : joS s x.site = s := by unfold joS stp; rw [or_same (fun _ => hj)]; simp [St.m]
        rw [e]; exact h
      · have hj' : s.j.getLsbD x.site.toNat = false := by simpa using hj
        have hl' : s.l.getLsbD x.site.toNat = false := by
          cases q : s.l.getLsbD x.site.toNat with
          | false => rfl
          | true => exact absurd (h.sub _ q) hj
        have e1 : cnt (memW (s.j ||| bitW x.site) s.l) = cnt s.m + 1 := cnt_add (n := x.site.toNat) (by omega) (by omega) (by unfold St.m; rw [memW_at, hj']; rfl) (fun i => by
          unfold St.m
          rw [memW_at, memW_at, or_at, hs]
          by_cases e : i = x.site.toNat
          · subst e; simp [hl']
          · simp [e])
        have e3 : memW (s.j ||| bitW x.site) s.l ≠ s.m := fun e => by rw [e] at e1; omega
        refine ⟨fun i hi => ?_, ?_⟩
        · show (s.j ||| bitW x.site).getLsbD i = true
          rw [or_at, h.sub i hi]; rfl
        · have he2 := h.ep
          show (if memW (s.j ||| bitW x.site) s.l = s.m then s.e else s.e + 1) = ((cnt (memW (s.j ||| bitW x.site) s.l) : Nat) : Int) + 2 * ((cnt s.l : Nat) : Int)
          rw [if_neg e3, e1]; omega
    | true =>
      simp only [if_true]
      have hj : s.j.getLsbD x.site.toNat = true := by
        unfold eaB at he
        rw [hlv, hs] at he
        simp at he
        rw [hl.j, decide_eq_true (by omega), Bool.true_and, show ((x.site.toNat : Nat) : Int) = x.site by omega]
        exact he
      by_cases hlx : s.l.getLsbD x.site.toNat = true
      · have e : lvS s x.site = s := by unfold lvS stp; rw [or_same (fun _ => hlx)]; simp [St.m]
        rw [e]; exact h
      · have hl' : s.l.getLsbD x.site.toNat = false := by simpa using hlx
        have e1 : cnt s.m = cnt (memW s.j (s.l ||| bitW x.site)) + 1 := cnt_add (n := x.site.toNat) (by omega) (by omega) (by rw [memW_at, or_at, hs]; simp) (fun i => by
          unfold St.m
          rw [memW_at, memW_at, or_at, hs]
          by_cases e : i = x.site.toNat
          · subst e; simp [hl', hj]
          · simp [e])
        have e2 : cnt (s.l ||| bitW x.site) = cnt s.l + 1 := cnt_add (n := x.site.toNat) (by omega) (by omega) hl' (fun i => by rw [or_at, hs, Bool.true_and])
        have e3 : memW s.j (s.l ||| bitW x.site) ≠ s.m := fun e => by rw [e] at e1; omega
        refine ⟨fun i hi => ?_, ?_⟩
        · have hi' : (s.l ||| bitW x.site).getLsbD i = true := hi
          rw [or_at, Bool.or_eq_true] at hi'
          rcases hi' with q | q
          · exact h.sub i q
          · rw [Bool.and_eq_true, decide_eq_true_eq] at q
            rw [q.2]; exact hj
        · have he2 := h.ep
          show (if memW s.j (s.l ||| bitW x.site) = s.m then s.e else s.e + 1) = ((cnt (memW s.j (s.l ||| bitW x.site)) : Nat) : Int) + 2 * ((cnt (s.l ||| bitW x.site) : Nat) : Int)
          rw [if_neg e3, e2]; omega
  · have hs' : siteB x.site = false := by simpa using hs
    have e : doS s x = s := by
      unfold doS
      cases x.lv
      · simp only [Bool.false_eq_true, if_false]; exact (jo_no hs').1
      · simp only [if_true]; exact (lv_no hs').1
    rw [e]; exact h

theorem RSt.take {a : Option Addr} {n c : Nat} {l : List Stp} (h : RSt W (.slice a n c) l) (hn : l.length = n) {i : Nat} (hi : i ≤ n) : RSt W (.slice a i c) (l.take i) := by
  unfold RSt at *
  have hl : (l.take i).length = i := by rw [List.length_take]; omega
  rw [hl]
  by_cases h0 : i = 0
  · subst h0; exact .inl ⟨rfl, _, _, rfl⟩
  · rcases h with ⟨e, _⟩ | ⟨b, off, cap, e, h1, h2, h3⟩
    · omega
    · simp at e
      obtain ⟨rfl, rfl, rfl⟩ := e
      refine .inr ⟨b, off, c, rfl, by omega, h2, fun j x hx => ?_⟩
      apply h3 j x
      rw [flat_take encS_len] at hx
      rw [List.getElem?_take] at hx
      split at hx
      · exact hx
      · cases hx

set_option maxRecDepth 100000 in
set_option maxHeartbeats 4000000 in
theorem joined_in {v : Value} {l : List Stp} (hr : RSt w v l) (hn : l.length ≤ 1000000) (y : Int) : Calls Try.prog 27 #[v, .int .i64 y] w fun e W => e = .returned (.bool (jnB l y)) ∧ Below w.heap.size w W := by
  obtain ⟨a, c, rfl⟩ := RC.form hr
  obtain ⟨n, hln⟩ : ∃ n, l.length = n := ⟨_, rfl⟩
  have HL := hide hln
  have HR := hide hr
  rw [hln]
  rw [hln] at hn
  obtain ⟨R, hR⟩ : ∃ R, jnB l y = R := ⟨_, rfl⟩
  have HF := hide hR
  rw [hR]
  clear hln hr hR
  go_enter Try.func27, Try.ntmps27
  go_wp2
  go_loopw [5] (fun iv wr => ∃ i : Nat, i ≤ n ∧ iv = .int .i64 (i : Nat) ∧ Hid (Below w.heap.size w wr ∧ jnB (l.drop i) y = R)) (fun iv _ => n - (RowKit.intOf iv).toNat)
  case atStart => exact ⟨0, Nat.zero_le _, rfl, hide ⟨Below.refl _ _, unhide HF⟩⟩
  case round =>
    obtain ⟨i, hi, rfl, HI⟩ := hrel
    clear HF
    by_cases hlt : i < n
    · have hlt' : (i : Int) < (n : Int) := by omega
      have hi1 : i < l.length := by rw [unhide HL]; exact hlt
      obtain ⟨x, hx⟩ : ∃ x, l[i]? = some x := ⟨_, List.getElem?_eq_getElem hi1⟩
      obtain ⟨hb, hf⟩ := unhide HI
      have e1 : l.drop i = x :: l.drop (i + 1) := by
        rw [List.drop_eq_getElem_cons hi1]
        rw [List.getElem?_eq_getElem hi1] at hx
        simp at hx
        rw [hx]
      rw [e1] at hf
      unfold jnB at hf
      rw [List.any_cons] at hf
      have hrow := (unhide HR).below hb
      rw [show (Value.slice a l.length c) = .slice a n c by rw [unhide HL]] at hrow
      obtain ⟨b1, o1, rfl, _, k0, k1⟩ := RSt.at hrow hx
      have HB := hide hb
      clear hrow hb hx e1 HI hi1
      obtain ⟨lv, st⟩ := x
      simp only at hf k0 k1
      cases lv with
      | true =>
        simp only [Bool.not_true, Bool.not_false, Bool.false_and, Bool.false_or] at hf
        have HF2 : Hid (jnB (l.drop (i + 1)) y = R) := hf
        clear hf
        go_wp2
        go_roundw
        case rel => exact ⟨i + 1, by omega, by go_num, hide ⟨unhide HB, unhide HF2⟩⟩
        case measure => show n - ((i : Int) + 1).toNat < n - ((i : Nat) : Int).toNat; omega
      | false =>
        simp only [Bool.not_true, Bool.not_false, Bool.true_and] at hf
        by_cases hy : st = y
        · have hy' : (st == y) = true := by simpa using hy
          rw [hy', Bool.true_or] at hf
          have HF2 := hide hf
          clear hf hy
          go_wp2
          go_ret
          exact ⟨by rw [← unhide HF2]; rfl, unhide HB⟩
        · have hy' : (st == y) = false := by simpa using hy
          rw [hy', Bool.false_or] at hf
          have HF2 : Hid (jnB (l.drop (i + 1)) y = R) := hf
          clear hf hy
          go_wp2
          go_roundw
          case rel => exact ⟨i + 1, by omega, by go_num, hide ⟨unhide HB, unhide HF2⟩⟩
          case measure => show n - ((i : Int) + 1).toNat < n - ((i : Nat) : Int).toNat; omega
    · obtain rfl : i = n := by omega
      have hlt' : ¬ (i : Int) < (i : Int) := by omega
      have hfin : Hid (R = false ∧ Below w.heap.size w wr) := by
        obtain ⟨hb, hf⟩ := unhide HI
        rw [List.drop_of_length_le (by rw [unhide HL]; exact Nat.le_refl _)] at hf
        exact ⟨hf.symm, hb⟩
      clear HI
      go_wp2
      go_ret
      exact ⟨by rw [(unhide hfin).1]; rfl, (unhide hfin).2⟩

set_option maxRecDepth 100000 in
set_option maxHeartbeats 4000000 in
theorem left_in {v : Value} {l : List Stp} (hr : RSt w v l) (hn : l.length ≤ 1000000) (y : Int) : Calls Try.prog 30 #[v, .int .i64 y] w fun e W => e = .returned (.bool (lfB l y)) ∧ Below w.heap.size w W := by
  obtain ⟨a, c, rfl⟩ := RC.form hr
  obtain ⟨n, hln⟩ : ∃ n, l.length = n := ⟨_, rfl⟩
  have HL := hide hln
  have HR := hide hr
  rw [hln]
  rw [hln] at hn
  obtain ⟨R, hR⟩ : ∃ R, lfB l y = R := ⟨_, rfl⟩
  have HF := hide hR
  rw [hR]
  clear hln hr hR
  go_enter Try.func30, Try.ntmps30
  go_wp2
  go_loopw [5] (fun iv wr => ∃ i : Nat, i ≤ n ∧ iv = .int .i64 (i : Nat) ∧ Hid (Below w.heap.size w wr ∧ lfB (l.drop i) y = R)) (fun iv _ => n - (RowKit.intOf iv).toNat)
  case atStart => exact ⟨0, Nat.zero_le _, rfl, hide ⟨Below.refl _ _, unhide HF⟩⟩
  case round =>
    obtain ⟨i, hi, rfl, HI⟩ := hrel
    clear HF
    by_cases hlt : i < n
    · have hlt' : (i : Int) < (n : Int) := by omega
      have hi1 : i < l.length := by rw [unhide HL]; exact hlt
      obtain ⟨x, hx⟩ : ∃ x, l[i]? = some x := ⟨_, List.getElem?_eq_getElem hi1⟩
      obtain ⟨hb, hf⟩ := unhide HI
      have e1 : l.drop i = x :: l.drop (i + 1) := by
        rw [List.drop_eq_getElem_cons hi1]
        rw [List.getElem?_eq_getElem hi1] at hx
        simp at hx
        rw [hx]
      rw [e1] at hf
      unfold lfB at hf
      rw [List.any_cons] at hf
      have hrow := (unhide HR).below hb
      rw [show (Value.slice a l.length c) = .slice a n c by rw [unhide HL]] at hrow
      obtain ⟨b1, o1, rfl, _, k0, k1⟩ := RSt.at hrow hx
      have HB := hide hb
      clear hrow hb hx e1 HI hi1
      obtain ⟨lv, st⟩ := x
      simp only at hf k0 k1
      cases lv with
      | false =>
        simp only [Bool.not_true, Bool.not_false, Bool.false_and, Bool.false_or] at hf
        have HF2 : Hid (lfB (l.drop (i + 1)) y = R) := hf
        clear hf
        go_wp2
        go_roundw
        case rel => exact ⟨i + 1, by omega, by go_num, hide ⟨unhide HB, unhide HF2⟩⟩
        case measure => show n - ((i : Int) + 1).toNat < n - ((i : Nat) : Int).toNat; omega
      | true =>
        simp only [Bool.not_true, Bool.not_false, Bool.true_and] at hf
        by_cases hy : st = y
        · have hy' : (st == y) = true := by simpa using hy
          rw [hy', Bool.true_or] at hf
          have HF2 := hide hf
          clear hf hy
          go_wp2
          go_ret
          exact ⟨by rw [← unhide HF2]; rfl, unhide HB⟩
        · have hy' : (st == y) = false := by simpa using hy
          rw [hy', Bool.false_or] at hf
          have HF2 : Hid (lfB (l.drop (i + 1)) y = R) := hf
          clear hf hy
          go_wp2
          go_roundw
          case rel => exact ⟨i + 1, by omega, by go_num, hide ⟨unhide HB, unhide HF2⟩⟩
          case measure => show n - ((i : Int) + 1).toNat < n - ((i : Nat) : Int).toNat; omega
    · obtain rfl : i = n := by omega
      have hlt' : ¬ (i : Int) < (i : Int) := by omega
      have hfin : Hid (R = false ∧ Below w.heap.size w wr) := by
        obtain ⟨hb, hf⟩ := unhide HI
        rw [List.drop_of_length_le (by rw [unhide HL]; exact Nat.le_refl _)] at hf
        exact ⟨hf.symm, hb⟩
      clear HI
      go_wp2
      go_ret
      exact ⟨by rw [(unhide hfin).1]; rfl, (unhide hfin).2⟩

/-- two Rolls, and a call in a box of its own -/
structure KX (w W : World) (b : Nat) (s : St) (b' : Nat) (s' : St) (k : Nat) (x : Stp) : Prop where
  two : K2 w W b s b' s'
  bx : Bx W k 30 #[.bool x.lv, .int .i64 x.site]
  kn : k ≠ b
theorem KX.below {k : Nat} {x : Stp} (h : KX w W b s b' s' k x) (hb : Below W.heap.size W W') : KX w W' b s b' s' k x := ⟨h.two.below hb, h.bx.below hb, h.kn⟩
theorem KX.do {k : Nat} {x : Stp} (h : KX w W b s b' s' k x) : Calls Try.prog 28 #[.pointer (some ⟨b, 0, none⟩), .agg #[.bool x.lv, .int .i64 x.site]] W fun e W' => e = .returned (.bool (doB s x)) ∧ KX w W' b (doS s x) b' s' k x := (do_in h.two.one.rb h.two.one.gd x).mono fun e W' ⟨h1, h2, h3⟩ => by
  have hb := h3.below h.two.one.bel (fun i e => by have := h.two.one.lo; omega)
  exact ⟨h1, ⟨⟨h2, h.two.one.gd.doS x, h.two.one.lo, hb⟩, ⟨h.two.two.rb.kp h3 h.two.ne.symm, h.two.two.gd, h.two.two.lo, hb⟩, h.two.ne⟩, h.bx.kp h3 h.kn, h.kn⟩

theorem infoS : (Try.prog.info? 30).map (fun i => (i.size, i.bytes)) = some (2, 16) := by kernel_rfl
theorem sl_toS (w : World) (a : Option Addr) (n c k : Nat) (hk : k ≤ c) :
    (Instr.sliceAt 22 (.slice a n c) none (some (.int .i64 (k : Nat))) none).run Try.prog w = .ok (.slice a k c) w := by
  obtain ⟨i0, hi, hz⟩ : ∃ i0, Try.prog.info? 30 = some i0 ∧ i0.size = 2 := by
    have := infoS
    cases h : Try.prog.info? 30 with
    | none => rw [h] at this; cases this
    | some i => rw [h] at this; simp at this; exact ⟨i, rfl, this.1⟩
  have h1 : (k : Int) ≤ (c : Int) := by omega
  simp [Instr.sliceAt, Instr.slice, run_underlying Try.underlying22, sizeOf, typeInfo, hi, hz, go_sem, h1, hk]

end Go.Proofs.Ytjcdfjnlpfineaa
