/-
  The law's bytes, same, copies.
-/
import Derived.Test.YteomalmflebkhaaZNT
import Derived.Test.YteomalmflebkhaaZQW
set_option linter.unusedSimpArgs false
set_option linter.unusedVariables false
namespace Go.Proofs.Yteomalmflebkhaa
open Go.RowKit Go.Lib

set_option maxRecDepth 100000 in
set_option maxHeartbeats 2000000 in
theorem lbytes_in (u v : Value) (l m : List Int) (w : World) (hu : RB w u l) (hv : RB w v m) (hl : l.length ≤ 1000000) (hm : m.length ≤ 1000000) : Calls Try.prog 25 #[u, v] w fun e W => e = .returned (.bool (decide (l = m))) ∧ Below w.heap.size w W := by
  obtain ⟨a, c, rfl⟩ := hu.form
  obtain ⟨a', c', rfl⟩ := hv.form
  by_cases hne : l.length = m.length
  · obtain ⟨D, hD⟩ : ∃ D, decide (l = m) = D := ⟨_, rfl⟩
    rw [hD]
    replace hD := hide hD
    obtain ⟨n, hn⟩ : ∃ n, l.length = n := ⟨_, rfl⟩
    have hn' : m.length = n := by omega
    have HL := hide hn
    have HM := hide hn'
    have HU := hide hu
    have HV := hide hv
    rw [hn, hn']
    rw [hn] at hl
    clear hn hn' hne hm hu hv
    go_enter Try.func25, Try.ntmps25
    go_wp2
    go_loopw [5] (fun iv wr => ∃ i : Nat, i ≤ n ∧ iv = .int .i64 (i : Nat) ∧ Hid (l.take i = m.take i ∧ Below w.heap.size w wr)) (fun iv _ => n - (RowKit.intOf iv).toNat)
    case atStart => exact ⟨0, Nat.zero_le _, rfl, hide ⟨by simp, Below.refl _ _⟩⟩
    case round =>
      obtain ⟨i, hi, rfl, HI⟩ := hrel
      obtain ⟨htk, hb⟩ := unhide HI
      by_cases hlt : i < n
      · have hlt' : (i : Int) < (n : Int) := by omega
        have hi1 : i < l.length := by rw [unhide HL]; exact hlt
        have hi2 : i < m.length := by rw [unhide HM]; exact hlt
        have ru := (unhide HU).below hb
        have rv := (unhide HV).below hb
        rw [show (Value.slice a l.length c) = .slice a n c by rw [unhide HL]] at ru
        rw [show (Value.slice a' m.length c') = .slice a' n c' by rw [unhide HM]] at rv
        obtain ⟨b1, o1, rfl, _, k1⟩ := RB.at ru (List.getElem?_eq_getElem hi1)
        obtain ⟨b2, o2, rfl, _, k2⟩ := RB.at rv (List.getElem?_eq_getElem hi2)
        by_cases he : l[i] = m[i]
        · have hnq : (l[i] != m[i]) = false := by simpa using he
          have htk' : l.take (i + 1) = m.take (i + 1) := by
            rw [List.take_add_one, List.take_add_one, htk, List.getElem?_eq_getElem hi1, List.getElem?_eq_getElem hi2, he]
          have Htk' := hide htk'
          clear he htk' htk hb ru rv
          generalize l[i] = e at *
          generalize m[i] = e' at *
          go_wp2
          go_quiet (fail)
          go_wp2
          go_roundw
          case rel => exact ⟨i + 1, by omega, by go_num, hide ⟨unhide Htk', bdrew (unhide HI).2 _⟩⟩
          case measure => show n - ((i : Int) + 1).toNat < n - ((i : Nat) : Int).toNat; omega
        · have hnq : (l[i] != m[i]) = true := by simpa using he
          have Hfin := hide (show D = false by
            rw [← unhide hD, decide_eq_false_iff_not]
            intro e
            subst e
            exact he rfl)
          clear he htk hb ru rv
          generalize l[i] = e at *
          generalize m[i] = e' at *
          go_wp2
          go_quiet (fail)
          go_wp2
          go_ret
          exact ⟨by rw [unhide Hfin]; rfl, bdrew (unhide HI).2 _⟩
      · have Hfin := hide (show D = true by
          rw [List.take_of_length_le (by rw [unhide HL]; omega), List.take_of_length_le (by rw [unhide HM]; omega)] at htk
          rw [← unhide hD]
          exact decide_eq_true htk)
        have i1 : ¬ (i : Int) < (n : Int) := by omega
        clear htk hb
        go_wp2
        go_ret
        exact ⟨by rw [unhide Hfin]; rfl, (unhide HI).2⟩
  · have hd : decide (l = m) = false := by rw [decide_eq_false_iff_not]; intro e; exact hne (by rw [e])
    rw [hd]
    have hne' : ((l.length : Int) != (m.length : Int)) = true := by simp; omega
    clear hd hu hv hne
    generalize l.length = L at *
    generalize m.length = M at *
    go_enter Try.func25, Try.ntmps25
    go_wp2
    go_ret
    exact ⟨rfl, Below.refl _ _⟩

/-- two copies tell the same -/
def eqC (c d : Cp) : Bool := c.num == d.num && c.frm == d.frm && c.to == d.to && decide (c.dat = d.dat) && c.sent == d.sent && c.bad == d.bad
theorem eqC_self (c : Cp) : eqC c c = true := by unfold eqC; simp
def eqL : List Cp → List Cp → Bool
  | [], [] => true
  | c :: l, d :: m => eqC c d && eqL l m
  | _, _ => false
theorem eqL_self : ∀ l : List Cp, eqL l l = true
  | [] => rfl
  | c :: l => by unfold eqL; rw [eqC_self, eqL_self l]; rfl
theorem eqL_len : ∀ {l m : List Cp}, eqL l m = true → l.length = m.length
  | [], [], _ => rfl
  | c :: l, d :: m, h => by
    unfold eqL at h
    rw [Bool.and_eq_true] at h
    rw [List.length_cons, List.length_cons, eqL_len h.2]
  | [], d :: m, h => by cases h
  | c :: l, [], h => by cases h
theorem eqL_get : ∀ {l m : List Cp} {i : Nat} {c d : Cp}, eqL l m = true → l[i]? = some c → m[i]? = some d → eqC c d = true
  | c :: l, d :: m, 0, _, _, h, h1, h2 => by
    cases h1; cases h2
    unfold eqL at h
    rw [Bool.and_eq_true] at h
    exact h.1
  | c :: l, d :: m, i + 1, _, _, h, h1, h2 => by
    unfold eqL at h
    rw [Bool.and_eq_true] at h
    exact eqL_get h.2 (by simpa using h1) (by simpa using h2)
  | [], _, _, _, _, h, h1, _ => by simp at h1
  | c :: l, [], _, _, _, h, _, h2 => by simp at h2
theorem eqL_of : ∀ {l m : List Cp}, l.length = m.length → (∀ (i : Nat) (c d : Cp), l[i]? = some c → m[i]? = some d → eqC c d = true) → eqL l m = true
  | [], [], _, _ => rfl
  | c :: l, d :: m, h, k => by
    unfold eqL
    rw [k 0 c d rfl rfl, eqL_of (by simpa using h) (fun i x y h1 h2 => k (i + 1) x y (by simpa using h1) (by simpa using h2))]
    rfl
  | [], d :: m, h, _ => by simp at h
  | c :: l, [], h, _ => by simp at h
theorem eqC_tkC (c : Cp) (d : Cp) (h1 : c.num = d.num) (h2 : c.frm = d.frm) (h3 : c.to = d.to) (h4 : c.dat = d.dat) (h5 : c.sent = d.sent) (h6 : c.bad = d.bad) : eqC c d = true := by unfold eqC; rw [h1, h2, h3, h4, h5, h6]; simp
set_option maxRecDepth 100000 in
set_option maxHeartbeats 4000000 in
theorem same_in (c d : Cp) (a1 a2 : Option Addr) (k1 k2 : Nat) (w : World) (h1 : RB w (.slice a1 c.dat.length k1) c.dat) (h2 : RB w (.slice a2 d.dat.length k2) d.dat) (l1 : c.dat.length ≤ 1000000) (l2 : d.dat.length ≤ 1000000) : Calls Try.prog 21 #[cpV c (.slice a1 c.dat.length k1), cpV d (.slice a2 d.dat.length k2)] w fun e W => e = .returned (.bool (eqC c d)) ∧ Below w.heap.size w W := by
  obtain ⟨X0, hX0⟩ : ∃ X0, w.alloc (.cells #[.int .i64 c.num, .int .i64 c.frm, .int .i64 c.to, .slice a1 c.dat.length k1, .int .i64 c.sent, .bool c.bad] 44) = X0 := ⟨_, rfl⟩
  obtain ⟨X1, hX1⟩ : ∃ X1, X0.alloc (.cells #[.int .i64 d.num, .int .i64 d.frm, .int .i64 d.to, .slice a2 d.dat.length k2, .int .i64 d.sent, .bool d.bad] 44) = X1 := ⟨_, rfl⟩
  have b0 : Below w.heap.size w X0 := by rw [← hX0]; exact ballc (Below.refl _ _) _
  have b1 : Below X0.heap.size X0 X1 := by rw [← hX1]; exact ballc (Below.refl _ _) _
  have x0 : Bx X1 w.heap.size 44 #[.int .i64 c.num, .int .i64 c.frm, .int .i64 c.to, .slice a1 c.dat.length k1, .int .i64 c.sent, .bool c.bad] := by refine Bx.below ?_ b1; rw [← hX0]; exact Bx.new _ _ _
  have x1 : Bx X1 X0.heap.size 44 #[.int .i64 d.num, .int .i64 d.frm, .int .i64 d.to, .slice a2 d.dat.length k2, .int .i64 d.sent, .bool d.bad] := by rw [← hX1]; exact Bx.new _ _ _
  have B1 := hide (bnext b0 b1)
  have HY := hide (lbytes_in _ _ c.dat d.dat X1 ((h1.below b0).below b1) ((h2.below b0).below b1) l1 l2)
  have CY : Hid (∀ W, Below X1.heap.size X1 W → (W.cell? ⟨w.heap.size, 4, none⟩ = some (.int .i64 c.sent) ∧ W.cell? ⟨w.heap.size, 5, none⟩ = some (.bool c.bad) ∧ W.cell? ⟨X0.heap.size, 4, none⟩ = some (.int .i64 d.sent) ∧ W.cell? ⟨X0.heap.size, 5, none⟩ = some (.bool d.bad))) := fun W hW => ⟨cell_below (x0.cell 4 _ rfl) hW, cell_below (x0.cell 5 _ rfl) hW, cell_below (x1.cell 4 _ rfl) hW, cell_below (x1.cell 5 _ rfl) hW⟩
  have p0 := x0.cell 0 (.int .i64 c.num) rfl
  have q0 := x1.cell 0 (.int .i64 d.num) rfl
  have p1 := x0.cell 1 (.int .i64 c.frm) rfl
  have q1 := x1.cell 1 (.int .i64 d.frm) rfl
  have p2 := x0.cell 2 (.int .i64 c.to) rfl
  have q2 := x1.cell 2 (.int .i64 d.to) rfl
  have p3 := x0.cell 3 (.slice a1 c.dat.length k1) rfl
  have q3 := x1.cell 3 (.slice a2 d.dat.length k2) rfl
  obtain ⟨R, hR⟩ : ∃ R, eqC c d = R := ⟨_, rfl⟩
  rw [hR]
  unfold cpV
  unfold eqC at hR
  have e4 : Hid (∀ x, decide (c.dat = d.dat) = x → decide (c.dat = d.dat) = x) := fun _ h => h
  obtain ⟨E, hE⟩ : ∃ E, decide (c.dat = d.dat) = E := ⟨_, rfl⟩
  rw [hE] at HY hR
  clear e4 hE h1 h2 b0 b1 x0 x1 l1 l2
  generalize c.dat.length = n1 at *
  generalize d.dat.length = n2 at *
  generalize c.num = c0 at *
  generalize c.frm = c1 at *
  generalize c.to = c2 at *
  generalize c.sent = c4 at *
  generalize c.bad = c5 at *
  generalize d.num = d0 at *
  generalize d.frm = d1 at *
  generalize d.to = d2 at *
  generalize d.sent = d4 at *
  generalize d.bad = d5 at *
  cases t0 : (c0 == d0) with
  | false =>
    rw [t0] at hR
    try simp only [Bool.false_and, Bool.and_false, Bool.true_and] at hR
    subst hR
    go_enter Try.func21, Try.ntmps21
    clear HY CY
    go_wp2
    go_ret
    exact ⟨rfl, unhide B1⟩
  | true =>
    rw [t0] at hR
    try simp only [Bool.true_and, Bool.and_true] at hR
    cases t1 : (c1 == d1) with
    | false =>
      rw [t1] at hR
      try simp only [Bool.false_and, Bool.and_false, Bool.true_and] at hR
      subst hR
      go_enter Try.func21, Try.ntmps21
      clear HY CY
      go_wp2
      go_ret
      exact ⟨rfl, unhide B1⟩
    | true =>
      rw [t1] at hR
      try simp only [Bool.true_and, Bool.and_true] at hR
      cases t2 : (c2 == d2) with
      | false =>
        rw [t2] at hR
        try simp only [Bool.false_and, Bool.and_false, Bool.true_and] at hR
        subst hR
        go_enter Try.func21, Try.ntmps21
        clear HY CY
        go_wp2
        go_ret
        exact ⟨rfl, unhide B1⟩
      | true =>
        rw [t2] at hR
        try simp only [Bool.true_and, Bool.and_true] at hR
        cases E with
        | false =>
          try simp only [Bool.true_and, Bool.and_true, Bool.false_and, Bool.and_false] at hR
          subst hR
          go_enter Try.func21, Try.ntmps21
          go_wp2_with fail
          refine (unhide HY).mono ?_
          rintro e W ⟨rfl, hb⟩
          have HB := hide (bnext (unhide B1) hb)
          obtain ⟨p4, p5, q4, q5⟩ := unhide CY W hb
          clear HY hb CY
          go_wp2
          go_ret
          exact ⟨rfl, unhide HB⟩
        | true =>
          try simp only [Bool.true_and, Bool.and_true] at hR
          cases t4 : (c4 == d4) with
          | false =>
            rw [t4] at hR
            try simp only [Bool.false_and, Bool.and_false, Bool.true_and] at hR
            subst hR
            go_enter Try.func21, Try.ntmps21
            go_wp2_with fail
            refine (unhide HY).mono ?_
            rintro e W ⟨rfl, hb⟩
            have HB := hide (bnext (unhide B1) hb)
            obtain ⟨p4, p5, q4, q5⟩ := unhide CY W hb
            clear HY hb CY
            go_wp2
            go_ret
            exact ⟨rfl, unhide HB⟩
          | true =>
            rw [t4] at hR
            try simp only [Bool.true_and, Bool.and_true] at hR
            cases t5 : (c5 == d5) with
            | false =>
              rw [t5] at hR
              try simp only [Bool.false_and, Bool.and_false, Bool.true_and] at hR
              subst hR
              go_enter Try.func21, Try.ntmps21
              go_wp2_with fail
              refine (unhide HY).mono ?_
              rintro e W ⟨rfl, hb⟩
              have HB := hide (bnext (unhide B1) hb)
              obtain ⟨p4, p5, q4, q5⟩ := unhide CY W hb
              clear HY hb CY
              go_wp2
              go_ret
              exact ⟨rfl, unhide HB⟩
            | true =>
              rw [t5] at hR
              try simp only [Bool.true_and, Bool.and_true] at hR
              subst hR
              go_enter Try.func21, Try.ntmps21
              go_wp2_with fail
              refine (unhide HY).mono ?_
              rintro e W ⟨rfl, hb⟩
              have HB := hide (bnext (unhide B1) hb)
              obtain ⟨p4, p5, q4, q5⟩ := unhide CY W hb
              clear HY hb CY
              go_wp2
              go_ret
              exact ⟨rfl, unhide HB⟩

end Go.Proofs.Yteomalmflebkhaa
