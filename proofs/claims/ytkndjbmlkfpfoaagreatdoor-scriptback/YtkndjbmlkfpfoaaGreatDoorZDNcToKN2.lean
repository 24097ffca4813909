/-
  The document's line of a step.
-/
import Derived.Test.YtkndjbmlkfpfoaaGreatDoorZDNaToDNb
import Derived.Test.YtkndjbmlkfpfoaaGreatDoorZRQ
import Derived.Test.YtkndjbmlkfpfoaaGreatDoorZTM
import Derived.Deep.RegionHeld3

set_option linter.unusedSimpArgs false
set_option linter.unusedVariables false
namespace Go.Proofs.YtkndjbmlkfpfoaaGreatDoor
open Go.RowKit Go.Lib

/-- a letter's words -/
def ltw (s : Sp) (c : UInt8) : List (List UInt8) := if c = 115 then [itoa s.site] else if c = 112 then [itoa s.peer] else if c = 97 then [itoa s.at_] else if c = 110 then [itoa s.n] else if c = 116 then [(qT s.text).data.toList] else [(qT (ofL s.data)).data.toList]
def dlW (s : Sp) : List (List UInt8) := if s.kind = 6 then s.draws.map itoa else (shT s.kind).flatMap (ltw s)
/-- a step's line, without its end -/
def dlT (s : Sp) : List UInt8 := nmT s.kind ++ blT (dlW s)
theorem dlT_is {s : Sp} (h : isK s) : dlT s ++ [10] = stT s := by
  obtain ⟨h1, h2⟩ := h
  have : s.kind = 1 ∨ s.kind = 2 ∨ s.kind = 3 ∨ s.kind = 4 ∨ s.kind = 5 ∨ s.kind = 6 ∨ s.kind = 7 ∨ s.kind = 8 ∨ s.kind = 9 ∨ s.kind = 10 ∨ s.kind = 11 ∨ s.kind = 12 ∨ s.kind = 13 ∨ s.kind = 14 := by omega
  unfold dlT stT dlW stW kx lnT nmT shT
  rcases this with h | h | h | h | h | h | h | h | h | h | h | h | h | h <;> rw [h] <;> simp [tnm, tsh, tfl, fw, ltw, blT]
theorem dlT_no {s : Sp} (h : ¬ isK s) : dlT s = [] := by
  have h1 : nmT s.kind = [] := (nmT_ne _).2 h
  have h2 : shT s.kind = [] := by unfold shT; exact if_neg h
  have h3 : s.kind ≠ 6 := fun e => h ⟨by omega, by omega⟩
  unfold dlT dlW
  rw [h1, h2, if_neg h3]
  rfl
end Go.Proofs.YtkndjbmlkfpfoaaGreatDoor

/-
  The law's own: what is the same, what is too much.
-/
set_option linter.unusedSimpArgs false
set_option linter.unusedVariables false
namespace Go.Proofs.YtkndjbmlkfpfoaaGreatDoor
open Go.RowKit Go.Lib

set_option maxRecDepth 100000 in
set_option maxHeartbeats 2000000 in
theorem ints_in (u v : Value) (l m : List Int) (w : World) (hu : RNm w u l) (hv : RNm w v m) (hl : l.length ≤ 1000000) (hm : m.length ≤ 1000000) : Calls Tryz.prog 22 #[u, v] w fun e W => e = .returned (.bool (decide (l = m))) ∧ Below w.heap.size w W := by
  obtain ⟨a, c, rfl⟩ := RC.form hu
  obtain ⟨a', c', rfl⟩ := RC.form hv
  by_cases hne : l.length = m.length
  · obtain ⟨D, hD⟩ : ∃ D, decide (l = m) = D := ⟨_, rfl⟩
    rw [hD]
    replace hD := hide hD
    obtain ⟨n, hn⟩ : ∃ n, l.length = n := ⟨_, rfl⟩
    have hn' : m.length = n := by omega
    have HL := hide hn
    have HM := hide hn'
    have HU := hide hu
    have HV := hide hv
    rw [hn, hn']
    rw [hn] at hl
    clear hn hn' hne hm hu hv
    go_enter Tryz.func22, Tryz.ntmps22
    go_wp2
    go_loopw [5] (fun iv wr => ∃ i : Nat, i ≤ n ∧ iv = .int .i64 (i : Nat) ∧ Hid (l.take i = m.take i ∧ Below w.heap.size w wr)) (fun iv _ => n - (RowKit.intOf iv).toNat)
    case atStart => exact ⟨0, Nat.zero_le _, rfl, hide ⟨by simp, Below.refl _ _⟩⟩
    case round =>
      obtain ⟨i, hi, rfl, HI⟩ := hrel
      obtain ⟨htk, hb⟩ := unhide HI
      by_cases hlt : i < n
      · have hlt' : (i : Int) < (n : Int) := by omega
        have hi1 : i < l.length := by rw [unhide HL]; exact hlt
        have hi2 : i < m.length := by rw [unhide HM]; exact hlt
        have ru := RC.below (unhide HU) hb
        have rv := RC.below (unhide HV) hb
        rw [show (Value.slice a l.length c) = .slice a n c by rw [unhide HL]] at ru
        rw [show (Value.slice a' m.length c') = .slice a' n c' by rw [unhide HM]] at rv
        obtain ⟨b1, o1, rfl, _, k1⟩ := RNm.at ru (List.getElem?_eq_getElem hi1)
        obtain ⟨b2, o2, rfl, _, k2⟩ := RNm.at rv (List.getElem?_eq_getElem hi2)
        by_cases he : l[i] = m[i]
        · have hnq : (l[i] != m[i]) = false := by simpa using he
          have htk' : l.take (i + 1) = m.take (i + 1) := by
            rw [List.take_add_one, List.take_add_one, htk, List.getElem?_eq_getElem hi1, List.getElem?_eq_getElem hi2, he]
          have Htk' := hide htk'
          clear he htk' htk hb ru rv
          generalize l[i] = e at *
          generalize m[i] = e' at *
          go_wp2
          go_quiet (fail)
          go_wp2
          go_roundw
          case rel => exact ⟨i + 1, by omega, by go_num, hide ⟨unhide Htk', bdrew (unhide HI).2 _⟩⟩
          case measure => show n - ((i : Int) + 1).toNat < n - ((i : Nat) : Int).toNat; omega
        · have hnq : (l[i] != m[i]) = true := by simpa using he
          have Hfin := hide (show D = false by
            rw [← unhide hD, decide_eq_false_iff_not]
            intro e
            subst e
            exact he rfl)
          clear he htk hb ru rv
          generalize l[i] = e at *
          generalize m[i] = e' at *
          go_wp2
          go_quiet (fail)
          go_wp2
          go_ret
          exact ⟨by rw [unhide Hfin]; rfl, bdrew (unhide HI).2 _⟩
      · have Hfin := hide (show D = true by
          rw [List.take_of_length_le (by rw [unhide HL]; omega), List.take_of_length_le (by rw [unhide HM]; omega)] at htk
          rw [← unhide hD]
          exact decide_eq_true htk)
        have i1 : ¬ (i : Int) < (n : Int) := by omega
        clear htk hb
        go_wp2
        go_ret
        exact ⟨by rw [unhide Hfin]; rfl, (unhide HI).2⟩
  · have hd : decide (l = m) = false := by rw [decide_eq_false_iff_not]; intro e; exact hne (by rw [e])
    rw [hd]
    have hne' : ((l.length : Int) != (m.length : Int)) = true := by simp; omega
    clear hd hu hv hne
    generalize l.length = L at *
    generalize m.length = M at *
    go_enter Tryz.func22, Tryz.ntmps22
    go_wp2
    go_ret
    exact ⟨rfl, Below.refl _ _⟩


set_option maxRecDepth 100000 in
set_option maxHeartbeats 4000000 in
theorem one_in (s : Sp) (dv bv du bu : Value) (W : World) (hd : RNm W dv s.draws) (hb : RBy W bv s.data) (hd' : RNm W du s.draws) (hb' : RBy W bu s.data) (hl : s.draws.length ≤ 1000000) :
    Calls Tryz.prog 28 #[.agg (spC s dv bv), .agg (spC s du bu)] W fun e W' => e = .returned (.bool true) ∧ Below W.heap.size W W' := by
  obtain ⟨da, dc, rfl⟩ := RC.form hd
  obtain ⟨ba, bc, rfl⟩ := RC.form hb
  obtain ⟨ea, ec, rfl⟩ := RC.form hd'
  obtain ⟨fa, fc, rfl⟩ := RC.form hb'
  obtain ⟨X, hX⟩ : ∃ X, W.alloc (.cells (spC s (.slice da s.draws.length dc) (.slice ba s.data.length bc)) 40) = X := ⟨_, rfl⟩
  have hb1 : Below W.heap.size W X := by rw [← hX]; exact ballc (Below.refl _ _) _
  have hst : StB X W.heap.size s (.slice da s.draws.length dc) (.slice ba s.data.length bc) := ⟨by rw [← hX]; exact Bq.new _ _ _, RC.below hd hb1, RC.below hb hb1⟩
  have hsz : X.heap.size = W.heap.size + 1 := by rw [← hX]; simp
  obtain ⟨Y, hY⟩ : ∃ Y, X.alloc (.cells (spC s (.slice ea s.draws.length ec) (.slice fa s.data.length fc)) 40) = Y := ⟨_, rfl⟩
  have hb2 : Below W.heap.size W Y := by rw [← hY]; exact ballc hb1 _
  have hb3 : Below X.heap.size X Y := by rw [← hY]; exact ballc (Below.refl _ _) _
  have hsu : StB Y (W.heap.size + 1) s (.slice ea s.draws.length ec) (.slice fa s.data.length fc) := ⟨by rw [← hsz, ← hY]; exact Bq.new _ _ _, RC.below hd' hb2, RC.below hb' hb2⟩
  have hst2 := hst.below hb3
  have hi := hide (ints_in _ _ s.draws s.draws Y hst2.dr hsu.dr hl hl)
  have g1 := conv_rc hst2.by_
  have g2 := conv_rc hsu.by_
  obtain ⟨n1, hn1⟩ : ∃ n, s.draws.length = n := ⟨_, rfl⟩
  obtain ⟨n2, hn2⟩ : ∃ n, s.data.length = n := ⟨_, rfl⟩
  obtain ⟨DT, hDT⟩ : ∃ n, ofL s.data = n := ⟨_, rfl⟩
  have hbx := hst2.box
  have hby := hsu.box
  rw [decide_eq_true rfl] at hi
  rw [hn1] at hl hi
  rw [hDT] at g1 g2
  rw [hn1, hn2] at hbx hby hX hY ⊢
  rw [hn2] at g1 g2
  have c0 := hbx.cell 0 (.int .i64 s.kind) rfl
  have c1 := hbx.cell 1 (.int .i64 s.site) rfl
  have c2 := hbx.cell 2 (.int .i64 s.peer) rfl
  have c3 := hbx.cell 3 (.int .i64 s.unit) rfl
  have c4 := hbx.cell 4 (.int .i64 s.at_) rfl
  have c5 := hbx.cell 5 (.int .i64 s.n) rfl
  have c6 := hbx.cell 6 (.string s.text) rfl
  have c7 := hbx.cell 7 (.slice da n1 dc) rfl
  have c8 := hbx.cell 8 (.slice ba n2 bc) rfl
  have d0 := hby.cell 0 (.int .i64 s.kind) rfl
  have d1 := hby.cell 1 (.int .i64 s.site) rfl
  have d2 := hby.cell 2 (.int .i64 s.peer) rfl
  have d3 := hby.cell 3 (.int .i64 s.unit) rfl
  have d4 := hby.cell 4 (.int .i64 s.at_) rfl
  have d5 := hby.cell 5 (.int .i64 s.n) rfl
  have d6 := hby.cell 6 (.string s.text) rfl
  have d7 := hby.cell 7 (.slice ea n1 ec) rfl
  have d8 := hby.cell 8 (.slice fa n2 fc) rfl
  have HX := hide hX
  have HY := hide hY
  have HB := hide hb2
  have e0 : (s.kind == s.kind) = true := by simp
  have e1 : (s.site == s.site) = true := by simp
  have e2 : (s.peer == s.peer) = true := by simp
  have e3 : (s.unit == s.unit) = true := by simp
  have e4 : (s.at_ == s.at_) = true := by simp
  have e5 : (s.n == s.n) = true := by simp
  clear hX hY hb1 hb2 hb3 hst hsu hst2 hsz hbx hby hd hb hd' hb' hn1 hn2 hDT
  unfold spC at HX HY ⊢
  go_enter Tryz.func28, Tryz.ntmps28
  go_upto_region 1 with fail
  rw [unhide HX, unhide HY]
  go_wp2_with fail
  refine (unhide hi).mono ?_
  rintro e W3 ⟨rfl, hb3⟩
  have HB3 := hide (bnext (unhide HB) hb3)
  clear hb3 hi
  go_wp2
  go_ret
  exact ⟨rfl, unhide HB3⟩

end Go.Proofs.YtkndjbmlkfpfoaaGreatDoor

/-
  The law's same, of what is the same.
-/
set_option linter.unusedSimpArgs false
set_option linter.unusedVariables false
namespace Go.Proofs.YtkndjbmlkfpfoaaGreatDoor
open Go.RowKit Go.Lib

set_option maxRecDepth 100000 in
set_option maxHeartbeats 8000000 in
theorem same_in {w : World} (v u : Value) (l m : List (Sp × Value × Value)) (hr : RStp w v l) (hr' : RStp w u m) (he : l.map Prod.fst = m.map Prod.fst) (hn : l.length ≤ 1000000) (hd : ∀ x ∈ l, x.1.draws.length ≤ 1000000) :
    Calls Tryz.prog 12 #[v, u] w fun e W => e = .returned (.bool true) ∧ Below w.heap.size w W := by
  have hlm : m.length = l.length := by have := congrArg List.length he; simpa using this.symm
  obtain ⟨a, c, rfl⟩ := RC.form hr.row
  obtain ⟨a', c', rfl⟩ := RC.form hr'.row
  have HR := hide hr
  have HR' := hide hr'
  have HE := hide he
  have HD := hide hd
  obtain ⟨L, hL⟩ : ∃ L, l.length = L := ⟨_, rfl⟩
  rw [hlm] at HR' ⊢
  rw [hL] at hn HR HR' hlm ⊢
  have HL := hide hL
  have HM := hide hlm
  clear hr hr' hL he hd hlm
  go_enter Tryz.func12, Tryz.ntmps12
  go_wp2
  go_loopw [5] (fun iv wr => ∃ i : Nat, iv = .int .i64 (i : Nat) ∧ i ≤ L ∧ Hid (Below w.heap.size w wr)) (fun iv _ => L - (RowKit.intOf iv).toNat)
  case atStart => exact ⟨0, rfl, by omega, hide (Below.refl _ _)⟩
  case round =>
    obtain ⟨i, rfl, hi, HB⟩ := hrel
    by_cases hlt : i < L
    · have hlt' : (i : Int) < (L : Int) := by omega
      obtain ⟨⟨s, dv, bv⟩, hx⟩ : ∃ o, l[i]? = some o := ⟨_, List.getElem?_eq_getElem (by rw [unhide HL]; exact hlt)⟩
      obtain ⟨⟨s', du, bu⟩, hy⟩ : ∃ o, m[i]? = some o := ⟨_, List.getElem?_eq_getElem (by rw [unhide HM]; exact hlt)⟩
      obtain rfl : s = s' := by
        have h1 := congrArg (fun k => k[i]?) (unhide HE)
        simp only [List.getElem?_map, hx, hy, Option.map_some, Option.some.injEq] at h1
        exact h1
      have r1 := (unhide HR).below (unhide HB)
      have r2 := (unhide HR').below (unhide HB)
      obtain ⟨b0, off, rfl, hb0, hc⟩ := r1.at hx
      obtain ⟨b1, off', rfl, hb1, hc'⟩ := r2.at hy
      have rd := r1.dr _ (List.mem_of_getElem? hx)
      have rb := r1.by_ _ (List.mem_of_getElem? hx)
      have rd' := r2.dr _ (List.mem_of_getElem? hy)
      have rb' := r2.by_ _ (List.mem_of_getElem? hy)
      have hdl := unhide HD _ (List.mem_of_getElem? hx)
      simp only at rd rb rd' rb' hdl
      obtain ⟨da, dc, rfl⟩ := RC.form rd
      obtain ⟨ba, bc, rfl⟩ := RC.form rb
      obtain ⟨ea, ec, rfl⟩ := RC.form rd'
      obtain ⟨fa, fc, rfl⟩ := RC.form rb'
      have HS := hide (fun (W : World) (hb : Hid (Below wr.heap.size wr W)) => one_in s _ _ _ _ W (RC.below rd (unhide hb)) (RC.below rb (unhide hb)) (RC.below rd' (unhide hb)) (RC.below rb' (unhide hb)) hdl)
      unfold spC at HS
      obtain ⟨n1, hn1⟩ : ∃ n, s.draws.length = n := ⟨_, rfl⟩
      obtain ⟨n2, hn2⟩ : ∃ n, s.data.length = n := ⟨_, rfl⟩
      rw [hn1, hn2] at HS hc hc'
      have p0 := hc 0 _ rfl
      have p1 := hc 1 _ rfl
      have p2 := hc 2 _ rfl
      have p3 := hc 3 _ rfl
      have p4 := hc 4 _ rfl
      have p5 := hc 5 _ rfl
      have p6 := hc 6 _ rfl
      have p7 := hc 7 _ rfl
      have p8 := hc 8 _ rfl
      have q0 := hc' 0 _ rfl
      have q1 := hc' 1 _ rfl
      have q2 := hc' 2 _ rfl
      have q3 := hc' 3 _ rfl
      have q4 := hc' 4 _ rfl
      have q5 := hc' 5 _ rfl
      have q6 := hc' 6 _ rfl
      have q7 := hc' 7 _ rfl
      have q8 := hc' 8 _ rfl
      simp only [Nat.add_zero] at p0 p1 p2 p3 p4 p5 p6 p7 p8 q0 q1 q2 q3 q4 q5 q6 q7 q8
      clear hc hc' rd rb rd' rb' hx hy r1 r2 hn1 hn2
      go_wp2_with fail
      go_region_held3 (fun w' => w'.cell? ⟨b0, off + i * 9, none⟩ = some (.int .i64 s.kind) ∧ w'.cell? ⟨b0, off + i * 9 + 1, none⟩ = some (.int .i64 s.site) ∧ w'.cell? ⟨b0, off + i * 9 + 2, none⟩ = some (.int .i64 s.peer) ∧ w'.cell? ⟨b0, off + i * 9 + 3, none⟩ = some (.int .i64 s.unit) ∧ w'.cell? ⟨b0, off + i * 9 + 4, none⟩ = some (.int .i64 s.at_) ∧ w'.cell? ⟨b0, off + i * 9 + 5, none⟩ = some (.int .i64 s.n) ∧ w'.cell? ⟨b0, off + i * 9 + 6, none⟩ = some (.string s.text) ∧ w'.cell? ⟨b0, off + i * 9 + 7, none⟩ = some (.slice da n1 dc) ∧ w'.cell? ⟨b0, off + i * 9 + 8, none⟩ = some (.slice ba n2 bc) ∧ w'.cell? ⟨b1, off' + i * 9, none⟩ = some (.int .i64 s.kind) ∧ w'.cell? ⟨b1, off' + i * 9 + 1, none⟩ = some (.int .i64 s.site) ∧ w'.cell? ⟨b1, off' + i * 9 + 2, none⟩ = some (.int .i64 s.peer) ∧ w'.cell? ⟨b1, off' + i * 9 + 3, none⟩ = some (.int .i64 s.unit) ∧ w'.cell? ⟨b1, off' + i * 9 + 4, none⟩ = some (.int .i64 s.at_) ∧ w'.cell? ⟨b1, off' + i * 9 + 5, none⟩ = some (.int .i64 s.n) ∧ w'.cell? ⟨b1, off' + i * 9 + 6, none⟩ = some (.string s.text) ∧ w'.cell? ⟨b1, off' + i * 9 + 7, none⟩ = some (.slice ea n1 ec) ∧ w'.cell? ⟨b1, off' + i * 9 + 8, none⟩ = some (.slice fa n2 fc) ∧ Hid (Below wr.heap.size wr w'))
        (first
          | (exact ⟨p0, p1, p2, p3, p4, p5, p6, p7, p8, q0, q1, q2, q3, q4, q5, q6, q7, q8, hide (Below.refl _ _).drew⟩)
          | (go_split_ands
             exact ⟨cell_below (by assumption) hb, cell_below (by assumption) hb, cell_below (by assumption) hb, cell_below (by assumption) hb, cell_below (by assumption) hb, cell_below (by assumption) hb, cell_below (by assumption) hb, cell_below (by assumption) hb, cell_below (by assumption) hb, cell_below (by assumption) hb, cell_below (by assumption) hb, cell_below (by assumption) hb, cell_below (by assumption) hb, cell_below (by assumption) hb, cell_below (by assumption) hb, cell_below (by assumption) hb, cell_below (by assumption) hb, cell_below (by assumption) hb, hide (bnext (unhide (by assumption)) hb)⟩)
          | go_keep)
        (first
          | (go_split_ands; go_at_call 28; refine (unhide HS _ (by assumption)).mono ?_; rintro e w' ⟨rfl, hb⟩))
      go_split_ands
      have HB2 := hide (bnext (unhide HB) (unhide (by assumption : Hid (Below wr.heap.size wr _))))
      go_wp2
      go_roundw
      case measure => simp [RowKit.intOf]; omega
      case rel => exact ⟨i + 1, by go_num, by omega, HB2⟩
    · have hlt' : ¬ (i : Int) < (L : Int) := by omega
      go_wp2
      go_ret
      exact ⟨rfl, unhide HB⟩

end Go.Proofs.YtkndjbmlkfpfoaaGreatDoor

/-
  The law's much.
-/
set_option linter.unusedSimpArgs false
set_option linter.unusedVariables false
namespace Go.Proofs.YtkndjbmlkfpfoaaGreatDoor
open Go.RowKit Go.Lib

/-- the bytes of a script's texts and data -/
def smL (l : List (Sp × Value × Value)) : Nat := (l.map fun x => x.1.text.size + x.1.data.length).sum
theorem smL_take {l : List (Sp × Value × Value)} {j : Nat} {e : Sp × Value × Value} (h : l[j]? = some e) : smL (l.take (j + 1)) = smL (l.take j) + (e.1.text.size + e.1.data.length) := by
  unfold smL
  rw [List.take_add_one, h]
  simp
/-- what a script is that is not too much -/
structure LitS (l : List (Sp × Value × Value)) : Prop where
  len : l.length ≤ 200
  dr : ∀ x ∈ l, x.1.draws.length ≤ 400
  sm : smL l ≤ 30000
/-- the reach of one machine -/
def RchS (l : List (Sp × Value × Value)) : Prop := ∀ x ∈ l, x.1.text.size ≤ 140737488355328 ∧ x.1.data.length ≤ 140737488355328 ∧ x.1.draws.length ≤ 140737488355328

set_option maxRecDepth 100000 in
set_option maxHeartbeats 8000000 in
theorem much_in {w : World} (v : Value) (l : List (Sp × Value × Value)) (hr : RStp w v l) (hn : l.length ≤ 9223372036854775807) (hR : RchS l) :
    Calls Tryz.prog 13 #[v] w fun e W => (e = .returned (.bool true) ∨ (e = .returned (.bool false) ∧ LitS l)) ∧ Below w.heap.size w W := by
  obtain ⟨a, c, rfl⟩ := RC.form hr.row
  have HR := hide hr
  have HC := hide hR
  obtain ⟨L, hL⟩ : ∃ L, l.length = L := ⟨_, rfl⟩
  rw [hL] at hn HR ⊢
  have HL := hide hL
  clear hr hL hR
  by_cases h200 : 200 < L
  · have h200' : (200 : Int) < (L : Int) := by omega
    go_enter Tryz.func13, Tryz.ntmps13
    go_wp2
    go_ret
    exact ⟨.inl rfl, Below.refl _ _⟩
  have h200' : ¬ (200 : Int) < (L : Int) := by omega
  go_enter Tryz.func13, Tryz.ntmps13
  go_wp2
  go_loopw [3, 4] (fun nv iv wr => ∃ i k : Nat, nv = .int .i64 (k : Nat) ∧ iv = .int .i64 (i : Nat) ∧ i ≤ L ∧ k ≤ 30000 ∧ Hid (k = smL (l.take i) ∧ (∀ x ∈ l.take i, x.1.draws.length ≤ 400) ∧ Below w.heap.size w wr)) (fun _ iv _ => L - (RowKit.intOf iv).toNat)
  case atStart => exact ⟨0, 0, rfl, rfl, by omega, by omega, hide ⟨by simp [smL], fun x hx => by simp at hx, Below.refl _ _⟩⟩
  case round =>
    obtain ⟨i, k, rfl, rfl, hi, hk, HB⟩ := hrel
    by_cases hlt : i < L
    · have hlt' : (i : Int) < (L : Int) := by omega
      obtain ⟨⟨s, dv, bv⟩, hx⟩ : ∃ o, l[i]? = some o := ⟨_, List.getElem?_eq_getElem (by rw [unhide HL]; exact hlt)⟩
      have r1 := (unhide HR).below (unhide HB).2.2
      obtain ⟨b0, off, rfl, hb0, hc⟩ := r1.at hx
      have rd := r1.dr _ (List.mem_of_getElem? hx)
      have rb := r1.by_ _ (List.mem_of_getElem? hx)
      obtain ⟨z1, z2, z3⟩ := unhide HC _ (List.mem_of_getElem? hx)
      simp only at rd rb z1 z2 z3
      obtain ⟨da, dc, rfl⟩ := RC.form rd
      obtain ⟨ba, bc, rfl⟩ := RC.form rb
      have htk := smL_take hx
      have hdt : ∀ n, s.draws.length ≤ n → n ≤ 400 → ∀ x ∈ l.take (i + 1), x.1.draws.length ≤ 400 := by
        intro n h1 h2 x hm
        rw [List.take_add_one, hx] at hm
        rcases List.mem_append.1 hm with h | h
        · exact (unhide HB).2.1 x h
        · simp at h; subst h; exact Nat.le_trans h1 h2
      simp only at htk
      obtain ⟨n1, hn1⟩ : ∃ n, s.draws.length = n := ⟨_, rfl⟩
      obtain ⟨n2, hn2⟩ : ∃ n, s.data.length = n := ⟨_, rfl⟩
      obtain ⟨tx, htx⟩ : ∃ n, s.text = n := ⟨_, rfl⟩
      obtain ⟨tn, htn⟩ : ∃ n, tx.size = n := ⟨_, rfl⟩
      have p6 := hc 6 (.string s.text) rfl
      have p7 := hc 7 _ rfl
      have p8 := hc 8 _ rfl
      simp only at p7 p8
      rw [hn1] at z3 p7 hdt
      rw [hn2] at z2 p8 htk
      rw [htx] at p6 htk z1
      rw [htn] at z1 htk
      rw [← (unhide HB).1] at htk
      have HTK := hide htk
      have HDT := hide hdt
      clear hc rd rb hx r1 hn1 hn2 htx htk hdt
      go_wp2
      go_quiet (fail)
      have BY := hide (bdrew (unhide HB).2.2 nq)
      by_cases h4 : 400 < n1
      · have h4' : (400 : Int) < (n1 : Int) := by omega
        go_wp2
        go_ret
        exact ⟨.inl rfl, unhide BY⟩
      · have h4' : ¬ (400 : Int) < (n1 : Int) := by omega
        by_cases h3 : 30000 < k + tn + n2
        · have h3' : (30000 : Int) < (k : Int) + (tn : Int) + (n2 : Int) := by omega
          go_wp2
          go_ret
          exact ⟨.inl rfl, unhide BY⟩
        · have h3' : ¬ (30000 : Int) < (k : Int) + (tn : Int) + (n2 : Int) := by omega
          have HN := hide (show k + tn + n2 = smL (l.take (i + 1)) ∧ (∀ x ∈ l.take (i + 1), x.1.draws.length ≤ 400) ∧ Below w.heap.size w (wr.drewN nq) from ⟨by rw [unhide HTK]; omega, unhide HDT _ (Nat.le_refl _) (by omega), unhide BY⟩)
          go_wp2
          go_roundw
          case measure => simp [RowKit.intOf]; omega
          case rel => exact ⟨i + 1, k + tn + n2, by simp, by go_num, by omega, by omega, HN⟩
    · have hlt' : ¬ (i : Int) < (L : Int) := by omega
      have HF := hide (show LitS l from ⟨by rw [unhide HL]; omega, by
        have := (unhide HB).2.1
        rw [List.take_of_length_le (by rw [unhide HL]; omega)] at this
        exact this, by
        have := (unhide HB).1
        rw [List.take_of_length_le (by rw [unhide HL]; omega)] at this
        omega⟩)
      go_wp2
      go_ret
      exact ⟨.inr ⟨rfl, unhide HF⟩, (unhide HB).2.2⟩

end Go.Proofs.YtkndjbmlkfpfoaaGreatDoor
