/-
  The document's own Check of an operation.
-/
import Derived.Test.YtkkolefionbbcaaGreatZXRef
import Derived.Test.YtkkolefionbbcaaGreatZXK3
import Derived.Test.YtkkolefionbbcaaGreatZXU
import Derived.Test.YtkkolefionbbcaaGreatZO5
set_option linter.unusedSimpArgs false
set_option linter.unusedVariables false
namespace Go.Proofs.YtkkolefionbbcaaGreat
open Go.RowKit Go.Lib

theorem toList_pos' {s : ByteArray} (h : 0 < s.size) : s.toList.isEmpty = false := by
  rw [ByteArray.toList_eq]
  cases hl : s.data.toList with
  | nil =>
    have h2 : s.data.size = 0 := by rw [← Array.length_toList, hl]; rfl
    have h3 : s.size = s.data.size := rfl
    omega
  | cons a l => rfl
theorem toList_nil' {s : ByteArray} (h : s.size = 0) : s.toList.isEmpty = true := by
  rw [ByteArray.toList_eq]
  cases hl : s.data.toList with
  | nil => rfl
  | cons a l =>
    have h2 : s.data.size = l.length + 1 := by rw [← Array.length_toList, hl]; rfl
    have h3 : s.size = s.data.size := rfl
    omega

/-- what the document asks of an insert -/
def insX (o : Opn) : Bool := decide (o.gone.length = 0) && decide (o.site = 0) && insO o.ds o.it o.is o.rt o.rs o.text
theorem isI_aft (t s n : Int) (h : 1 ≤ n) : isI (aft (t, s) (n - 1)) = isR ((t, s), n) := by
  rcases aft_ways t s (n - 1) with ⟨h1, e⟩ | ⟨h1, h2, e⟩ | ⟨h1, h2, h3, e⟩ | ⟨h1, h2, h3, e⟩
  · rw [e]; unfold isR; rw [h1]; rfl
  · omega
  · rw [e]; unfold isR; rw [h1]; simp [isI]; omega
  · rw [e]
    have hr := isI_range h1
    have a1 : isI (t + (n - 1), s) = true := by unfold isI; simp; omega
    have a2 : isR ((t, s), n) = true := by unfold isR; rw [h1]; simp; omega
    rw [a1, a2]
theorem isR_one (t s : Int) : isR ((t, s), 1) = isI (t, s) := by
  unfold isR
  cases h : isI (t, s)
  · rfl
  · have := isI_range h
    simp
    omega

set_option maxRecDepth 100000 in
theorem rSite_in (n : Int) (w : World) : Calls Tryz.prog 80 #[.int .i64 n] w fun e W => e = .returned (.bool (isT n)) ∧ w = W := by
  unfold isT
  by_cases h1 : 1 ≤ n
  · by_cases h2 : n ≤ 16
    · go_enter Tryz.func80, Tryz.ntmps80
      go_wp2
      go_ret
      simp [h1, h2]
    · go_enter Tryz.func80, Tryz.ntmps80
      go_wp2
      go_ret
      simp [h1, h2]
  · go_enter Tryz.func80, Tryz.ntmps80
    go_wp2
    go_ret
    simp
    omega

def opC (o : Opn) (vd vg : Value) : Array Value := #[.int .i64 o.ds, .int .i64 o.dq, vd, .int .i64 o.kind, .int .i64 o.it, .int .i64 o.is, .int .i64 o.rt, .int .i64 o.rs, .string o.text, vg, .int .i64 o.site]

set_option maxRecDepth 100000 in
set_option maxHeartbeats 4000000 in
theorem rInsert_in (o : Opn) (vd : Value) (ag : Option Addr) (cg : Nat) (w : World) (ht : o.text.size ≤ 1000000) :
    Calls Tryz.prog 81 #[.agg #[.int .i64 o.ds, .int .i64 o.dq, vd, .int .i64 o.kind, .int .i64 o.it, .int .i64 o.is, .int .i64 o.rt, .int .i64 o.rs, .string o.text, .slice ag o.gone.length cg, .int .i64 o.site]] w fun e W => e = .returned (.bool (insX o)) ∧ Below w.heap.size w W := by
  obtain ⟨X, hX⟩ : ∃ X, w.alloc (.cells #[.int .i64 o.ds, .int .i64 o.dq, vd, .int .i64 o.kind, .int .i64 o.it, .int .i64 o.is, .int .i64 o.rt, .int .i64 o.rs, .string o.text, .slice ag o.gone.length cg, .int .i64 o.site] 42) = X := ⟨_, rfl⟩
  have HX : Bx X w.heap.size 42 #[.int .i64 o.ds, .int .i64 o.dq, vd, .int .i64 o.kind, .int .i64 o.it, .int .i64 o.is, .int .i64 o.rt, .int .i64 o.rs, .string o.text, .slice ag o.gone.length cg, .int .i64 o.site] := by rw [← hX]; exact Bx.new w _ _
  have bX : Below w.heap.size w X := by rw [← hX]; exact ballc (Below.refl _ _) _
  have HA := hide (fun (W : World) (h : Below X.heap.size X W) => HX.below h)
  have HG := hide (refGood_in o.text (by omega) X)
  have HCn := hide (fun W => refCount_in o.text (by omega) W)
  have HAf := hide (fun n W => refAfter_in o.it o.is n W)
  have HI := hide (fun t s W => refIsID_in t s W)
  have heq := hide (fun w => eqI o.rt o.rs 0 0 w)
  have hcb := allL_length o.text
  have B0 := hide bX
  have hE : insX o = (decide (o.gone.length = 0) && decide (o.site = 0) && (!decide (o.text.size = 0) && decide (firstBad o.text (allL o.text) < 0) && decide (((allL o.text).length : Int) ≤ 1024)) && decide (o.is = o.ds) && isR ((o.it, o.is), ((allL o.text).length : Nat)) && ((decide ((o.rt, o.rs) = (0, 0)) || isI (o.rt, o.rs)) && decide (o.rt < o.it))) := by
    unfold insX insO textO refO badT cntO
    rw [isR_one]
    simp only [Bool.and_assoc]
  obtain ⟨R, hR⟩ : ∃ R, insX o = R := ⟨_, rfl⟩
  rw [hR] at hE ⊢
  have HE := hide hE
  obtain ⟨bad, hbad⟩ : ∃ b, firstBad o.text (allL o.text) = b := ⟨_, rfl⟩
  obtain ⟨cn, hcn⟩ : ∃ b, (allL o.text).length = b := ⟨_, rfl⟩
  rw [hbad] at HG HE
  rw [hcn] at HCn HE hcb
  obtain ⟨x0, x1, x2, x3, x4, x5, x6, x7, x8, x9, x10⟩ := cells_op HX
  clear hR hE bX HX hbad
  by_cases h1 : 0 < o.gone.length
  · obtain rfl : R = false := by rw [unhide HE, decide_eq_false (by omega : ¬ o.gone.length = 0)]; rfl
    have h1' : (0 : Int) < (o.gone.length : Int) := by omega
    go_enter Tryz.func81, Tryz.ntmps81
    go_wp2
    go_ret
    exact ⟨rfl, unhide B0⟩
  have h1' : ¬ (0 : Int) < (o.gone.length : Int) := by omega
  have h1z : o.gone.length = 0 := by omega
  by_cases h2 : o.site = 0
  rotate_left
  · obtain rfl : R = false := by rw [unhide HE]; simp [h2]
    have h2q : (o.site == 0) = false := by simp [h2]
    clear h1z
    go_enter Tryz.func81, Tryz.ntmps81
    go_wp2
    go_ret
    exact ⟨rfl, unhide B0⟩
  have h2q : (o.site == 0) = true := by simp [h2]
  have H2 := hide h2
  clear h2
  by_cases h3 : o.text.size = 0
  · obtain rfl : R = false := by rw [unhide HE]; simp [h3]
    have h3q := toList_nil' h3
    clear h1z h3
    go_enter Tryz.func81, Tryz.ntmps81
    go_wp2
    go_ret
    exact ⟨rfl, unhide B0⟩
  have h3q := toList_pos' (s := o.text) (by omega)
  have H1z := hide h1z
  have hcn1 : 1 ≤ cn := by
    rw [← hcn]
    have hp : 0 < o.text.size := by omega
    have := allL_pos (s := o.text) hp
    omega
  clear h1z hcn
  go_enter Tryz.func81, Tryz.ntmps81
  go_wp2_with fail
  refine (unhide HG).mono ?_
  rintro e W1 ⟨rfl, hb1⟩
  by_cases h4 : bad < 0
  rotate_left
  · obtain rfl : R = false := by rw [unhide HE, decide_eq_false h4]; simp
    have HB := hide (bnext (unhide B0) hb1)
    have h4d : decide (bad < 0) = false := by simp; omega
    rw [h4d]
    clear hb1
    go_wp2
    go_ret
    exact ⟨rfl, unhide HB⟩
  have h4d : decide (bad < 0) = true := by simp; omega
  rw [h4d]
  have HB1 := hide hb1
  clear x0 x1 x2 x3 x4 x5 x6 x7 x8 x9 x10
  obtain ⟨x0, x1, x2, x3, x4, x5, x6, x7, x8, x9, x10⟩ := cells_op (unhide HA W1 hb1)
  clear hb1 HG
  go_wp2_with fail
  refine (unhide HCn _).mono ?_
  rintro e W2 ⟨rfl, hb2⟩
  have HB2 := hide (bnext (unhide HB1) hb2)
  clear x0 x1 x2 x3 x4 x5 x6 x7 x8 x9 x10
  obtain ⟨x0, x1, x2, x3, x4, x5, x6, x7, x8, x9, x10⟩ := cells_op (unhide HA W2 (unhide HB2))
  have hcw : (cn : Int) ≤ 1000000 := by omega
  clear hb2 HB1 HCn
  go_wp2_with fail
  refine (unhide HAf _ _).mono ?_
  rintro e W3 ⟨rfl, hb3⟩
  have HB3 := hide (bnext (unhide HB2) hb3)
  have hlast := isI_aft o.it o.is (cn : Int) (by omega)
  obtain ⟨⟨l1, l2⟩, hl⟩ : ∃ l, aft (o.it, o.is) ((cn : Int) - 1) = l := ⟨_, rfl⟩
  rw [hl] at hlast ⊢
  simp only
  obtain ⟨Y, hY⟩ : ∃ Y, W3.alloc (.cells #[.int .i64 l1, .int .i64 l2] 39) = Y := ⟨_, rfl⟩
  have bY : Below W3.heap.size W3 Y := by rw [← hY]; exact ballc (Below.refl _ _) _
  have yY : Bx Y W3.heap.size 39 #[.int .i64 l1, .int .i64 l2] := by rw [← hY]; exact Bx.new W3 _ _
  have HBY := hide (bnext (unhide HB3) bY)
  clear x0 x1 x2 x3 x4 x5 x6 x7 x8 x9 x10
  obtain ⟨x0, x1, x2, x3, x4, x5, x6, x7, x8, x9, x10⟩ := cells_op (unhide HA Y (unhide HBY))
  have y0 := yY.cell 0 _ rfl
  have y1 := yY.cell 1 _ rfl
  have HR2 := hide (show R = (decide ((cn : Int) ≤ 1024) && decide (o.is = o.ds) && isI (l1, l2) && ((decide ((o.rt, o.rs) = (0, 0)) || isI (o.rt, o.rs)) && decide (o.rt < o.it))) by
    rw [unhide HE, hlast, decide_eq_true (unhide H1z), decide_eq_true (unhide H2), decide_eq_true h4, decide_eq_false h3]
    simp)
  have HBw := hide (bnext (unhide B0) (unhide HBY))
  clear hb3 HB2 HAf hl hlast bY yY HE H1z H2 HB3 h4 h4d h3 h3q h2q h1'
  by_cases k1 : (cn : Int) ≤ 1024
  rotate_left
  · obtain rfl : R = false := by rw [unhide HR2]; simp [k1]
    have k1d : decide ((cn : Int) ≤ 1024) = false := by simp [k1]
    go_wp2
    go_ret
    exact ⟨rfl, unhide HBw⟩
  by_cases k2 : o.is = o.ds
  rotate_left
  · obtain rfl : R = false := by rw [unhide HR2]; simp [k2]
    have k2d : (o.is == o.ds) = false := by simp [k2]
    clear k2
    go_wp2
    go_ret
    exact ⟨rfl, unhide HBw⟩
  have k2d : (o.is == o.ds) = true := by simp [k2]
  have HR3 := hide (show R = (isI (l1, l2) && ((decide ((o.rt, o.rs) = (0, 0)) || isI (o.rt, o.rs)) && decide (o.rt < o.it))) by rw [unhide HR2]; simp [k1, k2])
  clear k2 HR2
  have HI1 := hide (unhide HI l1 l2 Y)
  go_wp2_with fail
  refine (unhide HI1).mono ?_
  rintro e W5 ⟨rfl, hW5⟩
  have hb5 : Below Y.heap.size Y W5 := by rw [hW5]; exact ballc (Below.refl _ _) _
  have HB5 := hide (bnext (unhide HBY) hb5)
  have HBw5 := hide (bnext (unhide HBw) hb5)
  clear x0 x1 x2 x3 x4 x5 x6 x7 x8 x9 x10 y0 y1
  obtain ⟨x0, x1, x2, x3, x4, x5, x6, x7, x8, x9, x10⟩ := cells_op (unhide HA W5 (unhide HB5))
  clear hb5 hW5 HI1 HBY HBw hY
  cases k3 : isI (l1, l2) with
  | false =>
    obtain rfl : R = false := by rw [unhide HR3, k3]; rfl
    go_wp2
    go_ret
    exact ⟨rfl, unhide HBw5⟩
  | true =>
    have HR4 := hide (show R = ((decide ((o.rt, o.rs) = (0, 0)) || isI (o.rt, o.rs)) && decide (o.rt < o.it)) by rw [unhide HR3, k3]; rfl)
    clear HR3 k3
    have heq2 := unhide heq
    by_cases k4 : (o.rt, o.rs) = (0, 0)
    · rw [decide_eq_true k4] at HR4 heq2
      have HR5 := hide (show R = decide (o.rt < o.it) by rw [unhide HR4]; simp)
      clear k4 heq HR4
      obtain rfl : R = decide (o.rt < o.it) := unhide HR5
      clear HR5
      go_wp2
      go_ret
      exact ⟨rfl, unhide HBw5⟩
    · rw [decide_eq_false k4] at HR4 heq2
      have HI2 := hide (unhide HI o.rt o.rs W5)
      clear k4 heq
      go_wp2_with fail
      refine (unhide HI2).mono ?_
      rintro e W6 ⟨rfl, hW6⟩
      have hb6 : Below W5.heap.size W5 W6 := by rw [hW6]; exact ballc (Below.refl _ _) _
      have HBw6 := hide (bnext (unhide HBw5) hb6)
      clear x0 x1 x2 x3 x4 x5 x6 x7 x8 x9 x10
      obtain ⟨x0, x1, x2, x3, x4, x5, x6, x7, x8, x9, x10⟩ := cells_op (unhide HA W6 (bnext (unhide HB5) hb6))
      clear hW6 hb6 HI2
      cases k6 : isI (o.rt, o.rs) with
      | false =>
        obtain rfl : R = false := by rw [unhide HR4, k6]; rfl
        go_wp2
        go_ret
        exact ⟨rfl, unhide HBw6⟩
      | true =>
        have HR5 := hide (show R = decide (o.rt < o.it) by rw [unhide HR4, k6]; simp)
        clear k6 HR4
        obtain rfl : R = decide (o.rt < o.it) := unhide HR5
        clear HR5
        go_wp2
        go_ret
        exact ⟨rfl, unhide HBw6⟩

/-- bare: nothing of an insert -/
theorem bare_iff (o : Opn) : bareO o = (decide ((o.it, o.is) = (0, 0)) && decide ((o.rt, o.rs) = (0, 0)) && decide (o.text.size = 0)) := by
  unfold bareO
  simp [Prod.mk.injEq, Bool.decide_and, Bool.and_assoc]
/-- what the document asks of each kind -/
def kndX (o : Opn) : Bool := if o.kind = 1 then insX o else if o.kind = 2 then (bareO o && decide (o.site = 0) && decide (1 ≤ o.gone.length) && decide (o.gone.length ≤ 1024) && decide (chkR o.gone = 0)) else if o.kind = 3 then (bareO o && decide (o.gone.length = 0) && isT o.site) else if o.kind = 4 then (bareO o && decide (o.gone.length = 0) && decide (o.site = 0)) else false
theorem okO_kndX (o : Opn) : okO o = (folO o.ds o.dq o.deps && kndX o) := by
  unfold okO kindO aloneO holdO kndX insX delO
  by_cases h1 : o.kind = 1
  · simp [h1, Bool.and_assoc]
  · by_cases h2 : o.kind = 2
    · simp [h1, h2, Bool.and_assoc]
    · by_cases h3 : o.kind = 3
      · simp [h1, h2, h3, Bool.and_assoc]
      · by_cases h4 : o.kind = 4
        · simp [h1, h2, h3, h4, Bool.and_assoc]
        · have : (decide (1 ≤ o.kind) && decide (o.kind ≤ 4)) = false := by
            rw [Bool.and_eq_false_iff]
            by_cases h : 1 ≤ o.kind
            · right; simp; omega
            · left; simp; omega
          simp [this, h1, h2, h3, h4]

end Go.Proofs.YtkkolefionbbcaaGreat
