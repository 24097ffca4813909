/-
  Runs: their form, as the document says it and as the program finds it (pure).
-/
import Derived.Test.YtijjoikeceechaaGreatZXS
import Derived.Test.YtijjoikeceechaaGreatZXV0

set_option linter.unusedSimpArgs false
set_option linter.unusedVariables false
namespace Go.Proofs.YtijjoikeceechaaGreat
open Go.RowKit Go.Lib

def encR (r : (Int × Int) × Int) : List Value := [.int .i64 r.1.1, .int .i64 r.1.2, .int .i64 r.2]
theorem encR_len (r : (Int × Int) × Int) : (encR r).length = 3 := rfl

def runIn (r : (Int × Int) × Int) : Prop := idIn r.1 ∧ in64 r.2

/-- a row of identifiers, of runs -/
def RR (W : World) (v : Value) (l : List ((Int × Int) × Int)) : Prop := RC W v l.length (flat encR l)
theorem RR.below {W W' : World} {v : Value} {l : List ((Int × Int) × Int)} (h : RR W v l) (hb : Below W.heap.size W W') : RR W' v l := RC.below h hb
theorem RR.at {W : World} {a : Option Addr} {n c : Nat} {l : List ((Int × Int) × Int)} (h : RR W (.slice a n c) l) {i : Nat} {r : (Int × Int) × Int} (hi : l[i]? = some r) : ∃ b off, a = some ⟨b, off, none⟩ ∧ b < W.heap.size ∧ W.cell? ⟨b, off + i * 3, none⟩ = some (.int .i64 r.1.1) ∧ W.cell? ⟨b, off + i * 3 + 1, none⟩ = some (.int .i64 r.1.2) ∧ W.cell? ⟨b, off + i * 3 + 2, none⟩ = some (.int .i64 r.2) := by
  have hl := (List.getElem?_eq_some_iff.1 hi).1
  rcases h with ⟨h0, _⟩ | ⟨b, off, cap, e, h1, h2, hc⟩
  · omega
  · simp at e
    obtain ⟨rfl, _⟩ := e
    have f := fun q (hq : q < 3) v (hv : (encR r)[q]? = some v) => hc (i * 3 + q) v ((flat_get encR_len l i q r hi hq).trans hv)
    exact ⟨b, off, rfl, h2, f 0 (by omega) _ rfl, f 1 (by omega) _ rfl, f 2 (by omega) _ rfl⟩

/-- does it follow those that are done? -/
def badO (done : List ((Int × Int) × Int)) (r : (Int × Int) × Int) : Bool := match done.getLast? with | none => false | some q => decide (0 ≤ cmpI q.1 r.1)
def badF (done : List ((Int × Int) × Int)) (r : (Int × Int) × Int) : Bool := done.any fun q => decide (q.1.2 = r.1.2) && decide (r.1.1 ≤ q.1.1 + q.2)
def chkA : List ((Int × Int) × Int) → List ((Int × Int) × Int) → Int
  | _, [] => 0
  | done, r :: l => if isR r = false then 1 else if badO done r = true then 9 else if badF done r = true then 6 else chkA (done ++ [r]) l
/-- why runs are not in their form -/
def chkR (l : List ((Int × Int) × Int)) : Int := chkA [] l

/-- of a site, the time that would follow its last run -/
def fol (done : List ((Int × Int) × Int)) (s : Int) : Int := match (done.filter fun q => decide (q.1.2 = s)).getLast? with | none => 0 | some q => q.1.1 + q.2
def lastI (done : List ((Int × Int) × Int)) : Int × Int := match done.getLast? with | none => (0, 0) | some q => q.1

theorem fol_nil (s : Int) : fol [] s = 0 := rfl
theorem fol_snoc (done : List ((Int × Int) × Int)) (r : (Int × Int) × Int) (s : Int) : fol (done ++ [r]) s = if r.1.2 = s then r.1.1 + r.2 else fol done s := by
  unfold fol
  rw [List.filter_append]
  by_cases h : r.1.2 = s
  · simp [h]
  · simp [h]
theorem lastI_snoc (done : List ((Int × Int) × Int)) (r : (Int × Int) × Int) : lastI (done ++ [r]) = r.1 := by simp [lastI]

theorem cmpI_pos {a b : Int × Int} : cmpI a b = 1 ↔ b.1 < a.1 ∨ (a.1 = b.1 ∧ b.2 < a.2) := by
  obtain ⟨a1, a2⟩ := a
  obtain ⟨b1, b2⟩ := b
  unfold cmpI
  simp only [Prod.mk.injEq]
  split
  · simp; omega
  · split
    · simp; omega
    · simp; omega
theorem cmpI_le {a b : Int × Int} : cmpI a b ≤ 0 ↔ ¬ (b.1 < a.1 ∨ (a.1 = b.1 ∧ b.2 < a.2)) := by
  rw [← cmpI_pos]
  unfold cmpI
  split
  · simp
  · split <;> simp
theorem cmpI_ge {a b : Int × Int} : 0 ≤ cmpI a b ↔ ¬ (a.1 < b.1 ∨ (a.1 = b.1 ∧ a.2 < b.2)) := by
  obtain ⟨a1, a2⟩ := a
  obtain ⟨b1, b2⟩ := b
  unfold cmpI
  simp only [Prod.mk.injEq]
  split
  · simp; omega
  · split
    · simp; omega
    · simp; omega

theorem isR_range {r : (Int × Int) × Int} (h : isR r = true) : 1 ≤ r.1.1 ∧ r.1.1 ≤ 2147483647 ∧ 1 ≤ r.1.2 ∧ r.1.2 ≤ 16 ∧ 1 ≤ r.2 ∧ r.1.1 + r.2 ≤ 2147483648 := by
  unfold isR isI at h
  simp [Bool.and_eq_true] at h
  omega

theorem badO_eq (done : List ((Int × Int) × Int)) (r : (Int × Int) × Int) (hr : isR r = true) : badO done r = decide (cmpI r.1 (lastI done) ≤ 0) := by
  have h := isR_range hr
  unfold badO lastI
  cases hl : done.getLast? with
  | none =>
    rw [Bool.eq_iff_iff]
    rw [decide_eq_true_iff, cmpI_le]
    simp
    omega
  | some q =>
    rw [Bool.eq_iff_iff, decide_eq_true_iff, decide_eq_true_iff, cmpI_le, cmpI_ge]
    simp only
    omega

/-- what is done is in its form: of a site the ends rise -/
def DoneOk (done : List ((Int × Int) × Int)) : Prop := (∀ q ∈ done, isR q = true) ∧ ∀ s, ∀ q ∈ done, q.1.2 = s → q.1.1 + q.2 ≤ fol done s
theorem DoneOk.nil : DoneOk [] := ⟨fun q h => (by cases h), fun s q h => (by cases h)⟩
theorem badF_eq {done : List ((Int × Int) × Int)} (hd : DoneOk done) (r : (Int × Int) × Int) (hr : isR r = true) : badF done r = decide (r.1.1 ≤ fol done r.1.2) := by
  have h := isR_range hr
  rw [Bool.eq_iff_iff, decide_eq_true_iff]
  unfold badF
  simp only [List.any_eq_true, Bool.and_eq_true, decide_eq_true_eq]
  constructor
  · rintro ⟨q, hq, h1, h2⟩
    have := hd.2 r.1.2 q hq h1
    omega
  · intro h1
    have hf : fol done r.1.2 ≠ 0 := by omega
    unfold fol at h1 hf
    cases hl : (done.filter fun q => decide (q.1.2 = r.1.2)).getLast? with
    | none => rw [hl] at hf; exact absurd rfl hf
    | some q =>
      rw [hl] at h1
      have hq := List.mem_of_getLast? hl
      simp at hq
      exact ⟨q, hq.1, hq.2, h1⟩
theorem DoneOk.snoc {done : List ((Int × Int) × Int)} (hd : DoneOk done) {r : (Int × Int) × Int} (hr : isR r = true) (hf : badF done r = false) : DoneOk (done ++ [r]) := by
  have hb := badF_eq hd r hr
  rw [hf] at hb
  have h1 := of_decide_eq_false hb.symm
  have h2 := isR_range hr
  refine ⟨fun q hq => ?_, fun s q hq hs => ?_⟩
  · rcases List.mem_append.1 hq with h | h
    · exact hd.1 q h
    · simp at h; subst h; exact hr
  · rw [fol_snoc]
    rcases List.mem_append.1 hq with h | h
    · have := hd.2 s q h hs
      split
      · rename_i e
        rw [e] at h1
        omega
      · exact this
    · simp at h
      subst h
      rw [if_pos hs]
      omega

end Go.Proofs.YtijjoikeceechaaGreat

/-
  Check.
-/
set_option linter.unusedSimpArgs false
set_option linter.unusedVariables false
namespace Go.Proofs.YtijjoikeceechaaGreat
open Go.RowKit Go.Lib

def folA (done : List ((Int × Int) × Int)) : Array Value := ((List.range 17).map fun s : Nat => Value.int .i64 (fol done (s : Int))).toArray
theorem folA_nil : folA [] = #[.int .i64 0, .int .i64 0, .int .i64 0, .int .i64 0, .int .i64 0, .int .i64 0, .int .i64 0, .int .i64 0, .int .i64 0, .int .i64 0, .int .i64 0, .int .i64 0, .int .i64 0, .int .i64 0, .int .i64 0, .int .i64 0, .int .i64 0] := rfl
theorem folA_get (done : List ((Int × Int) × Int)) (s : Nat) (h : s < 17) : (folA done)[s]? = some (.int .i64 (fol done (s : Int))) := by
  unfold folA
  rw [List.getElem?_toArray, List.getElem?_map, List.getElem?_range h]
  rfl
theorem folA_set (done : List ((Int × Int) × Int)) (t c : Int) (s : Nat) (h : s < 17) : (folA done).setIfInBounds s (.int .i64 (t + c)) = folA (done ++ [((t, (s : Int)), c)]) := by
  have hsz : ∀ d, (folA d).size = 17 := fun d => by simp [folA]
  refine Array.ext (by rw [Array.size_setIfInBounds, hsz, hsz]) fun j h1 h2 => ?_
  have hj : j < 17 := by rw [hsz] at h2; exact h2
  have g := folA_get (done ++ [((t, (s : Int)), c)]) j hj
  rw [Array.getElem?_eq_getElem h2] at g
  have g0 := folA_get done j hj
  rw [Array.getElem?_eq_getElem (by rw [hsz]; exact hj)] at g0
  simp only [Option.some.injEq] at g g0
  rw [g, Array.getElem_setIfInBounds (by rw [hsz]; exact hj), fol_snoc]
  by_cases e : s = j
  · subst e
    simp
  · rw [if_neg e, if_neg (by simp; omega), g0]

set_option maxRecDepth 100000 in
set_option maxHeartbeats 4000000 in
theorem RCheck_in (v : Value) (l : List ((Int × Int) × Int)) (w : World) (h : RR w v l) (hin : ∀ r ∈ l, runIn r) (hl : l.length ≤ 1000000000) :
    Calls Tryz.prog 109 #[v] w fun e W => e = .returned (.int .i64 (chkR l)) ∧ Below w.heap.size w W := by
  obtain ⟨a, cap, rfl⟩ := RC.form h
  have H := hide h
  have Hin := hide hin
  obtain ⟨n, hn⟩ : ∃ n, l.length = n := ⟨_, rfl⟩
  rw [hn] at H hl ⊢
  have Hn := hide hn
  obtain ⟨R, hR⟩ : ∃ R, chkR l = R := ⟨_, rfl⟩
  rw [hR]
  have HR := hide hR
  clear h hin hn hR
  go_enter Tryz.func109, Tryz.ntmps109
  go_wp2
  go_loopw [9] (fun iv wr => ∃ i : Nat, iv = .int .i64 (i : Nat) ∧ i ≤ n ∧ Hid (chkA (l.take i) (l.drop i) = R ∧ DoneOk (l.take i) ∧ Bx wr w.heap.size 85 (folA (l.take i)) ∧ Bx wr (w.heap.size + 1) 42 #[.int .i64 (lastI (l.take i)).1, .int .i64 (lastI (l.take i)).2] ∧ Below w.heap.size w wr)) (fun iv _ => n - (Lib.intOf iv).toNat)
  case atStart =>
    refine ⟨0, rfl, by omega, hide ⟨by rw [← unhide HR]; rfl, DoneOk.nil, ?_, ?_, ballc (ballc (Below.refl _ _) _) _⟩⟩
    · rw [List.take_zero, folA_nil]
      exact (Bx.new w _ _).below (ballc (Below.refl _ _) _)
    · have := Bx.new (w.alloc (.cells (folA []) 85)) 42 #[.int .i64 0, .int .i64 0]
      rw [show (w.alloc (.cells (folA []) 85)).heap.size = w.heap.size + 1 by simp] at this
      exact this
  case round =>
    obtain ⟨i, rfl, hin2, HH⟩ := hrel
    obtain ⟨hchk, hdone, hbf, hbl, hB⟩ := unhide HH
    by_cases hlt : i < n
    · have hlt' : (i : Int) < (n : Int) := by omega
      obtain ⟨r, hr⟩ : ∃ r, l[i]? = some r := ⟨_, List.getElem?_eq_getElem (by have := unhide Hn; omega)⟩
      have hrin := unhide Hin r (List.mem_of_getElem? hr)
      obtain ⟨b0, off, rfl, hb0, c0, c1, c2⟩ := RR.at ((unhide H).below hB) hr
      have hdr : l.drop i = r :: l.drop (i + 1) := by
        have hil := (List.getElem?_eq_some_iff.1 hr).1
        rw [List.drop_eq_getElem_cons hil]
        rw [List.getElem?_eq_getElem hil] at hr
        simp at hr
        rw [hr]
      have htk : l.take (i + 1) = l.take i ++ [r] := by rw [List.take_add_one, hr]; rfl
      obtain ⟨⟨t, s⟩, c⟩ := r
      simp only at c0 c1 c2
      rw [hdr] at hchk
      have HC := hide (fun W => isRun_in t s c W hrin.2.2)
      have Htk := hide htk
      have Hchk := hide hchk
      have Hdone := hide hdone
      have Hbf := hide hbf
      have Hbl := hide hbl
      have HB := hide hB
      have Hr := hide hrin
      have hltB : w.heap.size + 1 < wr.heap.size := hbl.lt
      clear HH hr hrin hdr htk hchk hdone hbf hbl hB H
      go_wp2_with fail
      refine (unhide HC _).mono ?_
      rintro e W1 ⟨rfl, hb1⟩
      have hb1' := bnext (ballc (Below.refl _ wr) _) hb1
      have bx := (Bx.new wr 81 #[.int .i64 t, .int .i64 s, .int .i64 c]).below hb1
      have HB1 := hide (bnext (unhide HB) hb1')
      have Hbf1 := hide ((unhide Hbf).below hb1')
      have Hbl1 := hide ((unhide Hbl).below hb1')
      have x0 := bx.cell 0 _ rfl
      have x1 := bx.cell 1 _ rfl
      have x2 := bx.cell 2 _ rfl
      have Hbx := hide bx
      clear hb1 hb1' HC Hbf Hbl HB bx
      cases hR : isR ((t, s), c) with
      | false =>
        have HRe := hide (show R = 1 by have h := unhide Hchk; rw [chkA, if_pos hR] at h; exact h.symm)
        clear hR
        go_wp2
        go_ret
        rw [unhide HRe]
        exact ⟨rfl, unhide HB1⟩
      | true =>
        have HRt := hide hR
        have hrg := isR_range hR
        simp only at hrg
        obtain ⟨g1, g2, g3, g4, g5, g6⟩ := hrg
        obtain ⟨sn, rfl⟩ : ∃ sn : Nat, s = (sn : Int) := ⟨s.toNat, by omega⟩
        obtain ⟨la, lb, hla⟩ : ∃ la lb, lastI (l.take i) = (la, lb) := ⟨_, _, rfl⟩
        have hO := badO_eq (l.take i) _ hR
        rw [hla] at hO
        simp only at hO
        have hF := badF_eq (unhide Hdone) _ hR
        simp only at hF
        rw [hla] at Hbl1
        have l0 := (unhide Hbl1).cell 0 _ rfl
        have l1 := (unhide Hbl1).cell 1 _ rfl
        simp only at l0 l1
        have HCm := hide (fun W => Compare_in t sn la lb W)
        generalize cmpI (t, (sn : Int)) (la, lb) = cm at hO HCm
        have Hfz := hide (show folA (l.take i) = folA (l.take i) from rfl)
        obtain ⟨fo, hfo⟩ : ∃ fo, fol (l.take i) (sn : Int) = fo := ⟨_, rfl⟩
        rw [hfo] at hF
        have Hfo := hide hfo
        clear hR hla hfo
        go_wp2_with fail
        refine (unhide HCm _).mono ?_
        rintro e W2 ⟨rfl, hb2⟩
        have hb2' := GrW.below hb2
        have HB2 := hide (bnext (unhide HB1) hb2')
        have Hbf2 := hide ((unhide Hbf1).below hb2')
        have Hbl2 := hide ((unhide Hbl1).below hb2')
        have bx := (unhide Hbx).below hb2'
        have y0 := bx.cell 0 _ rfl
        have y1 := bx.cell 1 _ rfl
        have y2 := bx.cell 2 _ rfl
        have fc := (unhide Hbf2).cell sn _ (folA_get (l.take i) sn (by omega))
        rw [unhide Hfo] at fc
        have ff := (unhide Hbf2).frozen sn
        have lf0 := (unhide Hbl2).frozen 0
        have lf1 := (unhide Hbl2).frozen 1
        have l0 := (unhide Hbl2).cell 0 _ rfl
        have l1 := (unhide Hbl2).cell 1 _ rfl
        have Hbx2 := hide bx
        clear hb2 hb2' HCm Hbf1 Hbl1 HB1 bx x0 x1 x2 Hbx
        by_cases hcm : cm ≤ 0
        · have HRe := hide (show R = 9 by have h := unhide Hchk; rw [chkA, if_neg (by rw [unhide HRt]; simp), if_pos (by rw [hO]; simpa using hcm)] at h; exact h.symm)
          clear hO hF
          go_wp2
          go_ret
          rw [unhide HRe]
          exact ⟨rfl, unhide HB2⟩
        · have HO2 := hide (show badO (l.take i) ((t, (sn : Int)), c) = false by rw [hO]; simpa using hcm)
          clear hO
          have hsn : (sn : Int) < 17 := by omega
          by_cases hfo : t ≤ fo
          · have HRe := hide (show R = 6 by have h := unhide Hchk; rw [chkA, if_neg (by rw [unhide HRt]; simp), if_neg (by rw [unhide HO2]; simp), if_pos (by rw [hF]; simpa using hfo)] at h; exact h.symm)
            clear hF
            go_wp2
            go_quiet (fail)
            go_wp2
            go_ret
            rw [unhide HRe]
            exact ⟨rfl, bdrew (unhide HB2) _⟩
          · have HF2 := hide (show badF (l.take i) ((t, (sn : Int)), c) = false by rw [hF]; simpa using hfo)
            clear hF
            go_wp2
            go_quiet (fail)
            have bx0 : Bx (W2.drewN nq) wr.heap.size 81 #[.int .i64 t, .int .i64 (sn : Nat), .int .i64 c] := unhide Hbx2
            have bf0 : Bx (W2.drewN nq) w.heap.size 85 (folA (l.take i)) := unhide Hbf2
            have bl0 : Bx (W2.drewN nq) (w.heap.size + 1) 42 #[.int .i64 la, .int .i64 lb] := unhide Hbl2
            have B0 := bdrew (unhide HB2) nq
            clear y0 y1 y2 fc ff lf0 lf1 l0 l1
            generalize W2.drewN nq = W3 at *
            have q0 := bx0.cell 0 _ rfl
            have q1 := bx0.cell 1 _ rfl
            have p0 := bl0.cell 0 _ rfl
            have p1 := bl0.cell 1 _ rfl
            have pf0 := bl0.frozen 0
            have pf1 := bl0.frozen 1
            obtain ⟨X, hX⟩ : ∃ X, (W3.setCell ⟨w.heap.size + 1, 0, none⟩ (.int .i64 t)).setCell ⟨w.heap.size + 1, 1, none⟩ (.int .i64 (sn : Nat)) = X := ⟨_, rfl⟩
            have bx1 : Bx X wr.heap.size 81 #[.int .i64 t, .int .i64 (sn : Nat), .int .i64 c] := by rw [← hX]; exact (bx0.setO _ (by show wr.heap.size ≠ w.heap.size + 1; omega) _).setO _ (by show wr.heap.size ≠ w.heap.size + 1; omega) _
            have bf1 : Bx X w.heap.size 85 (folA (l.take i)) := by rw [← hX]; exact (bf0.setO _ (by show w.heap.size ≠ w.heap.size + 1; omega) _).setO _ (by show w.heap.size ≠ w.heap.size + 1; omega) _
            have bl1 : Bx X (w.heap.size + 1) 42 #[.int .i64 t, .int .i64 (sn : Nat)] := by rw [← hX]; simpa using (bl0.set 0 (.int .i64 t)).set 1 (.int .i64 (sn : Nat))
            have B1 : Below w.heap.size w X := by rw [← hX]; exact bset (bset B0 ⟨w.heap.size + 1, 0, none⟩ (by show w.heap.size ≤ w.heap.size + 1; omega) _) ⟨w.heap.size + 1, 1, none⟩ (by show w.heap.size ≤ w.heap.size + 1; omega) _
            have z0 := bx1.cell 0 _ rfl
            have z1 := bx1.cell 1 _ rfl
            have z2 := bx1.cell 2 _ rfl
            have fc := bf1.cell sn _ (folA_get (l.take i) sn (by omega))
            have ff := bf1.frozen sn
            replace bx0 := hide bx0
            replace bf0 := hide bf0
            replace bl0 := hide bl0
            replace bx1 := hide bx1
            replace bf1 := hide bf1
            replace bl1 := hide bl1
            replace B1 := hide B1
            go_wp2
            go_roundw
            case measure => show n - ((i : Int) + 1).toNat < n - ((i : Nat) : Int).toNat; omega
            case rel =>
              refine ⟨i + 1, by go_num, by omega, hide ⟨?_, ?_, ?_, ?_, ?_⟩⟩
              · have h := unhide Hchk
                rw [chkA, if_neg (by rw [unhide HRt]; simp), if_neg (by rw [unhide HO2]; simp), if_neg (by rw [unhide HF2]; simp)] at h
                rw [unhide Htk]
                exact h
              · rw [unhide Htk]
                exact (unhide Hdone).snoc (unhide HRt) (unhide HF2)
              · rw [unhide Htk, ← folA_set _ _ _ _ (by omega)]
                exact (unhide bf1).set sn _
              · rw [unhide Htk, lastI_snoc]
                exact (unhide bl1).setO _ (by show w.heap.size + 1 ≠ w.heap.size; omega) _
              · exact bset (unhide B1) _ (Nat.le_refl _) _
    · have hlt' : ¬ (i : Int) < (n : Int) := by omega
      have HRe := hide (show R = 0 by rw [List.drop_eq_nil_of_le (by have := unhide Hn; omega), chkA] at hchk; exact hchk.symm)
      have HB := hide hB
      clear HH hchk hdone hbf hbl hB
      go_wp2
      go_ret
      rw [unhide HRe]
      exact ⟨rfl, unhide HB⟩

end Go.Proofs.YtijjoikeceechaaGreat
