/-
  Runs: their form, as the document says it and as the program finds it (pure).
-/
import Derived.Test.YtfkdpkckbmbmdaaGreatZXS
import Derived.Test.YtfkdpkckbmbmdaaGreatZXV0
set_option linter.unusedSimpArgs false
set_option linter.unusedVariables false
namespace Go.Proofs.YtfkdpkckbmbmdaaGreat
open Go.RowKit Go.Lib

def encR (r : (Int × Int) × Int) : List Value := [.int .i64 r.1.1, .int .i64 r.1.2, .int .i64 r.2]
theorem encR_len (r : (Int × Int) × Int) : (encR r).length = 3 := rfl

def runIn (r : (Int × Int) × Int) : Prop := idIn r.1 ∧ in64 r.2

/-- a row of identifiers, of runs -/
def RR (W : World) (v : Value) (l : List ((Int × Int) × Int)) : Prop := RC W v l.length (flat encR l)
theorem RR.below {W W' : World} {v : Value} {l : List ((Int × Int) × Int)} (h : RR W v l) (hb : Below W.heap.size W W') : RR W' v l := RC.below h hb
theorem RR.at {W : World} {a : Option Addr} {n c : Nat} {l : List ((Int × Int) × Int)} (h : RR W (.slice a n c) l) {i : Nat} {r : (Int × Int) × Int} (hi : l[i]? = some r) : ∃ b off, a = some ⟨b, off, none⟩ ∧ b < W.heap.size ∧ W.cell? ⟨b, off + i * 3, none⟩ = some (.int .i64 r.1.1) ∧ W.cell? ⟨b, off + i * 3 + 1, none⟩ = some (.int .i64 r.1.2) ∧ W.cell? ⟨b, off + i * 3 + 2, none⟩ = some (.int .i64 r.2) := by
  have hl := (List.getElem?_eq_some_iff.1 hi).1
  rcases h with ⟨h0, _⟩ | ⟨b, off, cap, e, h1, h2, hc⟩
  · omega
  · simp at e
    obtain ⟨rfl, _⟩ := e
    have f := fun q (hq : q < 3) v (hv : (encR r)[q]? = some v) => hc (i * 3 + q) v ((flat_get encR_len l i q r hi hq).trans hv)
    exact ⟨b, off, rfl, h2, f 0 (by omega) _ rfl, f 1 (by omega) _ rfl, f 2 (by omega) _ rfl⟩

/-- does it follow those that are done? -/
def badO (done : List ((Int × Int) × Int)) (r : (Int × Int) × Int) : Bool := match done.getLast? with | none => false | some q => decide (0 ≤ cmpI q.1 r.1)
def badF (done : List ((Int × Int) × Int)) (r : (Int × Int) × Int) : Bool := done.any fun q => decide (q.1.2 = r.1.2) && decide (r.1.1 ≤ q.1.1 + q.2)
def chkA : List ((Int × Int) × Int) → List ((Int × Int) × Int) → Int
  | _, [] => 0
  | done, r :: l => if isR r = false then 1 else if badO done r = true then 9 else if badF done r = true then 6 else chkA (done ++ [r]) l
/-- why runs are not in their form -/
def chkR (l : List ((Int × Int) × Int)) : Int := chkA [] l

/-- of a site, the time that would follow its last run -/
def fol (done : List ((Int × Int) × Int)) (s : Int) : Int := match (done.filter fun q => decide (q.1.2 = s)).getLast? with | none => 0 | some q => q.1.1 + q.2
def lastI (done : List ((Int × Int) × Int)) : Int × Int := match done.getLast? with | none => (0, 0) | some q => q.1

theorem fol_nil (s : Int) : fol [] s = 0 := rfl
theorem fol_snoc (done : List ((Int × Int) × Int)) (r : (Int × Int) × Int) (s : Int) : fol (done ++ [r]) s = if r.1.2 = s then r.1.1 + r.2 else fol done s := by
  unfold fol
  rw [List.filter_append]
  by_cases h : r.1.2 = s
  · simp [h]
  · simp [h]
theorem lastI_snoc (done : List ((Int × Int) × Int)) (r : (Int × Int) × Int) : lastI (done ++ [r]) = r.1 := by simp [lastI]

theorem cmpI_pos {a b : Int × Int} : cmpI a b = 1 ↔ b.1 < a.1 ∨ (a.1 = b.1 ∧ b.2 < a.2) := by
  obtain ⟨a1, a2⟩ := a
  obtain ⟨b1, b2⟩ := b
  unfold cmpI
  simp only [Prod.mk.injEq]
  split
  · simp; omega
  · split
    · simp; omega
    · simp; omega
theorem cmpI_le {a b : Int × Int} : cmpI a b ≤ 0 ↔ ¬ (b.1 < a.1 ∨ (a.1 = b.1 ∧ b.2 < a.2)) := by
  rw [← cmpI_pos]
  unfold cmpI
  split
  · simp
  · split <;> simp
theorem cmpI_ge {a b : Int × Int} : 0 ≤ cmpI a b ↔ ¬ (a.1 < b.1 ∨ (a.1 = b.1 ∧ a.2 < b.2)) := by
  obtain ⟨a1, a2⟩ := a
  obtain ⟨b1, b2⟩ := b
  unfold cmpI
  simp only [Prod.mk.injEq]
  split
  · simp; omega
  · split
    · simp; omega
    · simp; omega

theorem isR_range {r : (Int × Int) × Int} (h : isR r = true) : 1 ≤ r.1.1 ∧ r.1.1 ≤ 2147483647 ∧ 1 ≤ r.1.2 ∧ r.1.2 ≤ 16 ∧ 1 ≤ r.2 ∧ r.1.1 + r.2 ≤ 2147483648 := by
  unfold isR isI at h
  simp [Bool.and_eq_true] at h
  omega

theorem badO_eq (done : List ((Int × Int) × Int)) (r : (Int × Int) × Int) (hr : isR r = true) : badO done r = decide (cmpI r.1 (lastI done) ≤ 0) := by
  have h := isR_range hr
  unfold badO lastI
  cases hl : done.getLast? with
  | none =>
    rw [Bool.eq_iff_iff]
    rw [decide_eq_true_iff, cmpI_le]
    simp
    omega
  | some q =>
    rw [Bool.eq_iff_iff, decide_eq_true_iff, decide_eq_true_iff, cmpI_le, cmpI_ge]
    simp only
    omega

/-- what is done is in its form: of a site the ends rise -/
def DoneOk (done : List ((Int × Int) × Int)) : Prop := (∀ q ∈ done, isR q = true) ∧ ∀ s, ∀ q ∈ done, q.1.2 = s → q.1.1 + q.2 ≤ fol done s
theorem DoneOk.nil : DoneOk [] := ⟨fun q h => (by cases h), fun s q h => (by cases h)⟩
theorem badF_eq {done : List ((Int × Int) × Int)} (hd : DoneOk done) (r : (Int × Int) × Int) (hr : isR r = true) : badF done r = decide (r.1.1 ≤ fol done r.1.2) := by
  have h := isR_range hr
  rw [Bool.eq_iff_iff, decide_eq_true_iff]
  unfold badF
  simp only [List.any_eq_true, Bool.and_eq_true, decide_eq_true_eq]
  constructor
  · rintro ⟨q, hq, h1, h2⟩
    have := hd.2 r.1.2 q hq h1
    omega
  · intro h1
    have hf : fol done r.1.2 ≠ 0 := by omega
    unfold fol at h1 hf
    cases hl : (done.filter fun q => decide (q.1.2 = r.1.2)).getLast? with
    | none => rw [hl] at hf; exact absurd rfl hf
    | some q =>
      rw [hl] at h1
      have hq := List.mem_of_getLast? hl
      simp at hq
      exact ⟨q, hq.1, hq.2, h1⟩
theorem DoneOk.snoc {done : List ((Int × Int) × Int)} (hd : DoneOk done) {r : (Int × Int) × Int} (hr : isR r = true) (hf : badF done r = false) : DoneOk (done ++ [r]) := by
  have hb := badF_eq hd r hr
  rw [hf] at hb
  have h1 := of_decide_eq_false hb.symm
  have h2 := isR_range hr
  refine ⟨fun q hq => ?_, fun s q hq hs => ?_⟩
  · rcases List.mem_append.1 hq with h | h
    · exact hd.1 q h
    · simp at h; subst h; exact hr
  · rw [fol_snoc]
    rcases List.mem_append.1 hq with h | h
    · have := hd.2 s q h hs
      split
      · rename_i e
        rw [e] at h1
        omega
      · exact this
    · simp at h
      subst h
      rw [if_pos hs]
      omega

end Go.Proofs.YtfkdpkckbmbmdaaGreat
