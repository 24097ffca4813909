/-
  Put: a vector is laid.
-/
import Derived.Test.YtijjoikeceechaaGreatZXU
import Derived.Test.YtijjoikeceechaaGreatZXR
set_option linter.unusedSimpArgs false
set_option linter.unusedVariables false
namespace Go.Proofs.YtijjoikeceechaaGreat
open Go.RowKit Go.Lib

/-- what is laid of Dots -/
def putS (st : List Nat × Int) (l : List (Int × Int)) : List Nat × Int := l.foldl (fun st d => wNum (wNum st d.1) d.2) st
def putV (st : List Nat × Int) (l : List (Int × Int)) : List Nat × Int := putS (wNum st l.length) l
theorem putS_step {st : List Nat × Int} {l : List (Int × Int)} {i : Nat} {x : Int × Int} (h : l[i]? = some x) : putS st (l.take (i + 1)) = wNum (wNum (putS st (l.take i)) x.1) x.2 := by
  rw [List.take_add_one, h]
  simp [putS]
theorem wNum_len (st : List Nat × Int) (n : Int) : (wNum st n).1.length ≤ st.1.length + 11 := by
  unfold wNum
  split
  · omega
  · split
    · simp
    · simp; exact num_len _
theorem putS_len (st : List Nat × Int) (l : List (Int × Int)) : (putS st l).1.length ≤ st.1.length + 22 * l.length := by
  induction l generalizing st with
  | nil => simp [putS]
  | cons x l ih =>
    have h1 := ih (wNum (wNum st x.1) x.2)
    have h2 := wNum_len (wNum st x.1) x.2
    have h3 := wNum_len st x.1
    show (putS (wNum (wNum st x.1) x.2) l).1.length ≤ _
    simp only [List.length_cons]
    omega

/-- a Writer, and a row that is read beside it -/
structure PtA (w W : World) (p : Nat) (v v1 dv : Value) (dots : List (Int × Int)) (st : List Nat × Int) : Prop where
  wr : Wr W p v1 st.1 st.2
  row : RI W dv dots
  kp : Kp (wOwn p v) w W
  own : OwnAt w v v1
  ap : ∀ k, dv.ownBlock = some k → ¬ wOwn p v1 k ∧ k < W.heap.size
theorem PtA.below {w W W' : World} {p : Nat} {v v1 dv : Value} {dots : List (Int × Int)} {st : List Nat × Int} (h : PtA w W p v v1 dv dots st) (hb : Below W.heap.size W W') : PtA w W' p v v1 dv dots st :=
  ⟨h.wr.below hb, h.row.below hb, h.kp.trans (M := fun _ => False) (Kp.of_below hb) (fun _ h => h.elim), h.own, fun k hk => ⟨(h.ap k hk).1, Nat.lt_of_lt_of_le (h.ap k hk).2 hb.size⟩⟩
theorem PtA.num {w W W' : World} {p : Nat} {v v1 v2 dv : Value} {dots : List (Int × Int)} {st st' : List Nat × Int} (h : PtA w W p v v1 dv dots st) (hw : Wr W' p v2 st'.1 st'.2) (k : Kp (wOwn p v1) W W') (ho : OwnAt W v1 v2) : PtA w W' p v v2 dv dots st' :=
  ⟨hw, RC.kp h.row k (fun i hi => (h.ap i hi).1), h.kp.trans k (wOwn_at h.own), h.own.trans ho h.kp.size, fun i hi => ⟨fun e => by
    rcases wOwn_at ho i e with h' | h'
    · exact (h.ap i hi).1 h'
    · have := (h.ap i hi).2; omega, Nat.lt_of_lt_of_le (h.ap i hi).2 k.size⟩⟩

theorem vec_in {s : Nat → Int} (hg : Good s) {x : Int × Int} (h : x ∈ vec s) : 1 ≤ x.1 ∧ x.1 ≤ 16 ∧ 1 ≤ x.2 ∧ x.2 ≤ 2147483647 := by
  obtain ⟨i, hi, hp, rfl⟩ := vecN_mem h
  have h1 := hg.hi i
  have h0 : i ≠ 0 := fun e => by rw [e, hg.zero] at hp; omega
  exact ⟨by show (1 : Int) ≤ (i : Int); omega, by show (i : Int) ≤ 16; omega, by show 1 ≤ s i; omega, h1⟩

end Go.Proofs.YtijjoikeceechaaGreat
