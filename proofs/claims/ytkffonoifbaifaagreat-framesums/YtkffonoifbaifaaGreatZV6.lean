/-
  Put: a vector is laid.
-/
import Derived.Test.YtkffonoifbaifaaGreatZXV2
import Derived.Test.YtkffonoifbaifaaGreatZXR
set_option linter.unusedSimpArgs false
set_option linter.unusedVariables false
namespace Go.Proofs.YtkffonoifbaifaaGreat
open Go.RowKit Go.Lib

/-- what is laid of Dots -/
def putS (st : List Nat × Int) (l : List (Int × Int)) : List Nat × Int := l.foldl (fun st d => wNum (wNum st d.1) d.2) st
def putV (st : List Nat × Int) (l : List (Int × Int)) : List Nat × Int := putS (wNum st l.length) l
theorem putS_step {st : List Nat × Int} {l : List (Int × Int)} {i : Nat} {x : Int × Int} (h : l[i]? = some x) : putS st (l.take (i + 1)) = wNum (wNum (putS st (l.take i)) x.1) x.2 := by
  rw [List.take_add_one, h]
  simp [putS]
theorem wNum_len (st : List Nat × Int) (n : Int) : (wNum st n).1.length ≤ st.1.length + 11 := by
  unfold wNum
  split
  · omega
  · split
    · simp
    · simp; exact num_len _
theorem putS_len (st : List Nat × Int) (l : List (Int × Int)) : (putS st l).1.length ≤ st.1.length + 22 * l.length := by
  induction l generalizing st with
  | nil => simp [putS]
  | cons x l ih =>
    have h1 := ih (wNum (wNum st x.1) x.2)
    have h2 := wNum_len (wNum st x.1) x.2
    have h3 := wNum_len st x.1
    show (putS (wNum (wNum st x.1) x.2) l).1.length ≤ _
    simp only [List.length_cons]
    omega

/-- a Writer, and a row that is read beside it -/
structure PtA (w W : World) (p : Nat) (v v1 dv : Value) (dots : List (Int × Int)) (st : List Nat × Int) : Prop where
  wr : Wr W p v1 st.1 st.2
  row : RI W dv dots
  kp : Kp (wOwn p v) w W
  own : OwnAt w v v1
  ap : ∀ k, dv.ownBlock = some k → ¬ wOwn p v1 k ∧ k < W.heap.size
theorem PtA.below {w W W' : World} {p : Nat} {v v1 dv : Value} {dots : List (Int × Int)} {st : List Nat × Int} (h : PtA w W p v v1 dv dots st) (hb : Below W.heap.size W W') : PtA w W' p v v1 dv dots st :=
  ⟨h.wr.below hb, h.row.below hb, h.kp.trans (M := fun _ => False) (Kp.of_below hb) (fun _ h => h.elim), h.own, fun k hk => ⟨(h.ap k hk).1, Nat.lt_of_lt_of_le (h.ap k hk).2 hb.size⟩⟩
theorem PtA.num {w W W' : World} {p : Nat} {v v1 v2 dv : Value} {dots : List (Int × Int)} {st st' : List Nat × Int} (h : PtA w W p v v1 dv dots st) (hw : Wr W' p v2 st'.1 st'.2) (k : Kp (wOwn p v1) W W') (ho : OwnAt W v1 v2) : PtA w W' p v v2 dv dots st' :=
  ⟨hw, RC.kp h.row k (fun i hi => (h.ap i hi).1), h.kp.trans k (wOwn_at h.own), h.own.trans ho h.kp.size, fun i hi => ⟨fun e => by
    rcases wOwn_at ho i e with h' | h'
    · exact (h.ap i hi).1 h'
    · have := (h.ap i hi).2; omega, Nat.lt_of_lt_of_le (h.ap i hi).2 k.size⟩⟩

theorem vec_in {s : Nat → Int} (hg : Good s) {x : Int × Int} (h : x ∈ vec s) : 1 ≤ x.1 ∧ x.1 ≤ 16 ∧ 1 ≤ x.2 ∧ x.2 ≤ 2147483647 := by
  obtain ⟨i, hi, hp, rfl⟩ := vecN_mem h
  have h1 := hg.hi i
  have h0 : i ≠ 0 := fun e => by rw [e, hg.zero] at hp; omega
  exact ⟨by show (1 : Int) ≤ (i : Int); omega, by show (i : Int) ≤ 16; omega, by show 1 ≤ s i; omega, h1⟩

set_option maxRecDepth 100000 in
set_option maxHeartbeats 2000000 in
theorem Put_in {w : World} {p : Nat} {v u : Value} {L : List Nat} {e : Int} (l : List (Int × Int)) (h : Wr w p v L e) (hu : RI w u l) (hl : l.length ≤ 140737488355328) (hL : L.length ≤ 1000000000) :
    Calls Tryz.prog 27 #[.pointer (some ⟨p, 0, none⟩), u] w fun r W => r = .returned (.tuple #[]) ∧ ∃ v', Wr W p v' (putV (L, e) (vec (sy l))).1 (putV (L, e) (vec (sy l))).2 ∧ Kp (wOwn p v) w W ∧ OwnAt w v v' := by
  have HR := hide (read_in u l w hu hl)
  have HW := hide h
  have HG := hide (sy_good l)
  obtain ⟨a, c, rfl⟩ := hu.form
  clear h hu
  generalize sy l = s at *
  have HV := hide (fun W => vector_in s W)
  have hvl := vec_len s
  obtain ⟨d, hd⟩ : ∃ d, vec s = d := ⟨_, rfl⟩
  have HD := hide (fun x (hx : x ∈ vec s) => vec_in (unhide HG) hx)
  rw [hd] at HV hvl HD ⊢
  clear hd HG
  obtain ⟨n, hn⟩ : ∃ n, d.length = n := ⟨_, rfl⟩
  have Hn := hide hn
  obtain ⟨P0, hP⟩ : ∃ P0, wNum (L, e) (n : Int) = P0 := ⟨_, rfl⟩
  have HP0 := hide (show P0.1.length ≤ L.length + 11 by rw [← hP]; exact wNum_len _ _)
  have hpv : putV (L, e) d = putS P0 d := by unfold putV; rw [hn, hP]
  rw [hpv]
  rw [hn] at hvl
  clear hpv hn
  go_enter Tryz.func27, Tryz.ntmps27
  go_wp2_with fail
  refine (unhide HR).mono ?_
  rintro r W1 ⟨rfl, hb1⟩
  replace hb1 := hide hb1
  go_wp2_with fail
  refine (unhide HV _).mono ?_
  rintro r W2 ⟨dv, rfl, ho, hb2⟩
  obtain ⟨ad, cd, hdv⟩ := ho.form
  rw [unhide Hn] at hdv
  have PA : PtA w W2 p v v dv d (L, e) := ⟨(unhide HW).below (bnext (unhide hb1) hb2), ho.row, Kp.of_below (bnext (unhide hb1) hb2), OwnAt.refl _ _, fun k hk => by
    have h1 := ho.lt k hk
    have h2 := (unhide hb1).size
    refine ⟨fun e => ?_, h1.2⟩
    rcases e with rfl | e
    · have := (unhide HW).box.lt; omega
    · have := ((unhide HW).row.lt k e).2; omega⟩
  subst hdv
  replace PA := hide PA
  have HN := hide (wNumber_in (n : Int) (unhide PA).wr (by omega) (by omega) (by show L.length ≤ _; omega))
  simp only at HN
  rw [hP] at HN
  clear HR HV HW hb1 hb2 ho
  go_wp2_with fail
  refine (unhide HN).mono ?_
  rintro r W3 ⟨rfl, v1, hw3, hk3, ho3⟩
  have PB := hide ((unhide PA).num hw3 hk3 ho3)
  clear HN PA hw3 hk3 ho3 hP
  go_wp2
  go_loopw [16] (fun iv wr => ∃ (i : Nat) (v2 : Value), iv = .int .i64 (i : Nat) ∧ i ≤ n ∧ Hid (PtA w wr p v v2 (.slice ad n cd) d (putS P0 (d.take i)))) (fun iv _ => n - (Lib.intOf iv).toNat)
  case atStart => exact ⟨0, v1, rfl, by omega, hide (unhide PB)⟩
  case round =>
    clear PB
    obtain ⟨i, v2, rfl, hin, PC⟩ := hrel
    by_cases hlt : i < n
    · have hlt' : (i : Int) < (n : Int) := by omega
      obtain ⟨x, hx⟩ : ∃ x, d[i]? = some x := ⟨_, List.getElem?_eq_getElem (by have := unhide Hn; omega)⟩
      obtain ⟨x1, x2, x3, x4⟩ := unhide HD x (List.mem_of_getElem? hx)
      obtain ⟨b, off, rfl, hb, q0, q1⟩ := (unhide PC).row.at hx
      have Hst := hide (putS_step (st := P0) hx)
      have hlen := putS_len P0 (d.take i)
      have hlen2 : (d.take i).length ≤ 17 := by rw [List.length_take]; omega
      have hP0 := unhide HP0
      generalize putS P0 (d.take i) = st at *
      obtain ⟨y0, y1⟩ := x
      simp only at q0 q1 x1 x2 x3 x4
      have PD := hide ((unhide PC).below (ballc (Below.refl _ _) (.cells #[.int .i64 y0, .int .i64 y1] 51)))
      have BD := Bx.new wr 51 #[.int .i64 y0, .int .i64 y1]
      have HN := hide (wNumber_in y0 (unhide PD).wr (by omega) (by omega) (by omega))
      have hnw : ¬ wOwn p v2 wr.heap.size := fun e => by
        rcases e with e | e
        · have := (unhide PC).wr.box.lt; omega
        · have := ((unhide PC).wr.row.lt _ e).2; omega
      have hle1 := wNum_len st y0
      go_wp2_with fail
      refine (unhide HN).mono ?_
      rintro r W4 ⟨rfl, v3, hw4, hk4, ho4⟩
      have PE := hide ((unhide PD).num hw4 hk4 ho4)
      have BE := BD.kp hk4 hnw
      have d0 := BE.cell 0 _ rfl
      have d1 := BE.cell 1 _ rfl
      have hbl := BE.lt
      clear HN hw4 hk4 ho4 BD BE
      have HN := hide (wNumber_in y1 (unhide PE).wr (by omega) (by omega) (by show (wNum st y0).1.length ≤ _; omega))
      go_wp2_with fail
      refine (unhide HN).mono ?_
      rintro r W5 ⟨rfl, v4, hw5, hk5, ho5⟩
      have PF := hide ((unhide PE).num hw5 hk5 ho5)
      clear HN hw5 hk5 ho5
      go_wp2
      go_roundw
      case measure => show n - ((i : Int) + 1).toNat < n - ((i : Nat) : Int).toNat; omega
      case rel => exact ⟨i + 1, v4, by go_num, by omega, hide (by rw [unhide Hst]; exact unhide PF)⟩
    · have hlt' : ¬ (i : Int) < (n : Int) := by omega
      have Hend := hide (show d.take i = d from List.take_of_length_le (by have := unhide Hn; omega))
      rw [unhide Hend] at PC
      go_wp2
      go_end0
      exact ⟨rfl, v2, (unhide PC).wr, (unhide PC).kp, (unhide PC).own⟩

end Go.Proofs.YtkffonoifbaifaaGreat
