/-
  The program's Alarm and the document's, side by side; lists of numbers; what is told of both.
-/
import Derived.Test.YtknomhgglmgciaaZAR3
set_option linter.unusedSimpArgs false
set_option linter.unusedVariables false
namespace Go.Proofs.Ytknomhgglmgciaa
open Go.RowKit Go.Lib

set_option maxRecDepth 100000 in
set_option maxHeartbeats 2000000 in
theorem ints_in (u v : Value) (l m : List Int) (w : World) (hu : RN w u l) (hv : RN w v m) (hl : l.length ≤ 1000000) (hm : m.length ≤ 1000000) : Calls Try.prog 21 #[u, v] w fun e W => e = .returned (.bool (decide (l = m))) ∧ Below w.heap.size w W := by
  obtain ⟨a, c, rfl⟩ := hu.form
  obtain ⟨a', c', rfl⟩ := hv.form
  by_cases hne : l.length = m.length
  · obtain ⟨D, hD⟩ : ∃ D, decide (l = m) = D := ⟨_, rfl⟩
    rw [hD]
    replace hD := hide hD
    obtain ⟨n, hn⟩ : ∃ n, l.length = n := ⟨_, rfl⟩
    have hn' : m.length = n := by omega
    have HL := hide hn
    have HM := hide hn'
    have HU := hide hu
    have HV := hide hv
    rw [hn, hn']
    rw [hn] at hl
    clear hn hn' hne hm hu hv
    go_enter Try.func21, Try.ntmps21
    go_wp2
    go_loopw [5] (fun iv wr => ∃ i : Nat, i ≤ n ∧ iv = .int .i64 (i : Nat) ∧ Hid (l.take i = m.take i ∧ Below w.heap.size w wr)) (fun iv _ => n - (RowKit.intOf iv).toNat)
    case atStart => exact ⟨0, Nat.zero_le _, rfl, hide ⟨by simp, Below.refl _ _⟩⟩
    case round =>
      obtain ⟨i, hi, rfl, HI⟩ := hrel
      obtain ⟨htk, hb⟩ := unhide HI
      by_cases hlt : i < n
      · have hlt' : (i : Int) < (n : Int) := by omega
        have hi1 : i < l.length := by rw [unhide HL]; exact hlt
        have hi2 : i < m.length := by rw [unhide HM]; exact hlt
        have ru := (unhide HU).below hb
        have rv := (unhide HV).below hb
        rw [show (Value.slice a l.length c) = .slice a n c by rw [unhide HL]] at ru
        rw [show (Value.slice a' m.length c') = .slice a' n c' by rw [unhide HM]] at rv
        obtain ⟨b1, o1, rfl, _, k1⟩ := RN.at ru (List.getElem?_eq_getElem hi1)
        obtain ⟨b2, o2, rfl, _, k2⟩ := RN.at rv (List.getElem?_eq_getElem hi2)
        by_cases he : l[i] = m[i]
        · have hnq : (l[i] != m[i]) = false := by simpa using he
          have htk' : l.take (i + 1) = m.take (i + 1) := by
            rw [List.take_add_one, List.take_add_one, htk, List.getElem?_eq_getElem hi1, List.getElem?_eq_getElem hi2, he]
          have Htk' := hide htk'
          clear he htk' htk hb ru rv
          generalize l[i] = e at *
          generalize m[i] = e' at *
          go_wp2
          go_quiet (fail)
          go_wp2
          go_roundw
          case rel => exact ⟨i + 1, by omega, by go_num, hide ⟨unhide Htk', bdrew (unhide HI).2 _⟩⟩
          case measure => show n - ((i : Int) + 1).toNat < n - ((i : Nat) : Int).toNat; omega
        · have hnq : (l[i] != m[i]) = true := by simpa using he
          have Hfin := hide (show D = false by
            rw [← unhide hD, decide_eq_false_iff_not]
            intro e
            subst e
            exact he rfl)
          clear he htk hb ru rv
          generalize l[i] = e at *
          generalize m[i] = e' at *
          go_wp2
          go_quiet (fail)
          go_wp2
          go_ret
          exact ⟨by rw [unhide Hfin]; rfl, bdrew (unhide HI).2 _⟩
      · have Hfin := hide (show D = true by
          rw [List.take_of_length_le (by rw [unhide HL]; omega), List.take_of_length_le (by rw [unhide HM]; omega)] at htk
          rw [← unhide hD]
          exact decide_eq_true htk)
        have i1 : ¬ (i : Int) < (n : Int) := by omega
        clear htk hb
        go_wp2
        go_ret
        exact ⟨by rw [unhide Hfin]; rfl, (unhide HI).2⟩
  · have hd : decide (l = m) = false := by rw [decide_eq_false_iff_not]; intro e; exact hne (by rw [e])
    rw [hd]
    have hne' : ((l.length : Int) != (m.length : Int)) = true := by simp; omega
    clear hd hu hv hne
    generalize l.length = L at *
    generalize m.length = M at *
    go_enter Try.func21, Try.ntmps21
    go_wp2
    go_ret
    exact ⟨rfl, Below.refl _ _⟩

/-- both, in blocks of Pa, apart from each other -/
def QA (Pa : Nat → Prop) (W : World) (b n r : Nat) (ls ms : Int) (L M : List Tm) : Prop := ∃ P1 P2, AL P1 W b ls ms n L ∧ RL P2 W r ls ms M ∧ (∀ i, P1 i → Pa i ∧ i < W.heap.size ∧ ¬ P2 i) ∧ (∀ i, P2 i → Pa i ∧ i < W.heap.size ∧ ¬ P1 i)
variable {Pa Pb : Nat → Prop} {w W W' : World} {b n r : Nat} {ls ms : Int} {L M : List Tm}
theorem QA.kp {N : Nat → Prop} (h : QA Pa W b n r ls ms L M) (k : Kp N W W') (hn : ∀ i, N i → ¬ Pa i) : QA Pa W' b n r ls ms L M := by
  obtain ⟨P1, P2, h1, h2, h3, h4⟩ := h
  have hz := k.size
  exact ⟨P1, P2, h1.kp k (fun i hi e => hn i hi (h3 i e).1), h2.kp k (fun i hi e => hn i hi (h4 i e).1), fun i hi => ⟨(h3 i hi).1, by have := (h3 i hi).2.1; omega, (h3 i hi).2.2⟩, fun i hi => ⟨(h4 i hi).1, by have := (h4 i hi).2.1; omega, (h4 i hi).2.2⟩⟩
theorem QA.below (h : QA Pa W b n r ls ms L M) (hb : Below W.heap.size W W') : QA Pa W' b n r ls ms L M := h.kp (N := fun _ => False) (Kp.of_below hb) (fun _ h => h.elim)
theorem QA.mono (h : QA Pa W b n r ls ms L M) (hp : ∀ i, Pa i → Pb i) : QA Pb W b n r ls ms L M := by
  obtain ⟨P1, P2, h1, h2, h3, h4⟩ := h
  exact ⟨P1, P2, h1, h2, fun i hi => ⟨hp i (h3 i hi).1, (h3 i hi).2⟩, fun i hi => ⟨hp i (h4 i hi).1, (h4 i hi).2⟩⟩
theorem QA.gl (h : QA Pa W b n r ls ms L M) : GL ls ms L := by obtain ⟨_, _, h, _⟩ := h; exact h.gl
theorem QA.ln (h : QA Pa W b n r ls ms L M) : L.length ≤ n := by obtain ⟨_, _, h, _⟩ := h; exact h.ln
theorem QA.more {n' : Nat} (h : QA Pa W b n r ls ms L M) (hn : n ≤ n') : QA Pa W b n' r ls ms L M := by
  obtain ⟨P1, P2, h1, h2⟩ := h
  exact ⟨P1, P2, h1.more hn, h2⟩
theorem QA.call1 (h : QA Pa W b n r ls ms L M) {F : FuncId} {args : Array Value} {n' : Nat} {L' : List Tm} {v : Value} (hc : ∀ P1, AL P1 W b ls ms n L → (∀ i, P1 i → i < W.heap.size) → Calls Try.prog F args W (CA P1 W b ls ms n' L' v)) :
    Calls Try.prog F args W fun e W' => e = .returned v ∧ QA (fun i => Pa i ∨ W.heap.size ≤ i) W' b n' r ls ms L' M ∧ Kp Pa W W' := by
  obtain ⟨P1, P2, h1, h2, h3, h4⟩ := h
  refine (hc P1 h1 (fun i hi => (h3 i hi).2.1)).mono ?_
  rintro e W' ⟨rfl, ha, k⟩
  have hz := k.size
  refine ⟨rfl, ⟨_, P2, ha.lt, h2.kp k (fun i hi e => (h3 i hi).2.2 e), fun i hi => ?_, fun i hi => ⟨.inl (h4 i hi).1, by have := (h4 i hi).2.1; omega, fun e => ?_⟩⟩, k.wk (fun i hi => (h3 i hi).1)⟩
  · rcases hi.1 with e | e
    · exact ⟨.inl (h3 i e).1, hi.2, (h3 i e).2.2⟩
    · exact ⟨.inr e, hi.2, fun q => by have := (h4 i q).2.1; omega⟩
  · rcases e.1 with e | e
    · exact (h4 i hi).2.2 e
    · have := (h4 i hi).2.1; omega
theorem QA.call2 (h : QA Pa W b n r ls ms L M) {F : FuncId} {args : Array Value} {M' : List Tm} {v : Value} (hc : ∀ P2, RL P2 W r ls ms M → (∀ i, P2 i → i < W.heap.size) → Calls Try.prog F args W (RA P2 W r ls ms M' v)) :
    Calls Try.prog F args W fun e W' => e = .returned v ∧ QA (fun i => Pa i ∨ W.heap.size ≤ i) W' b n r ls ms L M' ∧ Kp Pa W W' := by
  obtain ⟨P1, P2, h1, h2, h3, h4⟩ := h
  refine (hc P2 h2 (fun i hi => (h4 i hi).2.1)).mono ?_
  rintro e W' ⟨rfl, ha, k⟩
  have hz := k.size
  refine ⟨rfl, ⟨P1, _, h1.kp k (fun i hi e => (h4 i hi).2.2 e), ha.lt, fun i hi => ⟨.inl (h3 i hi).1, by have := (h3 i hi).2.1; omega, fun e => ?_⟩, fun i hi => ?_⟩, k.wk (fun i hi => (h4 i hi).1)⟩
  · rcases e.1 with e | e
    · exact (h3 i hi).2.2 e
    · have := (h3 i hi).2.1; omega
  · rcases hi.1 with e | e
    · exact ⟨.inl (h4 i e).1, hi.2, (h4 i e).2.2⟩
    · exact ⟨.inr e, hi.2, fun q => by have := (h3 i q).2.1; omega⟩
theorem QA.due1 (h : QA Pa W b n r ls ms L M) (hn : n ≤ 999998) (now : Int) :
    Calls Try.prog 19 #[.pointer (some ⟨b, 0, none⟩), .int .i64 now] W fun e W' => ∃ v, e = .returned v ∧ OwN W' W.heap.size v (duA ms now L).1 ∧ QA Pa W' b n r ls ms (duA ms now L).2 M ∧ Kp Pa W W' := by
  obtain ⟨P1, P2, h1, h2, h3, h4⟩ := h
  refine (Due_in h1 (fun i hi => (h3 i hi).2.1) hn now).mono ?_
  rintro e W' ⟨v, rfl, ho, ha, k⟩
  have hz := k.size
  exact ⟨v, rfl, ho, ⟨P1, P2, ha, h2.kp k (fun i hi e => (h3 i hi).2.2 e), fun i hi => ⟨(h3 i hi).1, by have := (h3 i hi).2.1; omega, (h3 i hi).2.2⟩, fun i hi => ⟨(h4 i hi).1, by have := (h4 i hi).2.1; omega, (h4 i hi).2.2⟩⟩, k.wk (fun i hi => (h3 i hi).1)⟩
theorem QA.due2 (h : QA Pa W b n r ls ms L M) (gl : GL ls ms M) (hl : M.length ≤ 999999) (now : Int) :
    Calls Try.prog 28 #[.pointer (some ⟨r, 0, none⟩), .int .i64 now] W fun e W' => ∃ v, e = .returned v ∧ OwN W' W.heap.size v (duA ms now M).1 ∧ QA Pa W' b n r ls ms L (duA ms now M).2 ∧ Kp Pa W W' := by
  obtain ⟨P1, P2, h1, h2, h3, h4⟩ := h
  refine (rDue_in h2 (fun i hi => (h4 i hi).2.1) gl hl now).mono ?_
  rintro e W' ⟨v, rfl, ho, ha, k⟩
  have hz := k.size
  exact ⟨v, rfl, ho, ⟨P1, P2, h1.kp k (fun i hi e => (h4 i hi).2.2 e), ha, fun i hi => ⟨(h3 i hi).1, by have := (h3 i hi).2.1; omega, (h3 i hi).2.2⟩, fun i hi => ⟨(h4 i hi).1, by have := (h4 i hi).2.1; omega, (h4 i hi).2.2⟩⟩, k.wk (fun i hi => (h4 i hi).1)⟩

set_option maxRecDepth 100000 in
set_option maxHeartbeats 4000000 in
theorem alike_in (h : QA Pa W b n r ls ms L L) (hn : n ≤ 1000000) (k : Int) (hk : in64 k) : Calls Try.prog 11 #[.pointer (some ⟨b, 0, none⟩), .pointer (some ⟨r, 0, none⟩), .int .i64 k] W fun e W' => e = .returned (.bool true) ∧ Below W.heap.size W W' := by
  have gl := h.gl
  have hl := h.ln
  obtain ⟨P1, P2, h1, h2, _⟩ := h
  have A1 := hide (fun X (hX : Below W.heap.size W X) => Gap_in (h1.below hX) k hk)
  have A2 := hide (fun X (hX : Below W.heap.size W X) => rGap_in (h2.below hX) (by omega) k)
  have A3 := hide (fun X (hX : Below W.heap.size W X) => Next_in (h1.below hX))
  have A4 := hide (fun X (hX : Below W.heap.size W X) => rNext_in (h2.below hX) (by omega) gl.nod)
  have A5 := hide (fun X (hX : Below W.heap.size W X) => Len_in (h1.below hX))
  have A6 := hide (fun X (hX : Below W.heap.size W X) => rLen_in (h2.below hX))
  obtain ⟨x1, x2, hx⟩ : ∃ x1 x2 : Int, gapA L k = .tuple #[.int .i64 x1, .int .i64 x2] := by
    unfold gapA
    cases lookL L k with
    | none => exact ⟨_, _, rfl⟩
    | some x => exact ⟨_, _, rfl⟩
  obtain ⟨y1, y2, y3, hy⟩ : ∃ (y1 y2 : Int) (y3 : Bool), nxtA L = .tuple #[.int .i64 y1, .int .i64 y2, .bool y3] := by
    unfold nxtA
    cases minL L with
    | none => exact ⟨_, _, _, rfl⟩
    | some x => exact ⟨_, _, _, rfl⟩
  rw [hx] at A1 A2
  rw [hy] at A3 A4
  clear h1 h2 gl hl hx hy
  generalize L.length = m at *
  go_enter Try.func11, Try.ntmps11
  go_wp2_with fail
  refine (unhide A1 _ (Below.refl _ _)).mono ?_
  rintro e W1 ⟨rfl, b1⟩
  replace b1 := hide b1
  clear A1
  go_wp2_with fail
  refine (unhide A2 _ (unhide b1)).mono ?_
  rintro e W2 ⟨rfl, b2⟩
  have B2 := hide (bnext (unhide b1) b2)
  clear A2 b1 b2
  go_wp2_with fail
  refine (unhide A3 _ (unhide B2)).mono ?_
  rintro e W3 ⟨rfl, b3⟩
  have B3 := hide (bnext (unhide B2) b3)
  clear A3 B2 b3
  go_wp2_with fail
  refine (unhide A4 _ (unhide B3)).mono ?_
  rintro e W4 ⟨rfl, b4⟩
  have B4 := hide (bnext (unhide B3) b4)
  clear A4 B3 b4
  go_wp2_with fail
  refine (unhide A5 _ (unhide B4)).mono ?_
  rintro e W5 ⟨rfl, rfl⟩
  clear A5
  go_wp2_with fail
  refine (unhide A6 _ (unhide B4)).mono ?_
  rintro e W5 ⟨rfl, rfl⟩
  clear A6
  go_wp2
  go_ret
  exact ⟨by simp, unhide B4⟩

end Go.Proofs.Ytknomhgglmgciaa
