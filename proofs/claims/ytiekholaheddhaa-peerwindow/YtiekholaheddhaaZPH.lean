/-
  Two Peers side by side; lists of numbers; within a step.
-/
import Derived.Test.YtiekholaheddhaaZPG
set_option linter.unusedSimpArgs false
set_option linter.unusedVariables false
namespace Go.Proofs.Ytiekholaheddhaa
open Go.RowKit Go.Lib

set_option maxRecDepth 100000 in
set_option maxHeartbeats 2000000 in
theorem ints_in (u v : Value) (l m : List Int) (w : World) (hu : RN w u l) (hv : RN w v m) (hl : l.length ≤ 1000000) (hm : m.length ≤ 1000000) : Calls Try.prog 19 #[u, v] w fun e W => e = .returned (.bool (decide (l = m))) ∧ Below w.heap.size w W := by
  obtain ⟨a, c, rfl⟩ := hu.form
  obtain ⟨a', c', rfl⟩ := hv.form
  by_cases hne : l.length = m.length
  · obtain ⟨D, hD⟩ : ∃ D, decide (l = m) = D := ⟨_, rfl⟩
    rw [hD]
    replace hD := hide hD
    obtain ⟨n, hn⟩ : ∃ n, l.length = n := ⟨_, rfl⟩
    have hn' : m.length = n := by omega
    have HL := hide hn
    have HM := hide hn'
    have HU := hide hu
    have HV := hide hv
    rw [hn, hn']
    rw [hn] at hl
    clear hn hn' hne hm hu hv
    go_enter Try.func19, Try.ntmps19
    go_wp2
    go_loopw [5] (fun iv wr => ∃ i : Nat, i ≤ n ∧ iv = .int .i64 (i : Nat) ∧ Hid (l.take i = m.take i ∧ Below w.heap.size w wr)) (fun iv _ => n - (RowKit.intOf iv).toNat)
    case atStart => exact ⟨0, Nat.zero_le _, rfl, hide ⟨by simp, Below.refl _ _⟩⟩
    case round =>
      obtain ⟨i, hi, rfl, HI⟩ := hrel
      obtain ⟨htk, hb⟩ := unhide HI
      by_cases hlt : i < n
      · have hlt' : (i : Int) < (n : Int) := by omega
        have hi1 : i < l.length := by rw [unhide HL]; exact hlt
        have hi2 : i < m.length := by rw [unhide HM]; exact hlt
        have ru := (unhide HU).below hb
        have rv := (unhide HV).below hb
        rw [show (Value.slice a l.length c) = .slice a n c by rw [unhide HL]] at ru
        rw [show (Value.slice a' m.length c') = .slice a' n c' by rw [unhide HM]] at rv
        obtain ⟨b1, o1, rfl, _, k1⟩ := RN.at ru (List.getElem?_eq_getElem hi1)
        obtain ⟨b2, o2, rfl, _, k2⟩ := RN.at rv (List.getElem?_eq_getElem hi2)
        by_cases he : l[i] = m[i]
        · have hnq : (l[i] != m[i]) = false := by simpa using he
          have htk' : l.take (i + 1) = m.take (i + 1) := by
            rw [List.take_add_one, List.take_add_one, htk, List.getElem?_eq_getElem hi1, List.getElem?_eq_getElem hi2, he]
          have Htk' := hide htk'
          clear he htk' htk hb ru rv
          generalize l[i] = e at *
          generalize m[i] = e' at *
          go_wp2
          go_quiet (fail)
          go_wp2
          go_roundw
          case rel => exact ⟨i + 1, by omega, by go_num, hide ⟨unhide Htk', bdrew (unhide HI).2 _⟩⟩
          case measure => show n - ((i : Int) + 1).toNat < n - ((i : Nat) : Int).toNat; omega
        · have hnq : (l[i] != m[i]) = true := by simpa using he
          have Hfin := hide (show D = false by
            rw [← unhide hD, decide_eq_false_iff_not]
            intro e
            subst e
            exact he rfl)
          clear he htk hb ru rv
          generalize l[i] = e at *
          generalize m[i] = e' at *
          go_wp2
          go_quiet (fail)
          go_wp2
          go_ret
          exact ⟨by rw [unhide Hfin]; rfl, bdrew (unhide HI).2 _⟩
      · have Hfin := hide (show D = true by
          rw [List.take_of_length_le (by rw [unhide HL]; omega), List.take_of_length_le (by rw [unhide HM]; omega)] at htk
          rw [← unhide hD]
          exact decide_eq_true htk)
        have i1 : ¬ (i : Int) < (n : Int) := by omega
        clear htk hb
        go_wp2
        go_ret
        exact ⟨by rw [unhide Hfin]; rfl, (unhide HI).2⟩
  · have hd : decide (l = m) = false := by rw [decide_eq_false_iff_not]; intro e; exact hne (by rw [e])
    rw [hd]
    have hne' : ((l.length : Int) != (m.length : Int)) = true := by simp; omega
    clear hd hu hv hne
    generalize l.length = L at *
    generalize m.length = M at *
    go_enter Try.func19, Try.ntmps19
    go_wp2
    go_ret
    exact ⟨rfl, Below.refl _ _⟩

theorem RN.new (W : World) (l : List Int) : RN (W.alloc (.cells (nC l).toArray 3)) (.slice (some ⟨W.heap.size, 0, none⟩) l.length l.length) l := by
  have hb := Bx.new W 3 (nC l).toArray
  exact .inr ⟨W.heap.size, 0, l.length, rfl, Nat.le_refl _, hb.lt, fun j x hx => by rw [Nat.zero_add]; exact hb.cell j x (by rw [← hx]; simp)⟩


/-- two Peers, in blocks of Pa, apart from each other -/
def QA (Pa : Nat → Prop) (W : World) (t : TypeId) (b : Nat) (t' : TypeId) (r : Nat) (s s' : St) : Prop := ∃ P1 P2, PL P1 W t b s ∧ PL P2 W t' r s' ∧ (∀ i, P1 i → Pa i ∧ i < W.heap.size ∧ ¬ P2 i) ∧ (∀ i, P2 i → Pa i ∧ i < W.heap.size ∧ ¬ P1 i)
variable {Pa Pb : Nat → Prop} {w W W' X X' : World} {t t' : TypeId} {b r : Nat} {s s' : St}
theorem QA.kp {N : Nat → Prop} (h : QA Pa W t b t' r s s') (k : Kp N W W') (hn : ∀ i, N i → ¬ Pa i) : QA Pa W' t b t' r s s' := by
  obtain ⟨P1, P2, h1, h2, h3, h4⟩ := h
  have hz := k.size
  exact ⟨P1, P2, h1.kp k (fun i hi e => hn i hi (h3 i e).1), h2.kp k (fun i hi e => hn i hi (h4 i e).1), fun i hi => ⟨(h3 i hi).1, by have := (h3 i hi).2.1; omega, (h3 i hi).2.2⟩, fun i hi => ⟨(h4 i hi).1, by have := (h4 i hi).2.1; omega, (h4 i hi).2.2⟩⟩
theorem QA.below (h : QA Pa W t b t' r s s') (hb : Below W.heap.size W W') : QA Pa W' t b t' r s s' := h.kp (N := fun _ => False) (Kp.of_below hb) (fun _ h => h.elim)
theorem QA.mono (h : QA Pa W t b t' r s s') (hp : ∀ i, Pa i → i < W.heap.size → Pb i) : QA Pb W t b t' r s s' := by
  obtain ⟨P1, P2, h1, h2, h3, h4⟩ := h
  exact ⟨P1, P2, h1, h2, fun i hi => ⟨hp i (h3 i hi).1 (h3 i hi).2.1, (h3 i hi).2⟩, fun i hi => ⟨hp i (h4 i hi).1 (h4 i hi).2.1, (h4 i hi).2⟩⟩
theorem QA.swap (h : QA Pa W t b t' r s s') : QA Pa W t' r t b s' s := by
  obtain ⟨P1, P2, h1, h2, h3, h4⟩ := h
  exact ⟨P2, P1, h2, h1, h4, h3⟩
theorem QA.gd (h : QA Pa W t b t' r s s') : Gd s := by obtain ⟨_, _, h, _⟩ := h; exact h.gd
theorem QA.call (h : QA Pa W t b t' r s s') {F : FuncId} {args : Array Value} {s2 : St} {v : Value} (hc : ∀ P1, PL P1 W t b s → Calls Try.prog F args W (CP P1 W t b s2 v)) :
    Calls Try.prog F args W fun e W' => e = .returned v ∧ QA (fun i => Pa i ∨ W.heap.size ≤ i) W' t b t' r s2 s' ∧ Kp Pa W W' := by
  obtain ⟨P1, P2, h1, h2, h3, h4⟩ := h
  refine (hc P1 h1).mono ?_
  rintro e W' ⟨rfl, ha, k⟩
  have hz := k.size
  refine ⟨rfl, ⟨_, P2, ha.lt, h2.kp k (fun i hi e => (h3 i hi).2.2 e), fun i hi => ?_, fun i hi => ⟨.inl (h4 i hi).1, by have := (h4 i hi).2.1; omega, fun e => ?_⟩⟩, k.wk (fun i hi => (h3 i hi).1)⟩
  · rcases hi.1 with e | e
    · exact ⟨.inl (h3 i e).1, hi.2, (h3 i e).2.2⟩
    · exact ⟨.inr e, hi.2, fun q => by have := (h4 i q).2.1; omega⟩
  · rcases e.1 with e | e
    · exact (h4 i hi).2.2 e
    · have := (h4 i hi).2.1; omega
structure Stp where
  kind : Int
  num : Int
  got : Int
  crd : Int
def stC (x : Stp) : Array Value := #[.int .i64 x.kind, .int .i64 x.num, .int .i64 x.got, .int .i64 x.crd]
/-- what a step leaves -/
def doS (s : St) (x : Stp) : St := if x.kind = 1 then sndS s x.num else if x.kind = 2 then hrdS s x.num x.got x.crd else if x.kind = 3 then clrS s else s
/-- within a step: its box beside them -/
structure DK (Pa : Nat → Prop) (W : World) (x : Stp) (t : TypeId) (b : Nat) (t' : TypeId) (r : Nat) (s s' : St) (X : World) : Prop where
  q : QA (fun i => Pa i ∨ W.heap.size < i) X t b t' r s s'
  bx : Bx X W.heap.size 31 (stC x)
  kp : Kp Pa W X
variable {x : Stp}
theorem DK.size (h : DK Pa W x t b t' r s s' X) : W.heap.size < X.heap.size := h.bx.lt
theorem DK.below (h : DK Pa W x t b t' r s s' X) (hb : Below X.heap.size X X') : DK Pa W x t b t' r s s' X' := ⟨h.q.below hb, h.bx.below hb, h.kp.trans (Kp.of_below (N := fun _ => False) hb) (fun _ e => e.elim)⟩
theorem DK.start (h : QA Pa W t b t' r s s') : DK Pa W x t b t' r s s' (W.alloc (.cells (stC x) 31)) := ⟨(h.below (ballc (Below.refl _ _) _)).mono (fun i hi _ => .inl hi), Bx.new _ _ _, Kp.of_below (ballc (Below.refl _ _) _)⟩
theorem DK.swap (h : DK Pa W x t b t' r s s' X) : DK Pa W x t' r t b s' s X := ⟨h.q.swap, h.bx, h.kp⟩
theorem DK.call (h : DK Pa W x t b t' r s s' X) (hP : ∀ i, Pa i → i < W.heap.size) {F : FuncId} {args : Array Value} {s2 : St} {v : Value} (hc : ∀ P1, PL P1 X t b s → Calls Try.prog F args X (CP P1 X t b s2 v)) :
    Calls Try.prog F args X fun e X' => e = .returned v ∧ DK Pa W x t b t' r s2 s' X' := by
  refine (h.q.call hc).mono ?_
  rintro e X' ⟨rfl, q, k⟩
  have hz := h.size
  refine ⟨rfl, q.mono (fun i hi _ => ?_), h.bx.kp k (fun e => ?_), h.kp.trans k (fun i hi => ?_)⟩
  · rcases hi with hi | hi
    · exact hi
    · exact .inr (by omega)
  · rcases e with e | e
    · have := hP _ e; omega
    · omega
  · rcases hi with hi | hi
    · exact .inl hi
    · exact .inr (by omega)
theorem DK.call2 (h : DK Pa W x t b t' r s s' X) (hP : ∀ i, Pa i → i < W.heap.size) {F : FuncId} {args : Array Value} {s2 : St} {v : Value} (hc : ∀ P1, PL P1 X t' r s' → Calls Try.prog F args X (CP P1 X t' r s2 v)) :
    Calls Try.prog F args X fun e X' => e = .returned v ∧ DK Pa W x t b t' r s s2 X' := by
  refine (h.swap.call hP hc).mono ?_
  rintro e X' ⟨rfl, h⟩
  exact ⟨rfl, h.swap⟩
theorem DK.y (h : DK Pa W x t b t' r s s' X) : X.cell? ⟨W.heap.size, 0, none⟩ = some (.int .i64 x.kind) ∧ X.cell? ⟨W.heap.size, 1, none⟩ = some (.int .i64 x.num) ∧ X.cell? ⟨W.heap.size, 2, none⟩ = some (.int .i64 x.got) ∧ X.cell? ⟨W.heap.size, 3, none⟩ = some (.int .i64 x.crd) := ⟨h.bx.cell 0 _ rfl, h.bx.cell 1 _ rfl, h.bx.cell 2 _ rfl, h.bx.cell 3 _ rfl⟩
/-- what a step answers -/
def DoA (Pa : Nat → Prop) (W : World) (t : TypeId) (b : Nat) (t' : TypeId) (r : Nat) (s : St) (e : Ending) (W' : World) : Prop := e = .returned (.bool true) ∧ QA (fun i => (Pa i ∨ W.heap.size ≤ i) ∧ i < W'.heap.size) W' t b t' r s s ∧ Kp Pa W W'
theorem DK.fin (h : DK Pa W x t b t' r s s X) : DoA Pa W t b t' r s (.returned (.bool true)) X := by
  refine ⟨rfl, h.q.mono (fun i hi hl => ⟨?_, hl⟩), h.kp⟩
  rcases hi with e | e
  · exact .inl e
  · exact .inr (by omega)
/-- all that is told -/
structure Tells (X : World) (b r : Nat) (s : St) : Prop where
  f1 : ∀ Y, Below X.heap.size X Y → Calls Try.prog 16 #[.pointer (some ⟨b, 0, none⟩)] Y (FlA Y s.fl)
  f2 : ∀ Y, Below X.heap.size X Y → Calls Try.prog 24 #[.pointer (some ⟨r, 0, none⟩)] Y (FlA Y s.fl)
  g1 : ∀ Y, Below X.heap.size X Y → Calls Try.prog 17 #[.pointer (some ⟨b, 0, none⟩)] Y fun e Z => e = .returned (.int .i64 s.gt) ∧ Y = Z
  g2 : ∀ Y, Below X.heap.size X Y → Calls Try.prog 25 #[.pointer (some ⟨r, 0, none⟩)] Y fun e Z => e = .returned (.int .i64 s.gt) ∧ Y = Z
  c1 : ∀ Y, Below X.heap.size X Y → Calls Try.prog 18 #[.pointer (some ⟨b, 0, none⟩)] Y fun e Z => e = .returned (.int .i64 s.cr) ∧ Y = Z
  c2 : ∀ Y, Below X.heap.size X Y → Calls Try.prog 26 #[.pointer (some ⟨r, 0, none⟩)] Y fun e Z => e = .returned (.int .i64 s.cr) ∧ Y = Z
  ln : s.fl.length ≤ 64
theorem DK.tells (h : DK Pa W x 39 b 41 r s s X) : Tells X b r s := by
  have hl := h.q.gd.ln
  have hw := h.q.gd.w1
  obtain ⟨P1, P2, h1, h2, _⟩ := h.q
  exact ⟨fun Y hY => Flight_in (h1.below hY), fun Y hY => rFlight_in (h2.below hY), fun Y hY => Got_in (h1.below hY), fun Y hY => rGot_in (h2.below hY), fun Y hY => Credit_in (h1.below hY), fun Y hY => rCredit_in (h2.below hY), by omega⟩
theorem own_below {W W' : World} {B : Nat} {v : Value} {l : List Int} (h : OwN W B v l) (hb : Below W.heap.size W W') : OwN W' B v l := owns_kp (N := fun _ => False) h (Kp.of_below hb) (fun _ _ e => e)
theorem doS_1 (h : x.kind = 1) (s : St) : doS s x = sndS s x.num := by unfold doS; rw [if_pos h]
theorem doS_2 (h : x.kind = 2) (s : St) : doS s x = hrdS s x.num x.got x.crd := by unfold doS; rw [if_neg (by omega), if_pos h]
theorem doS_3 (h : x.kind = 3) (s : St) : doS s x = clrS s := by unfold doS; rw [if_neg (by omega), if_neg (by omega), if_pos h]
theorem doS_0 (h1 : x.kind ≠ 1) (h2 : x.kind ≠ 2) (h3 : x.kind ≠ 3) (s : St) : doS s x = s := by unfold doS; rw [if_neg h1, if_neg h2, if_neg h3]

end Go.Proofs.Ytiekholaheddhaa
