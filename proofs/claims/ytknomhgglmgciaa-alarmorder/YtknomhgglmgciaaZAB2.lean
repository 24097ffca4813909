/-
  The law's step.
-/
import Derived.Test.YtknomhgglmgciaaZAB1
set_option linter.unusedSimpArgs false
set_option linter.unusedVariables false
namespace Go.Proofs.Ytknomhgglmgciaa
open Go.RowKit Go.Lib

structure Stp where
  kind : Int
  key : Int
  now : Int
def stC (s : Stp) : Array Value := #[.int .i64 s.kind, .int .i64 s.key, .int .i64 s.now]
/-- what a step leaves -/
def doL (ls ms : Int) (L : List Tm) (s : Stp) : List Tm := if s.kind = 1 then setS ls L s.key s.now else if s.kind = 2 then rstS ls L s.key s.now else if s.kind = 3 then offL L s.key else if s.kind = 4 then (duA ms s.now L).2 else L
/-- within a step -/
structure DK (Pa : Nat → Prop) (W : World) (s : Stp) (b n r : Nat) (ls ms : Int) (L M : List Tm) (X : World) : Prop where
  q : QA (fun i => Pa i ∨ W.heap.size < i) X b n r ls ms L M
  bx : Bx X W.heap.size 35 (stC s)
  kp : Kp Pa W X
variable {Pa : Nat → Prop} {W X X' : World} {b n r : Nat} {ls ms : Int} {L M : List Tm} {s : Stp}
theorem DK.size (h : DK Pa W s b n r ls ms L M X) : W.heap.size < X.heap.size := h.bx.lt
theorem DK.below (h : DK Pa W s b n r ls ms L M X) (hb : Below X.heap.size X X') : DK Pa W s b n r ls ms L M X' := ⟨h.q.below hb, h.bx.below hb, h.kp.trans (Kp.of_below (N := fun _ => False) hb) (fun _ e => e.elim)⟩
theorem DK.start (h : QA Pa W b n r ls ms L M) : DK Pa W s b n r ls ms L M (W.alloc (.cells (stC s) 35)) := ⟨(h.below (ballc (Below.refl _ _) _)).mono (fun i hi => .inl hi), Bx.new _ _ _, Kp.of_below (ballc (Below.refl _ _) _)⟩
theorem DK.next (h : DK Pa W s b n r ls ms L M X) (hP : ∀ i, Pa i → i < W.heap.size) {n' : Nat} {L' M' : List Tm} (q : QA (fun i => (Pa i ∨ W.heap.size < i) ∨ X.heap.size ≤ i) X' b n' r ls ms L' M') (k : Kp (fun i => Pa i ∨ W.heap.size < i) X X') : DK Pa W s b n' r ls ms L' M' X' := by
  have hz := h.size
  refine ⟨q.mono (fun i hi => ?_), h.bx.kp k (fun e => ?_), h.kp.trans k (fun i hi => ?_)⟩
  · rcases hi with hi | hi
    · exact hi
    · exact .inr (by omega)
  · rcases e with e | e
    · have := hP _ e; omega
    · omega
  · rcases hi with hi | hi
    · exact .inl hi
    · exact .inr (by omega)
theorem DK.set1 (h : DK Pa W s b n r ls ms L M X) (hP : ∀ i, Pa i → i < W.heap.size) (hn : n ≤ 999998) (hk : in64 s.key) : Calls Try.prog 17 #[.pointer (some ⟨b, 0, none⟩), .int .i64 s.key, .int .i64 s.now] X fun e X' => e = .returned (.int .i64 (setE ls L s.key s.now)) ∧ DK Pa W s b (n + 1) r ls ms (setS ls L s.key s.now) M X' := by
  refine (h.q.call1 (fun P1 h1 h2 => Set_in h1 h2 hn s.key hk s.now)).mono ?_
  rintro e X' ⟨rfl, q, k⟩
  exact ⟨rfl, h.next hP q k⟩
theorem DK.set2 (h : DK Pa W s b n r ls ms L M X) (hP : ∀ i, Pa i → i < W.heap.size) (gl : GL ls ms M) (hl : M.length ≤ 999999) : Calls Try.prog 25 #[.pointer (some ⟨r, 0, none⟩), .int .i64 s.key, .int .i64 s.now] X fun e X' => e = .returned (.int .i64 (setE ls M s.key s.now)) ∧ DK Pa W s b n r ls ms L (setS ls M s.key s.now) X' := by
  refine (h.q.call2 (fun P1 h1 h2 => rSet_in h1 gl hl s.key s.now)).mono ?_
  rintro e X' ⟨rfl, q, k⟩
  exact ⟨rfl, h.next hP q k⟩
theorem DK.rst1 (h : DK Pa W s b n r ls ms L M X) (hP : ∀ i, Pa i → i < W.heap.size) (hn : n ≤ 999998) (hk : in64 s.key) : Calls Try.prog 18 #[.pointer (some ⟨b, 0, none⟩), .int .i64 s.key, .int .i64 s.now] X fun e X' => e = .returned (.int .i64 (rstE ls s.now)) ∧ DK Pa W s b (n + 1) r ls ms (rstS ls L s.key s.now) M X' := by
  refine (h.q.call1 (fun P1 h1 h2 => Reset_in h1 h2 hn s.key hk s.now)).mono ?_
  rintro e X' ⟨rfl, q, k⟩
  exact ⟨rfl, h.next hP q k⟩
theorem DK.rst2 (h : DK Pa W s b n r ls ms L M X) (hP : ∀ i, Pa i → i < W.heap.size) (gl : GL ls ms M) (hl : M.length ≤ 999999) : Calls Try.prog 26 #[.pointer (some ⟨r, 0, none⟩), .int .i64 s.key, .int .i64 s.now] X fun e X' => e = .returned (.int .i64 (rstE ls s.now)) ∧ DK Pa W s b n r ls ms L (rstS ls M s.key s.now) X' := by
  refine (h.q.call2 (fun P1 h1 h2 => rReset_in h1 h2 gl hl s.key s.now)).mono ?_
  rintro e X' ⟨rfl, q, k⟩
  exact ⟨rfl, h.next hP q k⟩
theorem DK.off1 (h : DK Pa W s b n r ls ms L M X) (hP : ∀ i, Pa i → i < W.heap.size) (hn : n ≤ 999998) (hk : in64 s.key) : Calls Try.prog 14 #[.pointer (some ⟨b, 0, none⟩), .int .i64 s.key] X fun e X' => e = .returned (.tuple #[]) ∧ DK Pa W s b n r ls ms (offL L s.key) M X' := by
  refine (h.q.call1 (fun P1 h1 h2 => Off_in h1 (by omega) s.key hk)).mono ?_
  rintro e X' ⟨rfl, q, k⟩
  exact ⟨rfl, h.next hP q k⟩
theorem DK.off2 (h : DK Pa W s b n r ls ms L M X) (hP : ∀ i, Pa i → i < W.heap.size) (hl : M.length ≤ 999999) : Calls Try.prog 27 #[.pointer (some ⟨r, 0, none⟩), .int .i64 s.key] X fun e X' => e = .returned (.tuple #[]) ∧ DK Pa W s b n r ls ms L (offL M s.key) X' := by
  refine (h.q.call2 (fun P1 h1 h2 => rOff_in h1 (by omega) s.key)).mono ?_
  rintro e X' ⟨rfl, q, k⟩
  exact ⟨rfl, h.next hP q k⟩
theorem DK.due1 (h : DK Pa W s b n r ls ms L M X) (hP : ∀ i, Pa i → i < W.heap.size) (hn : n ≤ 999998) : Calls Try.prog 19 #[.pointer (some ⟨b, 0, none⟩), .int .i64 s.now] X fun e X' => ∃ a c, e = .returned (.slice a (duA ms s.now L).1.length c) ∧ OwN X' X.heap.size (.slice a (duA ms s.now L).1.length c) (duA ms s.now L).1 ∧ QA (fun i => (Pa i ∨ W.heap.size < i) ∧ i < X.heap.size) X' b n r ls ms (duA ms s.now L).2 M ∧ DK Pa W s b n r ls ms (duA ms s.now L).2 M X' := by
  have hq : QA (fun i => (Pa i ∨ W.heap.size < i) ∧ i < X.heap.size) X b n r ls ms L M := by
    obtain ⟨P1, P2, h1, h2, h3, h4⟩ := h.q
    exact ⟨P1, P2, h1, h2, fun i hi => ⟨⟨(h3 i hi).1, (h3 i hi).2.1⟩, (h3 i hi).2⟩, fun i hi => ⟨⟨(h4 i hi).1, (h4 i hi).2.1⟩, (h4 i hi).2⟩⟩
  refine (hq.due1 hn s.now).mono ?_
  rintro e X' ⟨v, rfl, ho, q, k⟩
  obtain ⟨a, c, rfl⟩ := ho.form
  exact ⟨a, c, rfl, ho, q, h.next hP (q.mono (fun i hi => .inl hi.1)) (k.wk (fun i hi => hi.1))⟩
theorem DK.due2 {Y : World} {v : Value} {ks : List Int} (h : DK Pa W s b n r ls ms L M X) (ho : OwN X Y.heap.size v ks) (hq : QA (fun i => (Pa i ∨ W.heap.size < i) ∧ i < Y.heap.size) X b n r ls ms L M) (hP : ∀ i, Pa i → i < W.heap.size) (gl : GL ls ms M) (hl : M.length ≤ 999999) : Calls Try.prog 28 #[.pointer (some ⟨r, 0, none⟩), .int .i64 s.now] X fun e X' => ∃ a c, e = .returned (.slice a (duA ms s.now M).1.length c) ∧ RN X' v ks ∧ RN X' (.slice a (duA ms s.now M).1.length c) (duA ms s.now M).1 ∧ DK Pa W s b n r ls ms L (duA ms s.now M).2 X' := by
  refine (hq.due2 gl hl s.now).mono ?_
  rintro e X' ⟨u, rfl, hu, q, k⟩
  obtain ⟨a, c, rfl⟩ := hu.form
  exact ⟨a, c, rfl, (own_kp ho k (fun i hi e => by have := e.2; omega)).row, hu.row, h.next hP (q.mono (fun i hi => .inl hi.1)) (k.wk (fun i hi => hi.1))⟩
theorem DK.alike (h : DK Pa W s b n r ls ms M M X) (hn : n ≤ 1000000) (hk : in64 s.key) : Calls Try.prog 11 #[.pointer (some ⟨b, 0, none⟩), .pointer (some ⟨r, 0, none⟩), .int .i64 s.key] X fun e X' => e = .returned (.bool true) ∧ DK Pa W s b n r ls ms M M X' := by
  refine (alike_in h.q hn s.key hk).mono ?_
  rintro e X' ⟨rfl, hb⟩
  exact ⟨rfl, h.below hb⟩
theorem DK.ints (h : DK Pa W s b n r ls ms L M X) {u v : Value} {ks : List Int} (hu : RN X u ks) (hv : RN X v ks) (hl : ks.length ≤ 1000000) : Calls Try.prog 21 #[u, v] X fun e X' => e = .returned (.bool true) ∧ DK Pa W s b n r ls ms L M X' := by
  refine (ints_in u v ks ks X hu hv hl hl).mono ?_
  rintro e X' ⟨rfl, hb⟩
  exact ⟨by rw [decide_eq_true rfl], h.below hb⟩
/-- what a step answers -/
def DoA (Pa : Nat → Prop) (W : World) (b n r : Nat) (ls ms : Int) (L : List Tm) (e : Ending) (W' : World) : Prop := e = .returned (.bool true) ∧ QA (fun i => (Pa i ∨ W.heap.size ≤ i) ∧ i < W'.heap.size) W' b n r ls ms L L ∧ Kp Pa W W'
theorem DK.fin (h : DK Pa W s b n r ls ms L L X) {n' : Nat} (hn : n ≤ n') : DoA Pa W b n' r ls ms L (.returned (.bool true)) X := by
  refine ⟨rfl, ?_, h.kp⟩
  obtain ⟨P1, P2, h1, h2, h3, h4⟩ := h.q
  refine ⟨P1, P2, h1.more hn, h2, fun i hi => ⟨⟨?_, (h3 i hi).2.1⟩, (h3 i hi).2⟩, fun i hi => ⟨⟨?_, (h4 i hi).2.1⟩, (h4 i hi).2⟩⟩
  · rcases (h3 i hi).1 with e | e
    · exact .inl e
    · exact .inr (by omega)
  · rcases (h4 i hi).1 with e | e
    · exact .inl e
    · exact .inr (by omega)
theorem DK.y (h : DK Pa W s b n r ls ms L M X) : X.cell? ⟨W.heap.size, 0, none⟩ = some (.int .i64 s.kind) ∧ X.cell? ⟨W.heap.size, 1, none⟩ = some (.int .i64 s.key) ∧ X.cell? ⟨W.heap.size, 2, none⟩ = some (.int .i64 s.now) := ⟨h.bx.cell 0 _ rfl, h.bx.cell 1 _ rfl, h.bx.cell 2 _ rfl⟩

theorem dueL_len {ls ms now : Int} (hw : 0 ≤ now ∧ now ≤ 2147483647) : ∀ (f : Nat) (L : List Tm), GL ls ms L → (dueL ms now f L).1.length ≤ f ∧ (dueL ms now f L).2.length = L.length ∧ GL ls ms (dueL ms now f L).2
  | 0, L, g => ⟨Nat.le_refl _, rfl, g⟩
  | f + 1, L, g => by
    rw [dueL]
    split
    · exact ⟨by simp, rfl, g⟩
    · rename_i x e
      split
      · obtain ⟨h1, h2, h3⟩ := dueL_len hw f _ (g.again (minL_some e).1 hw)
        simp only
        rw [updL_len] at h2
        exact ⟨by simp only [List.length_cons]; omega, h2, h3⟩
      · exact ⟨by simp, rfl, g⟩
theorem du_len {ls ms now : Int} {L : List Tm} {N : Nat} (g : GL ls ms L) (hl : L.length ≤ N) : (duA ms now L).1.length ≤ N := by
  unfold duA
  split
  · rename_i h
    have hw : 0 ≤ now ∧ now ≤ 2147483647 := by unfold tickB at h; simpa using h
    have := (dueL_len hw L.length L g).1
    omega
  · simp

end Go.Proofs.Ytknomhgglmgciaa
