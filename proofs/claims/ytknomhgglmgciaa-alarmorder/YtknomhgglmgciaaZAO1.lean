/-
  Two Alarms side by side.
-/
import Derived.Test.YtknomhgglmgciaaZAX1
import Derived.Test.YtknomhgglmgciaaZAS1
set_option linter.unusedSimpArgs false
set_option linter.unusedVariables false
namespace Go.Proofs.Ytknomhgglmgciaa
open Go.RowKit Go.Lib

/-- two, in blocks of Pa, apart from each other -/
def QB (Pa : Nat → Prop) (W : World) (b n b' n' : Nat) (ls ms : Int) (L M : List Tm) : Prop := ∃ P1 P2, AL P1 W b ls ms n L ∧ AL P2 W b' ls ms n' M ∧ (∀ i, P1 i → Pa i ∧ i < W.heap.size ∧ ¬ P2 i) ∧ (∀ i, P2 i → Pa i ∧ i < W.heap.size ∧ ¬ P1 i)
variable {Pa Pb : Nat → Prop} {w W W' X X' : World} {b n b' n' : Nat} {ls ms : Int} {L M : List Tm} {s : Stp}
theorem QB.kp {N : Nat → Prop} (h : QB Pa W b n b' n' ls ms L M) (k : Kp N W W') (hn : ∀ i, N i → ¬ Pa i) : QB Pa W' b n b' n' ls ms L M := by
  obtain ⟨P1, P2, h1, h2, h3, h4⟩ := h
  have hz := k.size
  exact ⟨P1, P2, h1.kp k (fun i hi e => hn i hi (h3 i e).1), h2.kp k (fun i hi e => hn i hi (h4 i e).1), fun i hi => ⟨(h3 i hi).1, by have := (h3 i hi).2.1; omega, (h3 i hi).2.2⟩, fun i hi => ⟨(h4 i hi).1, by have := (h4 i hi).2.1; omega, (h4 i hi).2.2⟩⟩
theorem QB.below (h : QB Pa W b n b' n' ls ms L M) (hb : Below W.heap.size W W') : QB Pa W' b n b' n' ls ms L M := h.kp (N := fun _ => False) (Kp.of_below hb) (fun _ h => h.elim)
theorem QB.mono (h : QB Pa W b n b' n' ls ms L M) (hp : ∀ i, Pa i → i < W.heap.size → Pb i) : QB Pb W b n b' n' ls ms L M := by
  obtain ⟨P1, P2, h1, h2, h3, h4⟩ := h
  exact ⟨P1, P2, h1, h2, fun i hi => ⟨hp i (h3 i hi).1 (h3 i hi).2.1, (h3 i hi).2⟩, fun i hi => ⟨hp i (h4 i hi).1 (h4 i hi).2.1, (h4 i hi).2⟩⟩
theorem QB.swap (h : QB Pa W b n b' n' ls ms L M) : QB Pa W b' n' b n ls ms M L := by
  obtain ⟨P1, P2, h1, h2, h3, h4⟩ := h
  exact ⟨P2, P1, h2, h1, h4, h3⟩
theorem QB.gl (h : QB Pa W b n b' n' ls ms L M) : GL ls ms L := by obtain ⟨_, _, h, _⟩ := h; exact h.gl
theorem QB.ln (h : QB Pa W b n b' n' ls ms L M) : L.length ≤ n := by obtain ⟨_, _, h, _⟩ := h; exact h.ln
theorem QB.more {m m' : Nat} (h : QB Pa W b n b' n' ls ms L M) (hn : n ≤ m) (hn' : n' ≤ m') : QB Pa W b m b' m' ls ms L M := by
  obtain ⟨P1, P2, h1, h2, h3⟩ := h
  exact ⟨P1, P2, h1.more hn, h2.more hn', h3⟩
theorem QB.call1 (h : QB Pa W b n b' n' ls ms L M) {F : FuncId} {args : Array Value} {m : Nat} {L' : List Tm} {v : Value} (hc : ∀ P1, AL P1 W b ls ms n L → (∀ i, P1 i → i < W.heap.size) → Calls Try.prog F args W (CA P1 W b ls ms m L' v)) :
    Calls Try.prog F args W fun e W' => e = .returned v ∧ QB (fun i => Pa i ∨ W.heap.size ≤ i) W' b m b' n' ls ms L' M ∧ Kp Pa W W' := by
  obtain ⟨P1, P2, h1, h2, h3, h4⟩ := h
  refine (hc P1 h1 (fun i hi => (h3 i hi).2.1)).mono ?_
  rintro e W' ⟨rfl, ha, k⟩
  have hz := k.size
  refine ⟨rfl, ⟨_, P2, ha.lt, h2.kp k (fun i hi e => (h3 i hi).2.2 e), fun i hi => ?_, fun i hi => ⟨.inl (h4 i hi).1, by have := (h4 i hi).2.1; omega, fun e => ?_⟩⟩, k.wk (fun i hi => (h3 i hi).1)⟩
  · rcases hi.1 with e | e
    · exact ⟨.inl (h3 i e).1, hi.2, (h3 i e).2.2⟩
    · exact ⟨.inr e, hi.2, fun q => by have := (h4 i q).2.1; omega⟩
  · rcases e.1 with e | e
    · exact (h4 i hi).2.2 e
    · have := (h4 i hi).2.1; omega
theorem QB.due1 (h : QB Pa W b n b' n' ls ms L M) (hn : n ≤ 999998) (now : Int) :
    Calls Try.prog 19 #[.pointer (some ⟨b, 0, none⟩), .int .i64 now] W fun e W' => ∃ a c, e = .returned (.slice a (duA ms now L).1.length c) ∧ OwN W' W.heap.size (.slice a (duA ms now L).1.length c) (duA ms now L).1 ∧ QB Pa W' b n b' n' ls ms (duA ms now L).2 M ∧ Kp Pa W W' ∧ QB (fun i => Pa i ∧ i < W.heap.size) W' b n b' n' ls ms (duA ms now L).2 M := by
  obtain ⟨P1, P2, h1, h2, h3, h4⟩ := h
  refine (Due_in h1 (fun i hi => (h3 i hi).2.1) hn now).mono ?_
  rintro e W' ⟨v, rfl, ho, ha, k⟩
  have hz := k.size
  obtain ⟨a, c, rfl⟩ := ho.form
  have h2' := h2.kp k (fun i hi e => (h3 i hi).2.2 e)
  exact ⟨a, c, rfl, ho, ⟨P1, P2, ha, h2', fun i hi => ⟨(h3 i hi).1, by have := (h3 i hi).2.1; omega, (h3 i hi).2.2⟩, fun i hi => ⟨(h4 i hi).1, by have := (h4 i hi).2.1; omega, (h4 i hi).2.2⟩⟩, k.wk (fun i hi => (h3 i hi).1), ⟨P1, P2, ha, h2', fun i hi => ⟨⟨(h3 i hi).1, (h3 i hi).2.1⟩, by have := (h3 i hi).2.1; omega, (h3 i hi).2.2⟩, fun i hi => ⟨⟨(h4 i hi).1, (h4 i hi).2.1⟩, by have := (h4 i hi).2.1; omega, (h4 i hi).2.2⟩⟩⟩
theorem QB.next (h : QB Pa W b n b' n' ls ms L M) : Calls Try.prog 16 #[.pointer (some ⟨b, 0, none⟩)] W fun e W' => e = .returned (nxtA L) ∧ Below W.heap.size W W' := by
  obtain ⟨P1, P2, h1, _⟩ := h
  exact Next_in h1
theorem QB.len (h : QB Pa W b n b' n' ls ms L M) : Calls Try.prog 20 #[.pointer (some ⟨b, 0, none⟩)] W fun e W' => e = .returned (.int .i64 (L.length : Nat)) ∧ W = W' := by
  obtain ⟨P1, P2, h1, _⟩ := h
  exact Len_in h1

/-- within a step: the step's box beside them -/
structure EK (Pa : Nat → Prop) (W : World) (s : Stp) (b n b' n' : Nat) (ls ms : Int) (L M : List Tm) (X : World) : Prop where
  q : QB (fun i => Pa i ∨ W.heap.size < i) X b n b' n' ls ms L M
  bx : Bx X W.heap.size 35 (stC s)
  kp : Kp Pa W X
theorem EK.size (h : EK Pa W s b n b' n' ls ms L M X) : W.heap.size < X.heap.size := h.bx.lt
theorem EK.below (h : EK Pa W s b n b' n' ls ms L M X) (hb : Below X.heap.size X X') : EK Pa W s b n b' n' ls ms L M X' := ⟨h.q.below hb, h.bx.below hb, h.kp.trans (Kp.of_below (N := fun _ => False) hb) (fun _ e => e.elim)⟩
theorem EK.swap (h : EK Pa W s b n b' n' ls ms L M X) : EK Pa W s b' n' b n ls ms M L X := ⟨h.q.swap, h.bx, h.kp⟩
theorem EK.start (h : QB Pa W b n b' n' ls ms L M) : EK Pa W s b n b' n' ls ms L M (W.alloc (.cells (stC s) 35)) := ⟨(h.below (ballc (Below.refl _ _) _)).mono (fun i hi _ => .inl hi), Bx.new _ _ _, Kp.of_below (ballc (Below.refl _ _) _)⟩
theorem EK.next (h : EK Pa W s b n b' n' ls ms L M X) (hP : ∀ i, Pa i → i < W.heap.size) {m m' : Nat} {L' M' : List Tm} (q : QB (fun i => (Pa i ∨ W.heap.size < i) ∨ X.heap.size ≤ i) X' b m b' m' ls ms L' M') (k : Kp (fun i => Pa i ∨ W.heap.size < i) X X') : EK Pa W s b m b' m' ls ms L' M' X' := by
  have hz := h.size
  refine ⟨q.mono (fun i hi _ => ?_), h.bx.kp k (fun e => ?_), h.kp.trans k (fun i hi => ?_)⟩
  · rcases hi with hi | hi
    · exact hi
    · exact .inr (by omega)
  · rcases e with e | e
    · have := hP _ e; omega
    · omega
  · rcases hi with hi | hi
    · exact .inl hi
    · exact .inr (by omega)
theorem EK.set1 (h : EK Pa W s b n b' n' ls ms L M X) (hP : ∀ i, Pa i → i < W.heap.size) (hn : n ≤ 999998) (hk : in64 s.key) : Calls Try.prog 17 #[.pointer (some ⟨b, 0, none⟩), .int .i64 s.key, .int .i64 s.now] X fun e X' => e = .returned (.int .i64 (setE ls L s.key s.now)) ∧ EK Pa W s b (n + 1) b' n' ls ms (setS ls L s.key s.now) M X' := by
  refine (h.q.call1 (fun P1 h1 h2 => Set_in h1 h2 hn s.key hk s.now)).mono ?_
  rintro e X' ⟨rfl, q, k⟩
  exact ⟨rfl, h.next hP q k⟩
theorem EK.rst1 (h : EK Pa W s b n b' n' ls ms L M X) (hP : ∀ i, Pa i → i < W.heap.size) (hn : n ≤ 999998) (hk : in64 s.key) : Calls Try.prog 18 #[.pointer (some ⟨b, 0, none⟩), .int .i64 s.key, .int .i64 s.now] X fun e X' => e = .returned (.int .i64 (rstE ls s.now)) ∧ EK Pa W s b (n + 1) b' n' ls ms (rstS ls L s.key s.now) M X' := by
  refine (h.q.call1 (fun P1 h1 h2 => Reset_in h1 h2 hn s.key hk s.now)).mono ?_
  rintro e X' ⟨rfl, q, k⟩
  exact ⟨rfl, h.next hP q k⟩
theorem EK.off1 (h : EK Pa W s b n b' n' ls ms L M X) (hP : ∀ i, Pa i → i < W.heap.size) (hn : n ≤ 999998) (hk : in64 s.key) : Calls Try.prog 14 #[.pointer (some ⟨b, 0, none⟩), .int .i64 s.key] X fun e X' => e = .returned (.tuple #[]) ∧ EK Pa W s b n b' n' ls ms (offL L s.key) M X' := by
  refine (h.q.call1 (fun P1 h1 h2 => Off_in h1 (by omega) s.key hk)).mono ?_
  rintro e X' ⟨rfl, q, k⟩
  exact ⟨rfl, h.next hP q k⟩
theorem EK.due1 (h : EK Pa W s b n b' n' ls ms L M X) (hP : ∀ i, Pa i → i < W.heap.size) (hn : n ≤ 999998) : Calls Try.prog 19 #[.pointer (some ⟨b, 0, none⟩), .int .i64 s.now] X fun e X' => ∃ a c, e = .returned (.slice a (duA ms s.now L).1.length c) ∧ OwN X' X.heap.size (.slice a (duA ms s.now L).1.length c) (duA ms s.now L).1 ∧ QB (fun i => (Pa i ∨ W.heap.size < i) ∧ i < X.heap.size) X' b n b' n' ls ms (duA ms s.now L).2 M ∧ EK Pa W s b n b' n' ls ms (duA ms s.now L).2 M X' := by
  refine (h.q.due1 hn s.now).mono ?_
  rintro e X' ⟨a, c, rfl, ho, q, k, q2⟩
  exact ⟨a, c, rfl, ho, q2, h.next hP (q.mono (fun i hi _ => .inl hi)) k⟩
theorem EK.due2 {Y : World} {v : Value} {ks : List Int} (h : EK Pa W s b n b' n' ls ms L M X) (ho : OwN X Y.heap.size v ks) (hq : QB (fun i => (Pa i ∨ W.heap.size < i) ∧ i < Y.heap.size) X b n b' n' ls ms L M) (hP : ∀ i, Pa i → i < W.heap.size) (hn : n' ≤ 999998) : Calls Try.prog 19 #[.pointer (some ⟨b', 0, none⟩), .int .i64 s.now] X fun e X' => ∃ a c, e = .returned (.slice a (duA ms s.now M).1.length c) ∧ RN X' v ks ∧ RN X' (.slice a (duA ms s.now M).1.length c) (duA ms s.now M).1 ∧ EK Pa W s b n b' n' ls ms L (duA ms s.now M).2 X' := by
  refine (hq.swap.due1 hn s.now).mono ?_
  rintro e X' ⟨a, c, rfl, hu, q, k, _⟩
  exact ⟨a, c, rfl, (own_kp ho k (fun i hi e => by have := e.2; omega)).row, hu.row, h.next hP (q.swap.mono (fun i hi _ => .inl hi.1)) (k.wk (fun i hi => hi.1))⟩
theorem EK.ints (h : EK Pa W s b n b' n' ls ms L M X) {u v : Value} {ks : List Int} (hu : RN X u ks) (hv : RN X v ks) (hl : ks.length ≤ 1000000) : Calls Try.prog 21 #[u, v] X fun e X' => e = .returned (.bool true) ∧ EK Pa W s b n b' n' ls ms L M X' := by
  refine (ints_in u v ks ks X hu hv hl hl).mono ?_
  rintro e X' ⟨rfl, hb⟩
  exact ⟨by rw [decide_eq_true rfl], h.below hb⟩
theorem EK.y (h : EK Pa W s b n b' n' ls ms L M X) : X.cell? ⟨W.heap.size, 0, none⟩ = some (.int .i64 s.kind) ∧ X.cell? ⟨W.heap.size, 1, none⟩ = some (.int .i64 s.key) ∧ X.cell? ⟨W.heap.size, 2, none⟩ = some (.int .i64 s.now) := ⟨h.bx.cell 0 _ rfl, h.bx.cell 1 _ rfl, h.bx.cell 2 _ rfl⟩
/-- two in new memory -/
def OJ (w W : World) (b b' n : Nat) (ls ms : Int) (L : List Tm) : Prop := QB (fun i => w.heap.size ≤ i ∧ i < W.heap.size) W b n b' n ls ms L L ∧ Below w.heap.size w W
theorem OJ.start (h : OJ w W b b' n ls ms L) : EK (fun i => w.heap.size ≤ i ∧ i < W.heap.size) W s b n b' n ls ms L L (W.alloc (.cells (stC s) 35)) := EK.start h.1
theorem EK.fin (h : EK (fun i => w.heap.size ≤ i ∧ i < W.heap.size) W s b n b' n' ls ms L L X) (hb : Below w.heap.size w W) {m : Nat} (hn : n ≤ m) (hn' : n' ≤ m) : OJ w X b b' m ls ms L := by
  have hz := hb.size
  refine ⟨(h.q.mono (fun i hi hl => ?_)).more hn hn', h.kp.below hb (fun i hi => hi.1)⟩
  rcases hi with hi | hi
  · exact ⟨hi.1, hl⟩
  · exact ⟨by omega, hl⟩
theorem OJ.new {w W1 W2 : World} (b1 : Below w.heap.size w W1) (b2 : Below W1.heap.size W1 W2) (f1 : AL (fun i => w.heap.size ≤ i) W1 b ls ms 0 []) (f2 : AL (fun i => W1.heap.size ≤ i) W2 b' ls ms 0 []) : OJ w W2 b b' 0 ls ms [] := by
  have z1 := b1.size
  have z2 := b2.size
  refine ⟨⟨_, _, f1.lt.below b2, f2.lt, fun i hi => ⟨⟨?_, ?_⟩, ?_, fun e => ?_⟩, fun i hi => ⟨⟨?_, ?_⟩, ?_, fun e => ?_⟩⟩, bnext b1 b2⟩ <;> omega

/-- two, and the row of keys that were told -/
structure OT (w W : World) (b n b' n' : Nat) (ls ms : Int) (L B : List Tm) (v : Value) (ks : List Int) : Prop where
  q : QB (fun i => w.heap.size ≤ i ∧ v.ownBlock ≠ some i) W b n b' n' ls ms L B
  own : OwN W w.heap.size v ks
  bel : Below w.heap.size w W
theorem OT.start (h : OJ w W b b' n ls ms L) : OT w W b n b' n ls ms L L (.slice none 0 0) [] := ⟨h.1.mono (fun i hi _ => ⟨hi.1, fun e => by cases e⟩), World.ownsRow_nil _ _ _ _, h.2⟩
theorem OT.below {B : List Tm} {v : Value} {ks : List Int} (h : OT w W b n b' n' ls ms L B v ks) (hb : Below W.heap.size W W') : OT w W' b n b' n' ls ms L B v ks := ⟨h.q.below hb, own_kp (N := fun _ => False) h.own (Kp.of_below hb) (fun _ _ e => e), bnext h.bel hb⟩
theorem OT.off {B : List Tm} {v : Value} {ks : List Int} (h : OT w W b n b' n' ls ms L B v ks) (hn : n' ≤ 999998) (k : Int) (hk : in64 k) : Calls Try.prog 14 #[.pointer (some ⟨b', 0, none⟩), .int .i64 k] W fun e W' => e = .returned (.tuple #[]) ∧ OT w W' b n b' n' ls ms L (offL B k) v ks := by
  refine (h.q.swap.call1 (fun P1 h1 h2 => Off_in h1 (by omega) k hk)).mono ?_
  rintro e W' ⟨rfl, q, kk⟩
  have hz := h.bel.size
  refine ⟨rfl, q.swap.mono (fun i hi _ => ?_), owns_kp h.own kk (fun i hi e => e.2 hi), kk.below h.bel (fun i hi => hi.1)⟩
  rcases hi with hi | hi
  · exact hi
  · exact ⟨by omega, fun e => by have := (World.ownsRow.lt h.own i e).2; omega⟩
theorem OT.app {B : List Tm} {v : Value} {ks : List Int} (h : OT w W b n b' n' ls ms L B v ks) (hl : ks.length ≤ 1000000) (k : Int) (ty : TypeId) : ∃ v' W', (Builtin.append_ #[52, 52] ty #[v, .slice (some ⟨W.heap.size, 0, none⟩) 1 1]).run Try.prog (W.alloc (.cells #[.int .i64 k] 3)) = .ok v' W' ∧ OT w W' b n b' n' ls ms L B v' (ks ++ [k]) := by
  have hz := h.bel.size
  obtain ⟨v', W', hr, ho, hg, hv⟩ := append_n W ty w.heap.size v ks k h.own hz hl
  have kk : Kp (fun i => v.ownBlock = some i) W W' := (Kp.of_below (N := fun i => v.ownBlock = some i) (ballc (Below.refl _ W) (.cells #[.int .i64 k] 3))).trans (Kp.of_grown (N := fun i => v.ownBlock = some i) hg (fun i hi => hi)) (fun i hi => .inl hi)
  obtain ⟨P1, P2, h1, h2, h3, h4⟩ := h.q
  have hkz := kk.size
  have new : ∀ i, i < W.heap.size → v.ownBlock ≠ some i → v'.ownBlock ≠ some i := fun i hi hne e => by
    rcases hv with e2 | e2
    · exact hne (by rw [← e2]; exact e)
    · rw [e] at e2; simp at e2; omega
  refine ⟨v', W', hr, ⟨⟨P1, P2, h1.kp kk (fun i hi e => (h3 i e).1.2 hi), h2.kp kk (fun i hi e => (h4 i e).1.2 hi), fun i hi => ⟨⟨(h3 i hi).1.1, new i (h3 i hi).2.1 (h3 i hi).1.2⟩, by have := (h3 i hi).2.1; omega, (h3 i hi).2.2⟩, fun i hi => ⟨⟨(h4 i hi).1.1, new i (h4 i hi).2.1 (h4 i hi).1.2⟩, by have := (h4 i hi).2.1; omega, (h4 i hi).2.2⟩⟩, ho, kk.below h.bel (fun i hi => (World.ownsRow.lt h.own i hi).1)⟩⟩
theorem OT.due {B : List Tm} {v : Value} {ks : List Int} (h : OT w W b n b' n' ls ms L B v ks) (hn : n ≤ 999998) (now : Int) : Calls Try.prog 19 #[.pointer (some ⟨b, 0, none⟩), .int .i64 now] W fun e W' => ∃ a c, e = .returned (.slice a (duA ms now L).1.length c) ∧ RN W' (.slice a (duA ms now L).1.length c) (duA ms now L).1 ∧ OT w W' b n b' n' ls ms (duA ms now L).2 B v ks := by
  refine (h.q.due1 hn now).mono ?_
  rintro e W' ⟨a, c, rfl, ho, q, k, _⟩
  exact ⟨a, c, rfl, ho.row, q, owns_kp h.own k (fun i hi e => e.2 hi), k.below h.bel (fun i hi => hi.1)⟩

end Go.Proofs.Ytknomhgglmgciaa
