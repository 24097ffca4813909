/-
  Settle.
-/
import Derived.Test.YtjiphechhfifgaaZXF1
set_option linter.unusedSimpArgs false
set_option linter.unusedVariables false
namespace Go.Proofs.Ytjiphechhfifgaa
open Go.RowKit Go.Lib

/-- what is settled -/
def setS (S : StF) (l : List (Int × Int)) : StF := fun k => match S k with | none => none | some (h, u) => if chk l = 0 ∧ cov (sy l) h = true then some (h, h) else some (h, u)
theorem setS_none {S : StF} {l : List (Int × Int)} (h : ∀ k, S k = none) : setS S l = S := by
  funext k; unfold setS; rw [h k]
theorem setS_bad {S : StF} {l : List (Int × Int)} (h : chk l ≠ 0) : setS S l = S := by
  funext k; unfold setS
  cases S k with
  | none => rfl
  | some p => simp [h]
/-- settled but for those that are left -/
def mixS (S : StF) (l : List (Int × Int)) (left : Int → Bool) : StF := fun k => if left k = true then S k else match S k with | none => none | some (h, u) => if cov (sy l) h = true then some (h, h) else some (h, u)
theorem mixS_start (S : StF) (l : List (Int × Int)) : mixS S l (fun k => (S k).isSome) = S := by
  funext k; unfold mixS
  cases h : S k <;> simp [h]
theorem mixS_end {S : StF} {l : List (Int × Int)} {left : Int → Bool} (h0 : chk l = 0) (hs : ∀ k, (S k).isSome = true → in64 k) (h : ∀ k, in64 k → left k = false) : mixS S l left = setS S l := by
  funext k; unfold mixS setS
  cases e : S k with
  | none => simp
  | some p =>
    have := h k (hs k (by rw [e]; rfl))
    simp [this, h0]

theorem mixS_skip {S : StF} {l : List (Int × Int)} {left : Int → Bool} {k : Int} {h u : Nat → Int} (hS : S k = some (h, u)) (hc : cov (sy l) h = false) : mixS S l (fun j => left j && !decide (j = k)) = mixS S l left := by
  funext j
  unfold mixS
  by_cases e : j = k
  · subst e; simp [hS, hc]
  · simp [e]
theorem mixS_put {S : StF} {l : List (Int × Int)} {left : Int → Bool} {k : Int} {h u : Nat → Int} (hS : S k = some (h, u)) (hc : cov (sy l) h = true) : mixS S l (fun j => left j && !decide (j = k)) = putS (mixS S l left) k (h, h) := by
  funext j
  unfold mixS putS
  by_cases e : j = k
  · subst e; simp [hS, hc]
  · simp [e]

/-- Settle's loop: the map of what it was, but for those that came -/
structure SI (P : Nat → Prop) (w wr : World) (b r m it n : Nat) (S : StF) (l : List (Int × Int)) (left : Int → Bool) (cnt : Nat) (g : Int → Option (SV × SV)) : Prop where
  rg : RG wr m it n g left cnt
  fa : FA P wr r m n g (mixS S l left)
  box : Bx wr b 38 #[.pointer (some ⟨r, 0, none⟩)]
  kp : Kp (fun i => i = m) w wr
  itl : w.heap.size ≤ it
  sub : ∀ k, left k = true → in64 k → (S k).isSome = true


theorem rb_ne_map {W : World} {v : Value} {n : Nat} {l : List (Int × Int)} {m z : Nat} {g : Int → Option (SV × SV)} (h : RI W v l) (hm : MP W m z g) : ∀ i, rb v l.length i → i ≠ m := by
  intro i hi e
  subst e
  obtain ⟨h0, h1⟩ := hi
  obtain ⟨es, cl, hb⟩ := hm.obj
  rcases h with ⟨h2, _⟩ | ⟨b, off, cap, rfl, _, _, hc⟩
  · exact h0 h2
  · cases h1
    have hl : 0 < (flat encI l).length := by rw [flat_len encI_len]; omega
    have := hc 0 _ (List.getElem?_eq_getElem hl)
    unfold World.cell? at this
    rw [hb] at this
    cases this

theorem rb_lt {W : World} {v : Value} {l : List (Int × Int)} (h : RI W v l) {i : Nat} (hi : rb v l.length i) : i < W.heap.size := by
  obtain ⟨h0, h1⟩ := hi
  rcases h with ⟨h2, _⟩ | ⟨b, off, cap, rfl, _, hb, _⟩
  · exact absurd h2 h0
  · cases h1; exact hb

def SetA (P : Nat → Prop) (w : World) (b n : Nat) (S : StF) (l : List (Int × Int)) (e : Ending) (W : World) : Prop := e = .returned (.tuple #[]) ∧ FR P W b n (setS S l) ∧ Kp P w W
set_option maxRecDepth 100000 in
set_option maxHeartbeats 4000000 in
theorem Settle_in {P : Nat → Prop} {w : World} {b n : Nat} {S : StF} (h : FR P w b n S) (hP : ∀ i, P i → i < w.heap.size) (v : Value) (l : List (Int × Int)) (hv : RI w v l) (hl : l.length ≤ 1000000) :
    Calls Try.prog 15 #[.pointer (some ⟨b, 0, none⟩), v] w (SetA P w b n S l) := by
  obtain ⟨a, c, rfl⟩ := hv.form
  have HH := hide h
  have HC := hide (Check_in _ l w hv (by omega))
  obtain ⟨hpb, pv, hbx, hq⟩ := h
  have c0 := hbx.cell 0 _ rfl
  rcases hq with ⟨rfl, hS⟩ | ⟨r, m, g, rfl, hA⟩
  · have R : Hid (SetA P w b n S l (.returned (.tuple #[])) w) := ⟨rfl, by rw [setS_none hS]; exact unhide HH, Kp.refl _ _⟩
    clear hS hv hbx HC
    go_enter Try.func15, Try.ntmps15
    go_wp2
    refine bodyPost_ret (results_none rfl _ _ _) rfl ?_
    exact unhide R
  obtain ⟨ck, hck⟩ : ∃ ck, chk l = ck := ⟨_, rfl⟩
  rw [hck] at HC
  have Hck := hide hck
  clear hck
  have Hv := hide hv
  have HA := hide hA
  have Hbx := hide hbx
  clear hv hA hbx
  by_cases h0 : ck = 0
  rotate_left
  · have h0' : (ck == 0) = false := by simpa using h0
    have h0'' : (ck != 0) = true := by simpa using h0
    go_enter Try.func15, Try.ntmps15
    go_wp2_with fail
    refine (unhide HC).mono ?_
    rintro e W1 ⟨rfl, hb⟩
    have R : Hid (SetA P w b n S l (.returned (.tuple #[])) W1) := ⟨rfl, by rw [setS_bad (by rw [unhide Hck]; exact h0)]; exact (unhide HH).below hb, Kp.of_below hb⟩
    clear hb HC c0
    go_wp2
    refine bodyPost_ret (results_none rfl _ _ _) rfl ?_
    exact unhide R
  subst h0
  go_enter Try.func15, Try.ntmps15
  go_wp2_with fail
  refine (unhide HC).mono ?_
  rintro e W1 ⟨rfl, hb⟩
  have c1 := ((unhide Hbx).below hb).cell 0 _ rfl
  have c2 := ((unhide HA).rb.below hb).cell 0 _ rfl
  have hm1 := (unhide HA).mp.kp (N := fun _ => False) (Kp.of_below hb) (fun e => e)
  have HB := hide hb
  have Hm1 := hide hm1
  clear hb HC c0 hm1
  go_wp2_with (at_range; refine wpl_range rfl _ rfl rfl (unhide Hm1) ?_; intro W2 cnt0 hrg hgr hsz)
  go_frame
  have hz1 := (unhide HB).size
  have I0 : Hid (SI P w W2 b r m W1.heap.size n S l (fun k => (g k).isSome) cnt0 g) := by
    have k2 : Kp (fun i => i = m) W1 W2 := Kp.of_grown hgr (fun i hi => by cases hi)
    have b2 : Below W1.heap.size W1 W2 := (Kp.of_grown (N := fun _ => False) hgr (fun i hi => by cases hi)).below (Below.refl _ _) (fun i h => h.elim)
    have e : (fun k => (g k).isSome) = fun k => (S k).isSome := funext fun k => by obtain ⟨_, _, h, _⟩ := (unhide HA).at k; exact h
    rw [e] at hrg ⊢
    refine ⟨hrg, ?_, ((unhide Hbx).below (unhide HB)).below b2, (Kp.of_below (unhide HB)).trans k2 (fun i h => .inl h), hz1, fun k h _ => h⟩
    rw [mixS_start]
    exact ((unhide HA).kp (N := fun _ => False) (Kp.of_below (unhide HB)) (fun _ h => h.elim)).kp (N := fun _ => False) (Kp.of_below b2) (fun _ h => h.elim)
  clear hrg hgr
  go_loopw [28] (fun _ wr => ∃ left cnt g, Hid (SI P w wr b r m W1.heap.size n S l left cnt g)) (fun _ wr => wr.rangeLeft m W1.heap.size)
  case atStart => exact ⟨_, _, _, I0⟩
  case round =>
    obtain ⟨left, cnt, g1, HI⟩ := hrel
    clear I0 c1 c2
    go_wp2_with (at_next; refine wpl_next rfl _ rfl rfl (unhide HI).rg ?_ ?_)
    · intro hl0
      have R : Hid (SetA P w b n S l (.returned (.tuple #[])) wr) := by
        have I := unhide HI
        refine ⟨rfl, ⟨hpb, _, I.box, .inr ⟨r, m, g1, rfl, ?_⟩⟩, I.kp.trans (Kp.refl (fun _ => False) _) (fun i h => h.elim) |>.trans (Kp.refl (fun _ => False) _) (fun i h => h.elim) |> fun k => ⟨k.os, k.tape, k.output, k.size, fun i hi hn => k.block i hi (fun e => hn (by rw [e]; exact I.fa.pm))⟩⟩
        have := I.fa
        rw [mixS_end (unhide Hck) (fun k hk => by have := (unhide HA).site k hk; unfold in64; omega) hl0] at this
        exact this
      go_wp2
      refine bodyPost_end (results_none rfl _ _ _) rfl ?_
      exact unhide R
    · intro k p1 n1 c1 p2 n2 c2 W3 cnt' hk hlk hgk hrg hlt hgr hsz3 hen
      replace hsz3 := hide hsz3
      have I := unhide HI
      have hit : w.heap.size ≤ W1.heap.size := I.itl
      have K3 : Kp (fun i => i = W1.heap.size) wr W3 := Kp.of_grown hgr (fun i hi => by cases hi; rfl)
      obtain ⟨p, hp⟩ := Option.isSome_iff_exists.1 (I.sub k hlk hk)
      obtain ⟨h, u⟩ := p
      have hmx : mixS S l left k = some (h, u) := by unfold mixS; rw [if_pos hlk]; exact hp
      obtain ⟨x', hx', ev1, ev2⟩ := I.fa.yes k h u hmx
      rw [hgk] at hx'
      cases hx'
      simp only at ev1 ev2
      have hPi : ∀ i, P i → i ≠ W1.heap.size := fun i hi e => by have := hP i hi; omega
      have bx3 := I.box.kp K3 (hPi _ hpb)
      have fa3 := I.fa.kp K3 (fun i e hi => hPi i hi e)
      have v3 : RI W3 (.slice a l.length c) l := RI.kp' (RI.kp' (unhide Hv) I.kp (rb_ne_map (n := n) (unhide Hv) (unhide HA).mp)) K3 (fun i hi e => by have := rb_lt (unhide Hv) hi; omega)
      have e3 := ev1.kp K3 (fun i e hi => hPi i hi e)
      have HCv := hide (fun o => Covers_in _ _ l (vec h) (W3.alloc o) (v3.below (ballc (Below.refl _ _) o)) ((e3.row.row).below (ballc (Below.refl _ _) o)) (by omega) (by have := vec_len h; omega))
      rw [sy_vec ev1.good] at HCv
      unfold sv at HCv
      unfold rowV at hen ⊢
      simp only at HCv hen ⊢
      obtain ⟨cv, hcv⟩ : ∃ cv, cov (sy l) h = cv := ⟨_, rfl⟩
      rw [hcv] at HCv
      have J := hide (And.intro hrg (And.intro bx3 (And.intro fa3 (And.intro hgk hcv))))
      have K4 := hide (I.kp.trans K3 (fun i h => .inr (by omega)))
      have Hk := hide hk
      have Hp := hide (And.intro hp hlk)
      clear I K3 hmx ev1 ev2 bx3 fa3 v3 e3 hrg hgk hp hPi hlk hgr hcv
      go_wp2_with fail
      refine (unhide HCv _).mono ?_
      rintro e W5 ⟨rfl, hb5⟩
      have hb35 := bnext (ballc (Below.refl W3.heap.size W3) _) hb5
      have xb := (Bx.new W3 66 #[.slice p1 n1 c1, .slice p2 n2 c2]).below hb5
      obtain ⟨hrg, bx3, fa3, hgk, hcv⟩ := unhide J
      have kb : Kp (fun _ => False) W3 W5 := Kp.of_below hb35
      cases cv
      · have I5 : Hid (SI P w W5 b r m W1.heap.size n S l (fun j => left j && !decide (j = k)) cnt' g1) := by
          have I := unhide HI
          obtain ⟨hp, hlk⟩ := unhide Hp
          refine ⟨hrg.kp kb (fun e => e) (fun e => e), ?_, bx3.below hb35, (unhide K4).trans kb (fun i h => h.elim), I.itl, fun j hj hj' => I.sub j (by simp at hj; exact hj.1) hj'⟩
          rw [mixS_skip hp hcv]
          exact fa3.kp kb (fun _ h => h.elim)
        have Hlt : Hid (W5.rangeLeft m W1.heap.size < wr.rangeLeft m W1.heap.size) := by
          rw [(unhide I5).rg.left_eq, (unhide HI).rg.left_eq]; exact hlt
        clear hrg bx3 fa3 hgk hb5 hb35 xb kb HCv
        go_wp2
        go_roundw
        case measure => exact unhide Hlt
        case rel => exact ⟨_, _, _, I5⟩
      · have q0 := xb.cell 0 _ rfl
        have q1 := xb.cell 1 _ rfl
        have f1 := xb.frozen 1
        obtain ⟨W6, hW6⟩ : ∃ W6, W5.setCell ⟨W3.heap.size, 1, none⟩ (.slice p1 n1 c1) = W6 := ⟨_, rfl⟩
        have x6 : Bx W6 W3.heap.size 66 #[.slice p1 n1 c1, .slice p1 n1 c1] := by rw [← hW6]; simpa using xb.set 1 (.slice p1 n1 c1)
        have k6 : Kp (fun i => i = W3.heap.size) W5 W6 := by rw [← hW6]; exact Kp.set _ ⟨W3.heap.size, 1, none⟩ _ rfl
        have k36 : Kp (fun i => i = W3.heap.size) W3 W6 := (Kp.of_below hb35).trans k6 (fun i h => .inl h)
        have z0 := x6.cell 0 _ rfl
        have z1 := x6.cell 1 _ rfl
        have b6 := bx3.kp k36 (by have := bx3.lt; omega)
        have b6c := b6.cell 0 _ rfl
        have r6 := (fa3.rb.kp k36 (by have := fa3.rb.lt; omega)).cell 0 _ rfl
        have kd : Kp (fun i => i = W3.heap.size) W3 W6.drew := k36.trans (Kp.of_below (N := fun _ => False) (Below.refl _ _).drew) (fun i h => h.elim)
        have hz3 : W1.heap.size < W3.heap.size := by obtain ⟨_, _, h, _⟩ := hrg; exact h.lt
        have hm3 := fa3.mp.lt
        obtain ⟨W7, hr, hrg7, hg7, hz7⟩ := (hrg.kp kd (by omega) (by omega)).put (unhide Hk) ((p1, n1, c1), (p1, n1, c1)) (by rw [hgk]; rfl)
        have I7 : Hid (SI P w W7 b r m W1.heap.size n S l (fun j => left j && !decide (j = k)) cnt' (putG g1 k ((p1, n1, c1), (p1, n1, c1)))) := by
          have I := unhide HI
          obtain ⟨hp, hlk⟩ := unhide Hp
          have K7 : Kp (fun i => i = m) W6.drew W7 := Kp.of_grown hg7 (fun i hi => by cases hi; rfl)
          have fad := fa3.kp kd (fun i h e => by have := hP i e; have := (unhide HB).size; omega)
          have bxd := bx3.kp kd (by have := bx3.lt; omega)
          refine ⟨hrg7, ?_, bxd.kp K7 (bxd.ne_map fad.mp), ((unhide K4).trans kd (fun i h => .inr (by omega))).trans K7 (fun i h => .inl h), I.itl, fun j hj hj' => I.sub j (by simp at hj; exact hj.1) hj'⟩
          rw [mixS_put hp hcv]
          have hmx : mixS S l left k = some (h, u) := by unfold mixS; rw [if_pos hlk]; exact hp
          obtain ⟨x', hx', ev1, ev2⟩ := fad.yes k h u hmx
          rw [hgk] at hx'
          cases hx'
          have e7 := ev1.kpm fad.mp K7
          exact FA.put fad k ((unhide HA).site k (by rw [hp]; rfl)) _ _ _ _ e7 e7 hrg7.mp K7 (fun i h => h)
        have Hlt : Hid (W7.rangeLeft m W1.heap.size < wr.rangeLeft m W1.heap.size) := by
          rw [(unhide I7).rg.left_eq, (unhide HI).rg.left_eq]; exact hlt
        unfold rowV at hr
        simp only at hr
        clear hrg bx3 fa3 hgk hb5 hb35 kb HCv xb x6 k6 k36 kd hrg7 hg7 b6
        go_wp2
        go_region
        go_wp2
        go_roundw
        case measure => exact unhide Hlt
        case rel => exact ⟨_, _, _, I7⟩

theorem Settle_nil (v : Value) (w : World) : Calls Try.prog 15 #[.pointer none, v] w fun e W => e = .returned (.tuple #[]) ∧ w = W := by
  go_enter Try.func15, Try.ntmps15
  go_wp2
  refine bodyPost_ret (results_none rfl _ _ _) rfl ?_
  exact ⟨rfl, rfl⟩
theorem Hear_nil (k : Int) (a : Option Addr) (n c : Nat) (w : World) : Calls Try.prog 17 #[.pointer none, .int .i64 k, .slice a n c] w fun e W => e = .returned (.int .i64 1) ∧ Below w.heap.size w W := by
  go_enter Try.func17, Try.ntmps17
  go_wp2
  go_ret
  exact ⟨rfl, ballc (Below.refl _ _) _⟩

end Go.Proofs.Ytjiphechhfifgaa
