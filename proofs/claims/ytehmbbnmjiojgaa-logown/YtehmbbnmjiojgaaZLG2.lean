/-
  The log in memory.
-/
import Derived.Test.YtehmbbnmjiojgaaZLG1
import Derived.Lib.OwnKind
set_option linter.unusedSimpArgs false
set_option linter.unusedVariables false
namespace Go.Proofs.Ytehmbbnmjiojgaa
open Go.RowKit Go.Lib

/-- an operation that is kept: its lists lie in blocks of which P holds -/
structure OE (P : Nat → Prop) (W : World) (e : Opn × Value × Value) : Prop where
  d : OwD W 0 e.2.1 e.1.deps
  g : OwR W 0 e.2.2 e.1.gone
  pd : ∀ k, e.2.1.ownBlock = some k → P k
  pg : ∀ k, e.2.2.ownBlock = some k → P k
  s1 : e.1.deps.length ≤ 1000000
  s2 : e.1.gone.length ≤ 1000000
  s3 : e.1.text.size ≤ 1000000
theorem OE.kp {P N : Nat → Prop} {W W' : World} {e : Opn × Value × Value} (h : OE P W e) (k : Kp N W W') (hn : ∀ i, N i → ¬ P i) : OE P W' e :=
  ⟨owns_kp h.d k (fun i hi e => hn i e (h.pd i hi)), owns_kp h.g k (fun i hi e => hn i e (h.pg i hi)), h.pd, h.pg, h.s1, h.s2, h.s3⟩
theorem OE.below {P : Nat → Prop} {W W' : World} {e : Opn × Value × Value} (h : OE P W e) (hb : Below W.heap.size W W') : OE P W' e := h.kp (N := fun _ => False) (Kp.of_below hb) (fun _ h => h.elim)
theorem OE.mono {P P' : Nat → Prop} {W : World} {e : Opn × Value × Value} (h : OE P W e) (hp : ∀ i, P i → P' i) : OE P' W e := ⟨h.d, h.g, fun k hk => hp k (h.pd k hk), fun k hk => hp k (h.pg k hk), h.s1, h.s2, h.s3⟩
theorem OE.one {P : Nat → Prop} {W : World} {e : Opn × Value × Value} (h : OE P W e) : ∀ u ∈ encO e, u.oneCell' = true := by
  obtain ⟨a, c, h1⟩ := OwD.form h.d
  obtain ⟨a', c', h2⟩ := OwR.form h.g
  intro u hu
  unfold encO at hu
  rw [h1, h2] at hu
  simp at hu
  rcases hu with rfl | rfl | rfl | rfl | rfl | rfl | rfl | rfl | rfl | rfl | rfl <;> rfl

/-- a log: its variable, its two vectors, its operations; all that it has lies in blocks of which P holds -/
structure LG (P : Nat → Prop) (W : World) (b : Nat) (vb vh vo : Value) (base hv : List (Int × Int)) (ops : List (Opn × Value × Value)) : Prop where
  box : Bx W b 30 #[vb, vh, vo]
  rb : OwD W 0 vb base
  rh : OwD W 0 vh hv
  ro : W.ownsRow 0 38 11 vo ops.length (flat encO ops)
  re : ∀ e ∈ ops, OE P W e
  pb : P b
  pvb : ∀ k, vb.ownBlock = some k → P k
  pvh : ∀ k, vh.ownBlock = some k → P k
  pvo : ∀ k, vo.ownBlock = some k → P k
  lb : base.length ≤ 1000000
  lh : hv.length ≤ 1000000
theorem LG.kp {P N : Nat → Prop} {W W' : World} {b : Nat} {vb vh vo : Value} {base hv : List (Int × Int)} {ops : List (Opn × Value × Value)} (h : LG P W b vb vh vo base hv ops) (k : Kp N W W') (hn : ∀ i, N i → ¬ P i) : LG P W' b vb vh vo base hv ops :=
  ⟨h.box.kp k (fun e => hn _ e h.pb), owns_kp h.rb k (fun i hi e => hn i e (h.pvb i hi)), owns_kp h.rh k (fun i hi e => hn i e (h.pvh i hi)), owns_kp h.ro k (fun i hi e => hn i e (h.pvo i hi)), fun e he => (h.re e he).kp k hn, h.pb, h.pvb, h.pvh, h.pvo, h.lb, h.lh⟩
theorem LG.below {P : Nat → Prop} {W W' : World} {b : Nat} {vb vh vo : Value} {base hv : List (Int × Int)} {ops : List (Opn × Value × Value)} (h : LG P W b vb vh vo base hv ops) (hb : Below W.heap.size W W') : LG P W' b vb vh vo base hv ops := h.kp (N := fun _ => False) (Kp.of_below hb) (fun _ h => h.elim)
theorem LG.mono {P P' : Nat → Prop} {W : World} {b : Nat} {vb vh vo : Value} {base hv : List (Int × Int)} {ops : List (Opn × Value × Value)} (h : LG P W b vb vh vo base hv ops) (hp : ∀ i, P i → P' i) : LG P' W b vb vh vo base hv ops :=
  ⟨h.box, h.rb, h.rh, h.ro, fun e he => (h.re e he).mono hp, hp _ h.pb, fun k hk => hp k (h.pvb k hk), fun k hk => hp k (h.pvh k hk), fun k hk => hp k (h.pvo k hk), h.lb, h.lh⟩
/-- blocks of two types are two -/
theorem ne_types {W : World} {i : Nat} {c c' : Array Value} {t t' : TypeId} {z z' : Nat × Nat} (h : W.heap[i]? = some (.cells c t z)) (h' : W.heap[i]? = some (.cells c' t' z')) (hn : t ≠ t') : False := by
  rw [h] at h'
  simp at h'
  exact hn h'.2.1
theorem own_ne_box {W : World} {B E k n b : Nat} {t : TypeId} {v : Value} {C : List Value} {vs : Array Value} (h : W.ownsRow B E k v n C) (hb : Bx W b t vs) (hn : E ≠ t) : v.ownBlock ≠ some b := fun e => by
  obtain ⟨c, fz, hc⟩ := ownsRow_kind h b e
  exact ne_types hc hb hn
theorem own_ne_own {W : World} {B E k n B' E' k' n' : Nat} {v v' : Value} {C C' : List Value} (h : W.ownsRow B E k v n C) (h' : W.ownsRow B' E' k' v' n' C') (hn : E ≠ E') : ∀ i, v.ownBlock = some i → v'.ownBlock ≠ some i := fun i hi e => by
  obtain ⟨c, fz, hc⟩ := ownsRow_kind h i hi
  obtain ⟨c', fz', hc'⟩ := ownsRow_kind h' i e
  exact ne_types hc hc' hn

/-- a log, by what it says -/
def LL (P : Nat → Prop) (W : World) (b : Nat) (base hv : List (Int × Int)) (os : List Opn) : Prop := ∃ vb vh vo ops, LG P W b vb vh vo base hv ops ∧ ops.map Prod.fst = os
theorem LL.kp {P N : Nat → Prop} {W W' : World} {b : Nat} {base hv : List (Int × Int)} {os : List Opn} (h : LL P W b base hv os) (k : Kp N W W') (hn : ∀ i, N i → ¬ P i) : LL P W' b base hv os := by
  obtain ⟨vb, vh, vo, ops, h, e⟩ := h
  exact ⟨vb, vh, vo, ops, h.kp k hn, e⟩
theorem LL.below {P : Nat → Prop} {W W' : World} {b : Nat} {base hv : List (Int × Int)} {os : List Opn} (h : LL P W b base hv os) (hb : Below W.heap.size W W') : LL P W' b base hv os := h.kp (N := fun _ => False) (Kp.of_below hb) (fun _ h => h.elim)
theorem LL.mono {P P' : Nat → Prop} {W : World} {b : Nat} {base hv : List (Int × Int)} {os : List Opn} (h : LL P W b base hv os) (hp : ∀ i, P i → P' i) : LL P' W b base hv os := by
  obtain ⟨vb, vh, vo, ops, h, e⟩ := h
  exact ⟨vb, vh, vo, ops, h.mono hp, e⟩

theorem OwD.b0 {W : World} {B : Nat} {v : Value} {l : List (Int × Int)} (h : OwD W B v l) : OwD W 0 v l := OwD.base h (Nat.zero_le _)
theorem OwR.b0 {W : World} {B : Nat} {v : Value} {l : List ((Int × Int) × Int)} (h : OwR W B v l) : OwR W 0 v l := OwR.base h (Nat.zero_le _)
theorem owd_below {W W' : World} {B : Nat} {v : Value} {l : List (Int × Int)} (h : OwD W B v l) (hb : Below W.heap.size W W') : OwD W' B v l := owns_kp (N := fun _ => False) h (Kp.of_below hb) (fun _ _ e => e)
theorem owr_below {W W' : World} {B : Nat} {v : Value} {l : List ((Int × Int) × Int)} (h : OwR W B v l) (hb : Below W.heap.size W W') : OwR W' B v l := owns_kp (N := fun _ => False) h (Kp.of_below hb) (fun _ _ e => e)

/-- what New answers -/
def NewA (w : World) (base : List (Int × Int)) (e : Ending) (W : World) : Prop :=
  (chk base ≠ 0 ∧ e = .returned (.tuple #[.pointer none, .int .i64 (chk base)]) ∧ Below w.heap.size w W) ∨ (chk base = 0 ∧ ∃ b, e = .returned (.tuple #[.pointer (some ⟨b, 0, none⟩), .int .i64 0]) ∧ LL (fun i => w.heap.size ≤ i) W b base base [] ∧ Below w.heap.size w W)
set_option maxRecDepth 100000 in
set_option maxHeartbeats 2000000 in
theorem New_in (v : Value) (base : List (Int × Int)) (w : World) (h : RI w v base) (hl : base.length ≤ 1000000) : Calls Try.prog 15 #[v] w (NewA w base) := by
  have HC := hide (Check_in v base w h (by omega))
  have HF := hide (fun (W : World) (hb : Below w.heap.size w W) => freshD_in v base W (h.below hb) hl)
  obtain ⟨a, c, rfl⟩ := h.form
  obtain ⟨ck, hck⟩ : ∃ k, chk base = k := ⟨_, rfl⟩
  unfold NewA
  rw [hck] at HC ⊢
  clear h hck
  by_cases h0 : ck = 0
  rotate_left
  · have h0' : (ck == 0) = false := by simpa using h0
    go_enter Try.func15, Try.ntmps15
    go_wp2_with fail
    refine (unhide HC).mono ?_
    rintro r W1 ⟨rfl, hb1⟩
    go_wp2
    refine bodyPost_ret (results_tmp2 rfl _ _ _) rfl ?_
    exact .inl ⟨h0, rfl, hb1⟩
  · subst h0
    go_enter Try.func15, Try.ntmps15
    go_wp2_with fail
    refine (unhide HC).mono ?_
    rintro r W1 ⟨rfl, hb1⟩
    have H1 := hide (unhide HF W1 hb1)
    replace hb1 := hide hb1
    clear HC
    go_wp2_with fail
    refine (unhide H1).mono ?_
    rintro r W2 ⟨v2, rfl, ho2, hb2⟩
    obtain ⟨a2, c2, rfl⟩ := OwD.form ho2
    have H2 := hide (unhide HF W2 (bnext (unhide hb1) hb2))
    have O2 := hide ho2
    have B2 := hide (bnext (unhide hb1) hb2)
    have hz1 := (unhide hb1).size
    have hz2 := hb2.size
    clear H1 ho2 hb2 HF
    go_wp2_with fail
    refine (unhide H2).mono ?_
    rintro r W3 ⟨v3, rfl, ho3, hb3⟩
    obtain ⟨a3, c3, rfl⟩ := OwD.form ho3
    have O3 := hide ho3
    have B3 := hide (bnext (unhide B2) hb3)
    replace O2 := hide (owd_below (unhide O2) hb3)
    have hz3 := hb3.size
    clear H2 ho3 hb3
    go_wp2
    refine bodyPost_ret (results_tmp2 rfl _ _ _) rfl ?_
    have al := ballc (Below.refl W3.heap.size W3) (.cells #[.slice a2 base.length c2, .slice a3 base.length c3, .slice none 0 0] 30)
    refine .inr ⟨by trivial, W3.heap.size, rfl, ⟨_, _, _, [], ⟨Bx.new _ _ _, (owd_below (unhide O2) al).b0, (owd_below (unhide O3) al).b0, World.ownsRow_nil _ _ _ _, fun e he => (by cases he), by omega, fun k hk => ?_, fun k hk => ?_, fun k hk => (by cases hk), hl, hl⟩, rfl⟩, bnext (unhide B3) al⟩
    · have := ((unhide O2).lt k hk).1; omega
    · have := ((unhide O3).lt k hk).1; omega

set_option maxRecDepth 100000 in
set_option maxHeartbeats 1000000 in
theorem Base_in {P : Nat → Prop} {w : World} {b : Nat} {base hv : List (Int × Int)} {os : List Opn} (h : LL P w b base hv os) : Calls Try.prog 11 #[.pointer (some ⟨b, 0, none⟩)] w fun e W => ∃ v', e = .returned v' ∧ OwD W w.heap.size v' base ∧ Below w.heap.size w W := by
  obtain ⟨vb, vh, vo, ops, h, -⟩ := h
  obtain ⟨ab, cb, rfl⟩ := OwD.form h.rb
  have HF := hide (freshD_in _ base w h.rb.row h.lb)
  have c0 := h.box.cell 0 _ rfl
  clear h
  go_enter Try.func11, Try.ntmps11
  go_wp2_with fail
  refine (unhide HF).mono ?_
  rintro r W1 ⟨v1, rfl, ho, hb⟩
  go_wp2
  go_ret
  exact ⟨_, rfl, ho, hb⟩
theorem Base_nil (w : World) : Calls Try.prog 11 #[.pointer none] w fun e W => e = .returned (.slice none 0 0) ∧ w = W := by
  go_enter Try.func11, Try.ntmps11
  go_wp2
  go_ret
  exact ⟨rfl, rfl⟩
set_option maxRecDepth 100000 in
set_option maxHeartbeats 1000000 in
theorem Vector_in {P : Nat → Prop} {w : World} {b : Nat} {base hv : List (Int × Int)} {os : List Opn} (h : LL P w b base hv os) : Calls Try.prog 10 #[.pointer (some ⟨b, 0, none⟩)] w fun e W => ∃ v', e = .returned v' ∧ OwD W w.heap.size v' hv ∧ Below w.heap.size w W := by
  obtain ⟨vb, vh, vo, ops, h, -⟩ := h
  obtain ⟨ab, cb, rfl⟩ := OwD.form h.rh
  have HF := hide (freshD_in _ hv w h.rh.row h.lh)
  have c0 := h.box.cell 1 _ rfl
  clear h
  go_enter Try.func10, Try.ntmps10
  go_wp2_with fail
  refine (unhide HF).mono ?_
  rintro r W1 ⟨v1, rfl, ho, hb⟩
  go_wp2
  go_ret
  exact ⟨_, rfl, ho, hb⟩
theorem Vector_nil (w : World) : Calls Try.prog 10 #[.pointer none] w fun e W => e = .returned (.slice none 0 0) ∧ w = W := by
  go_enter Try.func10, Try.ntmps10
  go_wp2
  go_ret
  exact ⟨rfl, rfl⟩
set_option maxRecDepth 100000 in
theorem Len_in {P : Nat → Prop} {w : World} {b : Nat} {base hv : List (Int × Int)} {os : List Opn} (h : LL P w b base hv os) : Calls Try.prog 18 #[.pointer (some ⟨b, 0, none⟩)] w fun e W => e = .returned (.int .i64 (os.length : Nat)) ∧ w = W := by
  obtain ⟨vb, vh, vo, ops, h, rfl⟩ := h
  obtain ⟨ab, cb, rfl⟩ := owns_form h.ro
  have c0 := h.box.cell 2 _ rfl
  rw [List.length_map]
  clear h
  go_enter Try.func18, Try.ntmps18
  go_wp2
  go_ret
  exact ⟨rfl, rfl⟩
theorem Len_nil (w : World) : Calls Try.prog 18 #[.pointer none] w fun e W => e = .returned (.int .i64 0) ∧ w = W := by
  go_enter Try.func18, Try.ntmps18
  go_wp2
  go_ret
  exact ⟨rfl, rfl⟩

end Go.Proofs.Ytehmbbnmjiojgaa
