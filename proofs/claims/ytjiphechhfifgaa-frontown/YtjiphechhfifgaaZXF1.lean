/-
  A Front in memory; slices.Clone, find, New, Row, Usable.
-/
import Derived.Test.YtjiphechhfifgaaZFM
import Derived.Test.YtjiphechhfifgaaZSh1
import Derived.Lib.OwnKind

set_option linter.unusedSimpArgs false
set_option linter.unusedVariables false
namespace Go.Proofs.Ytjiphechhfifgaa
open Go.RowKit Go.Lib

theorem OwD.b0 {W : World} {B : Nat} {v : Value} {l : List (Int × Int)} (h : OwD W B v l) : OwD W 0 v l := OwD.base h (Nat.zero_le _)
theorem owd_kp {N : Nat → Prop} {W W' : World} {B : Nat} {v : Value} {l : List (Int × Int)} (h : OwD W B v l) (k : Kp N W W') (hn : ∀ i, v.ownBlock = some i → ¬ N i) : OwD W' B v l := owns_kp h k hn
theorem owd_below {W W' : World} {B : Nat} {v : Value} {l : List (Int × Int)} (h : OwD W B v l) (hb : Below W.heap.size W W') : OwD W' B v l := owns_kp (N := fun _ => False) h (Kp.of_below hb) (fun _ _ e => e)
theorem encI_one {l : List (Int × Int)} : ∀ u ∈ flat encI l, u.oneCell' = true := fun u hu => by
  obtain ⟨x, _, hx⟩ := flat_mem hu
  unfold encI at hx
  simp at hx
  rcases hx with rfl | rfl <;> rfl

/-- slices.Clone of what is not nil -/
theorem clone_at (ad : Addr) (c : Nat) (l : List (Int × Int)) (w : World) (hl : l.length ≤ 1000000) (hc : ∀ j x, (flat encI l)[j]? = some x → w.cell? (ad.add j) = some x) :
    Calls Try.prog 33 #[.slice (some ad) l.length c] w fun e W => ∃ v', e = .returned v' ∧ OwD W w.heap.size v' l ∧ Below w.heap.size w W := by
  obtain ⟨i0, hi, hz0, hz1, hz2⟩ := info_parts infoD
  have q22 : ∀ (w : World) (a : Option Addr) (n c n' c' : Nat), (binOp .eql 31 (.slice a n c) (.slice none n' c')).run Try.prog w = .ok (.bool a.isNone) w := fun w a n c n' c' => Lib.run_eql_slice_nil w _ _ a n c n' c' Try.underlying31
  have A := hide hc
  clear hc
  obtain ⟨n, hn⟩ : ∃ n, l.length = n := ⟨_, rfl⟩
  have Hn := hide hn
  rw [hn] at hl ⊢
  clear hn
  go_enter Try.func33, Try.ntmps33
  go_wp2_with (at_builtin; refine wpList_append_own _ rfl _ _ 31 rfl w.heap.size 56 i0 _ 2 16 Try.underlying31 hi hz0 hz1 hz2 rfl (by omega) _ _ _ rfl (World.ownsRow_made w #[] 0 (Nat.le_refl _) (Nat.zero_le _) (by simp)) ad n c (flat encI l) rfl ?qc1 ?qc2 ?qc3 ?qc4 ?qc5 ?qc6 ?_)
  case qc1 => rw [flat_len encI_len, unhide Hn]
  case qc2 =>
    intro j u hj
    exact Lib.cell?_alloc_some _ (unhide A j u hj)
  case qc3 => exact encI_one
  case qc4 => unfold maxLen; omega
  case qc5 => omega
  case qc6 => simp
  intro v' w1 hown hgrow hnil
  go_wp2
  go_ret
  have e := unhide Hn
  refine ⟨v', rfl, ?_, ?_⟩
  · subst e; unfold OwD; simpa using hown
  · exact ((Below.refl _ w).alloc (Nat.le_refl _) _).grown hgrow (by simp) (by intro k hk; simp [Value.ownBlock] at hk; omega)

/-- slices.Clone -/
theorem Clone_in (v : Value) (l : List (Int × Int)) (w : World) (h : RI w v l) (hl : l.length ≤ 1000000) :
    Calls Try.prog 33 #[v] w fun e W => ∃ v', e = .returned v' ∧ OwD W w.heap.size v' l ∧ Below w.heap.size w W := by
  rcases h with ⟨h0, a, cap, rfl⟩ | ⟨b, off, cap, rfl, _, _, hc⟩
  · have e : l = [] := List.eq_nil_of_length_eq_zero h0
    subst e
    rcases a with _ | ad
    · have q22 : ∀ (w : World) (a : Option Addr) (n c n' c' : Nat), (binOp .eql 31 (.slice a n c) (.slice none n' c')).run Try.prog w = .ok (.bool a.isNone) w := fun w a n c n' c' => Lib.run_eql_slice_nil w _ _ a n c n' c' Try.underlying31
      go_enter Try.func33, Try.ntmps33
      go_wp2
      go_ret
      exact ⟨_, rfl, World.ownsRow_nil _ _ _ _, Below.refl _ _⟩
    · exact clone_at ad cap [] w (by simp) (fun j x hx => by simp [flat] at hx)
  · exact clone_at ⟨b, off, none⟩ cap l w hl (fun j x hx => by rw [Addr.add_lit]; exact hc j x hx)

/-- a row of sites that lies in blocks of which P holds -/
structure EV (P : Nat → Prop) (W : World) (x : SV) (s : Nat → Int) : Prop where
  row : OwD W 0 (sv x) (vec s)
  pk : ∀ k, (sv x).ownBlock = some k → P k
  good : Good s
theorem EV.kp {P N : Nat → Prop} {W W' : World} {x : SV} {s : Nat → Int} (h : EV P W x s) (k : Kp N W W') (hn : ∀ i, N i → ¬ P i) : EV P W' x s := ⟨owd_kp h.row k (fun i hi e => hn i e (h.pk i hi)), h.pk, h.good⟩
theorem EV.below {P : Nat → Prop} {W W' : World} {x : SV} {s : Nat → Int} (h : EV P W x s) (hb : Below W.heap.size W W') : EV P W' x s := h.kp (N := fun _ => False) (Kp.of_below hb) (fun _ h => h.elim)
theorem EV.mono {P P' : Nat → Prop} {W : World} {x : SV} {s : Nat → Int} (h : EV P W x s) (hp : ∀ i, P i → P' i) : EV P' W x s := ⟨h.row, fun k hk => hp k (h.pk k hk), h.good⟩
theorem vec_zero : vec (fun _ => 0) = [] := by decide
theorem EV.none (P : Nat → Prop) (W : World) : EV P W (none, 0, 0) (fun _ => 0) := ⟨by rw [vec_zero]; exact World.ownsRow_nil _ _ _ _, fun k hk => (by cases hk), Good.none⟩

abbrev StF : Type := Int → Option ((Nat → Int) × (Nat → Int))
def hdR (S : StF) (k : Int) : Nat → Int := ((S k).getD (fun _ => 0, fun _ => 0)).1
def usR (S : StF) (k : Int) : Nat → Int := ((S k).getD (fun _ => 0, fun _ => 0)).2
/-- the rows: their variable, their map -/
structure FA (P : Nat → Prop) (W : World) (r m n : Nat) (g : Int → Option (SV × SV)) (S : StF) : Prop where
  rb : Bx W r 64 #[.map (some m)]
  mp : MP W m n g
  no : ∀ k, S k = none → g k = none
  yes : ∀ k h u, S k = some (h, u) → ∃ x, g k = some x ∧ EV P W x.1 h ∧ EV P W x.2 u
  pr : P r
  pm : P m
  site : ∀ k, (S k).isSome = true → 1 ≤ k ∧ k ≤ 16
theorem FA.kp {P N : Nat → Prop} {W W' : World} {r m n : Nat} {g : Int → Option (SV × SV)} {S : StF} (h : FA P W r m n g S) (k : Kp N W W') (hn : ∀ i, N i → ¬ P i) : FA P W' r m n g S :=
  ⟨h.rb.kp k (fun e => hn _ e h.pr), h.mp.kp k (fun e => hn _ e h.pm), h.no, fun j a b e => by obtain ⟨x, h1, h2, h3⟩ := h.yes j a b e; exact ⟨x, h1, h2.kp k hn, h3.kp k hn⟩, h.pr, h.pm, h.site⟩
theorem FA.mono {P P' : Nat → Prop} {W : World} {r m n : Nat} {g : Int → Option (SV × SV)} {S : StF} (h : FA P W r m n g S) (hp : ∀ i, P i → P' i) : FA P' W r m n g S :=
  ⟨h.rb, h.mp, h.no, fun j a b e => by obtain ⟨x, h1, h2, h3⟩ := h.yes j a b e; exact ⟨x, h1, h2.mono hp, h3.mono hp⟩, hp _ h.pr, hp _ h.pm, h.site⟩
theorem FA.at {P : Nat → Prop} {W : World} {r m n : Nat} {g : Int → Option (SV × SV)} {S : StF} (h : FA P W r m n g S) (k : Int) : ∃ x, (g k).getD row0 = x ∧ (g k).isSome = (S k).isSome ∧ EV P W x.1 (hdR S k) ∧ EV P W x.2 (usR S k) := by
  unfold hdR usR
  cases e : S k with
  | none => rw [h.no k e]; exact ⟨_, rfl, rfl, EV.none _ _, EV.none _ _⟩
  | some p =>
    obtain ⟨a, b⟩ := p
    obtain ⟨x, h1, h2, h3⟩ := h.yes k a b e
    rw [h1]
    exact ⟨x, rfl, rfl, h2, h3⟩
/-- the rows by their pointer -/
def FQ (P : Nat → Prop) (W : World) (pv : Value) (n : Nat) (S : StF) : Prop := (pv = .pointer none ∧ ∀ k, S k = none) ∨ ∃ r m g, pv = .pointer (some ⟨r, 0, none⟩) ∧ FA P W r m n g S
theorem FQ.kp {P N : Nat → Prop} {W W' : World} {pv : Value} {n : Nat} {S : StF} (h : FQ P W pv n S) (k : Kp N W W') (hn : ∀ i, N i → ¬ P i) : FQ P W' pv n S := by
  rcases h with h | ⟨r, m, g, e, h⟩
  · exact .inl h
  · exact .inr ⟨r, m, g, e, h.kp k hn⟩
theorem FQ.below {P : Nat → Prop} {W W' : World} {pv : Value} {n : Nat} {S : StF} (h : FQ P W pv n S) (hb : Below W.heap.size W W') : FQ P W' pv n S := h.kp (N := fun _ => False) (Kp.of_below hb) (fun _ h => h.elim)
theorem FQ.mono {P P' : Nat → Prop} {W : World} {pv : Value} {n : Nat} {S : StF} (h : FQ P W pv n S) (hp : ∀ i, P i → P' i) : FQ P' W pv n S := by
  rcases h with h | ⟨r, m, g, e, h⟩
  · exact .inl h
  · exact .inr ⟨r, m, g, e, h.mono hp⟩
theorem FQ.good {P : Nat → Prop} {W : World} {pv : Value} {n : Nat} {S : StF} (h : FQ P W pv n S) (k : Int) : Good (hdR S k) ∧ Good (usR S k) := by
  rcases h with ⟨_, h⟩ | ⟨r, m, g, e, h⟩
  · unfold hdR usR; rw [h k]; exact ⟨Good.none, Good.none⟩
  · obtain ⟨x, _, _, h1, h2⟩ := h.at k
    exact ⟨h1.good, h2.good⟩
/-- a Front -/
def FR (P : Nat → Prop) (W : World) (b n : Nat) (S : StF) : Prop := P b ∧ ∃ pv, Bx W b 38 #[pv] ∧ FQ P W pv n S
theorem FR.kp {P N : Nat → Prop} {W W' : World} {b n : Nat} {S : StF} (h : FR P W b n S) (k : Kp N W W') (hn : ∀ i, N i → ¬ P i) : FR P W' b n S := by
  obtain ⟨h1, pv, h2, h3⟩ := h
  exact ⟨h1, pv, h2.kp k (fun e => hn _ e h1), h3.kp k hn⟩
theorem FR.below {P : Nat → Prop} {W W' : World} {b n : Nat} {S : StF} (h : FR P W b n S) (hb : Below W.heap.size W W') : FR P W' b n S := h.kp (N := fun _ => False) (Kp.of_below hb) (fun _ h => h.elim)
theorem FR.mono {P P' : Nat → Prop} {W : World} {b n : Nat} {S : StF} (h : FR P W b n S) (hp : ∀ i, P i → P' i) : FR P' W b n S := by
  obtain ⟨h1, pv, h2, h3⟩ := h
  exact ⟨hp _ h1, pv, h2, h3.mono hp⟩
theorem FR.good {P : Nat → Prop} {W : World} {b n : Nat} {S : StF} (h : FR P W b n S) (k : Int) : Good (hdR S k) ∧ Good (usR S k) := by
  obtain ⟨h1, pv, h2, h3⟩ := h; exact h3.good k

theorem results_ct {P : Program} {fn : Func} {j p : Tmp} {ty : TypeId} (h : fn.results = #[.cell p ty, .tmp j]) (tmps : Array Value) (w : World) (g : Nat) (t : TypeId) (cs : Array Value) (fr : Nat × Nat) (d : TypeDesc)
    (hp : tmps.getD p undef = .pointer (some ⟨g, 0, none⟩)) (hg : w.heap[g]? = some (.cells cs t fr))
    (hu : P.underlying ty = some d) (hd : (match d with | .struct _ | .array _ _ => true | _ => false) = true) (hi : (P.info? ty).map (·.size) = some cs.size) :
    (results fn tmps).run P w = .ok (.tuple #[.agg cs, tmps.getD j undef]) w := by
  have hp' : tmps[p]?.getD undef = .pointer (some ⟨g, 0, none⟩) := by simpa using hp
  simp [results, h, hp', asAddr, run_loadVar_row w g t ty cs fr d hg hu hd hi]
theorem size66 : (Try.prog.info? 66).map (·.size) = some 2 := by kernel_rfl

def FindA (P : Nat → Prop) (w : World) (S : StF) (k : Int) (is : Bool) (e : Ending) (W : World) : Prop := ∃ x : SV × SV, e = .returned (.tuple #[rowV x, .bool is]) ∧ EV P W x.1 (hdR S k) ∧ EV P W x.2 (usR S k) ∧ Below w.heap.size w W
set_option maxRecDepth 100000 in
set_option maxHeartbeats 2000000 in
theorem find_in {P : Nat → Prop} {w : World} {pv : Value} {n : Nat} {S : StF} (h : FQ P w pv n S) (k : Int) (hk : in64 k) :
    Calls Try.prog 32 #[pv, .int .i64 k] w (FindA P w S k (S k).isSome) := by
  rcases h with ⟨rfl, hS⟩ | ⟨r, m, g, rfl, h⟩
  · have e1 : hdR S k = fun _ => 0 := by unfold hdR; rw [hS k]; rfl
    have e2 : usR S k = fun _ => 0 := by unfold usR; rw [hS k]; rfl
    unfold FindA
    rw [e1, e2, hS k]
    go_enter Try.func32, Try.ntmps32
    go_wp2
    refine bodyPost_ret (results_ct rfl _ _ w.heap.size _ _ _ _ rfl (Bx.new w 66 #[.slice none 0 0, .slice none 0 0]) Try.underlying66 rfl size66) rfl ?_
    exact ⟨row0, rfl, EV.none _ _, EV.none _ _, ballc (Below.refl _ _) _⟩
  · obtain ⟨x, hx, hs, h1, h2⟩ := h.at k
    have L := fun o => MP.look2 (h.mp.kp (N := fun _ => False) (Kp.of_below (ballc (Below.refl w.heap.size w) o)) (fun e => e)) hk
    rw [hx, hs] at L
    have c0 := fun o => (h.rb.below (ballc (Below.refl w.heap.size w) o)).cell 0 _ rfl
    have H1 := hide h1
    have H2 := hide h2
    obtain ⟨⟨p1, n1, c1⟩, ⟨p2, n2, c2⟩⟩ := x
    unfold rowV at L
    simp only at L
    generalize (S k).isSome = is at *
    clear h h1 h2 hx hs
    go_enter Try.func32, Try.ntmps32
    go_wp2
    refine bodyPost_ret (results_ct rfl _ _ w.heap.size _ _ _ _ rfl ((Bx.new w 66 #[.slice p1 n1 c1, .slice p2 n2 c2]).below (ballc (Below.refl _ _) _)) Try.underlying66 rfl size66) rfl ?_
    have bb := ballc (ballc (Below.refl w.heap.size w) (.cells #[.slice p1 n1 c1, .slice p2 n2 c2] 66)) (.cells #[.slice p1 n1 c1, .slice p2 n2 c2] 66)
    exact ⟨((p1, n1, c1), (p2, n2, c2)), rfl, (unhide H1).below bb, (unhide H2).below bb, bb⟩


set_option maxRecDepth 100000 in
set_option maxHeartbeats 2000000 in
theorem Row_in {P : Nat → Prop} {w : World} {b n : Nat} {S : StF} (h : FR P w b n S) (k : Int) (hk : in64 k) :
    Calls Try.prog 16 #[.pointer (some ⟨b, 0, none⟩), .int .i64 k] w fun e W => ∃ v', e = .returned (.tuple #[v', .bool (S k).isSome]) ∧ OwD W w.heap.size v' (vec (hdR S k)) ∧ Below w.heap.size w W := by
  obtain ⟨h1, pv, h2, h3⟩ := h
  have c0 := h2.cell 0 _ rfl
  have HF := hide (find_in h3 k hk)
  clear h1 h2 h3
  obtain ⟨L, hL⟩ : ∃ L, vec (hdR S k) = L := ⟨_, rfl⟩
  rw [hL]
  replace hL := hide hL
  generalize (S k).isSome = is at *
  go_enter Try.func16, Try.ntmps16
  go_wp2_with fail
  refine (unhide HF).mono ?_
  rintro e W1 ⟨⟨⟨p1, n1, c1⟩, ⟨p2, n2, c2⟩⟩, rfl, e1, e2, hb⟩
  unfold rowV
  simp only
  have HC := hide (fun o => Clone_in _ _ (W1.alloc o) ((owd_below e1.row (ballc (Below.refl _ _) o)).row) (by have := vec_len (hdR S k); omega))
  rw [unhide hL] at HC
  replace hb := hide hb
  clear e1 e2 HF
  unfold sv at HC
  simp only at HC
  go_wp2_with fail
  refine (unhide HC _).mono ?_
  rintro e W2 ⟨v', rfl, ho, hb2⟩
  replace ho := hide ho
  replace hb2 := hide hb2
  go_wp2
  refine bodyPost_ret (results_tmp2 rfl _ _ _) rfl ?_
  refine ⟨v', rfl, OwD.base (unhide ho) ?_, bnext (ballc (unhide hb) _) (unhide hb2)⟩
  have := (unhide hb).size
  simp
  omega

set_option maxRecDepth 100000 in
set_option maxHeartbeats 2000000 in
theorem Usable_in {P : Nat → Prop} {w : World} {b n : Nat} {S : StF} (h : FR P w b n S) (k : Int) (hk : in64 k) :
    Calls Try.prog 18 #[.pointer (some ⟨b, 0, none⟩), .int .i64 k] w fun e W => ∃ v', e = .returned v' ∧ OwD W w.heap.size v' (vec (usR S k)) ∧ Below w.heap.size w W := by
  obtain ⟨h1, pv, h2, h3⟩ := h
  have c0 := h2.cell 0 _ rfl
  have HF := hide (find_in h3 k hk)
  clear h1 h2 h3
  obtain ⟨L, hL⟩ : ∃ L, vec (usR S k) = L := ⟨_, rfl⟩
  rw [hL]
  replace hL := hide hL
  generalize (S k).isSome = is at *
  go_enter Try.func18, Try.ntmps18
  go_wp2_with fail
  refine (unhide HF).mono ?_
  rintro e W1 ⟨⟨⟨p1, n1, c1⟩, ⟨p2, n2, c2⟩⟩, rfl, e1, e2, hb⟩
  unfold rowV
  simp only
  have HC := hide (fun o => Clone_in _ _ (W1.alloc o) ((owd_below e2.row (ballc (Below.refl _ _) o)).row) (by have := vec_len (usR S k); omega))
  rw [unhide hL] at HC
  replace hb := hide hb
  clear e1 e2 HF
  unfold sv at HC
  simp only at HC
  go_wp2_with fail
  refine (unhide HC _).mono ?_
  rintro e W2 ⟨v', rfl, ho, hb2⟩
  replace ho := hide ho
  replace hb2 := hide hb2
  go_wp2
  refine bodyPost_ret (results_tmp rfl _ _ _) rfl ?_
  refine ⟨v', rfl, OwD.base (unhide ho) ?_, bnext (ballc (unhide hb) _) (unhide hb2)⟩
  have := (unhide hb).size
  simp
  omega

theorem New_in (w : World) : Calls Try.prog 11 #[] w fun e W => e = .returned (.pointer (some ⟨w.heap.size, 0, none⟩)) ∧ FR (fun i => w.heap.size ≤ i) W w.heap.size 0 (fun _ => none) ∧ Below w.heap.size w W := by
  go_enter Try.func11, Try.ntmps11
  go_wp2
  go_ret
  exact ⟨rfl, ⟨Nat.le_refl _, _, Bx.new _ _ _, .inl ⟨rfl, fun _ => rfl⟩⟩, ballc (Below.refl _ _) _⟩
theorem Row_nil (k : Int) (w : World) : Calls Try.prog 16 #[.pointer none, .int .i64 k] w fun e W => e = .returned (.tuple #[.slice none 0 0, .bool false]) ∧ w = W := by
  go_enter Try.func16, Try.ntmps16
  go_wp2
  refine bodyPost_ret (results_tmp2 rfl _ _ _) rfl ?_
  exact ⟨rfl, rfl⟩
theorem Usable_nil (k : Int) (w : World) : Calls Try.prog 18 #[.pointer none, .int .i64 k] w fun e W => e = .returned (.slice none 0 0) ∧ w = W := by
  go_enter Try.func18, Try.ntmps18
  go_wp2
  go_ret
  exact ⟨rfl, rfl⟩

end Go.Proofs.Ytjiphechhfifgaa

/-
  Hear.
-/
set_option linter.unusedSimpArgs false
set_option linter.unusedVariables false
namespace Go.Proofs.Ytjiphechhfifgaa
open Go.RowKit Go.Lib

def rb (v : Value) (n : Nat) (k : Nat) : Prop := n ≠ 0 ∧ v.ownBlock = some k
theorem RC.kp' {N : Nat → Prop} {W W' : World} {v : Value} {n : Nat} {C : List Value} (h : RC W v n C) (k : Kp N W W') (hn : ∀ i, rb v n i → ¬ N i) : RC W' v n C := by
  rcases h with h | ⟨b, off, cap, rfl, h1, h2, hc⟩
  · exact .inl h
  · by_cases h0 : n = 0
    · subst h0; exact .inl ⟨rfl, _, _, rfl⟩
    · refine .inr ⟨b, off, cap, rfl, h1, Nat.lt_of_lt_of_le h2 k.size, fun j x hx => ?_⟩
      rw [← hc j x hx]
      unfold World.cell?
      rw [k.block b h2 (hn b ⟨h0, rfl⟩)]
theorem RI.kp' {N : Nat → Prop} {W W' : World} {v : Value} {l : List (Int × Int)} (h : RI W v l) (k : Kp N W W') (hn : ∀ i, rb v l.length i → ¬ N i) : RI W' v l := RC.kp' h k hn

def HF1A (w : World) (x2 : SV) (h : Nat → Int) (l : List (Int × Int)) (e : Ending) (W : World) : Prop := ∃ y : SV, e = .returned (rowV (y, x2)) ∧ OwD W w.heap.size (sv y) (vec (mrg h (sy l))) ∧ Below w.heap.size w W
set_option maxRecDepth 100000 in
set_option maxHeartbeats 2000000 in
theorem Hear1_in {P : Nat → Prop} (w : World) (x1 x2 : SV) (h : Nat → Int) (he : EV P w x1 h) (bv : Nat) (a : Option Addr) (c : Nat) (l : List (Int × Int)) (hx : Bx w bv 31 #[.slice a l.length c]) (hv : RI w (.slice a l.length c) l) (hl : l.length ≤ 1000000) :
    Calls Try.prog 35 #[rowV (x1, x2), .pointer (some ⟨bv, 0, none⟩)] w (HF1A w x2 h l) := by
  obtain ⟨p1, n1, c1⟩ := x1
  obtain ⟨p2, n2, c2⟩ := x2
  have hM := fun (o o' : Obj) => Merge_in _ _ (vec h) l ((w.alloc o).alloc o') (((he.row.row).below (ballc (Below.refl _ _) _)).below (ballc (Below.refl _ _) _)) ((hv.below (ballc (Below.refl _ _) _)).below (ballc (Below.refl _ _) _)) (by have := vec_len h; omega) (by omega)
  rw [sy_vec he.good] at hM
  unfold sv at hM
  simp only at hM
  have c0 := fun (o o' : Obj) => ((hx.below (ballc (Below.refl _ _) o)).below (ballc (Below.refl _ _) o')).cell 0 _ rfl
  have HM := hide hM
  have hbl := hx.lt
  generalize l.length = n at *
  clear he hx hv hM
  unfold rowV
  simp only
  go_enter Try.func35, Try.ntmps35
  go_wp2_with fail
  refine (unhide HM _ _).mono ?_
  rintro e W1 ⟨v', rfl, ho, hb⟩
  obtain ⟨a', c', rfl⟩ := OwD.form ho
  have x0 := ((Bx.new w 66 #[.slice p1 n1 c1, .slice p2 n2 c2]).below (ballc (Below.refl _ _) (.cells #[.slice none 0 0, .slice none 0 0] 66))).below hb
  have x1' := Bx.new (w.alloc (.cells #[.slice p1 n1 c1, .slice p2 n2 c2] 66)) 66 #[.slice none 0 0, .slice none 0 0]
  rw [show (w.alloc (.cells #[.slice p1 n1 c1, .slice p2 n2 c2] 66)).heap.size = w.heap.size + 1 by simp] at x1'
  have x1 := x1'.below hb
  have B1 := hide (bnext (ballc (ballc (Below.refl w.heap.size w) (.cells #[.slice p1 n1 c1, .slice p2 n2 c2] 66)) (.cells #[.slice none 0 0, .slice none 0 0] 66)) hb)
  have HO := hide ho
  have q0 := x0.cell 0 _ rfl
  have q1 := x0.cell 1 _ rfl
  have q2 := x1.cell 0 _ rfl
  have q3 := x1.cell 1 _ rfl
  have f0 := x0.frozen 0
  have f1 := x1.frozen 0
  have f2 := x1.frozen 1
  have X0 := hide x0
  have X1 := hide x1
  have hz := x1.lt
  clear ho hb x0 x1 x1' HM c0
  go_wp2
  have Y1 := (((unhide X1).setO ⟨w.heap.size, 0, none⟩ (by simp) (.slice a' (vec (mrg h (sy l))).length c')).set 0 (.slice a' (vec (mrg h (sy l))).length c')).set 1 (.slice p2 n2 c2)
  refine bodyPost_ret (results_cell_row rfl _ _ (w.heap.size + 1) _ _ _ _ rfl Y1 Try.underlying66 rfl size66) rfl ?_
  have K3 : Kp (fun k => k = w.heap.size ∨ k = w.heap.size + 1) W1 _ := ((Kp.set (N := fun k => k = w.heap.size ∨ k = w.heap.size + 1) W1 ⟨w.heap.size, 0, none⟩ (.slice a' (vec (mrg h (sy l))).length c') (.inl rfl)).trans (Kp.set (N := fun k => k = w.heap.size ∨ k = w.heap.size + 1) _ ⟨w.heap.size + 1, 0, none⟩ (.slice a' (vec (mrg h (sy l))).length c') (.inr rfl)) (fun i h => .inl h)).trans (Kp.set (N := fun k => k = w.heap.size ∨ k = w.heap.size + 1) _ ⟨w.heap.size + 1, 1, none⟩ (.slice p2 n2 c2) (.inr rfl)) (fun i h => .inl h)
  refine ⟨(a', _, c'), rfl, ?_, ?_⟩
  · exact OwD.base (owd_kp (unhide HO) K3 (fun i hi e => by have := ((unhide HO).lt i hi).1; simp at this; omega)) (by simp; omega)
  · exact K3.below (unhide B1) (fun i h => by omega)

theorem wpl_put {W W' : World} {ops : Array Oper} {rest : List Oper} {o : Oper} {a : Act} {Q : Exit → Act → World → Prop} (hg : o.guard = none) (m x v : Operand) (hop : o.op = Op.mapUpdate 62 m x v) (mv xv vv : Value) (hm : a.eval m = mv) (hx : a.eval x = xv) (hv : a.eval v = vv) (hr : (Instr.mapUpdate 62 mv xv vv).run Try.prog W = .ok () W')
    (hK : wpList Try.prog ops Q rest (a.put o.dst undef) W') : wpList Try.prog ops Q (o :: rest) a W := by
  refine wpList_plain hg fun K' hK' => ?_
  unfold Oper.wp
  simp [execOp, hop, hm, hx, hv, hr, Result.andThen]
  exact hK' _ _ hK

def UpdA (w : World) (m n : Nat) (g : Int → Option (SV × SV)) (k : Int) (x2 : SV) (h : Nat → Int) (l : List (Int × Int)) (e : Ending) (W : World) : Prop := e = .returned (.tuple #[]) ∧ ∃ y : SV, MP W m (n + 1) (putG g k (y, x2)) ∧ OwD W w.heap.size (sv y) (vec (mrg h (sy l))) ∧ Kp (fun i => i = m) w W
set_option maxRecDepth 100000 in
set_option maxHeartbeats 2000000 in
theorem update_in {P : Nat → Prop} (w : World) (m n : Nat) (g : Int → Option (SV × SV)) (hm : MP w m n g) (hn : n ≤ 1000000) (k : Int) (hk : in64 k) (x1 x2 : SV) (hx12 : (g k).getD row0 = (x1, x2)) (h : Nat → Int) (he : EV P w x1 h) (bv : Nat) (a : Option Addr) (c : Nat) (l : List (Int × Int)) (hx : Bx w bv 31 #[.slice a l.length c]) (hv : RI w (.slice a l.length c) l) (hl : l.length ≤ 1000000) :
    Calls Try.prog 34 #[.map (some m), .int .i64 k, .func (.func 35) #[] #[.pointer (some ⟨bv, 0, none⟩)]] w (UpdA w m n g k x2 h l) := by
  have hlk := hm.look hk
  rw [hx12] at hlk
  have HH := hide (Hear1_in w x1 x2 h he bv a c l hx hv hl)
  unfold rowV at hlk HH
  have Hm := hide hm
  clear hm hx12 he hx hv
  obtain ⟨p1, n1, c1⟩ := x1
  obtain ⟨p2, n2, c2⟩ := x2
  simp only at hlk HH
  go_enter Try.func34, Try.ntmps34
  go_wp2_with fail
  refine (unhide HH).mono ?_
  rintro e W1 ⟨⟨a', n', c'⟩, rfl, ho, hb⟩
  have hm1 := (unhide Hm).kp (N := fun _ => False) (Kp.of_below hb) (fun e => e)
  obtain ⟨W2, hr, hm2, hg2, hz2⟩ := hm1.put hk ((a', n', c'), (p2, n2, c2)) (by unfold maxLen; omega)
  have hlt := (unhide Hm).lt
  have HO := hide ho
  have HB := hide hb
  have Hr := hide hr
  unfold rowV at Hr ⊢
  simp only at Hr ⊢
  clear ho hb hr hlk HH hm1
  go_wp2_with (at_mapUpdate; refine wpl_put rfl _ _ _ rfl _ _ _ rfl rfl rfl (unhide Hr) ?_)
  refine bodyPost_end (results_none rfl _ _ _) rfl ?_
  have K2 : Kp (fun i => i = m) W1 W2 := Kp.of_grown hg2 (fun i hi => by cases hi; rfl)
  refine ⟨rfl, _, hm2, owd_kp (unhide HO) K2 (fun i hi e => ?_), (Kp.of_below (unhide HB)).trans K2 (fun i h => .inl h)⟩
  have := ((unhide HO).lt i hi).1
  omega

end Go.Proofs.Ytjiphechhfifgaa

/-
  Hear, whole.
-/
set_option linter.unusedSimpArgs false
set_option linter.unusedVariables false
namespace Go.Proofs.Ytjiphechhfifgaa
open Go.RowKit Go.Lib

def hearE (k : Int) (l : List (Int × Int)) : Int := if 1 ≤ k ∧ k ≤ 16 then chk l else 1
def putS (S : StF) (k : Int) (p : (Nat → Int) × (Nat → Int)) : StF := fun j => if j = k then some p else S j
def hearS (S : StF) (k : Int) (l : List (Int × Int)) : StF := if hearE k l = 0 then putS S k (mrg (hdR S k) (sy l), usR S k) else S
def HearA (P : Nat → Prop) (w : World) (b n : Nat) (S : StF) (k : Int) (l : List (Int × Int)) (e : Ending) (W : World) : Prop :=
  e = .returned (.int .i64 (hearE k l)) ∧ FR (fun i => P i ∨ w.heap.size ≤ i) W b (n + 1) (hearS S k l) ∧ Kp P w W

theorem MP.obj {W : World} {m n : Nat} {g : Int → Option (SV × SV)} (h : MP W m n g) : ∃ es cl, W.heap[m]? = some (.map es cl) := by
  obtain ⟨D, ⟨es, cl, hb, _⟩, _⟩ := h
  exact ⟨es, cl, hb⟩
theorem own_ne_map {W : World} {B E k n m z : Nat} {v : Value} {C : List Value} {g : Int → Option (SV × SV)} (h : W.ownsRow B E k v n C) (hm : MP W m z g) : v.ownBlock ≠ some m := fun e => by
  obtain ⟨c, fz, hc⟩ := ownsRow_kind h m e
  obtain ⟨es, cl, hb⟩ := hm.obj
  rw [hb] at hc
  cases hc
theorem Bx.ne_map {W : World} {b m z : Nat} {t : TypeId} {vs : Array Value} {g : Int → Option (SV × SV)} (h : Bx W b t vs) (hm : MP W m z g) : b ≠ m := fun e => by
  obtain ⟨es, cl, hb⟩ := hm.obj
  unfold Bx at h
  rw [e, hb] at h
  cases h
theorem EV.kpm {P : Nat → Prop} {w W : World} {x : SV} {s : Nat → Int} {m n : Nat} {g : Int → Option (SV × SV)} (h : EV P w x s) (hm : MP w m n g) (k : Kp (fun i => i = m) w W) : EV P W x s := ⟨owd_kp h.row k (fun i hi e => own_ne_map h.row hm (by rw [hi, e])), h.pk, h.good⟩
theorem FA.put {P P' : Nat → Prop} {w W : World} {r m n n' : Nat} {g : Int → Option (SV × SV)} {S : StF} (h : FA P w r m n g S) (k : Int) (hk : 1 ≤ k ∧ k ≤ 16) (y x2 : SV) (s : Nat → Int) (u : Nat → Int) (hy : EV P' W y s) (hu : EV P' W x2 u) (hm : MP W m n' (putG g k (y, x2))) (hK : Kp (fun i => i = m) w W) (hp : ∀ i, P i → P' i) : FA P' W r m n' (putG g k (y, x2)) (putS S k (s, u)) := by
  refine ⟨h.rb.kp hK (h.rb.ne_map h.mp), hm, fun j hj => ?_, fun j a b hj => ?_, hp _ h.pr, hp _ h.pm, fun j hj => ?_⟩
  · unfold putS at hj
    unfold putG
    split at hj
    · cases hj
    · rename_i e; rw [if_neg e]; exact h.no j hj
  · unfold putS at hj
    unfold putG
    split at hj
    · rename_i e
      rw [if_pos e]
      cases hj
      exact ⟨_, rfl, hy, hu⟩
    · rename_i e
      rw [if_neg e]
      obtain ⟨x, h1, h2, h3⟩ := h.yes j a b hj
      exact ⟨x, h1, (h2.kpm h.mp hK).mono hp, (h3.kpm h.mp hK).mono hp⟩
  · unfold putS at hj
    split at hj
    · rename_i e; subst e; exact hk
    · exact h.site j hj


theorem hearE_no {k : Int} (h : ¬ (1 ≤ k ∧ k ≤ 16)) (l : List (Int × Int)) : hearE k l = 1 := by unfold hearE; rw [if_neg h]
theorem hearE_is {k : Int} (h : 1 ≤ k ∧ k ≤ 16) (l : List (Int × Int)) : hearE k l = chk l := by unfold hearE; rw [if_pos h]
theorem hearS_no {k : Int} {l : List (Int × Int)} (h : hearE k l ≠ 0) (S : StF) : hearS S k l = S := by unfold hearS; rw [if_neg h]
theorem hearS_is {k : Int} {l : List (Int × Int)} (h : hearE k l = 0) (S : StF) : hearS S k l = putS S k (mrg (hdR S k) (sy l), usR S k) := by unfold hearS; rw [if_pos h]
theorem FQ.more {P : Nat → Prop} {W : World} {pv : Value} {n n' : Nat} {S : StF} (h : FQ P W pv n S) (hn : n ≤ n') : FQ P W pv n' S := by
  rcases h with h | ⟨r, m, g, e, h⟩
  · exact .inl h
  · exact .inr ⟨r, m, g, e, ⟨h.rb, h.mp.mono hn, h.no, h.yes, h.pr, h.pm, h.site⟩⟩
theorem FR.more {P : Nat → Prop} {W : World} {b n n' : Nat} {S : StF} (h : FR P W b n S) (hn : n ≤ n') : FR P W b n' S := by
  obtain ⟨h1, pv, h2, h3⟩ := h
  exact ⟨h1, pv, h2, h3.more hn⟩
theorem HearA.same {P : Nat → Prop} {w W : World} {b n : Nat} {S : StF} {k : Int} {l : List (Int × Int)} (h : FR P w b n S) (he : hearE k l ≠ 0) (hb : Below w.heap.size w W) : HearA P w b n S k l (.returned (.int .i64 (hearE k l))) W :=
  ⟨rfl, by rw [hearS_no he]; exact ((h.below hb).mono (fun _ h => .inl h)).more (by omega), Kp.of_below hb⟩

set_option maxRecDepth 100000 in
set_option maxHeartbeats 4000000 in
theorem Hear_in {P : Nat → Prop} {w : World} {b n : Nat} {S : StF} (h : FR P w b n S) (hP : ∀ i, P i → i < w.heap.size) (hn : n ≤ 999999) (k : Int) (hk : in64 k) (v : Value) (l : List (Int × Int)) (hv : RI w v l) (hl : l.length ≤ 1000000) (hap : ∀ i, rb v l.length i → ¬ P i) :
    Calls Try.prog 17 #[.pointer (some ⟨b, 0, none⟩), .int .i64 k, v] w (HearA P w b n S k l) := by
  obtain ⟨a, c, rfl⟩ := hv.form
  have HH := hide h
  have HC := hide (fun o => Check_in _ l (w.alloc o) (hv.below (ballc (Below.refl _ _) o)) (by omega))
  by_cases h1 : 1 ≤ k
  rotate_left
  · have hE := hearE_no (k := k) (by omega) l
    have h1' : k < 1 := by omega
    have HE := hide hE
    clear h hv hE HC
    go_enter Try.func17, Try.ntmps17
    go_wp2
    go_ret
    have := HearA.same (unhide HH) (by rw [unhide HE]; decide) (ballc (Below.refl w.heap.size w) (.cells #[.slice a l.length c] 31)) (k := k) (l := l)
    rw [unhide HE] at this
    exact this
  by_cases h2 : k ≤ 16
  rotate_left
  · have hE := hearE_no (k := k) (by omega) l
    have h1' : ¬ k < 1 := by omega
    have h2' : 16 < k := by omega
    have HE := hide hE
    clear h hv hE HC h1 h2
    go_enter Try.func17, Try.ntmps17
    go_wp2
    go_ret
    have := HearA.same (unhide HH) (by rw [unhide HE]; decide) (ballc (Below.refl w.heap.size w) (.cells #[.slice a l.length c] 31)) (k := k) (l := l)
    rw [unhide HE] at this
    exact this
  have h1' : ¬ k < 1 := by omega
  have h2' : ¬ 16 < k := by omega
  have HE := hide (hearE_is (k := k) ⟨h1, h2⟩ l)
  obtain ⟨ck, hck⟩ : ∃ ck, chk l = ck := ⟨_, rfl⟩
  rw [hck] at HE HC
  have Hsite : Hid (1 ≤ k ∧ k ≤ 16) := ⟨h1, h2⟩
  clear h1 h2 hck
  by_cases h0 : ck = 0
  rotate_left
  · have h0' : (ck == 0) = false := by simpa using h0
    clear h hv
    go_enter Try.func17, Try.ntmps17
    go_wp2_with fail
    refine (unhide HC _).mono ?_
    rintro e W1 ⟨rfl, hb⟩
    have HB := hide (bnext (ballc (Below.refl w.heap.size w) _) hb)
    clear HC hb
    go_wp2
    go_ret
    have := HearA.same (unhide HH) (by rw [unhide HE]; exact h0) (unhide HB) (k := k) (l := l)
    rw [unhide HE] at this
    exact this
  subst h0
  obtain ⟨hpb, pv, hbx, hq⟩ := h
  rcases hq with ⟨rfl, hS⟩ | ⟨r, m, g, rfl, hA⟩
  · have Hv := hide hv
    have Hbx := hide hbx
    have hmm := @run_makeMap Try.prog
    have hbl := hbx.lt
    have HS := hide hS
    clear hv hbx hS
    go_enter Try.func17, Try.ntmps17
    go_wp2_with fail
    refine (unhide HC _).mono ?_
    rintro e W1 ⟨rfl, hb⟩
    have xv := hide ((Bx.new w 31 #[.slice a l.length c]).below hb)
    have hb1 := bnext (ballc (Below.refl w.heap.size w) _) hb
    have c0 := ((unhide Hbx).below hb1).cell 0 _ rfl
    have f0 := ((unhide Hbx).below hb1).frozen 0
    have c0a := fun (o o' : Obj) => ((((unhide Hbx).below hb1).below (ballc (Below.refl _ _) o)).below (ballc (Below.refl _ _) o')).cell 0 _ rfl
    have f0a := fun (o o' : Obj) => ((((unhide Hbx).below hb1).below (ballc (Below.refl _ _) o)).below (ballc (Below.refl _ _) o')).frozen 0
    have hz1 := hb1.size
    obtain ⟨X, hX⟩ : ∃ X, ((W1.alloc (.map #[] 0)).alloc (.cells #[.map (some W1.heap.size)] 64)).setCell ⟨b, 0, none⟩ (.pointer (some ⟨W1.heap.size + 1, 0, none⟩)) = X := ⟨_, rfl⟩
    have al : Below W1.heap.size W1 ((W1.alloc (.map #[] 0)).alloc (.cells #[.map (some W1.heap.size)] 64)) := ballc (ballc (Below.refl _ _) _) _
    have KX : Kp (fun i => i = b) W1 X := by rw [← hX]; exact (Kp.of_below (N := fun i => i = b) al).trans (Kp.set (N := fun i => i = b) _ ⟨b, 0, none⟩ _ rfl) (fun i h => .inl h)
    have bX : Bx X b 38 #[.pointer (some ⟨W1.heap.size + 1, 0, none⟩)] := by rw [← hX]; simpa using (((unhide Hbx).below hb1).below al).set 0 (.pointer (some ⟨W1.heap.size + 1, 0, none⟩))
    have rX : Bx X (W1.heap.size + 1) 64 #[.map (some W1.heap.size)] := by
      have q := Bx.new (W1.alloc (.map #[] 0)) 64 #[.map (some W1.heap.size)]
      rw [show (W1.alloc (.map #[] 0)).heap.size = W1.heap.size + 1 by simp] at q
      rw [← hX]; exact q.setO _ (by show W1.heap.size + 1 ≠ b; omega) _
    have mX : MP X W1.heap.size 0 (fun _ => none) := by
      rw [← hX]
      exact ((MP.made W1).kp (N := fun i => i = b) ((Kp.of_below (ballc (Below.refl _ _) _)).trans (Kp.set (N := fun i => i = b) _ ⟨b, 0, none⟩ _ rfl) (fun i h => .inl h)) (by omega))
    have c1 := bX.cell 0 _ rfl
    have c2 := rX.cell 0 _ rfl
    have xX := (unhide xv).kp KX (by omega)
    have vX : RI X (.slice a l.length c) l := RI.kp' ((unhide Hv).below hb1) KX (fun i hi e => hap i hi (by rw [e]; exact hpb))
    have HU := hide (update_in (P := P) X W1.heap.size 0 _ mX (by omega) k hk _ _ rfl _ (EV.none P X) w.heap.size a c l xX vX hl)
    have HB := hide hb1
    have HX := hide (And.intro KX (And.intro bX (And.intro rX mX)))
    have zX : W1.heap.size + 1 < X.heap.size := rX.lt
    clear HC hb hb1 KX bX rX mX al xX vX
    go_wp2_with fail
    refine (unhide HU).mono ?_
    rintro e W2 ⟨rfl, y, hm, ho, hK⟩
    have R : Hid (HearA P w b n S k l (.returned (.int .i64 0)) W2) := by
      obtain ⟨KX, bX, rX, mX⟩ := unhide HX
      have kk : Kp P w W2 := ((Kp.of_below (unhide HB)).trans KX (fun i h => .inl (by rw [h]; exact hpb))).trans hK (fun i h => .inr (by omega))
      have hs0 : hearE k l = 0 := unhide HE
      refine ⟨by rw [hs0], ⟨.inl hpb, _, bX.kp hK (bX.ne_map mX), .inr ⟨W1.heap.size + 1, W1.heap.size, putG (fun _ => none) k (y, (none, 0, 0)), rfl, ?_⟩⟩, kk⟩
      rw [hearS_is hs0]
      have eS : S = fun _ => none := funext (unhide HS)
      have fa : FA (fun i => P i ∨ w.heap.size ≤ i) X (W1.heap.size + 1) W1.heap.size n (fun _ => none) S := ⟨rX, mX.mono (by omega), fun _ _ => rfl, fun j a b hj => (by rw [eS] at hj; cases hj), .inr (by omega), .inr (by omega), fun j hj => (by rw [eS] at hj; cases hj)⟩
      have h1 : hdR S k = fun _ => 0 := by unfold hdR; rw [unhide HS k]; rfl
      have h2 : usR S k = fun _ => 0 := by unfold usR; rw [unhide HS k]; rfl
      rw [h1, h2]
      refine FA.put fa k (unhide Hsite) y (none, 0, 0) _ _ ⟨ho.b0, fun i hi => .inr ?_, Good.none.mrg (sy_good l)⟩ (EV.none _ _) (hm.mono (by omega)) hK (fun i h => h)
      have := (ho.lt i hi).1
      omega
    clear hm ho hK HU
    go_wp2
    go_ret
    exact unhide R
  · obtain ⟨⟨x1, x2⟩, hx, hs, e1, e2⟩ := hA.at k
    simp only at e1 e2
    have Hv := hide hv
    have HA := hide hA
    have Hbx := hide hbx
    have Hx := hide hx
    have E1 := hide e1
    have E2 := hide e2
    clear hv hx hs e1 e2 hA hbx
    go_enter Try.func17, Try.ntmps17
    go_wp2_with fail
    refine (unhide HC _).mono ?_
    rintro e W1 ⟨rfl, hb⟩
    have xv := (Bx.new w 31 #[.slice a l.length c]).below hb
    have hb1 := bnext (ballc (Below.refl w.heap.size w) _) hb
    have c0 := ((unhide Hbx).below hb1).cell 0 _ rfl
    have c1 := ((unhide HA).rb.below hb1).cell 0 _ rfl
    have HU := hide (update_in (P := P) W1 m n g ((unhide HA).mp.kp (N := fun _ => False) (Kp.of_below hb1) (fun e => e)) (by omega) k hk x1 x2 (unhide Hx) _ ((unhide E1).below hb1) w.heap.size a c l xv ((unhide Hv).below hb1) hl)
    have HB := hide hb1
    clear HC hb hb1 xv
    go_wp2_with fail
    refine (unhide HU).mono ?_
    rintro e W2 ⟨rfl, y, hm, ho, hK⟩
    have R : Hid (HearA P w b n S k l (.returned (.int .i64 0)) W2) := by
      have hz := (unhide HB).size
      have kk : Kp P w W2 := (Kp.of_below (unhide HB)).trans hK (fun i h => .inl (by rw [h]; exact (unhide HA).pm))
      have hs0 : hearE k l = 0 := unhide HE
      refine ⟨by rw [hs0], ⟨.inl hpb, _, ((unhide Hbx).below (unhide HB)).kp hK (((unhide Hbx).below (unhide HB)).ne_map ((unhide HA).mp.kp (N := fun _ => False) (Kp.of_below (unhide HB)) (fun e => e))), .inr ⟨r, m, putG g k (y, x2), rfl, ?_⟩⟩, kk⟩
      rw [hearS_is hs0]
      have fa := (unhide HA).kp (N := fun _ => False) (Kp.of_below (unhide HB)) (fun _ h => h.elim)
      have e2 := ((unhide E2).below (unhide HB)).kpm fa.mp hK
      refine FA.put fa k (unhide Hsite) y x2 _ _ ⟨ho.b0, fun i hi => .inr ?_, (unhide E1).good.mrg (sy_good l)⟩ (e2.mono (fun i h => .inl h)) hm hK (fun i h => .inl h)
      have := (ho.lt i hi).1
      omega
    clear hm ho hK HU
    go_wp2
    go_ret
    exact unhide R

end Go.Proofs.Ytjiphechhfifgaa
