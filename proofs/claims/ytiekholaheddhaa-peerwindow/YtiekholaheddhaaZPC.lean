/-
  A Peer in memory: New, Got, Credit, Flight, Send; of none.
-/
import Derived.Test.YtiekholaheddhaaZPB
import Derived.Lib.MinMax
import Derived.Deep.RegionLaw
set_option linter.unusedSimpArgs false
set_option linter.unusedVariables false
namespace Go.Proofs.Ytiekholaheddhaa
open Go.RowKit Go.Lib

/-- the cells of a Peer -/
def pC (s : St) (v : Value) : Array Value := #[.int .i64 s.wd, .int .i64 s.ps, .int .i64 s.la, v, .int .i64 s.gt, .int .i64 s.cr]
/-- a Peer (of the program, or of the document) in blocks of which P holds -/
structure PM (P : Nat → Prop) (W : World) (t : TypeId) (b : Nat) (v : Value) (s : St) : Prop where
  pb : P b
  bx : Bx W b t (pC s v)
  row : RdN W v s.fl
  pk : ∀ k, v.ownBlock = some k → P k
  gd : Gd s
def PL (P : Nat → Prop) (W : World) (t : TypeId) (b : Nat) (s : St) : Prop := ∃ v, PM P W t b v s
variable {P N : Nat → Prop} {w W W' : World} {t : TypeId} {b : Nat} {v : Value} {s : St}
theorem PM.kp (h : PM P W t b v s) (k : Kp N W W') (hn : ∀ i, N i → ¬ P i) : PM P W' t b v s := ⟨h.pb, h.bx.kp k (fun e => hn _ e h.pb), h.row.kp k (fun i hi e => hn i e (h.pk i hi)), h.pk, h.gd⟩
theorem PM.mono {P' : Nat → Prop} (h : PM P W t b v s) (hp : ∀ i, P i → P' i) : PM P' W t b v s := ⟨hp _ h.pb, h.bx, h.row, fun k hk => hp k (h.pk k hk), h.gd⟩
theorem PM.lt (h : PM P W t b v s) : PM (fun i => P i ∧ i < W.heap.size) W t b v s := ⟨⟨h.pb, h.bx.lt⟩, h.bx, h.row, fun k hk => ⟨h.pk k hk, h.row.lt k hk⟩, h.gd⟩
theorem PL.kp (h : PL P W t b s) (k : Kp N W W') (hn : ∀ i, N i → ¬ P i) : PL P W' t b s := by obtain ⟨v, h⟩ := h; exact ⟨v, h.kp k hn⟩
theorem PL.below (h : PL P W t b s) (hb : Below W.heap.size W W') : PL P W' t b s := h.kp (N := fun _ => False) (Kp.of_below hb) (fun _ h => h.elim)
theorem PL.mono {P' : Nat → Prop} (h : PL P W t b s) (hp : ∀ i, P i → P' i) : PL P' W t b s := by obtain ⟨v, h⟩ := h; exact ⟨v, h.mono hp⟩
theorem PL.lt (h : PL P W t b s) : PL (fun i => P i ∧ i < W.heap.size) W t b s := by obtain ⟨v, h⟩ := h; exact ⟨v, h.lt⟩
theorem PL.gd (h : PL P W t b s) : Gd s := by obtain ⟨v, h⟩ := h; exact h.gd
theorem PM.c0 (h : PM P W t b v s) : W.cell? ⟨b, 0, none⟩ = some (.int .i64 s.wd) := h.bx.cell 0 _ rfl
theorem PM.c1 (h : PM P W t b v s) : W.cell? ⟨b, 1, none⟩ = some (.int .i64 s.ps) := h.bx.cell 1 _ rfl
theorem PM.c2 (h : PM P W t b v s) : W.cell? ⟨b, 2, none⟩ = some (.int .i64 s.la) := h.bx.cell 2 _ rfl
theorem PM.c3 (h : PM P W t b v s) : W.cell? ⟨b, 3, none⟩ = some v := h.bx.cell 3 _ rfl
theorem PM.c4 (h : PM P W t b v s) : W.cell? ⟨b, 4, none⟩ = some (.int .i64 s.gt) := h.bx.cell 4 _ rfl
theorem PM.c5 (h : PM P W t b v s) : W.cell? ⟨b, 5, none⟩ = some (.int .i64 s.cr) := h.bx.cell 5 _ rfl
theorem PM.fz (h : PM P W t b v s) (j : Nat) : W.frozen? ⟨b, j, none⟩ = false := h.bx.frozen j
theorem PM.len (h : PM P W t b v s) : s.fl.length ≤ 64 := by have := h.gd.ln; have := h.gd.w1; omega
/-- what a call that changes a Peer answers and leaves -/
def CP (P : Nat → Prop) (w : World) (t : TypeId) (b : Nat) (s : St) (u : Value) (e : Ending) (W : World) : Prop := e = .returned u ∧ PL (fun i => P i ∨ w.heap.size ≤ i) W t b s ∧ Kp P w W
/-- what New answers -/
def NewA (w : World) (t : TypeId) (x y : Int) (e : Ending) (W : World) : Prop := Below w.heap.size w W ∧ ((newB x y = true ∧ e = .returned (.tuple #[.pointer (some ⟨w.heap.size, 0, none⟩), .int .i64 0]) ∧ PL (fun i => w.heap.size ≤ i) W t w.heap.size (newS x y)) ∨ (newB x y = false ∧ e = .returned (.tuple #[.pointer none, .int .i64 1])))
theorem pl_new (w : World) (t : TypeId) {x y : Int} (h : newB x y = true) : PL (fun i => w.heap.size ≤ i) (w.alloc (.cells #[.int .i64 x, .int .i64 y, .int .i64 0, .slice none 0 0, .int .i64 0, .int .i64 y] t)) t w.heap.size (newS x y) := ⟨.slice none 0 0, Nat.le_refl _, Bx.new _ _ _, RdN.nil _, fun k hk => (by cases hk), Gd.new h⟩
theorem pl_zero (w : World) (t : TypeId) : PL (fun i => w.heap.size ≤ i) (w.alloc (.cells #[.int .i64 0, .int .i64 0, .int .i64 0, .slice none 0 0, .int .i64 0, .int .i64 0] t)) t w.heap.size zerS := ⟨.slice none 0 0, Nat.le_refl _, Bx.new _ _ _, RdN.nil _, fun k hk => (by cases hk), Gd.zer⟩
set_option maxRecDepth 100000 in
set_option maxHeartbeats 2000000 in
theorem New_in (x y : Int) (w : World) : Calls Try.prog 9 #[.int .i64 x, .int .i64 y] w (NewA w 39 x y) := by
  by_cases h : newB x y = true
  · have hp := hide (pl_new w 39 h)
    have HB := hide h
    unfold newB at h
    have h := of_decide_eq_true h
    obtain ⟨X, hX⟩ : ∃ X, w.alloc (.cells #[.int .i64 x, .int .i64 y, .int .i64 0, .slice none 0 0, .int .i64 0, .int .i64 y] 39) = X := ⟨_, rfl⟩
    have bb := hide (show Below w.heap.size w X by rw [← hX]; exact ballc (Below.refl _ _) _)
    rw [hX] at hp
    obtain ⟨h1, h2, h3, h4⟩ := h
    have h1' : ¬ x < 1 := by omega
    have h2' : ¬ 64 < x := by omega
    have h3' : ¬ y < 1 := by omega
    have h4' : ¬ 256 < y := by omega
    clear h1 h2 h3 h4
    go_enter Try.func9, Try.ntmps9
    go_wp2
    refine bodyPost_ret (results_tmp2 rfl _ _ _) rfl ?_
    exact ⟨unhide bb, .inl ⟨unhide HB, rfl, unhide hp⟩⟩
  · have HB := hide (show newB x y = false by simpa using h)
    unfold newB at h
    have h : ¬ (1 ≤ x ∧ x ≤ 64 ∧ 1 ≤ y ∧ y ≤ 256) := fun e => h (decide_eq_true e)
    by_cases h1 : x < 1
    · clear h
      go_enter Try.func9, Try.ntmps9
      go_wp2
      refine bodyPost_ret (results_tmp2 rfl _ _ _) rfl ?_
      exact ⟨Below.refl _ _, .inr ⟨unhide HB, rfl⟩⟩
    by_cases h2 : 64 < x
    · clear h
      go_enter Try.func9, Try.ntmps9
      go_wp2
      refine bodyPost_ret (results_tmp2 rfl _ _ _) rfl ?_
      exact ⟨Below.refl _ _, .inr ⟨unhide HB, rfl⟩⟩
    by_cases h3 : y < 1
    · clear h
      go_enter Try.func9, Try.ntmps9
      go_wp2
      refine bodyPost_ret (results_tmp2 rfl _ _ _) rfl ?_
      exact ⟨Below.refl _ _, .inr ⟨unhide HB, rfl⟩⟩
    · have h4 : 256 < y := by omega
      clear h
      go_enter Try.func9, Try.ntmps9
      go_wp2
      refine bodyPost_ret (results_tmp2 rfl _ _ _) rfl ?_
      exact ⟨Below.refl _ _, .inr ⟨unhide HB, rfl⟩⟩
theorem Got_in (h : PL P w 39 b s) : Calls Try.prog 17 #[.pointer (some ⟨b, 0, none⟩)] w fun e W => e = .returned (.int .i64 s.gt) ∧ w = W := by
  obtain ⟨v, h⟩ := h
  have c4 := h.c4
  clear h
  go_enter Try.func17, Try.ntmps17
  go_wp2
  go_ret
  exact ⟨rfl, rfl⟩
theorem Got_nil (w : World) : Calls Try.prog 17 #[.pointer none] w fun e W => e = .returned (.int .i64 0) ∧ w = W := by
  go_enter Try.func17, Try.ntmps17
  go_wp2
  go_ret
  exact ⟨rfl, rfl⟩
theorem Credit_in (h : PL P w 39 b s) : Calls Try.prog 18 #[.pointer (some ⟨b, 0, none⟩)] w fun e W => e = .returned (.int .i64 s.cr) ∧ w = W := by
  obtain ⟨v, h⟩ := h
  have c5 := h.c5
  clear h
  go_enter Try.func18, Try.ntmps18
  go_wp2
  go_ret
  exact ⟨rfl, rfl⟩
theorem Credit_nil (w : World) : Calls Try.prog 18 #[.pointer none] w fun e W => e = .returned (.int .i64 0) ∧ w = W := by
  go_enter Try.func18, Try.ntmps18
  go_wp2
  go_ret
  exact ⟨rfl, rfl⟩
theorem nC_one (l : List Int) : ∀ u ∈ nC l, u.oneCell' = true := fun u hu => by
  unfold nC at hu
  obtain ⟨x, _, rfl⟩ := List.mem_map.1 hu
  rfl
/-- slices.Clone of what is not nil -/
theorem clone_at (ad : Addr) (c : Nat) (l : List Int) (w : World) (hl : l.length ≤ 1000000) (hc : ∀ j x, (nC l)[j]? = some x → w.cell? (ad.add j) = some x) :
    Calls Try.prog 29 #[.slice (some ad) l.length c] w fun e W => ∃ v', e = .returned v' ∧ OwN W w.heap.size v' l ∧ Below w.heap.size w W := by
  obtain ⟨i0, hi, hz0, hz1, hz2⟩ := info_parts infoN
  have q22 : ∀ (w : World) (a : Option Addr) (n c n' c' : Nat), (binOp .eql 37 (.slice a n c) (.slice none n' c')).run Try.prog w = .ok (.bool a.isNone) w := fun w a n c n' c' => Lib.run_eql_slice_nil w _ _ a n c n' c' Try.underlying37
  have A := hide hc
  clear hc
  obtain ⟨n, hn⟩ : ∃ n, l.length = n := ⟨_, rfl⟩
  have Hn := hide hn
  rw [hn] at hl ⊢
  clear hn
  go_enter Try.func29, Try.ntmps29
  go_wp2_with (at_builtin; refine wpList_append_own _ rfl _ _ 37 rfl w.heap.size 3 i0 _ 1 8 Try.underlying37 hi hz0 hz1 hz2 rfl (by omega) _ _ _ rfl (World.ownsRow_made w #[] 0 (Nat.le_refl _) (Nat.zero_le _) (by simp)) ad n c (nC l) rfl ?qc1 ?qc2 ?qc3 ?qc4 ?qc5 ?qc6 ?_)
  case qc1 => rw [nC_len, unhide Hn]; omega
  case qc2 =>
    intro j u hj
    exact Lib.cell?_alloc_some _ (unhide A j u hj)
  case qc3 => exact nC_one l
  case qc4 => unfold maxLen; omega
  case qc5 => omega
  case qc6 => simp
  intro v' w1 hown hgrow hnil
  go_wp2
  go_ret
  have e := unhide Hn
  refine ⟨v', rfl, ?_, ?_⟩
  · subst e; unfold OwN; simpa using hown
  · exact ((Below.refl _ w).alloc (Nat.le_refl _) _).grown hgrow (by simp) (by intro k hk; simp [Value.ownBlock] at hk; omega)
/-- slices.Clone -/
theorem Clone_in (v : Value) (l : List Int) (w : World) (h : RN w v l) (hl : l.length ≤ 1000000) :
    Calls Try.prog 29 #[v] w fun e W => ∃ v', e = .returned v' ∧ OwN W w.heap.size v' l ∧ Below w.heap.size w W := by
  rcases h with ⟨h0, a, cap, rfl⟩ | ⟨b, off, cap, rfl, _, _, hc⟩
  · have e : l = [] := List.eq_nil_of_length_eq_zero h0
    subst e
    rcases a with _ | ad
    · have q22 : ∀ (w : World) (a : Option Addr) (n c n' c' : Nat), (binOp .eql 37 (.slice a n c) (.slice none n' c')).run Try.prog w = .ok (.bool a.isNone) w := fun w a n c n' c' => Lib.run_eql_slice_nil w _ _ a n c n' c' Try.underlying37
      go_enter Try.func29, Try.ntmps29
      go_wp2
      go_ret
      exact ⟨_, rfl, World.ownsRow_nil _ _ _ _, Below.refl _ _⟩
    · exact clone_at ad cap [] w (by simp) (fun j x hx => by simp [nC] at hx)
  · exact clone_at ⟨b, off, none⟩ cap l w hl (fun j x hx => by rw [Addr.add_lit]; exact hc j x hx)
/-- what Flight answers -/
def FlA (w : World) (l : List Int) (e : Ending) (W : World) : Prop := ∃ a c, e = .returned (.slice a l.length c) ∧ OwN W w.heap.size (.slice a l.length c) l ∧ Below w.heap.size w W
set_option maxRecDepth 100000 in
theorem Flight_in (h : PL P w 39 b s) : Calls Try.prog 16 #[.pointer (some ⟨b, 0, none⟩)] w (FlA w s.fl) := by
  obtain ⟨v, h⟩ := h
  have c3 := h.c3
  have HC := hide (Clone_in v s.fl w h.row.rn (by have := h.len; omega))
  obtain ⟨a, c, rfl, _⟩ := h.row.form
  clear h
  generalize s.fl = l at *
  go_enter Try.func16, Try.ntmps16
  go_wp2_with fail
  refine (unhide HC).mono ?_
  rintro e W1 ⟨v', rfl, ho, hb⟩
  obtain ⟨a', c', rfl⟩ := ho.form
  replace ho := hide ho
  replace hb := hide hb
  clear HC
  go_wp2
  go_ret
  exact ⟨_, _, rfl, unhide ho, unhide hb⟩
theorem Flight_nil (w : World) : Calls Try.prog 16 #[.pointer none] w fun e W => e = .returned (.slice none 0 0) ∧ w = W := by
  go_enter Try.func16, Try.ntmps16
  go_wp2
  go_ret
  exact ⟨rfl, rfl⟩
theorem Send_nil (k : Int) (w : World) : Calls Try.prog 14 #[.pointer none, .int .i64 k] w fun e W => e = .returned (.tuple #[.int .i64 0, .int .i64 0]) ∧ w = W := by
  go_enter Try.func14, Try.ntmps14
  go_wp2
  refine bodyPost_ret (results_tmp2 rfl _ _ _) rfl ?_
  exact ⟨rfl, rfl⟩
theorem Heard_nil (n g c : Int) (w : World) : Calls Try.prog 15 #[.pointer none, .int .i64 n, .int .i64 g, .int .i64 c] w fun e W => e = .returned (.bool false) ∧ w = W := by
  go_enter Try.func15, Try.ntmps15
  go_wp2
  go_ret
  exact ⟨rfl, rfl⟩
theorem Clear_nil (w : World) : Calls Try.prog 13 #[.pointer none] w fun e W => e = .returned (.tuple #[]) ∧ w = W := by
  go_enter Try.func13, Try.ntmps13
  go_wp2
  refine bodyPost_end (results_none rfl _ _ _) rfl ?_
  exact ⟨rfl, rfl⟩

end Go.Proofs.Ytiekholaheddhaa
