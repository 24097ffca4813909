/-
  The document's own Net: twin, told, New, site, place, changes.
-/
import Derived.Test.YteomalmflebkhaaZNT
set_option linter.unusedSimpArgs false
set_option linter.unusedVariables false
namespace Go.Proofs.Yteomalmflebkhaa
open Go.RowKit Go.Lib

/-- append(nil, l...) -/
theorem app_nil (TS E : TypeId) (k bytes : Nat) (z : Value) (ht : Try.prog.underlying TS = some (.slice E)) (hinf : (Try.prog.info? E).map (fun i => (i.zero, i.size, i.bytes)) = some (some z, k, bytes)) (hzs : z.cells.size = k) (k0 : 0 < k)
    (w : World) (base : Nat) (ty : TypeId) (v : Value) (n : Nat) (C : List Value) (h : RC w v n C) (hC : C.length = n * k) (h1 : ∀ u ∈ C, u.oneCell' = true) (hb : base ≤ w.heap.size) (hn : n ≤ maxLen) (hby : n * bytes ≤ 140737488355328) :
    ∃ v' w', (Builtin.append_ #[TS, TS] ty #[.slice none 0 0, v]).run Try.prog w = .ok v' w' ∧ w'.ownsRow base E k v' n C ∧ w.grownBy w' none := by
  obtain ⟨i0, hi, hz0, hz1, hz2⟩ := info_parts hinf
  have step : ∀ (ad : Addr) (cc : Nat), v = .slice (some ad) n cc → (∀ j x, C[j]? = some x → w.cell? (ad.add j) = some x) → ∃ v' w', (Builtin.append_ #[TS, TS] ty #[.slice none 0 0, v]).run Try.prog w = .ok v' w' ∧ w'.ownsRow base E k v' n C ∧ w.grownBy w' none := by
    rintro ad cc rfl hc
    obtain ⟨v', w', q1, q2, q3, _⟩ := run_append_own (P := Try.prog) w base TS ty E i0 z k bytes ht hi hz0 hz1 hz2 hzs k0 (.slice none 0 0) 0 [] (World.ownsRow_nil _ _ _ _) ad n cc C hC hc h1 (by omega) (by rw [Nat.zero_add]; exact hby) hb
    exact ⟨v', w', q1, by simpa using q2, q3⟩
  rcases h with ⟨h0, a, cap, rfl⟩ | ⟨b, off, cap, rfl, _, _, hc⟩
  · subst h0
    have e : C = [] := List.eq_nil_of_length_eq_zero (by simpa using hC)
    subst e
    cases a with
    | some ad => exact step ad cap rfl (fun j x hx => by simp at hx)
    | none =>
      refine ⟨.slice none 0 0, w, ?_, World.ownsRow_nil _ _ _ _, ⟨rfl, rfl, rfl, Nat.le_refl _, fun _ _ _ => rfl⟩⟩
      simp [Builtin.append_, run_underlying ht, sizeOf, typeInfo, hi, Builtin.lenOf, Builtin.firstCells, storeCells]
  · exact step ⟨b, off, none⟩ cap rfl (fun j x hx => by rw [Addr.add_lit]; exact hc j x hx)
variable {P N : Nat → Prop} {w W W' : World} {b p f : Nat} {c : Cp} {s : Stn} {v u : Value}
theorem rtwin_in (v : Value) (l : List Int) (w : World) (h : RB w v l) (hl : l.length ≤ 1000000) : Calls Try.prog 50 #[v] w (NewB w 5 l) := by
  obtain ⟨v', W', h1, h2, h3⟩ := app_nil 30 5 1 1 _ Try.underlying30 infoB rfl (by decide) w w.heap.size 30 v l.length (bC l) h (by rw [bC_len, Nat.mul_one]) (bC_one l) (Nat.le_refl _) (by unfold maxLen; omega) (by omega)
  obtain ⟨a, k, e⟩ := owns_form h2
  subst e
  have HO := hide h2
  have HB := hide ((Below.refl w.heap.size w).grown h3 (Nat.le_refl _) (fun k hk => by cases hk))
  have HR := hide h1
  obtain ⟨a0, k0, rfl⟩ := h.form
  clear h h1 h2 h3
  go_enter Try.func50, Try.ntmps50
  go_wp2_with (at_builtin; refine wpList_append_eq rfl _ _ 30 30 rfl _ _ _ _ rfl rfl (unhide HR) ?_)
  go_ret
  exact ⟨_, _, rfl, unhide HO, unhide HB⟩
set_option maxRecDepth 100000 in
set_option maxHeartbeats 2000000 in
theorem rtold_in (c : Cp) (v : Value) (w : World) (h : RB w v c.dat) (hl : c.dat.length ≤ 1000000) : Calls Try.prog 36 #[cpV c v] w (TelA w c) := by
  obtain ⟨X, hX⟩ : ∃ X, w.alloc (.cells #[.int .i64 c.num, .int .i64 c.frm, .int .i64 c.to, v, .int .i64 c.sent, .bool c.bad] 44) = X := ⟨_, rfl⟩
  have xX : Bx X w.heap.size 44 #[.int .i64 c.num, .int .i64 c.frm, .int .i64 c.to, v, .int .i64 c.sent, .bool c.bad] := by rw [← hX]; exact Bx.new _ _ _
  have bX : Below w.heap.size w X := by rw [← hX]; exact ballc (Below.refl _ _) _
  have hzX : X.heap.size = w.heap.size + 1 := by rw [← hX]; simp
  obtain ⟨Y, hY⟩ : ∃ Y, X.alloc (.cells #[.int .i64 0, .int .i64 0, .int .i64 0, .slice none 0 0, .int .i64 0, .bool false] 44) = Y := ⟨_, rfl⟩
  have yY : Bx Y X.heap.size 44 #[.int .i64 0, .int .i64 0, .int .i64 0, .slice none 0 0, .int .i64 0, .bool false] := by rw [← hY]; exact Bx.new _ _ _
  have bY : Below X.heap.size X Y := by rw [← hY]; exact ballc (Below.refl _ _) _
  have xY := xX.below bY
  have hT := rtwin_in v c.dat Y (h.below (bnext bX bY)) hl
  have c3 := xY.cell 3 _ rfl
  obtain ⟨q, hq⟩ : ∃ q, X.heap.size = q := ⟨_, rfl⟩
  have hq0 : w.heap.size < q := by omega
  rw [hq] at yY
  have FIN : Hid (∀ W a k, OwB W Y.heap.size 5 (.slice a c.dat.length k) c.dat → Below Y.heap.size Y W → ∃ Z Z', W.setCell ⟨w.heap.size, 3, none⟩ (.slice a c.dat.length k) = Z ∧ Bx Z w.heap.size 44 #[.int .i64 c.num, .int .i64 c.frm, .int .i64 c.to, .slice a c.dat.length k, .int .i64 c.sent, .bool c.bad] ∧ Bx Z q 44 #[.int .i64 0, .int .i64 0, .int .i64 0, .slice none 0 0, .int .i64 0, .bool false] ∧ Bx W w.heap.size 44 #[.int .i64 c.num, .int .i64 c.frm, .int .i64 c.to, v, .int .i64 c.sent, .bool c.bad] ∧ (((((Z.setCell ⟨q, 0, none⟩ (.int .i64 c.num)).setCell ⟨q, 1, none⟩ (.int .i64 c.frm)).setCell ⟨q, 2, none⟩ (.int .i64 c.to)).setCell ⟨q, 3, none⟩ (.slice a c.dat.length k)).setCell ⟨q, 4, none⟩ (.int .i64 c.sent)).setCell ⟨q, 5, none⟩ (.bool c.bad) = Z' ∧ Bx Z' q 44 #[.int .i64 c.num, .int .i64 c.frm, .int .i64 c.to, .slice a c.dat.length k, .int .i64 c.sent, .bool c.bad] ∧ TelA w c (.returned (cpV c (.slice a c.dat.length k))) Z') := by
    intro W a k ho hb
    have e1 := xY.below hb
    have e2 := yY.below hb
    obtain ⟨Z, hZ⟩ : ∃ Z, W.setCell ⟨w.heap.size, 3, none⟩ (.slice a c.dat.length k) = Z := ⟨_, rfl⟩
    have z1 : Bx Z w.heap.size 44 #[.int .i64 c.num, .int .i64 c.frm, .int .i64 c.to, .slice a c.dat.length k, .int .i64 c.sent, .bool c.bad] := by rw [← hZ]; simpa using e1.set 3 (.slice a c.dat.length k)
    have kZ : Kp (fun i => i = w.heap.size) W Z := by rw [← hZ]; exact Kp.set _ _ _ rfl
    have z2 := e2.kp kZ (by omega)
    obtain ⟨Z', hZ'⟩ : ∃ Z', (((((Z.setCell ⟨q, 0, none⟩ (.int .i64 c.num)).setCell ⟨q, 1, none⟩ (.int .i64 c.frm)).setCell ⟨q, 2, none⟩ (.int .i64 c.to)).setCell ⟨q, 3, none⟩ (.slice a c.dat.length k)).setCell ⟨q, 4, none⟩ (.int .i64 c.sent)).setCell ⟨q, 5, none⟩ (.bool c.bad) = Z' := ⟨_, rfl⟩
    obtain ⟨z3, k3⟩ := set6 z2 _ _ _ _ _ _ hZ'
    have kk : Kp (fun i => i = w.heap.size ∨ i = q) W Z' := by
      refine (Kp.trans (N := fun i => i = w.heap.size ∨ i = q) ⟨kZ.os, kZ.tape, kZ.output, kZ.size, fun i hi hn => kZ.block i hi (fun e => hn (.inl e))⟩ k3 (fun i hi => .inl (.inr hi)))
    have hy := yY.lt
    refine ⟨Z, Z', hZ, z1, z2, e1, hZ', z3, a, k, rfl, ?_, ?_⟩
    · have hsz := bX.size
      have hsy := bY.size
      exact (ho.kp kk (fun i hi e => by have := (ho.lt i hi).1; rcases e with e | e <;> omega)).wk (by omega)
    · exact kk.below (bnext (bnext bX bY) hb) (fun i e => by rcases e with e | e <;> omega)
  have HT := hide hT
  unfold NewB at HT
  unfold TelA
  obtain ⟨a0, k0, rfl⟩ := h.form
  unfold cpV
  subst hq
  clear h hT xX bX yY bY xY hzX hq0
  have c3' := c3
  go_enter Try.func36, Try.ntmps36
  go_wp2_with fail
  refine (unhide HT).mono ?_
  rintro e W ⟨a, k, rfl, ho, hb⟩
  obtain ⟨Z, Z', hZ, z1, z2, e1, hZ', z3, hfin⟩ := unhide FIN W a k ho hb
  have HF := hide hfin
  have d3 := e1.cell 3 _ rfl
  have df := e1.frozen 3
  have z10 := z1.cell 0 _ rfl
  have z11 := z1.cell 1 _ rfl
  have z12 := z1.cell 2 _ rfl
  have z13 := z1.cell 3 _ rfl
  have z14 := z1.cell 4 _ rfl
  have z15 := z1.cell 5 _ rfl
  have z20 := z2.cell 0 _ rfl
  have zf0 := z2.frozen 0
  have z21 := z2.cell 1 _ rfl
  have zf1 := z2.frozen 1
  have z22 := z2.cell 2 _ rfl
  have zf2 := z2.frozen 2
  have z23 := z2.cell 3 _ rfl
  have zf3 := z2.frozen 3
  have z24 := z2.cell 4 _ rfl
  have zf4 := z2.frozen 4
  have z25 := z2.cell 5 _ rfl
  have zf5 := z2.frozen 5
  have z30 := z3.cell 0 _ rfl
  have z31 := z3.cell 1 _ rfl
  have z32 := z3.cell 2 _ rfl
  have z33 := z3.cell 3 _ rfl
  have z34 := z3.cell 4 _ rfl
  have z35 := z3.cell 5 _ rfl
  have Z3 := hide z3
  clear FIN HT ho hb z1 z2 e1 z3 hfin
  go_wp2
  refine bodyPost_ret (results_cell_row rfl _ _ X.heap.size _ _ _ _ rfl (unhide Z3) Try.underlying44 rfl sizeC) rfl ?_
  exact unhide HF

/-- the cells of a copy that is held -/
def encH (x : Cp × Value × Value) : List Value := [.int .i64 x.1.num, .int .i64 x.1.frm, .int .i64 x.1.to, x.2.1, .int .i64 x.1.sent, .bool x.1.bad, x.2.2]
theorem encH_len (x : Cp × Value × Value) : (encH x).length = 7 := rfl
/-- a row of bytes in blocks of which P holds -/
def BP (P : Nat → Prop) (W : World) (v : Value) (l : List Int) : Prop := RB W v l ∧ ∀ k, v.ownBlock = some k → P k ∧ k < W.heap.size
theorem BP.kp {l : List Int} (h : BP P W v l) (k : Kp N W W') (hn : ∀ i, N i → ¬ P i) : BP P W' v l := ⟨h.1.kp k (fun i hi e => hn i e (h.2 i hi).1), fun i hi => ⟨(h.2 i hi).1, Nat.lt_of_lt_of_le (h.2 i hi).2 k.size⟩⟩
theorem BP.mono {P' : Nat → Prop} {l : List Int} (h : BP P W v l) (hp : ∀ i, P i → i < W.heap.size → P' i) : BP P' W v l := ⟨h.1, fun i hi => ⟨hp i (h.2 i hi).1 (h.2 i hi).2, (h.2 i hi).2⟩⟩
theorem BP.kpw {l : List Int} (h : BP P W v l) (k : Kp N W W') (hn : ∀ i, v.ownBlock = some i → ¬ N i) : BP P W' v l := ⟨h.1.kp k hn, fun i hi => ⟨(h.2 i hi).1, Nat.lt_of_lt_of_le (h.2 i hi).2 k.size⟩⟩
/-- the document's Net in blocks of which P holds -/
structure HM (P : Nat → Prop) (W : World) (b : Nat) (v : Value) (L : List (Cp × Value × Value)) (s : Stn) : Prop where
  p0 : P b
  bx : Bx W b 62 #[v, .int .i64 s.la]
  row : W.ownsRow 0 79 7 v L.length (flat encH L)
  pv : ∀ k, v.ownBlock = some k → P k
  dat : ∀ x ∈ L, BP P W x.2.1 x.1.dat ∧ ∀ k, x.2.1.ownBlock = some k → ∃ cur, Bx W k 5 cur
  cle : ∀ x ∈ L, BP P W x.2.2 x.1.cl ∧ ∀ k, x.2.2.ownBlock = some k → ∃ cur, Bx W k 5 cur
  fst : L.map Prod.fst = s.ls
  gd : Gd s
def HL (P : Nat → Prop) (W : World) (b : Nat) (s : Stn) : Prop := ∃ v L, HM P W b v L s
variable {L : List (Cp × Value × Value)}
theorem HM.kp (h : HM P W b v L s) (k : Kp N W W') (hn : ∀ i, N i → ¬ P i) : HM P W' b v L s :=
  ⟨h.p0, h.bx.kp k (fun e => hn _ e h.p0), owns_kp h.row k (fun i hi e => hn i e (h.pv i hi)), h.pv,
    fun x hx => ⟨(h.dat x hx).1.kp k hn, fun i hi => by obtain ⟨cur, hc⟩ := (h.dat x hx).2 i hi; exact ⟨cur, hc.kp k (fun e => hn _ e ((h.dat x hx).1.2 i hi).1)⟩⟩,
    fun x hx => ⟨(h.cle x hx).1.kp k hn, fun i hi => by obtain ⟨cur, hc⟩ := (h.cle x hx).2 i hi; exact ⟨cur, hc.kp k (fun e => hn _ e ((h.cle x hx).1.2 i hi).1)⟩⟩, h.fst, h.gd⟩
theorem HM.mono {P' : Nat → Prop} (h : HM P W b v L s) (hp : ∀ i, P i → i < W.heap.size → P' i) : HM P' W b v L s :=
  ⟨hp _ h.p0 h.bx.lt, h.bx, h.row, fun k hk => hp k (h.pv k hk) (World.ownsRow.lt h.row k hk).2, fun x hx => ⟨(h.dat x hx).1.mono hp, (h.dat x hx).2⟩, fun x hx => ⟨(h.cle x hx).1.mono hp, (h.cle x hx).2⟩, h.fst, h.gd⟩
theorem HL.kp (h : HL P W b s) (k : Kp N W W') (hn : ∀ i, N i → ¬ P i) : HL P W' b s := by obtain ⟨_, _, h⟩ := h; exact ⟨_, _, h.kp k hn⟩
theorem HL.below (h : HL P W b s) (hb : Below W.heap.size W W') : HL P W' b s := h.kp (N := fun _ => False) (Kp.of_below hb) (fun _ h => h.elim)
theorem HL.mono {P' : Nat → Prop} (h : HL P W b s) (hp : ∀ i, P i → P' i) : HL P' W b s := by obtain ⟨_, _, h⟩ := h; exact ⟨_, _, h.mono (fun i hi _ => hp i hi)⟩
theorem HL.lt (h : HL P W b s) : HL (fun i => P i ∧ i < W.heap.size) W b s := by obtain ⟨_, _, h⟩ := h; exact ⟨_, _, h.mono (fun i hi hl => ⟨hi, hl⟩)⟩
theorem HL.gd (h : HL P W b s) : Gd s := by obtain ⟨_, _, h⟩ := h; exact h.gd
theorem HM.c0 (h : HM P W b v L s) : W.cell? ⟨b, 0, none⟩ = some v := h.bx.cell 0 _ rfl
theorem HM.c1 (h : HM P W b v L s) : W.cell? ⟨b, 1, none⟩ = some (.int .i64 s.la) := h.bx.cell 1 _ rfl
theorem HM.form (h : HM P W b v L s) : ∃ a k, v = .slice a L.length k := owns_form h.row
theorem HM.len (h : HM P W b v L s) : L.length = s.ls.length := by rw [← h.fst, List.length_map]
/-- a cell of the i-th -/
theorem HM.at {a : Option Addr} {n k : Nat} (h : HM P W b (.slice a n k) L s) {i : Nat} {x : Cp × Value × Value} (hi : L[i]? = some x) : ∃ g, a = some ⟨g, 0, none⟩ ∧ P g ∧ g ≠ b ∧ (∀ q u, (encH x)[q]? = some u → W.cell? ⟨g, i * 7 + q, none⟩ = some u) ∧ ∀ q, W.frozen? ⟨g, q, none⟩ = false := by
  have hl := (List.getElem?_eq_some_iff.1 hi).1
  have hr := h.row
  rcases hr.2 with ⟨e, h0⟩ | ⟨g, cap, cur, e, hb, hg, h1, h2, h3, h4⟩
  · omega
  · simp only [Value.slice.injEq] at e
    obtain ⟨rfl, rfl, rfl⟩ := e
    have hg' : Bx W g 79 cur := hg
    refine ⟨g, rfl, h.pv g rfl, fun e => ?_, fun q u hu => ?_, fun q => hg'.frozen q⟩
    · subst e
      exact hg'.apart h.bx (by decide) rfl
    · have hq : q < 7 := (List.getElem?_eq_some_iff.1 hu).1
      have hlt : i * 7 + q < L.length * 7 := by omega
      rw [hr.cellAt (i * 7 + q) hlt, flat_get encH_len L i q x hi hq]
      exact hu
theorem HM.get (h : HM P W b v L s) {i : Nat} {c : Cp} (hi : s.ls[i]? = some c) : ∃ x, L[i]? = some x ∧ x.1 = c := by
  rw [← h.fst, List.getElem?_map] at hi
  cases e : L[i]? with
  | none => rw [e] at hi; cases hi
  | some x => rw [e] at hi; exact ⟨x, rfl, by simpa using hi⟩
theorem hl_zero (w : World) : HL (fun i => w.heap.size ≤ i) (w.alloc (.cells #[.slice none 0 0, .int .i64 0] 62)) w.heap.size zerS := ⟨.slice none 0 0, [], Nat.le_refl _, Bx.new _ _ _, World.ownsRow_nil _ _ _ _, fun k hk => (by cases hk), fun x hx => (by cases hx), fun x hx => (by cases hx), rfl, Gd.zer⟩
theorem rNew_in (w : World) : Calls Try.prog 12 #[] w fun e W => e = .returned (.pointer (some ⟨w.heap.size, 0, none⟩)) ∧ HL (fun i => w.heap.size ≤ i) W w.heap.size zerS ∧ Below w.heap.size w W := by
  obtain ⟨X, hX⟩ : ∃ X, w.alloc (.cells #[.slice none 0 0, .int .i64 0] 62) = X := ⟨_, rfl⟩
  have hn := hide (show HL (fun i => w.heap.size ≤ i) X w.heap.size zerS by rw [← hX]; exact hl_zero w)
  have hb := hide (show Below w.heap.size w X by rw [← hX]; exact ballc (Below.refl _ _) _)
  go_enter Try.func12, Try.ntmps12
  go_wp2
  go_ret
  exact ⟨rfl, unhide hn, unhide hb⟩
theorem rsite_in (n : Int) (w : World) : Calls Try.prog 46 #[.int .i64 n] w fun e W => e = .returned (.bool (decide (1 ≤ n ∧ n ≤ 16))) ∧ w = W := by
  by_cases h1 : 1 ≤ n
  · by_cases h2 : n ≤ 16
    · rw [decide_eq_true ⟨h1, h2⟩]
      go_enter Try.func46, Try.ntmps46
      go_wp2
      go_ret
      exact ⟨rfl, rfl⟩
    · rw [decide_eq_false (fun e => h2 e.2)]
      go_enter Try.func46, Try.ntmps46
      go_wp2
      go_ret
      exact ⟨rfl, rfl⟩
  · rw [decide_eq_false (fun e => h1 e.1)]
    go_enter Try.func46, Try.ntmps46
    go_wp2
    go_ret
    exact ⟨rfl, rfl⟩
/-- where the copy of a number stands -/
def plc (l : List Cp) (k : Int) : Option Nat := l.findIdx? fun c => c.num == k
theorem plc_some {l : List Cp} {k : Int} {i : Nat} (h : plc l k = some i) : ∃ c, l[i]? = some c ∧ c.num = k ∧ ∀ j d, j < i → l[j]? = some d → d.num ≠ k := by
  unfold plc at h
  obtain ⟨hi, h1, h2⟩ := List.findIdx?_eq_some_iff_getElem.1 h
  refine ⟨l[i], List.getElem?_eq_getElem hi, by simpa using h1, fun j d hj hd => ?_⟩
  obtain ⟨hj', rfl⟩ := List.getElem?_eq_some_iff.1 hd
  simpa using h2 j hj
theorem plc_none {l : List Cp} {k : Int} (h : plc l k = none) : ∀ c ∈ l, c.num ≠ k := by
  unfold plc at h
  rw [List.findIdx?_eq_none_iff] at h
  intro c hc
  simpa using h c hc
def plI (l : List Cp) (k : Int) : Int := match plc l k with
  | some i => (i : Nat)
  | none => -1
set_option maxRecDepth 100000 in
set_option maxHeartbeats 2000000 in
theorem rplace_in (h : HM P w b v L s) (k : Int) : Calls Try.prog 48 #[.pointer (some ⟨b, 0, none⟩), .int .i64 k] w fun e W => e = .returned (.int .i64 (plI s.ls k)) ∧ w = W := by
  obtain ⟨a0, k0, rfl⟩ := h.form
  have hlen := h.len
  have hle := h.gd.len'
  obtain ⟨n, hn⟩ : ∃ n, L.length = n := ⟨_, rfl⟩
  have c0 := h.c0
  have HH := hide h
  obtain ⟨R, hR⟩ : ∃ R, plI s.ls k = R := ⟨_, rfl⟩
  rw [hR]
  have HR := hide hR
  have Hn := hide (hn.symm.trans hlen)
  have hnb : n ≤ 2147483647 := by omega
  rw [hn] at c0
  have HnL := hide hn
  clear h hlen hle hR hn
  go_enter Try.func48, Try.ntmps48
  go_wp2
  go_loopw [5] (fun iv wr => ∃ i : Nat, i ≤ n ∧ iv = .int .i64 (i : Nat) ∧ w = wr ∧ Hid (∀ (j : Nat) d, j < i → s.ls[j]? = some d → d.num ≠ k)) (fun iv _ => n - (RowKit.intOf iv).toNat)
  case atStart => exact ⟨0, Nat.zero_le _, rfl, rfl, hide (fun j d hj => by omega)⟩
  case round =>
    obtain ⟨i, hi, rfl, rfl, HE⟩ := hrel
    by_cases hlt : i < n
    · have hlt' : (i : Int) < (n : Int) := by omega
      obtain ⟨x, hx⟩ : ∃ x, L[i]? = some x := ⟨_, List.getElem?_eq_getElem (by rw [unhide HnL]; exact hlt)⟩
      obtain ⟨g, ea, _, _, hc, _⟩ := (unhide HH).at hx
      have hxs : s.ls[i]? = some x.1 := by rw [← (unhide HH).fst, List.getElem?_map, hx]; rfl
      have c1 := hc 0 _ rfl
      rw [Nat.add_zero] at c1
      subst ea
      by_cases he : x.1.num = k
      · have FIN : Hid (R = (i : Nat)) := by
          have e := unhide HR
          unfold plI at e
          cases hp : plc s.ls k with
          | none => exact absurd he (plc_none hp x.1 (List.mem_of_getElem? hxs))
          | some j =>
            rw [hp] at e
            obtain ⟨d, hd, hdk, hmin⟩ := plc_some hp
            rcases Nat.lt_trichotomy i j with q | q | q
            · exact absurd he (hmin i x.1 q hxs)
            · subst q; exact e.symm
            · exact absurd hdk (unhide HE j d q hd)
        subst he
        have hq : (x.1.num == x.1.num) = true := by simp
        clear hc hx hxs HE
        go_wp2
        go_ret
        exact ⟨by rw [unhide FIN]; rfl, rfl⟩
      · have hq : (x.1.num == k) = false := by simpa using he
        have HE2 : Hid (∀ (j : Nat) d, j < i + 1 → s.ls[j]? = some d → d.num ≠ k) := fun j d hj hd => by
          by_cases hji : j = i
          · subst hji; rw [hxs] at hd; cases hd; exact he
          · exact unhide HE j d (by omega) hd
        clear hc hx hxs HE he
        go_wp2
        go_roundw
        case rel => exact ⟨i + 1, by omega, by go_num, by first | trivial | rfl, HE2⟩
        case measure => show n - ((i : Int) + 1).toNat < n - ((i : Nat) : Int).toNat; omega
    · obtain rfl : i = n := by omega
      have hlt' : ¬ (i : Int) < (i : Int) := by omega
      have FIN : Hid (R = -1) := by
        have e := unhide HR
        unfold plI at e
        cases hp : plc s.ls k with
        | none => rw [hp] at e; exact e.symm
        | some j =>
          obtain ⟨d, hd, hdk, _⟩ := plc_some hp
          exact absurd hdk (unhide HE j d (by have := (List.getElem?_eq_some_iff.1 hd).1; have := unhide Hn; omega) hd)
      go_wp2
      go_ret
      exact ⟨by rw [unhide FIN]; rfl, rfl⟩

end Go.Proofs.Yteomalmflebkhaa
