/-
  What a log keeps: each operation is the next of its site, and behind all that it depends on. Pure.
-/
import Derived.Test.YtijjoikeceechaaGreatZXLK3
import Derived.Test.YtijjoikeceechaaGreatZQ5

set_option linter.unusedSimpArgs false
set_option linter.unusedVariables false
namespace Go.Proofs.YtijjoikeceechaaGreat
open Go.RowKit Go.Lib

theorem chk_TkI : ∀ (d acc : List (Int × Int)) (site : Int), TkI acc site → chkF site d = 0 → ∃ s', TkI (acc ++ d) s'
  | [], acc, site, h, _ => ⟨site, by simpa using h⟩
  | x :: d, acc, site, hI, h => by
    obtain ⟨x0, x1⟩ := x
    rw [chkF] at h
    by_cases h1 : 1 ≤ x0 ∧ x0 ≤ 16
    · rw [if_neg (by simpa using h1)] at h
      by_cases h2 : 1 ≤ x1 ∧ x1 ≤ 2147483647
      · rw [if_neg (by simpa using h2)] at h
        by_cases h3 : x0 ≤ site
        · rw [if_pos h3] at h; simp at h
        · rw [if_neg h3] at h
          obtain ⟨a, rfl⟩ : ∃ a : Nat, x0 = (a : Int) := ⟨x0.toNat, by omega⟩
          obtain ⟨b, rfl⟩ : ∃ b : Nat, x1 = (b : Int) := ⟨x1.toNat, by omega⟩
          have := chk_TkI d (acc ++ [((a : Int), (b : Int))]) a (hI.next (by omega) (by omega) (by omega) (by omega)) h
          simpa using this
      · rw [if_pos (by simpa using h2)] at h; simp at h
    · rw [if_pos (by simpa using h1)] at h; simp at h
theorem vec_of_chk {l : List (Int × Int)} (h : chk l = 0) : vec (sy l) = l := by
  obtain ⟨s, hI⟩ := chk_TkI l [] 0 TkI.none h
  have := hI.same
  simpa using this

/-- from a row of sites to another: each operation is the next of its site -/
def SQ : (Nat → Int) → List Opn → (Nat → Int) → Prop
  | s, [], t => s = t
  | s, o :: os, t => (1 ≤ o.ds ∧ o.ds ≤ 16) ∧ o.dq = s o.ds.toNat + 1 ∧ o.dq ≤ 2147483647 ∧ cov s (sy o.deps) = true ∧ SQ (put1 s o.ds.toNat o.dq) os t
theorem SQ.good : ∀ {os : List Opn} {s t : Nat → Int}, SQ s os t → Good s → Good t
  | [], s, t, h, g => by cases h; exact g
  | o :: os, s, t, ⟨h1, h2, h3, _, h⟩, g => SQ.good h (g.put (by omega) (by omega) (by have := g.lo o.ds.toNat; omega) h3)
theorem SQ.le : ∀ {os : List Opn} {s t : Nat → Int}, SQ s os t → ∀ i, s i ≤ t i
  | [], s, t, h, i => by cases h; exact Int.le_refl _
  | o :: os, s, t, ⟨h1, h2, h3, _, h⟩, i => by
    have := SQ.le h i
    unfold put1 at this
    split at this
    · rename_i e; subst e; omega
    · exact this
theorem SQ.sum : ∀ {os : List Opn} {s t : Nat → Int}, SQ s os t → sum t = sum s + (os.length : Nat)
  | [], s, t, h => by cases h; simp
  | o :: os, s, t, ⟨h1, h2, h3, _, h⟩ => by
    have := SQ.sum h
    unfold Go.Proofs.YtijjoikeceechaaGreat.sum at this ⊢
    rw [sumN_put, if_pos (by omega)] at this
    simp only [List.length_cons]
    push_cast
    omega
theorem SQ.mem : ∀ {os : List Opn} {s t : Nat → Int}, SQ s os t → ∀ o ∈ os, (1 ≤ o.ds ∧ o.ds ≤ 16) ∧ s o.ds.toNat < o.dq ∧ o.dq ≤ t o.ds.toNat
  | [], s, t, h, o, ho => by cases ho
  | x :: os, s, t, ⟨h1, h2, h3, _, h⟩, o, ho => by
    rcases List.mem_cons.1 ho with rfl | ho
    · have := SQ.le h o.ds.toNat
      rw [put1_self] at this
      exact ⟨h1, by omega, this⟩
    · obtain ⟨k1, k2, k3⟩ := SQ.mem h o ho
      refine ⟨k1, ?_, k3⟩
      unfold put1 at k2
      split at k2
      · rename_i e; rw [e] ; omega
      · exact k2
theorem SQ.snoc : ∀ {os : List Opn} {s t : Nat → Int} {o : Opn}, SQ s os t → (1 ≤ o.ds ∧ o.ds ≤ 16) → o.dq = t o.ds.toNat + 1 → o.dq ≤ 2147483647 → cov t (sy o.deps) = true → SQ s (os ++ [o]) (put1 t o.ds.toNat o.dq)
  | [], s, t, o, h, h1, h2, h3, h4 => by cases h; exact ⟨h1, h2, h3, h4, rfl⟩
  | x :: os, s, t, o, ⟨k1, k2, k3, k4, k⟩, h1, h2, h3, h4 => ⟨k1, k2, k3, k4, SQ.snoc k h1 h2 h3 h4⟩
theorem has_site {l : List (Int × Int)} {a b : Int} (h : 1 ≤ a ∧ a ≤ 16) (hb : 1 ≤ b) : hasV l (a, b) = decide (b ≤ sy l a.toNat) := by
  unfold hasV getV
  simp only [if_pos h]
  by_cases h2 : b ≤ sy l a.toNat <;> simp [h2, hb]
theorem prL_cons (l : List (Int × Int)) (x : Bool) (o : Opn) (os : List Opn) : prL l x (o :: os) = if hasV l (o.ds, o.dq) = x then o :: prL l x os else prL l x os := by
  unfold prL
  rw [List.filter_cons]
  by_cases h : hasV l (o.ds, o.dq) = x <;> simp [h]
theorem mrg_put_hi {s t : Nat → Int} {i : Nat} {x : Int} (h : s i ≤ x) (h2 : x ≤ t i) : mrg (put1 s i x) t = mrg s t := by
  funext j
  unfold mrg put1
  split
  · rename_i e; subst e; omega
  · rfl
theorem mrg_put_lo {s t : Nat → Int} {i : Nat} {x : Int} (h2 : t i ≤ x) : mrg (put1 s i x) t = put1 (mrg s t) i x := by
  funext j
  unfold mrg put1
  split
  · rename_i e; subst e; omega
  · rfl
theorem cov_mrg {s t u : Nat → Int} (h : cov s u = true) : cov (mrg s t) u = true := by
  unfold cov at h ⊢
  rw [List.all_eq_true] at h ⊢
  intro i hi
  have := h i hi
  simp only [decide_eq_true_eq] at this ⊢
  unfold mrg
  omega
/-- what a list has is taken out: the rest goes on from both -/
theorem SQ.cut (l : List (Int × Int)) : ∀ {os : List Opn} {s t : Nat → Int}, Good s → SQ s os t → SQ (mrg s (sy l)) (prL l false os) (mrg t (sy l))
  | [], s, t, g, h => by cases h; rfl
  | o :: os, s, t, g, ⟨h1, h2, h3, h4, h⟩ => by
    have gl := g.lo o.ds.toNat
    have ih := SQ.cut l (g.put (by omega) (by omega) (by omega) h3) h
    rw [prL_cons, has_site h1 (by omega)]
    by_cases hh : o.dq ≤ sy l o.ds.toNat
    · rw [decide_eq_true hh, if_neg (by simp)]
      rwa [mrg_put_hi (by omega) hh] at ih
    · rw [decide_eq_false hh, if_pos rfl]
      rw [mrg_put_lo (by omega)] at ih
      refine ⟨h1, ?_, h3, cov_mrg h4, ih⟩
      unfold mrg
      omega
theorem mrg_of_le {s t : Nat → Int} (h : ∀ i, t i ≤ s i) : mrg s t = s := by
  funext i
  unfold mrg
  have := h i
  omega
theorem mrg_comm (s t : Nat → Int) : mrg s t = mrg t s := by
  funext i
  unfold mrg
  omega

/-- what holds of a log behind any calls -/
structure ST (base hv : List (Int × Int)) (os : List Opn) : Prop where
  nb : chk base = 0
  nh : chk hv = 0
  sq : SQ (sy base) os (sy hv)
theorem ST.new {base : List (Int × Int)} (h : chk base = 0) : ST base base [] := ⟨h, h, rfl⟩
theorem ST.add {base hv : List (Int × Int)} {os : List Opn} (h : ST base hv os) (o : Opn) : ST base (if addE hv o = 0 then (addV hv (o.ds, o.dq)).1 else hv) (if addE hv o = 0 then os ++ [o] else os) := by
  by_cases he : addE hv o = 0
  · rw [if_pos he, if_pos he]
    unfold addE at he
    split at he
    · split at he
      · rename_i hc
        unfold addV at he ⊢
        split at he
        · simp at he
        · rename_i h1
          rw [if_neg h1]
          simp only at he h1 ⊢
          split at he
          · simp at he
          · rename_i h2
            rw [if_neg h2]
            split at he
            · simp at he
            · rename_i h3
              rw [if_neg h3]
              have g := (sy_good hv).put (i := o.ds.toNat) (x := o.dq) (by omega) (by omega) (by omega) (by omega)
              refine ⟨h.nb, chk_vec g, ?_⟩
              show SQ _ _ (sy (vec (put1 (sy hv) o.ds.toNat o.dq)))
              rw [sy_vec g]
              exact h.sq.snoc (by omega) (by omega) (by omega) hc
      · simp at he
    · simp at he
  · rw [if_neg he, if_neg he]; exact h
theorem ST.cut {base hv : List (Int × Int)} {os : List Opn} (h : ST base hv os) (l : List (Int × Int)) : ST (if cutE hv l = 0 then vec (mrg (sy base) (sy l)) else base) hv (if cutE hv l = 0 then prL l false os else os) := by
  by_cases he : cutE hv l = 0
  · rw [if_pos he, if_pos he]
    have gm := (sy_good base).mrg (sy_good l)
    have hc : cov (sy hv) (sy l) = true := by
      unfold cutE at he
      split at he
      · contradiction
      · split at he
        · assumption
        · simp at he
    refine ⟨chk_vec gm, h.nh, ?_⟩
    rw [sy_vec gm]
    have := h.sq.cut l (sy_good base)
    rwa [mrg_of_le ((cov_iff (sy_good hv) (sy_good l)).1 hc)] at this
  · rw [if_neg he, if_neg he]; exact h
theorem ST.cov {base hv : List (Int × Int)} {os : List Opn} (h : ST base hv os) : cov (sy hv) (sy base) = true := (cov_iff (sy_good hv) (sy_good base)).2 h.sq.le
theorem ST.byd_base {base hv : List (Int × Int)} {os : List Opn} (h : ST base hv os) : bynd base os = os := by
  unfold bynd prL
  rw [if_pos h.nb, List.filter_eq_self]
  intro o ho
  obtain ⟨h1, h2, h3⟩ := h.sq.mem o ho
  have := (sy_good base).lo o.ds.toNat
  rw [has_site h1 (by omega), decide_eq_false (by omega)]
  rfl
theorem ST.byd_have {base hv : List (Int × Int)} {os : List Opn} (h : ST base hv os) : bynd hv os = [] := by
  unfold bynd prL
  rw [if_pos h.nh, List.filter_eq_nil_iff]
  intro o ho
  obtain ⟨h1, h2, h3⟩ := h.sq.mem o ho
  have := (sy_good base).lo o.ds.toNat
  rw [has_site h1 (by omega), decide_eq_true (by omega)]
  simp
theorem cut_len (l hv : List (Int × Int)) (os : List Opn) : (if cutE hv l = 0 then prL l false os else os).length ≤ os.length := by
  split
  · exact List.length_filter_le _ _
  · exact Nat.le_refl _
theorem add_len (hv : List (Int × Int)) (o : Opn) (os : List Opn) : (if addE hv o = 0 then os ++ [o] else os).length ≤ os.length + 1 := by
  split <;> simp

end Go.Proofs.YtijjoikeceechaaGreat

/-
  Arguments, opened: steps.
-/
set_option linter.unusedSimpArgs false
set_option linter.unusedVariables false
namespace Go.Proofs.YtijjoikeceechaaGreat
open Go.RowKit Go.Lib

/-- an operation whose lists lie somewhere -/
structure ElW (W : World) (e : Opn × Value × Value) : Prop where
  vd : ∃ a c, e.2.1 = .slice a e.1.deps.length c
  vg : ∃ a c, e.2.2 = .slice a e.1.gone.length c
  rd : RI W e.2.1 e.1.deps
  rg : RR W e.2.2 e.1.gone
  inn : InA e.1

set_option maxRecDepth 100000 in
theorem open_opL {H : Type} {enc : TypeId × Value → H} {w : World} {base : Nat} {spare : Nat → Bool} {held : Bool} {fuel : Nat} {c0 c1 c2 c3 c4 c5 c6 c7 c8 c9 c10 : Value} {x : DataW H × List MemPlace}
    (hf : DataW.trod enc Tryz.prog w base spare held fuel 45 [c0, c1, c2, c3, c4, c5, c6, c7, c8, c9, c10] = some x) : ∃ e, [c0, c1, c2, c3, c4, c5, c6, c7, c8, c9, c10] = encO e ∧ ElW w e := by
  obtain ⟨xs, n, _, _, _, hxl, hfs⟩ := DataW.trod_struct Tryz.underlying45 hf
  have hx : ∀ i, i < 8 → ∃ y, xs[i]? = some y := fun i hi => ⟨xs[i]'(by rw [hxl]; exact hi), List.getElem?_eq_getElem _⟩
  have ci : Tryz.prog.cellsOf 3 = 1 := by kernel_rfl
  have cD : Tryz.prog.cellsOf 28 = 2 := by kernel_rfl
  have cI : Tryz.prog.cellsOf 42 = 2 := by kernel_rfl
  have cV : Tryz.prog.cellsOf 23 = 1 := by kernel_rfl
  have cS : Tryz.prog.cellsOf 9 = 1 := by kernel_rfl
  have cR : Tryz.prog.cellsOf 43 = 1 := by kernel_rfl
  obtain ⟨y0, e0⟩ := hx 0 (by omega)
  have g0 := (hfs 0 _ rfl).trans e0
  obtain ⟨y1, e1⟩ := hx 1 (by omega)
  have g1 := (hfs 1 _ rfl).trans e1
  obtain ⟨y2, e2⟩ := hx 2 (by omega)
  have g2 := (hfs 2 _ rfl).trans e2
  obtain ⟨y3, e3⟩ := hx 3 (by omega)
  have g3 := (hfs 3 _ rfl).trans e3
  obtain ⟨y4, e4⟩ := hx 4 (by omega)
  have g4 := (hfs 4 _ rfl).trans e4
  obtain ⟨y5, e5⟩ := hx 5 (by omega)
  have g5 := (hfs 5 _ rfl).trans e5
  obtain ⟨y6, e6⟩ := hx 6 (by omega)
  have g6 := (hfs 6 _ rfl).trans e6
  obtain ⟨y7, e7⟩ := hx 7 (by omega)
  have g7 := (hfs 7 _ rfl).trans e7
  simp at g0
  rw [cD] at g0
  try simp at g0
  simp at g1
  rw [cV] at g1
  try simp at g1
  simp at g2
  rw [ci] at g2
  try simp at g2
  simp at g3
  rw [cI] at g3
  try simp at g3
  simp at g4
  rw [cI] at g4
  try simp at g4
  simp at g5
  rw [cS] at g5
  try simp at g5
  simp at g6
  rw [cR] at g6
  try simp at g6
  simp at g7
  rw [ci] at g7
  try simp at g7
  obtain ⟨a0, a1, rfl, rfl, w0, w1⟩ := open_two ⟨_, _, Tryz.underlying28, rfl, rfl, rfl, rfl⟩ g0
  obtain ⟨a3, q3, _, w3⟩ := DataW.trod_int Tryz.underlying3 g2
  obtain ⟨a4, a5, rfl, rfl, w4, w5⟩ := open_two ⟨_, _, Tryz.underlying42, rfl, rfl, rfl, rfl⟩ g3
  obtain ⟨a6, a7, rfl, rfl, w6, w7⟩ := open_two ⟨_, _, Tryz.underlying42, rfl, rfl, rfl, rfl⟩ g4
  obtain ⟨a8, q8, _, w8⟩ := DataW.trod_string Tryz.underlying9 g5
  obtain ⟨a10, q10, _, w10⟩ := DataW.trod_int Tryz.underlying3 g7
  simp only [List.cons.injEq, and_true] at q3 q8 q10
  subst q3 q8 q10
  obtain ⟨ad, ld, cd, rfl⟩ : ∃ a l c, c2 = .slice a l c := by
    rcases Go.Deep.open_slice Tryz.underlying23 g1 with ⟨h0, _⟩ | ⟨ad, ln, cp, m, n, D, Pl, h0, _⟩
    · simp at h0; exact ⟨_, _, _, h0⟩
    · simp at h0; exact ⟨_, _, _, h0⟩
  obtain ⟨ag, lg, cg, rfl⟩ : ∃ a l c, c9 = .slice a l c := by
    rcases Go.Deep.open_slice Tryz.underlying43 g6 with ⟨h0, _⟩ | ⟨ad, ln, cp, m, n, D, Pl, h0, _⟩
    · simp at h0; exact ⟨_, _, _, h0⟩
    · simp at h0; exact ⟨_, _, _, h0⟩
  obtain ⟨l, h1, rfl, h3, h4⟩ := open_dots g1
  obtain ⟨g, k1, rfl, k3, k4⟩ := open_runs g6
  unfold maxLen at h3 k3 w8
  exact ⟨(⟨a0, a1, l, a3, a4, a5, a6, a7, a8, g, a10⟩, .slice ad l.length cd, .slice ag g.length cg), rfl, ⟨_, _, rfl⟩, ⟨_, _, rfl⟩, h1, k1, ⟨w0, w1, wf64 w3, w4, w5, w6, w7, wf64 w10, k4, w8⟩⟩


/-- a step whose lists lie somewhere -/
structure StW (W : World) (s : Stp) : Prop where
  f : StF s
  rd : RI W s.vd s.op.deps
  rg : RR W s.vg s.op.gone
  rv : RI W s.vv s.vec
  inn : InA s.op
  kin : in64 s.kind
theorem StW.below {W W' : World} {s : Stp} (h : StW W s) (hb : Below W.heap.size W W') : StW W' s := ⟨h.f, h.rd.below hb, RC.below h.rg hb, h.rv.below hb, h.inn, h.kin⟩

set_option maxRecDepth 100000 in
theorem open_stepL {H : Type} {enc : TypeId × Value → H} {w : World} {base : Nat} {spare : Nat → Bool} {held : Bool} {fuel : Nat} {k c0 c1 c2 c3 c4 c5 c6 c7 c8 c9 c10 u : Value} {x : DataW H × List MemPlace}
    (hf : DataW.trod enc Tryz.prog w base spare held fuel 47 [k, c0, c1, c2, c3, c4, c5, c6, c7, c8, c9, c10, u] = some x) : ∃ s, [k, c0, c1, c2, c3, c4, c5, c6, c7, c8, c9, c10, u] = encS s ∧ StW w s := by
  obtain ⟨xs, n, _, _, _, hxl, hfs⟩ := DataW.trod_struct Tryz.underlying47 hf
  have hx : ∀ i, i < 3 → ∃ y, xs[i]? = some y := fun i hi => ⟨xs[i]'(by rw [hxl]; exact hi), List.getElem?_eq_getElem _⟩
  have ci : Tryz.prog.cellsOf 3 = 1 := by kernel_rfl
  have cO : Tryz.prog.cellsOf 45 = 11 := by kernel_rfl
  have cV : Tryz.prog.cellsOf 23 = 1 := by kernel_rfl
  obtain ⟨y0, e0⟩ := hx 0 (by omega)
  have g0 := (hfs 0 _ rfl).trans e0
  obtain ⟨y1, e1⟩ := hx 1 (by omega)
  have g1 := (hfs 1 _ rfl).trans e1
  obtain ⟨y2, e2⟩ := hx 2 (by omega)
  have g2 := (hfs 2 _ rfl).trans e2
  simp at g0
  rw [ci] at g0
  try simp at g0
  simp at g1
  rw [cO] at g1
  try simp at g1
  simp at g2
  rw [cV] at g2
  try simp at g2
  obtain ⟨a0, q0, _, w0⟩ := DataW.trod_int Tryz.underlying3 g0
  simp only [List.cons.injEq, and_true] at q0
  subst q0
  obtain ⟨e, he, hw⟩ := open_opL g1
  obtain ⟨av, lv, cv, rfl⟩ : ∃ a l c, u = .slice a l c := by
    rcases Go.Deep.open_slice Tryz.underlying23 g2 with ⟨h0, _⟩ | ⟨ad, ln, cp, m, n, D, Pl, h0, _⟩
    · simp at h0; exact ⟨_, _, _, h0⟩
    · simp at h0; exact ⟨_, _, _, h0⟩
  obtain ⟨l, h1, rfl, h3, h4⟩ := open_dots g2
  refine ⟨⟨a0, e.1, l, e.2.1, e.2.2, .slice av l.length cv⟩, ?_, ⟨hw.vd, hw.vg, ⟨_, _, rfl⟩⟩, hw.rd, hw.rg, h1, hw.inn, wf64 w0⟩
  show _ :: ([c0, c1, c2, c3, c4, c5, c6, c7, c8, c9, c10] ++ [_]) = _
  rw [he]
  rfl

theorem open_steps {H : Type} {enc : TypeId × Value → H} {w : World} {base : Nat} {spare : Nat → Bool} {held : Bool} {fuel : Nat} {a : Option Addr} {len cap : Nat} {x : DataW H × List MemPlace}
    (h : DataW.trod enc Tryz.prog w base spare held fuel 24 [.slice a len cap] = some x) : ∃ l : List Stp, RC w (.slice a len cap) l.length (flat encS l) ∧ l.length = len ∧ len ≤ maxLen ∧ ∀ e ∈ l, StW w e := by
  rcases Go.Deep.open_slice Tryz.underlying24 h with ⟨h0, _⟩ | ⟨ad, ln, cp, m, n, D, Pl, h0, hb, hl, hm, hmm, _, hx⟩
  · simp only [List.cons.injEq, Value.slice.injEq, and_true] at h0
    obtain ⟨rfl, rfl, rfl⟩ := h0
    exact ⟨[], .inl ⟨rfl, _, _, rfl⟩, rfl, by unfold maxLen; omega, fun e he => by cases he⟩
  · simp only [List.cons.injEq, Value.slice.injEq, and_true] at h0
    obtain ⟨rfl, rfl, rfl⟩ := h0
    have hlm : len ≤ m := by rw [hmm]; split <;> omega
    obtain ⟨l, h1, h2, h3⟩ := @mk_each Stp ⟨⟨0, ⟨0, 0, [], 0, 0, 0, 0, 0, ByteArray.empty, [], 0⟩, [], .slice none 0 0, .slice none 0 0, .slice none 0 0⟩⟩ encS 13 encS_len (by omega) (StW w) w ad len cap hl (fun i hi => by
      obtain ⟨cs', h1, h2⟩ := hx i (by omega)
      have ce : Tryz.prog.cellsOf 47 = 13 := by kernel_rfl
      rw [ce] at h1
      obtain ⟨_, hlen, hcell⟩ := World.cells?_some h1
      match cs', hlen with
      | [v0, v1, v2, v3, v4, v5, v6, v7, v8, v9, v10, v11, v12], _ =>
        obtain ⟨e, he, hw⟩ := open_stepL h2
        refine ⟨e, fun q x hx => ?_, hw⟩
        rw [← he] at hx
        have hq := (List.getElem?_eq_some_iff.1 hx).1
        have := hcell q (by simpa using hq)
        rw [Go.Deep.add_add] at this
        rw [this]
        exact hx)
    exact ⟨l, by rw [← h2] at h1 ⊢; exact h1, h2, by omega, h3⟩

end Go.Proofs.YtijjoikeceechaaGreat

/-
  The law's do: one call.
-/
set_option linter.unusedSimpArgs false
set_option linter.unusedVariables false
namespace Go.Proofs.YtijjoikeceechaaGreat
open Go.RowKit Go.Lib

theorem rb_lt {W : World} {v : Value} {n k : Nat} {C : List Value} (h : RC W v n C) (hk : rb v n k) : k < W.heap.size := by
  rcases h with ⟨h0, _⟩ | ⟨b, off, cap, rfl, h1, h2, hc⟩
  · exact absurd h0 hk.1
  · have := hk.2
    simp [Value.ownBlock] at this
    omega
/-- a step as a value -/
def stA (s : Stp) : Value := .agg #[.int .i64 s.kind, .int .i64 s.op.ds, .int .i64 s.op.dq, s.vd, .int .i64 s.op.kind, .int .i64 s.op.it, .int .i64 s.op.is, .int .i64 s.op.rt, .int .i64 s.op.rs, .string s.op.text, s.vg, .int .i64 s.op.site, s.vv]
/-- what a log says behind a step -/
def doB (s : Stp) (base hv : List (Int × Int)) : List (Int × Int) := if s.kind = 1 then base else if s.kind = 3 then (if cutE hv s.vec = 0 then vec (mrg (sy base) (sy s.vec)) else base) else base
def doH (s : Stp) (hv : List (Int × Int)) : List (Int × Int) := if s.kind = 1 then (if addE hv s.op = 0 then (addV hv (s.op.ds, s.op.dq)).1 else hv) else hv
def doO (s : Stp) (hv : List (Int × Int)) (os : List Opn) : List Opn := if s.kind = 1 then (if addE hv s.op = 0 then os ++ [s.op] else os) else if s.kind = 3 then (if cutE hv s.vec = 0 then prL s.vec false os else os) else os
theorem ST.do {base hv : List (Int × Int)} {os : List Opn} (h : ST base hv os) (s : Stp) : ST (doB s base hv) (doH s hv) (doO s hv os) := by
  unfold doB doH doO
  by_cases h1 : s.kind = 1
  · simp only [if_pos h1]; exact h.add s.op
  · by_cases h3 : s.kind = 3
    · simp only [if_neg h1, if_pos h3]; exact h.cut s.vec
    · simp only [if_neg h1, if_neg h3]; exact h
theorem do_len (s : Stp) (hv : List (Int × Int)) (os : List Opn) : (doO s hv os).length ≤ os.length + 1 := by
  unfold doO
  have h1 := add_len hv s.op os
  have h2 := cut_len s.vec hv os
  by_cases h1 : s.kind = 1
  · simp only [if_pos h1]; omega
  · by_cases h3 : s.kind = 3
    · simp only [if_neg h1, if_pos h3]; omega
    · simp only [if_neg h1, if_neg h3]; omega

end Go.Proofs.YtijjoikeceechaaGreat

/-
  What a log of one's own tells.
-/
set_option linter.unusedSimpArgs false
set_option linter.unusedVariables false
namespace Go.Proofs.YtijjoikeceechaaGreat
open Go.RowKit Go.Lib

theorem KVector_in {w W : World} {b : Nat} {base hv : List (Int × Int)} {os : List Opn} (h : KS w W b base hv os) :
    Calls Tryz.prog 36 #[.pointer (some ⟨b, 0, none⟩)] W fun e W' => ∃ a c, e = .returned (.slice a hv.length c) ∧ RI W' (.slice a hv.length c) hv ∧ Below W.heap.size W W' := by
  obtain ⟨P, hL, hP, hb⟩ := h
  refine (Vector_in hL).mono ?_
  rintro e W' ⟨v', rfl, ho, hb'⟩
  obtain ⟨a, c, rfl⟩ := ho.form
  exact ⟨a, c, rfl, ho.row, hb'⟩
theorem KBase_in {w W : World} {b : Nat} {base hv : List (Int × Int)} {os : List Opn} (h : KS w W b base hv os) :
    Calls Tryz.prog 25 #[.pointer (some ⟨b, 0, none⟩)] W fun e W' => ∃ a c, e = .returned (.slice a base.length c) ∧ RI W' (.slice a base.length c) base ∧ Below W.heap.size W W' := by
  obtain ⟨P, hL, hP, hb⟩ := h
  refine (Base_in hL).mono ?_
  rintro e W' ⟨v', rfl, ho, hb'⟩
  obtain ⟨a, c, rfl⟩ := ho.form
  exact ⟨a, c, rfl, ho.row, hb'⟩
theorem KLen_in {w W : World} {b : Nat} {base hv : List (Int × Int)} {os : List Opn} (h : KS w W b base hv os) :
    Calls Tryz.prog 24 #[.pointer (some ⟨b, 0, none⟩)] W fun e W' => e = .returned (.int .i64 (os.length : Nat)) ∧ W = W' := by
  obtain ⟨P, hL, hP, hb⟩ := h
  exact Len_in hL
theorem IT.lt {P : Nat → Prop} {W : World} {nb : Nat} {os : List Opn} (h : IT P W nb os) : IT (fun i => i < W.heap.size) W nb os := by
  obtain ⟨v, ops, h, e⟩ := h
  have h' := h.lt
  exact ⟨v, ops, ⟨h'.box, h'.row, fun e he => (h'.re e he).mono (fun i hi => hi.2), h'.pn.2, fun k hk => (h'.pv k hk).2, h'.len⟩, e⟩
theorem KBeyond_in {w W : World} {b : Nat} {base hv : List (Int × Int)} {os : List Opn} (h : KS w W b base hv os) (hn : os.length ≤ 1000000) (a : Option Addr) (n c : Nat) (l : List (Int × Int)) (hr : RI W (.slice a n c) l) (hl : l.length ≤ 1000000) :
    Calls Tryz.prog 15 #[.pointer (some ⟨b, 0, none⟩), .slice a n c] W fun e W' => e = .returned (itV W.heap.size) ∧ IT (fun i => i < W'.heap.size) W' W.heap.size (bynd l os) ∧ Below W.heap.size W W' := by
  obtain ⟨P, hL, hP, hb⟩ := h
  refine (Beyond_in hL hn _ l hr hl).mono ?_
  rintro e W' ⟨h1, h2, h3⟩
  exact ⟨h1, h2.lt, h3⟩
theorem Krest_in {W : World} {nb : Nat} {os : List Opn} (h : IT (fun i => i < W.heap.size) W nb os) (most : Int) (hm : (os.length : Int) < most) :
    Calls Tryz.prog 20 #[itV nb, .int .i64 most] W fun e W' => ∃ a c, e = .returned (.slice a os.length c) ∧ RL (fun i => W.heap.size ≤ i) W' (.slice a os.length c) os ∧ Below W.heap.size W W' := by
  refine (rest_in h (fun i hi => hi) most hm).mono ?_
  rintro e W' ⟨v', rfl, hr, hb⟩
  obtain ⟨ops, h1, h2, h3, h4⟩ := hr
  obtain ⟨a, c, rfl⟩ := owns_form h1
  have hl : ops.length = os.length := by rw [← h4, List.length_map]
  refine ⟨a, c, by rw [hl], ⟨ops, by rw [← hl]; exact h1, h2, fun k hk => h3 k (by rw [hl]; exact hk), h4⟩, hb⟩

theorem ST.beyond {base hv : List (Int × Int)} {os : List Opn} (h : ST base hv os) {l : List (Int × Int)} (hc : chk l = 0) {both to : List (Int × Int)} (e1 : vec (mrg (sy l) (sy base)) = both) (e2 : vec (mrg (sy both) (sy hv)) = to) : chk both = 0 ∧ chk to = 0 ∧ SQ (sy both) (bynd l os) (sy to) := by
  subst e1
  have g1 := (sy_good l).mrg (sy_good base)
  rw [sy_vec g1] at e2 ⊢
  have g2 := g1.mrg (sy_good hv)
  subst e2
  rw [sy_vec g2]
  refine ⟨chk_vec g1, chk_vec g2, ?_⟩
  unfold bynd
  rw [if_pos hc]
  have := h.sq.cut l (sy_good base)
  rw [mrg_comm (sy base)] at this
  have e : mrg (mrg (sy l) (sy base)) (sy hv) = mrg (sy hv) (sy l) := by
    funext i
    have := h.sq.le i
    unfold mrg
    omega
  rw [e]
  exact this
theorem sum_in (l : List (Int × Int)) : 0 ≤ sum (sy l) ∧ sum (sy l) ≤ 36507222016 := by
  have := sumN_in (sy_good l) 17
  unfold sum
  omega

end Go.Proofs.YtijjoikeceechaaGreat
