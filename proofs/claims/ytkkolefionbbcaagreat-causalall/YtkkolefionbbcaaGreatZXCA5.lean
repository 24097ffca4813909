/-
  The order in which a closed set is offered, in memory.
-/
import Derived.Test.YtkkolefionbbcaaGreatZCA4
import Derived.Test.YtkkolefionbbcaaGreatZCO2
import Derived.Test.YtkkolefionbbcaaGreatZOp

set_option linter.unusedSimpArgs false
set_option linter.unusedVariables false
namespace Go.Proofs.YtkkolefionbbcaaGreat
open Go.RowKit Go.Lib

/-- eleven cells are written -/
def putW (W : World) (g o : Nat) (e : Opn × Value × Value) : World := ((((((((((W.setCell ⟨g, o, none⟩ (.int .i64 e.1.ds)).setCell ⟨g, o + 1, none⟩ (.int .i64 e.1.dq)).setCell ⟨g, o + 2, none⟩ e.2.1).setCell ⟨g, o + 3, none⟩ (.int .i64 e.1.kind)).setCell ⟨g, o + 4, none⟩ (.int .i64 e.1.it)).setCell ⟨g, o + 5, none⟩ (.int .i64 e.1.is)).setCell ⟨g, o + 6, none⟩ (.int .i64 e.1.rt)).setCell ⟨g, o + 7, none⟩ (.int .i64 e.1.rs)).setCell ⟨g, o + 8, none⟩ (.string e.1.text)).setCell ⟨g, o + 9, none⟩ e.2.2).setCell ⟨g, o + 10, none⟩ (.int .i64 e.1.site)
def lset11 (l : List Value) (o : Nat) (e : Opn × Value × Value) : List Value := ((((((((((l.set o (.int .i64 e.1.ds)).set (o + 1) (.int .i64 e.1.dq)).set (o + 2) e.2.1).set (o + 3) (.int .i64 e.1.kind)).set (o + 4) (.int .i64 e.1.it)).set (o + 5) (.int .i64 e.1.is)).set (o + 6) (.int .i64 e.1.rt)).set (o + 7) (.int .i64 e.1.rs)).set (o + 8) (.string e.1.text)).set (o + 9) e.2.2).set (o + 10) (.int .i64 e.1.site)
theorem lset11_cons (x : Opn × Value × Value) (l : List Value) (e : Opn × Value × Value) : lset11 (encO x ++ l) 0 e = encO e ++ l := rfl
theorem set_app (a b : List Value) (j : Nat) (v : Value) : (a ++ b).set (a.length + j) v = a ++ b.set j v := by
  rw [List.set_append_right _ _ (by omega), show a.length + j - a.length = j by omega]
theorem lset11_app (a b : List Value) (o : Nat) (e : Opn × Value × Value) : lset11 (a ++ b) (a.length + o) e = a ++ lset11 b o e := by
  unfold lset11
  simp only [Nat.add_assoc, set_app]
theorem flat_set11 : ∀ (M : List (Opn × Value × Value)) (k : Nat) (e : Opn × Value × Value), k < M.length → flat encO (M.set k e) = lset11 (flat encO M) (k * 11) e
  | [], k, e, h => by simp at h
  | x :: M, 0, e, h => by rw [List.set_cons_zero, flat_cons, flat_cons, Nat.zero_mul, lset11_cons]
  | x :: M, k + 1, e, h => by
    rw [List.set_cons_succ, flat_cons, flat_cons, flat_set11 M k e (by simpa using h), show (k + 1) * 11 = (encO x).length + k * 11 by rw [encO_len]; omega, lset11_app]
theorem take_lset11 (l : List Value) (n o : Nat) (e : Opn × Value × Value) : (lset11 l o e).take n = lset11 (l.take n) o e := by
  unfold lset11
  simp only [List.take_set]
theorem owns_set11 {W : World} {B n g c : Nat} {M : List (Opn × Value × Value)} (h : W.ownsRow B 42 11 (.slice (some ⟨g, 0, none⟩) n c) n (flat encO M)) (hM : M.length = n) {k : Nat} (hk : k < n) (e : Opn × Value × Value) :
    (putW W g (k * 11) e).ownsRow B 42 11 (.slice (some ⟨g, 0, none⟩) n c) n (flat encO (M.set k e)) := by
  obtain ⟨h1, (⟨e, _⟩ | ⟨g', cap, cur, e', hb, hg, hc1, hc2, hc3, hc4⟩)⟩ := h
  · cases e
  simp at e'
  obtain ⟨rfl, rfl⟩ := e'
  have hx : Bx W g 42 cur := hg
  have h3 := ((((((((((hx.set (k * 11) (.int .i64 e.1.ds)).set (k * 11 + 1) (.int .i64 e.1.dq)).set (k * 11 + 2) e.2.1).set (k * 11 + 3) (.int .i64 e.1.kind)).set (k * 11 + 4) (.int .i64 e.1.it)).set (k * 11 + 5) (.int .i64 e.1.is)).set (k * 11 + 6) (.int .i64 e.1.rt)).set (k * 11 + 7) (.int .i64 e.1.rs)).set (k * 11 + 8) (.string e.1.text)).set (k * 11 + 9) e.2.2).set (k * 11 + 10) (.int .i64 e.1.site)
  refine ⟨?_, .inr ⟨g, c, _, rfl, hb, h3, hc1, hc2, by simpa using hc3, ?_⟩⟩
  · rw [flat_len encO_len, List.length_set, hM]
  · rw [flat_set11 M k e (by omega)]
    simp only [Array.toList_setIfInBounds]
    rw [← hc4, ← take_lset11]
    rfl
theorem Kp.setp11 (W : World) (g o : Nat) (e : Opn × Value × Value) : Kp (fun i => i = g) W (putW W g o e) := by
  unfold putW
  have t : ∀ {W W' : World} (o : Nat) (v : Value), Kp (fun i => i = g) W W' → Kp (fun i => i = g) W (W'.setCell ⟨g, o, none⟩ v) := fun {W W'} o v k => k.trans (M := fun i => i = g) (Kp.set _ ⟨g, o, none⟩ v rfl) (fun i h => .inl h)
  exact t _ _ (t _ _ (t _ _ (t _ _ (t _ _ (t _ _ (t _ _ (t _ _ (t _ _ (t _ _ (Kp.set _ ⟨g, o, none⟩ _ rfl))))))))))
/-- the order in memory -/
structure OM (w W : World) (ov : Value) (m : List (Opn × Value × Value)) : Prop where
  bel : Below w.heap.size w W
  row : W.ownsRow w.heap.size 42 11 ov m.length (flat encO m)
  ent : ∀ e ∈ m, OE (fun i => w.heap.size ≤ i) W e
theorem OM.below {w W W' : World} {ov : Value} {m : List (Opn × Value × Value)} (h : OM w W ov m) (hb : Below W.heap.size W W') : OM w W' ov m :=
  ⟨bnext h.bel hb, owns_kp (N := fun _ => False) h.row (Kp.of_below hb) (fun _ _ e => e), fun e he => (h.ent e he).below hb⟩
theorem OM.put {w W : World} {g n c : Nat} {m : List (Opn × Value × Value)} (h : OM w W (.slice (some ⟨g, 0, none⟩) n c) m) (hn : m.length = n) {k : Nat} (hk : k < n) {e : Opn × Value × Value} (he : OE (fun i => w.heap.size ≤ i) W e) : OM w (putW W g (k * 11) e) (.slice (some ⟨g, 0, none⟩) n c) (m.set k e) := by
  have hr := h.row
  rw [hn] at hr
  have ks := Kp.setp11 W g (k * 11) e
  have hg := (hr.lt g rfl)
  have hx : ∃ cs, Bx W g 42 cs := by
    obtain ⟨_, (⟨e, _⟩ | ⟨g', cap, cur, e', hb, hg', _⟩)⟩ := hr
    · cases e
    simp at e'
    obtain ⟨rfl, _⟩ := e'
    exact ⟨_, hg'⟩
  obtain ⟨cs, hx⟩ := hx
  have tO : ∀ {x}, OE (fun i => w.heap.size ≤ i) W x → OE (fun i => w.heap.size ≤ i) (putW W g (k * 11) e) x := fun {x} q =>
    ⟨owns_kp q.d ks (fun i hi e => own_ne_box q.d hx (by decide) (by rw [hi, e])), owns_kp q.g ks (fun i hi e => own_ne_box q.g hx (by decide) (by rw [hi, e])), q.pd, q.pg, q.s1, q.s2, q.s3, q.inn⟩
  refine ⟨(ks.wk (M := fun i => w.heap.size ≤ i) (fun i e => by rw [e]; exact hg.1)).below h.bel (fun i e => e), ?_, fun x hx => ?_⟩
  · rw [List.length_set, hn]
    exact owns_set11 hr hn hk e
  · rcases List.mem_or_eq_of_mem_set hx with hx | hx
    · exact tO (h.ent x hx)
    · rw [hx]; exact tO he
/-- two exchanged -/
theorem swap_memO {M : List (Opn × Value × Value)} {j k : Nat} {x y : Opn × Value × Value} (hj : M[j]? = some x) (hk : M[k]? = some y) : ∀ z, z ∈ (M.set j y).set k x ↔ z ∈ M := fun z => by
  have h1 := (List.getElem?_eq_some_iff.1 hj).1
  have h2 := (List.getElem?_eq_some_iff.1 hk).1
  rw [List.mem_iff_getElem?, List.mem_iff_getElem?]
  constructor
  · rintro ⟨i, hi⟩
    by_cases e : i = k
    · subst e
      rw [List.getElem?_set_self (by simpa using h2)] at hi
      exact ⟨j, by rw [hj]; exact hi⟩
    · rw [List.getElem?_set_ne (fun h => e h.symm)] at hi
      by_cases e2 : i = j
      · subst e2
        rw [List.getElem?_set_self h1] at hi
        exact ⟨k, by rw [hk]; exact hi⟩
      · rw [List.getElem?_set_ne (fun h => e2 h.symm)] at hi
        exact ⟨i, hi⟩
  · rintro ⟨i, hi⟩
    by_cases e : i = j
    · refine ⟨k, ?_⟩
      rw [List.getElem?_set_self (by simpa using h2), ← hi, e, hj]
    · by_cases e2 : i = k
      · by_cases e3 : j = k
        · exact absurd (e2.trans e3.symm) e
        · refine ⟨j, ?_⟩
          rw [List.getElem?_set_ne (fun h => e3 h.symm), List.getElem?_set_self h1, ← hi, e2, hk]
      · exact ⟨i, by rw [List.getElem?_set_ne (fun h => e2 h.symm), List.getElem?_set_ne (fun h => e h.symm)]; exact hi⟩

end Go.Proofs.YtkkolefionbbcaaGreat

/-
  How much is ready; a queue to which the order's operations are offered.
-/
set_option linter.unusedSimpArgs false
set_option linter.unusedVariables false
namespace Go.Proofs.YtkkolefionbbcaaGreat
open Go.RowKit Go.Lib

theorem sumN_le {f g : Nat → Int} (h : ∀ t, f t ≤ g t) : ∀ n, sumN f n ≤ sumN g n
  | 0 => by simp [sumN]
  | n + 1 => by
    have := sumN_le h n
    have := h n
    simp only [sumN]
    omega
theorem CI.rlen {l : List Opn} {hold : Int} {hv : List (Int × Int)} {ws rd : List Opn} (hc : Cl l) (h : CI l hold hv ws rd) : rd.length ≤ l.length := by
  have hds : ∀ o ∈ l, 1 ≤ o.ds ∧ o.ds ≤ 16 := fun o ho => (chkO_dot (hc.ok o ho)).1
  have h1 : ∀ t : Nat, sy hv t ≤ (cntS l (t : Int) : Int) := fun t => by
    by_cases ht : 1 ≤ (t : Int) ∧ (t : Int) ≤ 16
    · have := h.cap (t : Int)
      unfold getV at this
      rw [if_pos ht, Int.toNat_natCast] at this
      exact this
    · have h1 : sy hv t = 0 := by
        by_cases h0 : t = 0
        · subst h0; exact (sy_good hv).zero
        · exact (sy_good hv).over t (by omega)
      omega
  have h2 := sumN_le h1 17
  rw [cnt_sum hds] at h2
  have h3 := h.num
  unfold sum at h3
  omega
variable {w W W' : World} {vv : Value} {hh hv : List (Int × Int)} {b : Nat} {hold : Int} {ws rd : List Opn}
theorem CK.offB (h : CK w vv hh b hold hv ws rd W) (hd : 0 ≤ hold ∧ hold ≤ 256) (o : Opn) (vd vg : Value) (rdd : RI W vd o.deps) (rgg : RR W vg o.gone) (h1 : o.deps.length ≤ 1000000) (h2 : o.gone.length ≤ 1000000) (h3 : o.text.size ≤ 1000000) (hin : InO o) (hl : ws.length + rd.length ≤ 1000) : Calls Tryz.prog 15 #[.pointer (some ⟨b, 0, none⟩), opA o vd vg] W fun e W' => e = .returned (.tuple #[.int .i64 (offA hold hv ws rd o).1.1, .int .i64 (offA hold hv ws rd o).1.2]) ∧ CK w vv hh b hold (offA hold hv ws rd o).2.1 (offA hold hv ws rd o).2.2.1 (offA hold hv ws rd o).2.2.2 W' := by
  obtain ⟨P, vh, vw, vr, wt, rt, q, e1, e2, hp⟩ := h.q
  have l1 : wt.length = ws.length := by rw [← e1, List.length_map]
  have l2 : rt.length = rd.length := by rw [← e2, List.length_map]
  refine (Offer_in q o vd vg rdd rgg h1 h2 h3 hin hd (by omega)).mono ?_
  rintro e W' ⟨rfl, hq, k⟩
  rw [e1, e2] at hq
  rw [e1, e2]
  exact ⟨rfl, h.after hp hq k⟩
theorem CK.new (hq : ∃ vh, QM (fun i => w.heap.size ≤ i) W b hold vh (.slice none 0 0) (.slice none 0 0) [] [] []) (hb : Below w.heap.size w W) : CK w (.slice none 0 0) [] b hold [] [] [] W := by
  obtain ⟨vh, q⟩ := hq
  exact ⟨⟨_, vh, _, _, [], [], q.tight, rfl, rfl, fun i hi => ⟨hi.1, hi.2, fun e => (by cases e)⟩⟩, hb, World.ownsRow_nil _ _ _ _⟩
/-- behind k rounds -/
structure RndK (l m : List Opn) (hold : Int) (k : Nat) (hv : List (Int × Int)) (ws rd : List Opn) : Prop where
  r : Rnd l m hold k 0 hv ws rd
  f : 1 ≤ k → (l.length : Int) ≤ hold → ws = [] ∧ Up hv l l.length
theorem RndK.start (l m : List Opn) {hold : Int} (h : 0 ≤ hold) : RndK l m hold 0 [] [] [] := ⟨Rnd.start l m h, fun e => by omega⟩
theorem RndK.next {l m : List Opn} {k : Nat} (hc : Cl l) (hp : ∀ o ∈ l, o ∈ m) (h : Rnd l m hold k m.length hv ws rd) : RndK l m hold (k + 1) hv ws rd := ⟨h.next hc hp, fun _ hh => h.fin1 hc hp hh⟩
theorem RndK.fin {l m : List Opn} {k : Nat} (hc : Cl l) (h : RndK l m hold k hv ws rd) (hk : l.length ≤ k ∨ (1 ≤ k ∧ (l.length : Int) ≤ hold)) : ws = [] ∧ rd.length = l.length ∧ sum (sy hv) = (l.length : Int) := by
  have : ws = [] ∧ Up hv l l.length := by
    rcases hk with hk | ⟨h1, h2⟩
    · exact h.r.fin hc hk
    · exact h.f h1 h2
  exact ⟨this.1, h.r.ci.count hc this.2⟩

end Go.Proofs.YtkkolefionbbcaaGreat

/-
  Rows of numbers, opened.
-/
set_option linter.unusedSimpArgs false
set_option linter.unusedVariables false
namespace Go.Proofs.YtkkolefionbbcaaGreat
open Go.RowKit Go.Lib

theorem flat_nums (l : List Int) : flat (fun x : Int => [Value.int .i64 x]) l = nC l := by
  unfold flat nC
  induction l with
  | nil => rfl
  | cons x l ih => rw [List.flatMap_cons, ih]; rfl
theorem open_nums {H : Type} {enc : TypeId × Value → H} {w : World} {base : Nat} {spare : Nat → Bool} {held : Bool} {fuel : Nat} {a : Option Addr} {len cap : Nat} {x : DataW H × List MemPlace}
    (h : DataW.trod enc Tryz.prog w base spare held fuel 66 [.slice a len cap] = some x) : ∃ l : List Int, RN w (.slice a len cap) l ∧ l.length = len ∧ len ≤ maxLen ∧ ∀ e ∈ l, in64 e := by
  rcases Go.Deep.open_slice Tryz.underlying66 h with ⟨h0, _⟩ | ⟨ad, ln, cp, m, n, D, Pl, h0, hb, hl, hm, hmm, _, hx⟩
  · simp only [List.cons.injEq, Value.slice.injEq, and_true] at h0
    obtain ⟨rfl, rfl, rfl⟩ := h0
    exact ⟨[], .inl ⟨rfl, _, _, rfl⟩, rfl, by unfold maxLen; omega, fun e he => by cases he⟩
  · simp only [List.cons.injEq, Value.slice.injEq, and_true] at h0
    obtain ⟨rfl, rfl, rfl⟩ := h0
    have hlm : len ≤ m := by rw [hmm]; split <;> omega
    obtain ⟨l, h1, h2, h3⟩ := mk_each (enc := fun x : Int => [Value.int .i64 x]) (k := 1) (fun _ => rfl) (by omega) (Pr := in64) (w := w) (ad := ad) (len := len) (cap := cap) hl (fun i hi => by
      obtain ⟨cs', h1, h2⟩ := hx i (by omega)
      have ce : Tryz.prog.cellsOf 3 = 1 := by kernel_rfl
      rw [ce] at h1
      obtain ⟨_, hlen, hcell⟩ := World.cells?_some h1
      match cs', hlen with
      | [v0], _ =>
        obtain ⟨n0, e0, _, w0⟩ := DataW.trod_int Tryz.underlying3 h2
        simp at e0
        subst e0
        have q0 := hcell 0 (by omega)
        rw [Go.Deep.add_add] at q0
        refine ⟨n0, fun q x hx => ?_, wf64 w0⟩
        match q, hx with
        | 0, hx => simp at hx; subst hx; simpa using q0
        | q + 1, hx => simp at hx)
    rw [flat_nums] at h1
    exact ⟨l, by rw [← h2] at h1 ⊢; exact h1, h2, by omega, h3⟩

end Go.Proofs.YtkkolefionbbcaaGreat
