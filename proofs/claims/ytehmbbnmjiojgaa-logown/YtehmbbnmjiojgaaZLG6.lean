/-
  The log is cut.
-/
import Derived.Test.YtehmbbnmjiojgaaZLG5
set_option linter.unusedSimpArgs false
set_option linter.unusedVariables false
namespace Go.Proofs.Ytehmbbnmjiojgaa
open Go.RowKit Go.Lib

def sets (W : World) (b : Nat) : Nat → List Value → World
  | _, [] => W
  | o, c :: cs => sets (W.setCell ⟨b, o, none⟩ c) b (o + 1) cs
def lsets (xs : List Value) : Nat → List Value → List Value
  | _, [] => xs
  | o, c :: cs => lsets (xs.set o c) (o + 1) cs
theorem lsets_len : ∀ (cs xs : List Value) (o : Nat), (lsets xs o cs).length = xs.length
  | [], _, _ => rfl
  | c :: cs, xs, o => by rw [lsets, lsets_len cs, List.length_set]
theorem lsets_out : ∀ (cs xs : List Value) (o q : Nat), q < o ∨ o + cs.length ≤ q → (lsets xs o cs)[q]? = xs[q]?
  | [], _, _, _, _ => rfl
  | c :: cs, xs, o, q, h => by
    rw [List.length_cons] at h
    rw [lsets, lsets_out cs _ _ _ (by omega), List.getElem?_set_ne (by omega)]
theorem lsets_in : ∀ (cs xs : List Value) (o k : Nat), k < cs.length → o + k < xs.length → (lsets xs o cs)[o + k]? = cs[k]?
  | c :: cs, xs, o, 0, _, hl => by
    rw [lsets, lsets_out cs _ _ _ (by omega)]
    exact List.getElem?_set_self hl
  | c :: cs, xs, o, k + 1, h, hl => by
    rw [List.length_cons] at h
    rw [lsets, show o + (k + 1) = o + 1 + k by omega, lsets_in cs _ _ _ (by omega) (by rw [List.length_set]; omega)]
    rfl
theorem own_sets {B e s b m c : Nat} : ∀ (cs : List Value) {xs : List Value} {W : World} (o : Nat), W.ownsRow B e s (.slice (some ⟨b, 0, none⟩) m c) m xs → (sets W b o cs).ownsRow B e s (.slice (some ⟨b, 0, none⟩) m c) m (lsets xs o cs) ∧ Kp (fun k => k = b) W (sets W b o cs)
  | [], xs, W, o, h => ⟨h, Kp.refl _ _⟩
  | c :: cs, xs, W, o, h => by
    have h1 := (h.stored o c).1
    obtain ⟨h2, g2⟩ := own_sets cs (o + 1) h1
    exact ⟨h2, (Kp.set (N := fun k => k = b) W ⟨b, o, none⟩ c rfl).trans g2 (fun i e => .inl e)⟩
theorem own_base {W : World} {B B' E k n : Nat} {v : Value} {C : List Value} (h : W.ownsRow B E k v n C) (hb : B' ≤ B) : W.ownsRow B' E k v n C := by
  obtain ⟨h1, h2⟩ := h
  refine ⟨h1, h2.imp id ?_⟩
  rintro ⟨g, cap, cur, e1, e2, e3⟩
  exact ⟨g, cap, cur, e1, by omega, e3⟩
theorem lsets_mid : ∀ (cs Q A R : List Value), Q.length = cs.length → lsets (A ++ (Q ++ R)) A.length cs = A ++ (cs ++ R)
  | [], Q, A, R, h => by rw [lsets, List.eq_nil_of_length_eq_zero h]
  | c :: cs, [], A, R, h => by simp at h
  | c :: cs, q :: Q, A, R, h => by
    rw [lsets, List.set_append_right _ _ (Nat.le_refl _), Nat.sub_self]
    have := lsets_mid cs Q (A ++ [c]) R (by simpa using h)
    simp only [List.length_append, List.length_singleton, List.append_assoc, List.cons_append, List.nil_append] at this
    simp only [List.cons_append, List.set_cons_zero]
    exact this
/-- those of which a vector has the Dot -/
def prL (l : List (Int × Int)) (has : Bool) (os : List Opn) : List Opn := os.filter fun o => hasV l (o.ds, o.dq) == has
theorem prt_fst (l : List (Int × Int)) (has : Bool) (ops : List (Opn × Value × Value)) : (prt l has ops).map Prod.fst = prL l has (ops.map Prod.fst) := by
  unfold prt prL
  rw [List.filter_map]
  rfl
/-- the error of a cut -/
def cutE (hv l : List (Int × Int)) : Int := if chk l ≠ 0 then chk l else if cov (sy hv) (sy l) = true then 0 else 9
theorem cutE_chk {hv l : List (Int × Int)} (h : chk l ≠ 0) : cutE hv l = chk l := by unfold cutE; rw [if_pos h]
theorem cutE_cov {hv l : List (Int × Int)} (h : chk l = 0) (h2 : cov (sy hv) (sy l) = false) : cutE hv l = 9 := by unfold cutE; rw [if_neg (by simpa using h), if_neg (by simp [h2])]
theorem cutE_ok {hv l : List (Int × Int)} (h : chk l = 0) (h2 : cov (sy hv) (sy l) = true) : cutE hv l = 0 := by unfold cutE; rw [if_neg (by simpa using h), if_pos h2]

/-- operations that are answered: a list of one's own, and the lists of each -/
def RL (P : Nat → Prop) (W : World) (v : Value) (os : List Opn) : Prop := ∃ ops : List (Opn × Value × Value), W.ownsRow 0 38 11 v ops.length (flat encO ops) ∧ (∀ e ∈ ops, OE P W e) ∧ (∀ k, v.ownBlock = some k → P k) ∧ ops.map Prod.fst = os
theorem RL.kp {P N : Nat → Prop} {W W' : World} {v : Value} {os : List Opn} (h : RL P W v os) (k : Kp N W W') (hn : ∀ i, N i → ¬ P i) : RL P W' v os := by
  obtain ⟨ops, h1, h2, h3, h4⟩ := h
  exact ⟨ops, owns_kp h1 k (fun i hi e => hn i e (h3 i hi)), fun e he => (h2 e he).kp k hn, h3, h4⟩
theorem RL.below {P : Nat → Prop} {W W' : World} {v : Value} {os : List Opn} (h : RL P W v os) (hb : Below W.heap.size W W') : RL P W' v os := h.kp (N := fun _ => False) (Kp.of_below hb) (fun _ h => h.elim)
theorem RL.mono {P P' : Nat → Prop} {W : World} {v : Value} {os : List Opn} (h : RL P W v os) (hp : ∀ i, P i → P' i) : RL P' W v os := by
  obtain ⟨ops, h1, h2, h3, h4⟩ := h
  exact ⟨ops, h1, fun e he => (h2 e he).mono hp, fun k hk => hp k (h3 k hk), h4⟩
theorem RL.nil (P : Nat → Prop) (W : World) : RL P W (.slice none 0 0) [] := ⟨[], World.ownsRow_nil _ _ _ _, fun e he => (by cases he), fun k hk => (by cases hk), rfl⟩

set_option maxRecDepth 100000 in
theorem Cut_nil (a : Option Addr) (n c : Nat) (w : World) : Calls Try.prog 14 #[.pointer none, .slice a n c] w fun e W => e = .returned (.tuple #[.slice none 0 0, .int .i64 1]) ∧ w = W := by
  go_enter Try.func14, Try.ntmps14
  go_wp2
  refine bodyPost_ret (results_tmp2 rfl _ _ _) rfl ?_
  exact ⟨rfl, rfl⟩

/-- while what is forgotten is cloned: the first ones are, the others as they were -/
def CuR (w : World) (gone : List (Opn × Value × Value)) (v : Value) (i : Nat) (W : World) : Prop :=
  ∃ cl : List (Opn × Value × Value), cl.length = i ∧ cl.map Prod.fst = (gone.take i).map Prod.fst ∧ (∀ e ∈ cl, OE (fun k => w.heap.size ≤ k) W e) ∧ W.ownsRow w.heap.size 38 11 v gone.length (flat encO (cl ++ gone.drop i))

/-- what Cut leaves -/
def CutA (P : Nat → Prop) (w : World) (b : Nat) (base hv : List (Int × Int)) (os : List Opn) (l : List (Int × Int)) (e : Ending) (W : World) : Prop :=
  ∃ v M, e = .returned (.tuple #[v, .int .i64 (cutE hv l)]) ∧ w.heap.size ≤ M ∧ M ≤ W.heap.size ∧ RL (fun i => w.heap.size ≤ i ∧ i < M) W v (if cutE hv l = 0 then prL l true os else []) ∧ LL (fun i => P i ∨ M ≤ i) W b (if cutE hv l = 0 then vec (mrg (sy base) (sy l)) else base) hv (if cutE hv l = 0 then prL l false os else os) ∧ Kp P w W

theorem LG.setBase {P P' : Nat → Prop} {W : World} {b : Nat} {vb vh vo v' : Value} {base hv base' : List (Int × Int)} {ops : List (Opn × Value × Value)} (h : LG P W b vb vh vo base hv ops) (ho : OwD W 0 v' base') (hp : ∀ i, P i → P' i) (hv' : ∀ k, v'.ownBlock = some k → P' k) (hl : base'.length ≤ 1000000) : LG P' (W.setCell ⟨b, 0, none⟩ v') b v' vh vo base' hv ops := by
  have k := Kp.set (N := fun i => i = b) W ⟨b, 0, none⟩ v' rfl
  have tD : ∀ {B n : Nat} {v : Value} {C : List Value}, W.ownsRow B 33 2 v n C → ∀ i, v.ownBlock = some i → ¬ i = b := fun hr i hi e => own_ne_box hr h.box (by decide) (by rw [hi, e])
  have tR : ∀ {B n : Nat} {v : Value} {C : List Value}, W.ownsRow B 62 3 v n C → ∀ i, v.ownBlock = some i → ¬ i = b := fun hr i hi e => own_ne_box hr h.box (by decide) (by rw [hi, e])
  have hb := h.box.set 0 v'
  refine ⟨by simpa using hb, owns_kp ho k (tD ho), owns_kp h.rh k (tD h.rh), owns_kp h.ro k (fun i hi e => own_ne_box h.ro h.box (by decide) (by rw [hi, e])), fun e he => ?_, hp _ h.pb, hv', fun k hk => hp k (h.pvh k hk), fun k hk => hp k (h.pvo k hk), hl, h.lh⟩
  have oe := h.re e he
  exact ⟨owns_kp oe.d k (tD oe.d), owns_kp oe.g k (tR oe.g), fun k hk => hp k (oe.pd k hk), fun k hk => hp k (oe.pg k hk), oe.s1, oe.s2, oe.s3⟩
theorem OE.lt {P : Nat → Prop} {W : World} {e : Opn × Value × Value} (h : OE P W e) : OE (fun i => P i ∧ i < W.heap.size) W e := ⟨h.d, h.g, fun k hk => ⟨h.pd k hk, (h.d.lt k hk).2⟩, fun k hk => ⟨h.pg k hk, (h.g.lt k hk).2⟩, h.s1, h.s2, h.s3⟩

set_option maxRecDepth 100000 in
set_option maxHeartbeats 16000000 in
theorem Cut_in {P : Nat → Prop} {w : World} {b : Nat} {base hv : List (Int × Int)} {os : List Opn} (hL : LL P w b base hv os) (hP : ∀ i, P i → i < w.heap.size) (hn0 : os.length ≤ 1000000) (v : Value) (l : List (Int × Int)) (hr : RI w v l) (hl : l.length ≤ 1000000) (hap : ∀ k, rb v l.length k → ¬ P k) :
    Calls Try.prog 14 #[.pointer (some ⟨b, 0, none⟩), v] w (CutA P w b base hv os l) := by
  have hL0 := hL
  obtain ⟨vb, vh, vo, ops, h, rfl⟩ := hL
  rw [List.length_map] at hn0
  obtain ⟨av, cv, rfl⟩ := hr.form
  obtain ⟨ah, ch, rfl⟩ := OwD.form h.rh
  obtain ⟨ab, cb, rfl⟩ := OwD.form h.rb
  have HF : Hid (∀ W, Below w.heap.size w W → cutE hv l ≠ 0 → CutA P w b base hv (ops.map Prod.fst) l (.returned (.tuple #[.slice none 0 0, .int .i64 (cutE hv l)])) W) := fun W hb he => ⟨_, w.heap.size, rfl, Nat.le_refl _, hb.size, by rw [if_neg he]; exact RL.nil _ _, by rw [if_neg he, if_neg he]; exact (hL0.below hb).mono (fun i hi => .inl hi), Kp.of_below hb⟩
  have HC := hide (Check_in _ l w hr (by omega))
  have Hh := hide h
  have Hr := hide hr
  have Hap := hide hap
  have c1 := h.box.cell 1 _ rfl
  have bl := h.box.lt
  clear hL0 h hr hap
  by_cases hck : chk l = 0
  rotate_left
  · have HE := hide (cutE_chk (hv := hv) hck)
    obtain ⟨k, hk⟩ : ∃ k, chk l = k := ⟨_, rfl⟩
    rw [hk] at HC HE hck
    have hck' : (k == 0) = false := by simpa using hck
    clear hk
    go_enter Try.func14, Try.ntmps14
    go_wp2_with fail
    refine (unhide HC).mono ?_
    rintro r W1 ⟨rfl, hb1⟩
    go_wp2
    refine bodyPost_ret (results_tmp2 rfl _ _ _) rfl ?_
    have := unhide HF _ hb1 (by rw [unhide HE]; exact hck)
    rw [unhide HE] at this
    exact this
  have Hck := hide hck
  rw [hck] at HC
  clear hck
  have HCo := hide (fun (W : World) (hb : Below w.heap.size w W) => Covers_in _ _ hv l W ((unhide Hh).below hb).rh.row ((unhide Hr).below hb) (by have := (unhide Hh).lh; omega) (by omega))
  go_enter Try.func14, Try.ntmps14
  go_wp2_with fail
  refine (unhide HC).mono ?_
  rintro r W1 ⟨rfl, hb1⟩
  have H1 := hide (unhide HCo W1 hb1)
  replace c1 := ((unhide Hh).below hb1).box.cell 1 _ rfl
  have B1 := hide hb1
  clear hb1 HC HCo
  cases hcv : cov (sy hv) (sy l)
  · rw [hcv] at H1
    have HE := hide (cutE_cov (unhide Hck) hcv)
    clear hcv
    go_wp2_with fail
    refine (unhide H1).mono ?_
    rintro r W2 ⟨rfl, hb2⟩
    go_wp2
    refine bodyPost_ret (results_tmp2 rfl _ _ _) rfl ?_
    have := unhide HF _ (bnext (unhide B1) hb2) (by rw [unhide HE]; decide)
    rw [unhide HE] at this
    exact this
  rw [hcv] at H1
  have HE := hide (cutE_ok (unhide Hck) hcv)
  clear hcv HF
  go_wp2_with fail
  refine (unhide H1).mono ?_
  rintro r W2 ⟨rfl, hb2⟩
  have B2 := hide (bnext (unhide B1) hb2)
  have HP1 := hide (part_in ((unhide Hh).below (unhide B2)) _ l true ((unhide Hr).below (unhide B2)) hl hn0)
  clear H1 B1 hb2 c1
  go_wp2_with fail
  refine (unhide HP1).mono ?_
  rintro r W3 ⟨v3, rfl, ho3, hb3⟩
  obtain ⟨gone, hgone⟩ : ∃ g, prt l true ops = g := ⟨_, rfl⟩
  rw [hgone] at ho3
  have hgm : Hid (∀ e ∈ gone, e ∈ ops) := fun e he => prt_mem (by rw [hgone]; exact he)
  have hgl : gone.length ≤ 1000000 := by have := prt_len l true ops; rw [hgone] at this; omega
  have Hgone := hide hgone
  obtain ⟨a3, c3, rfl⟩ := owns_form ho3
  have B3 := hide (bnext (unhide B2) hb3)
  have R0 : Hid (CuR w gone (.slice a3 gone.length c3) 0 W3) := ⟨[], rfl, by simp, fun e he => (by cases he), by rw [List.nil_append, List.drop_zero]; exact own_base ho3 (unhide B2).size⟩
  clear ho3 hb3 HP1 hgone
  go_wp2
  go_loopw [29] (fun iv wr => ∃ (i : Nat), iv = .int .i64 (i : Nat) ∧ i ≤ gone.length ∧ Hid (CuR w gone (.slice a3 gone.length c3) i wr) ∧ Hid (Below w.heap.size w wr)) (fun iv _ => gone.length - (Lib.intOf iv).toNat)
  case atStart => exact ⟨0, rfl, by omega, R0, B3⟩
  case round =>
    clear R0 B3 B2
    obtain ⟨i, rfl, hi, HR, HB⟩ := hrel
    by_cases hlt : i < gone.length
    · have hlt' : (i : Int) < (gone.length : Int) := by omega
      obtain ⟨e, hx⟩ : ∃ e, gone[i]? = some e := ⟨_, List.getElem?_eq_getElem hlt⟩
      obtain ⟨cl, hcl, hcm, hce, hown⟩ := unhide HR
      have hdr : gone.drop i = e :: gone.drop (i + 1) := by
        rw [List.drop_eq_getElem_cons hlt]
        congr 1
        exact Option.some.inj ((List.getElem?_eq_getElem hlt).symm.trans hx)
      have hix : (cl ++ gone.drop i)[i]? = some e := by rw [List.getElem?_append_right (by omega), hcl, Nat.sub_self, hdr]; rfl
      have hln : (cl ++ gone.drop i).length = gone.length := by rw [List.length_append, hcl, List.length_drop]; omega
      obtain ⟨g, rfl, hgl2, hcell⟩ := own_at11 hown hln hix
      have oe := ((unhide Hh).re e (unhide hgm e (List.mem_of_getElem? hx))).below (unhide HB)
      obtain ⟨a1, c1, h1⟩ := OwD.form oe.d
      obtain ⟨a2, c2, h2⟩ := OwR.form oe.g
      obtain ⟨o, ud, ug⟩ := e
      simp only at h1 h2
      subst h1 h2
      have q0 := hcell 0 _ rfl
      have q1 := hcell 1 _ rfl
      have q2 := hcell 2 _ rfl
      have q3 := hcell 3 _ rfl
      have q4 := hcell 4 _ rfl
      have q5 := hcell 5 _ rfl
      have q6 := hcell 6 _ rfl
      have q7 := hcell 7 _ rfl
      have q8 := hcell 8 _ rfl
      have q9 := hcell 9 _ rfl
      have q10 := hcell 10 _ rfl
      rw [Nat.add_zero] at q0
      obtain ⟨Y, hY⟩ : ∃ Y, wr.alloc (.cells #[.int .i64 o.ds, .int .i64 o.dq, .slice a1 o.deps.length c1, .int .i64 o.kind, .int .i64 o.it, .int .i64 o.is, .int .i64 o.rt, .int .i64 o.rs, .string o.text, .slice a2 o.gone.length c2, .int .i64 o.site] 38) = Y := ⟨_, rfl⟩
      have bY : Below wr.heap.size wr Y := by rw [← hY]; exact ballc (Below.refl _ _) _
      have xY := Bx.new wr 38 #[.int .i64 o.ds, .int .i64 o.dq, .slice a1 o.deps.length c1, .int .i64 o.kind, .int .i64 o.it, .int .i64 o.is, .int .i64 o.rt, .int .i64 o.rs, .string o.text, .slice a2 o.gone.length c2, .int .i64 o.site]
      rw [hY] at xY
      have HCl := hide (clone_in o a1 a2 c1 c2 Y (oe.d.row.below bY) (RC.below oe.g.row bY) oe.s1 oe.s2 oe.s3)
      have Hoe := hide oe
      have HX := hide (show cl.length = i ∧ cl.map Prod.fst = (gone.take i).map Prod.fst ∧ (∀ e ∈ cl, OE (fun k => w.heap.size ≤ k) Y e) ∧ Y.ownsRow w.heap.size 38 11 (.slice (some ⟨g, 0, none⟩) gone.length c3) gone.length (flat encO (cl ++ gone.drop i)) from ⟨hcl, hcm, fun e he => (hce e he).below bY, owns_kp (N := fun _ => False) hown (Kp.of_below bY) (fun _ _ x => x)⟩)
      have BY := hide (bnext (unhide HB) bY)
      have hix' := hide hix
      have Hdr := hide hdr
      have Hln := hide hln
      have Hx := hide hx
      have hwY := bY.size
      obtain ⟨z0, z1, z2, z3, z4, z5, z6, z7, z8, z9, z10⟩ := cells_op xY
      have yl := xY.lt
      clear hcl hcm hce hown oe bY xY hix hdr hln hcell HR HB hx
      go_wp2_with fail
      refine (unhide HCl).mono ?_
      rintro r W5 ⟨vd', vg', rfl, hod, hog, hb5⟩
      obtain ⟨ad, cd, rfl⟩ := OwD.form hod
      obtain ⟨ag, cg, rfl⟩ := OwR.form hog
      unfold opA
      obtain ⟨hcl, hcm, hce, hown⟩ := unhide HX
      have hown5 := owns_kp (N := fun _ => False) hown (Kp.of_below hb5) (fun _ _ x => x)
      have hce5 := fun e he => (hce e he).below hb5
      have hix5 := unhide hix'
      obtain ⟨g', hg', hgl5, hcell5⟩ := own_at11 hown5 (unhide Hln) hix5
      simp only [Option.some.injEq, Addr.mk.injEq, and_true] at hg'
      subst hg'
      have fz := fun j => hown5.frozenAt j
      have r0 := hcell5 0 _ rfl
      have r1 := hcell5 1 _ rfl
      have r2 := hcell5 2 _ rfl
      have r3 := hcell5 3 _ rfl
      have r4 := hcell5 4 _ rfl
      have r5 := hcell5 5 _ rfl
      have r6 := hcell5 6 _ rfl
      have r7 := hcell5 7 _ rfl
      have r8 := hcell5 8 _ rfl
      have r9 := hcell5 9 _ rfl
      have r10 := hcell5 10 _ rfl
      rw [Nat.add_zero] at r0
      have f0 := fz (i * 11)
      have f1 := fz (i * 11 + 1)
      have f2 := fz (i * 11 + 2)
      have f3 := fz (i * 11 + 3)
      have f4 := fz (i * 11 + 4)
      have f5 := fz (i * 11 + 5)
      have f6 := fz (i * 11 + 6)
      have f7 := fz (i * 11 + 7)
      have f8 := fz (i * 11 + 8)
      have f9 := fz (i * 11 + 9)
      have f10 := fz (i * 11 + 10)
      -- the element, stored
      obtain ⟨k1, k2⟩ := own_sets (encO (o, Value.slice ad o.deps.length cd, Value.slice ag o.gone.length cg)) (i * 11) hown5
      have hA : (flat encO cl).length = i * 11 := by rw [flat_len encO_len, hcl]
      have hsp : lsets (flat encO (cl ++ gone.drop i)) (i * 11) (encO (o, Value.slice ad o.deps.length cd, Value.slice ag o.gone.length cg)) = flat encO ((cl ++ [(o, Value.slice ad o.deps.length cd, Value.slice ag o.gone.length cg)]) ++ gone.drop (i + 1)) := by
        rw [unhide Hdr, flat_append, flat_cons, ← hA, lsets_mid _ _ _ _ (by rw [encO_len, encO_len]), flat_append, flat_append]
        simp [flat]
      rw [hsp] at k1
      obtain ⟨ZZ, hZZ⟩ : ∃ Z, sets W5 g (i * 11) (encO (o, Value.slice ad o.deps.length cd, Value.slice ag o.gone.length cg)) = Z := ⟨_, rfl⟩
      rw [hZZ] at k1 k2
      have kz := k2
      have hgw : w.heap.size ≤ g := (hown5.lt g rfl).1
      have hoeS := unhide Hoe
      have hodl := hod.lt
      have hogl := hog.lt
      have hYg : g < Y.heap.size := (hown.lt g rfl).2
      have R2 : Hid (CuR w gone (.slice (some ⟨g, 0, none⟩) gone.length c3) (i + 1) ZZ) := by
        refine ⟨cl ++ [(o, Value.slice ad o.deps.length cd, Value.slice ag o.gone.length cg)], by simp [hcl], ?_, fun e he => ?_, k1⟩
        · rw [List.take_add_one, unhide Hx]
          simp [hcm]
        · rcases List.mem_append.1 he with he | he
          · have q := hce5 e he
            exact ⟨owns_kp q.d kz (fun k hk e2 => own_ne_own q.d hown5 (by decide) k hk (by rw [e2]; rfl)), owns_kp q.g kz (fun k hk e2 => own_ne_own q.g hown5 (by decide) k hk (by rw [e2]; rfl)), q.pd, q.pg, q.s1, q.s2, q.s3⟩
          · simp only [List.mem_singleton] at he
            subst he
            exact ⟨own_base (owns_kp hod kz (fun k hk e2 => by have := (hodl k hk).1; omega)) (Nat.zero_le _), own_base (owns_kp hog kz (fun k hk e2 => by have := (hogl k hk).1; omega)) (Nat.zero_le _), fun k hk => by have := (hodl k hk).1; have := (unhide BY).size; omega, fun k hk => by have := (hogl k hk).1; have := (unhide BY).size; omega, hoeS.s1, hoeS.s2, hoeS.s3⟩
      have B2 := hide (kz.below (bnext (unhide BY) hb5) (fun k hk => by omega))
      have HZ := hide hZZ
      have n5 : g < W5.heap.size := hgl5
      clear hcl hcm hce hown hown5 hce5 hix5 hcell5 fz k1 k2 kz hod hog hb5 HCl HX hoeS hodl hogl hsp hA hY z0 z1 z2 z3 z4 z5 z6 z7 z8 z9 z10 q0 q1 q2 q3 q4 q5 q6 q7 q8 q9 q10 hZZ
      go_wp2
      go_roundw
      case measure => show gone.length - ((i : Int) + 1).toNat < gone.length - ((i : Nat) : Int).toNat; omega
      case rel => exact ⟨i + 1, by go_num, by omega, by rw [← unhide HZ] at R2; exact R2, by rw [← unhide HZ] at B2; exact B2⟩
    · have hlt' : ¬ (i : Int) < (gone.length : Int) := by omega
      obtain rfl : i = gone.length := by omega
      have h4 := (unhide Hh).below (unhide HB)
      have HP2 := hide (part_in h4 _ l false ((unhide Hr).below (unhide HB)) hl hn0)
      clear h4
      go_wp2_with fail
      refine (unhide HP2).mono ?_
      rintro r W6 ⟨v6, rfl, ho6, hb6⟩
      have h6 := (unhide Hh).below (bnext (unhide HB) hb6)
      have HK := hide (keep_in h6 v6 (prt l false ops) (RC.of_owns ho6) (prt_len l false ops) (fun e he => prt_mem he))
      obtain ⟨left, hleft⟩ : ∃ x, prt l false ops = x := ⟨_, rfl⟩
      rw [hleft] at HK ho6
      have Hleft := hide hleft
      obtain ⟨a6, c6, rfl⟩ := owns_form ho6
      have B6 := hide hb6
      have h6w : Hid (∀ i, vo.ownBlock = some i → P i) := h6.pvo
      have pb : Hid (P b) := h6.pb
      clear HP2 ho6 hb6 h6 hleft
      go_wp2_with fail
      refine (unhide HK).mono ?_
      rintro r W7 ⟨rfl, ⟨v7, h7, hv7⟩, k7⟩
      have hr7 : RI W7 (.slice av l.length cv) l := RC.kpn ((unhide Hr).below (bnext (unhide HB) (unhide B6))) k7 (fun i hi e => unhide Hap i hi (e.elim (fun e => by rw [e]; exact unhide pb) (fun e => unhide h6w i e)))
      have HM := hide (Merge_in _ _ base l W7 h7.rb.row hr7 (by have := h7.lb; omega) (by omega))
      have c0 := h7.box.cell 0 _ rfl
      have l0 := h7.box.lt
      have H7 := hide h7
      have K7 := hide k7
      clear HK h7 k7 hr7
      go_wp2_with fail
      refine (unhide HM).mono ?_
      rintro r W8 ⟨v8, rfl, ho8, hb8⟩
      obtain ⟨a8, c8, rfl⟩ := OwD.form ho8
      have h8 := (unhide H7).below hb8
      have d0 := h8.box.cell 0 _ rfl
      have f0 := h8.box.frozen 0
      have l8 := h8.box.lt
      have H8 := hide h8
      have O8 := hide ho8
      have B8 := hide hb8
      clear HM h8 ho8 hb8 c0
      go_wp2
      refine bodyPost_ret (results_tmp2 rfl _ _ _) rfl ?_
      have k9 := Kp.set (N := fun i => i = b) W8 ⟨b, 0, none⟩ (.slice a8 (vec (mrg (sy base) (sy l))).length c8) rfl
      have kk : Kp (fun i => i = b ∨ vo.ownBlock = some i) wr (W8.setCell ⟨b, 0, none⟩ (.slice a8 (vec (mrg (sy base) (sy l))).length c8)) := (((Kp.of_below (unhide B6)).trans (unhide K7) (fun i e => .inl e)).trans (Kp.of_below (N := fun _ => False) (unhide B8)) (fun i e => .inl e.elim)).trans k9 (fun i e => .inl (.inl e))
      have kP : ∀ i, (i = b ∨ vo.ownBlock = some i) → P i := fun i e => e.elim (fun e => by rw [e]; exact unhide pb) (fun e => unhide h6w i e)
      obtain ⟨cl, hcl, hcm, hce, hown⟩ := unhide HR
      rw [List.drop_length, List.append_nil] at hown
      rw [List.take_length] at hcm
      have hz7 := (unhide B6).size
      have hz8 := (unhide K7).size
      refine ⟨_, wr.heap.size, by rw [unhide HE]; rfl, (unhide HB).size, kk.size, ?_, ?_, ((Kp.of_below (N := fun _ => False) (unhide HB)).wk (fun i e => e.elim)).trans kk (fun i e => .inl (kP i e))⟩
      · rw [if_pos (unhide HE)]
        refine ⟨cl, ?_, fun e he => ((hce e he).lt).kp kk (fun i hi h => ?_), fun k hk => ?_, ?_⟩
        · rw [hcl]
          exact own_base (owns_kp hown kk (fun i hi e => by have := hP i (kP i e); have := (hown.lt i hi).1; omega)) (Nat.zero_le _)
        · have := hP i (kP i hi); omega
        · exact hown.lt k hk
        · rw [hcm, ← unhide Hgone, prt_fst]
      · rw [if_pos (unhide HE), if_pos (unhide HE)]
        refine ⟨_, _, _, left, (unhide H8).setBase (P' := fun i => P i ∨ wr.heap.size ≤ i) (unhide O8).b0 (fun i hi => .inl hi) (fun k hk => .inr (by have := ((unhide O8).lt k hk).1; omega)) (by have := vec_len (mrg (sy base) (sy l)); omega), ?_⟩
        rw [← unhide Hleft, prt_fst]

end Go.Proofs.Ytehmbbnmjiojgaa
