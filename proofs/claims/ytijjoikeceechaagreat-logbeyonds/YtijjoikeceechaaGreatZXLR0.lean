/-
  The document's own log: what its Vector says, and its Add. Pure.
-/
import Derived.Test.YtijjoikeceechaaGreatZXLM
import Derived.Test.YtijjoikeceechaaGreatZXLO
import Derived.Test.YtijjoikeceechaaGreatZU3
import Derived.Deep.RegionHeld3
import Derived.Test.YtijjoikeceechaaGreatZXR8

set_option linter.unusedSimpArgs false
set_option linter.unusedVariables false
namespace Go.Proofs.YtijjoikeceechaaGreat
open Go.RowKit Go.Lib

/-- the document's Vector: the base, and each operation's Dot -/
def rvec (B : List (Int × Int)) (O : List Opn) : List (Int × Int) := O.foldl (fun v o => vec (mrg (sy v) (sy [(o.ds, o.dq)]))) (vec (mrg (sy B) (sy [])))
theorem mrg_nil {s : Nat → Int} (g : Good s) : mrg s (sy []) = s := by
  funext i
  unfold mrg
  rw [sy_nil]
  have := g.lo i
  show max (s i) 0 = s i
  omega
theorem mrg_dotR {s : Nat → Int} {a b : Int} (g : Good s) (h : 1 ≤ a ∧ a ≤ 16) (hb : b = s a.toNat + 1) (h2 : b ≤ 2147483647) : mrg s (sy [(a, b)]) = put1 s a.toNat b := by
  have gl := g.lo a.toNat
  have ok : okD (a, b) = true := by unfold okD; simp; omega
  have e : sy [(a, b)] = put1 (fun _ => 0) a.toNat (max 0 b) := by
    show syF (fun _ => 0) (a, b) = _
    unfold syF
    rw [if_pos ok]
  rw [e]
  funext i
  unfold mrg put1
  by_cases hi : i = a.toNat
  · rw [if_pos hi, if_pos hi, hi]
    omega
  · rw [if_neg hi, if_neg hi]
    have := g.lo i
    show max (s i) 0 = s i
    omega
theorem SQ.rvec : ∀ {O : List Opn} {s t : Nat → Int} (g : Good s), SQ s O t → O.foldl (fun v o => vec (mrg (sy v) (sy [(o.ds, o.dq)]))) (vec s) = vec t
  | [], s, t, g, h => by cases h; rfl
  | o :: os, s, t, g, ⟨h1, h2, h3, _, h⟩ => by
    rw [List.foldl_cons, sy_vec g, mrg_dotR g h1 h2 h3]
    exact SQ.rvec (g.put (by omega) (by omega) (by have := g.lo o.ds.toNat; omega) h3) h
theorem ST.rvec {B H : List (Int × Int)} {O : List Opn} (h : ST B H O) : rvec B O = H := by
  unfold Go.Proofs.YtijjoikeceechaaGreat.rvec
  rw [mrg_nil (sy_good B), SQ.rvec (sy_good B) h.sq, vec_of_chk h.nh]
theorem ok_dot {o : Opn} (h : okO o = true) : (1 ≤ o.ds ∧ o.ds ≤ 16) ∧ 1 ≤ o.dq ∧ o.dq ≤ 2147483647 := by
  unfold okO folO at h
  simp only [Bool.and_eq_true, decide_eq_true_eq] at h
  obtain ⟨⟨⟨_, ⟨⟨⟨h1, h2⟩, h3⟩, _⟩, _⟩, _⟩, _⟩ := h
  unfold isT at h1
  simp at h1
  omega
theorem addE_ref {H : List (Int × Int)} {o : Opn} (h : okO o = true) (hc : cov (sy H) (sy o.deps) = true) : addE H o = if getV H o.ds = o.dq - 1 then 0 else 9 := by
  obtain ⟨h1, h2, h3⟩ := ok_dot h
  rw [addE_ok h hc]
  unfold addV getV
  simp only
  rw [if_neg (by omega), if_neg (by omega), if_pos h1]
  by_cases e : sy H o.ds.toNat = o.dq - 1
  · rw [if_neg (by omega), if_pos e]
  · rw [if_pos (by omega), if_neg e]

end Go.Proofs.YtijjoikeceechaaGreat

/-
  Rows of operations, wherever they lie; the document's own log.
-/
set_option linter.unusedSimpArgs false
set_option linter.unusedVariables false
namespace Go.Proofs.YtijjoikeceechaaGreat
open Go.RowKit Go.Lib

/-- an operation whose lists lie in blocks of which Q holds -/
structure EN (Q : Nat → Prop) (W : World) (e : Opn × Value × Value) : Prop where
  d : RI W e.2.1 e.1.deps
  g : RR W e.2.2 e.1.gone
  fd : ∃ a c, e.2.1 = .slice a e.1.deps.length c
  fg : ∃ a c, e.2.2 = .slice a e.1.gone.length c
  qd : ∀ k, rb e.2.1 e.1.deps.length k → Q k
  qg : ∀ k, rb e.2.2 e.1.gone.length k → Q k
  s1 : e.1.deps.length ≤ 1000000
  s2 : e.1.gone.length ≤ 1000000
theorem EN.kp {Q N : Nat → Prop} {W W' : World} {e : Opn × Value × Value} (h : EN Q W e) (k : Kp N W W') (hn : ∀ i, N i → ¬ Q i) : EN Q W' e :=
  ⟨RC.kpn h.d k (fun i hi e => hn i e (h.qd i hi)), RC.kpn h.g k (fun i hi e => hn i e (h.qg i hi)), h.fd, h.fg, h.qd, h.qg, h.s1, h.s2⟩
theorem EN.mono {Q Q' : Nat → Prop} {W : World} {e : Opn × Value × Value} (h : EN Q W e) (hq : ∀ i, i < W.heap.size → Q i → Q' i) : EN Q' W e :=
  ⟨h.d, h.g, h.fd, h.fg, fun k hk => hq k (rb_lt h.d hk) (h.qd k hk), fun k hk => hq k (rb_lt h.g hk) (h.qg k hk), h.s1, h.s2⟩
theorem EN.one {Q : Nat → Prop} {W : World} {e : Opn × Value × Value} (h : EN Q W e) : ∀ u ∈ encO e, u.oneCell' = true := by
  obtain ⟨a, c, h1⟩ := h.fd
  obtain ⟨a', c', h2⟩ := h.fg
  intro u hu
  unfold encO at hu
  rw [h1, h2] at hu
  simp at hu
  rcases hu with rfl | rfl | rfl | rfl | rfl | rfl | rfl | rfl | rfl | rfl | rfl <;> rfl
/-- a row of them -/
def RN (Q : Nat → Prop) (W : World) (v : Value) (os : List Opn) : Prop := ∃ ops : List (Opn × Value × Value), RO W v ops ∧ (∀ e ∈ ops, EN Q W e) ∧ (∀ k, rb v ops.length k → Q k) ∧ ops.map Prod.fst = os ∧ ∃ a c, v = .slice a ops.length c
theorem RN.kp {Q N : Nat → Prop} {W W' : World} {v : Value} {os : List Opn} (h : RN Q W v os) (k : Kp N W W') (hn : ∀ i, N i → ¬ Q i) : RN Q W' v os := by
  obtain ⟨ops, h1, h2, h3, h4, h5⟩ := h
  exact ⟨ops, RC.kpn h1 k (fun i hi e => hn i e (h3 i hi)), fun e he => (h2 e he).kp k hn, h3, h4, h5⟩
theorem RN.below {Q : Nat → Prop} {W W' : World} {v : Value} {os : List Opn} (h : RN Q W v os) (hb : Below W.heap.size W W') : RN Q W' v os := h.kp (N := fun _ => False) (Kp.of_below hb) (fun _ h => h.elim)
theorem RN.mono {Q Q' : Nat → Prop} {W : World} {v : Value} {os : List Opn} (h : RN Q W v os) (hq : ∀ i, i < W.heap.size → Q i → Q' i) : RN Q' W v os := by
  obtain ⟨ops, h1, h2, h3, h4, h5⟩ := h
  exact ⟨ops, h1, fun e he => (h2 e he).mono hq, fun k hk => hq k (rb_lt h1 hk) (h3 k hk), h4, h5⟩
theorem RN.nil (Q : Nat → Prop) (W : World) : RN Q W (.slice none 0 0) [] := ⟨[], .inl ⟨rfl, _, _, rfl⟩, fun e he => (by cases he), fun k hk => absurd rfl hk.1, rfl, _, _, rfl⟩
theorem OE.en {P : Nat → Prop} {W : World} {e : Opn × Value × Value} (h : OE P W e) : EN P W e :=
  ⟨h.d.row, RC.of_owns h.g, OwD.form h.d, OwR.form h.g, fun k hk => h.pd k hk.2, fun k hk => h.pg k hk.2, h.s1, h.s2⟩
theorem RL.rn {P : Nat → Prop} {W : World} {v : Value} {os : List Opn} (h : RL P W v os) : RN P W v os := by
  obtain ⟨ops, h1, h2, h3, h4⟩ := h
  exact ⟨ops, RC.of_owns h1, fun e he => (h2 e he).en, fun k hk => h3 k hk.2, h4, owns_form h1⟩
theorem rn_form {P : Nat → Prop} {W : World} {v : Value} {os : List Opn} (h : RN P W v os) : ∃ a c, v = .slice a os.length c := by
  obtain ⟨ops, _, _, _, rfl, a, c, rfl⟩ := h
  exact ⟨a, c, by rw [List.length_map]⟩
theorem rn_at {P : Nat → Prop} {W : World} {v : Value} {os : List Opn} (h : RN P W v os) {i : Nat} {o : Opn} (hi : os[i]? = some o) : ∃ a n c b off ad cd ag cg, v = .slice a n c ∧ n = os.length ∧ a = some ⟨b, off, none⟩ ∧ b < W.heap.size ∧ (∀ q x, (encO (o, .slice ad o.deps.length cd, .slice ag o.gone.length cg))[q]? = some x → W.cell? ⟨b, off + i * 11 + q, none⟩ = some x) ∧ RI W (.slice ad o.deps.length cd) o.deps ∧ RR W (.slice ag o.gone.length cg) o.gone ∧ o.deps.length ≤ 1000000 ∧ o.gone.length ≤ 1000000 := by
  obtain ⟨ops, ho, hre, _, rfl, a, c, rfl⟩ := h
  rw [List.getElem?_map] at hi
  obtain ⟨e, he, rfl⟩ := Option.map_eq_some_iff.1 hi
  obtain ⟨b, off, rfl, hb, hc⟩ := RO.at ho he
  have hoe := hre e (List.mem_of_getElem? he)
  obtain ⟨o, vd, vg⟩ := e
  obtain ⟨ad, cd, hvd⟩ := hoe.fd
  obtain ⟨ag, cg, hvg⟩ := hoe.fg
  simp only at hvd hvg
  subst hvd hvg
  exact ⟨_, _, _, b, off, ad, cd, ag, cg, rfl, by rw [List.length_map], rfl, hb, hc, hoe.d, hoe.g, hoe.s1, hoe.s2⟩

set_option maxRecDepth 100000 in
set_option maxHeartbeats 8000000 in
theorem ops2_in {P P' : Nat → Prop} {w : World} (v u : Value) (os : List Opn) (hr : RN P w v os) (hr' : RN P' w u os) (hn : os.length ≤ 1000000) :
    Calls Tryz.prog 19 #[v, u] w fun e W => e = .returned (.bool true) ∧ Below w.heap.size w W := by
  obtain ⟨a, c, rfl⟩ := rn_form hr
  obtain ⟨a', c', rfl⟩ := rn_form hr'
  have HR := hide hr
  have HR' := hide hr'
  obtain ⟨L, hL⟩ : ∃ L, os.length = L := ⟨_, rfl⟩
  rw [hL] at hn HR HR' ⊢
  have HL := hide hL
  clear hr hr' hL
  go_enter Tryz.func19, Tryz.ntmps19
  go_wp2
  go_loopw [5] (fun iv wr => ∃ i : Nat, iv = .int .i64 (i : Nat) ∧ i ≤ L ∧ Hid (Below w.heap.size w wr)) (fun iv _ => L - (RowKit.intOf iv).toNat)
  case atStart => exact ⟨0, rfl, by omega, hide (Below.refl _ _)⟩
  case round =>
    obtain ⟨i, rfl, hi, HB⟩ := hrel
    by_cases hlt : i < L
    · have hlt' : (i : Int) < (L : Int) := by omega
      have hls : i < os.length := by rw [unhide HL]; exact hlt
      obtain ⟨o, hx⟩ : ∃ o, os[i]? = some o := ⟨_, List.getElem?_eq_getElem hls⟩
      obtain ⟨_, _, _, b0, off, ad, cd, ag, cg, e1, e2, e3, hb0, hc, rd, rg, s1, s2⟩ := rn_at ((unhide HR).below (unhide HB)) hx
      obtain ⟨_, _, _, b1, off', ad', cd', ag', cg', e1', e2', e3', hb1, hc', rd', rg', _, _⟩ := rn_at ((unhide HR').below (unhide HB)) hx
      simp only [Value.slice.injEq] at e1 e1'
      rw [← e1.1] at e3
      rw [← e1'.1] at e3'
      subst e3 e3'
      clear e1 e1' e2 e2'
      have p0 := hc 0 _ rfl
      have p1 := hc 1 _ rfl
      have p2 := hc 2 _ rfl
      have p3 := hc 3 _ rfl
      have p4 := hc 4 _ rfl
      have p5 := hc 5 _ rfl
      have p6 := hc 6 _ rfl
      have p7 := hc 7 _ rfl
      have p8 := hc 8 _ rfl
      have p9 := hc 9 _ rfl
      have p10 := hc 10 _ rfl
      have q0 := hc' 0 _ rfl
      have q1 := hc' 1 _ rfl
      have q2 := hc' 2 _ rfl
      have q3 := hc' 3 _ rfl
      have q4 := hc' 4 _ rfl
      have q5 := hc' 5 _ rfl
      have q6 := hc' 6 _ rfl
      have q7 := hc' 7 _ rfl
      have q8 := hc' 8 _ rfl
      have q9 := hc' 9 _ rfl
      have q10 := hc' 10 _ rfl
      simp only [Nat.add_zero] at p0 p1 p2 p3 p4 p5 p6 p7 p8 p9 p10 q0 q1 q2 q3 q4 q5 q6 q7 q8 q9 q10
      have HS := hide (fun (W : World) (hb : Hid (Below wr.heap.size wr W)) => lsame_in o _ _ _ _ W (rd.below (unhide hb)) (RC.below rg (unhide hb)) (rd'.below (unhide hb)) (RC.below rg' (unhide hb)) s1 s2)
      unfold opA at HS
      clear hc hc' rd rg rd' rg' hx
      go_wp2_with fail
      go_region_held3 (fun w' => w'.cell? ⟨b0, off + i * 11, none⟩ = some (.int .i64 o.ds) ∧ w'.cell? ⟨b0, off + i * 11 + 1, none⟩ = some (.int .i64 o.dq) ∧ w'.cell? ⟨b0, off + i * 11 + 2, none⟩ = some (.slice ad o.deps.length cd) ∧ w'.cell? ⟨b0, off + i * 11 + 3, none⟩ = some (.int .i64 o.kind) ∧ w'.cell? ⟨b0, off + i * 11 + 4, none⟩ = some (.int .i64 o.it) ∧ w'.cell? ⟨b0, off + i * 11 + 5, none⟩ = some (.int .i64 o.is) ∧ w'.cell? ⟨b0, off + i * 11 + 6, none⟩ = some (.int .i64 o.rt) ∧ w'.cell? ⟨b0, off + i * 11 + 7, none⟩ = some (.int .i64 o.rs) ∧ w'.cell? ⟨b0, off + i * 11 + 8, none⟩ = some (.string o.text) ∧ w'.cell? ⟨b0, off + i * 11 + 9, none⟩ = some (.slice ag o.gone.length cg) ∧ w'.cell? ⟨b0, off + i * 11 + 10, none⟩ = some (.int .i64 o.site) ∧ w'.cell? ⟨b1, off' + i * 11, none⟩ = some (.int .i64 o.ds) ∧ w'.cell? ⟨b1, off' + i * 11 + 1, none⟩ = some (.int .i64 o.dq) ∧ w'.cell? ⟨b1, off' + i * 11 + 2, none⟩ = some (.slice ad' o.deps.length cd') ∧ w'.cell? ⟨b1, off' + i * 11 + 3, none⟩ = some (.int .i64 o.kind) ∧ w'.cell? ⟨b1, off' + i * 11 + 4, none⟩ = some (.int .i64 o.it) ∧ w'.cell? ⟨b1, off' + i * 11 + 5, none⟩ = some (.int .i64 o.is) ∧ w'.cell? ⟨b1, off' + i * 11 + 6, none⟩ = some (.int .i64 o.rt) ∧ w'.cell? ⟨b1, off' + i * 11 + 7, none⟩ = some (.int .i64 o.rs) ∧ w'.cell? ⟨b1, off' + i * 11 + 8, none⟩ = some (.string o.text) ∧ w'.cell? ⟨b1, off' + i * 11 + 9, none⟩ = some (.slice ag' o.gone.length cg') ∧ w'.cell? ⟨b1, off' + i * 11 + 10, none⟩ = some (.int .i64 o.site) ∧ Hid (Below wr.heap.size wr w'))
        (first
          | (exact ⟨p0, p1, p2, p3, p4, p5, p6, p7, p8, p9, p10, q0, q1, q2, q3, q4, q5, q6, q7, q8, q9, q10, hide (Below.refl _ _).drew⟩)
          | (go_split_ands
             exact ⟨cell_below (by assumption) hb, cell_below (by assumption) hb, cell_below (by assumption) hb, cell_below (by assumption) hb, cell_below (by assumption) hb, cell_below (by assumption) hb, cell_below (by assumption) hb, cell_below (by assumption) hb, cell_below (by assumption) hb, cell_below (by assumption) hb, cell_below (by assumption) hb, cell_below (by assumption) hb, cell_below (by assumption) hb, cell_below (by assumption) hb, cell_below (by assumption) hb, cell_below (by assumption) hb, cell_below (by assumption) hb, cell_below (by assumption) hb, cell_below (by assumption) hb, cell_below (by assumption) hb, cell_below (by assumption) hb, cell_below (by assumption) hb, hide (bnext (unhide (by assumption)) hb)⟩)
          | go_keep)
        (first
          | (go_split_ands; go_at_call 17; refine (unhide HS _ (by assumption)).mono ?_; rintro e w' ⟨rfl, hb⟩))
      go_split_ands
      have HB2 := hide (bnext (unhide HB) (unhide (by assumption : Hid (Below wr.heap.size wr _))))
      go_wp2
      go_roundw
      case measure => simp [RowKit.intOf]; omega
      case rel => exact ⟨i + 1, by go_num, by omega, HB2⟩
    · have hlt' : ¬ (i : Int) < (L : Int) := by omega
      go_wp2
      go_ret
      exact ⟨rfl, unhide HB⟩

end Go.Proofs.YtijjoikeceechaaGreat

/-
  The document's own log: Vector, Beyond, Lacks.
-/
set_option linter.unusedSimpArgs false
set_option linter.unusedVariables false
namespace Go.Proofs.YtijjoikeceechaaGreat
open Go.RowKit Go.Lib

theorem rvec_len (B : List (Int × Int)) (O : List Opn) : (rvec B O).length ≤ 17 := by
  unfold rvec
  rcases List.eq_nil_or_concat O with rfl | ⟨O', o, rfl⟩
  · exact vec_len _
  · rw [List.concat_eq_append, List.foldl_append]
    exact vec_len _
theorem rvec_snoc (B : List (Int × Int)) (O : List Opn) (o : Opn) : rvec B (O ++ [o]) = vec (mrg (sy (rvec B O)) (sy [(o.ds, o.dq)])) := by
  unfold rvec
  rw [List.foldl_append]
  rfl
set_option maxRecDepth 100000 in
set_option maxHeartbeats 4000000 in
theorem refVector_in {Q : Nat → Prop} (vb vo : Value) (B : List (Int × Int)) (O : List Opn) (w : World) (hB : RI w vb B) (hO : RN Q w vo O) (lB : B.length ≤ 1000000) (lO : O.length ≤ 1000000) :
    Calls Tryz.prog 37 #[.agg #[vb, vo]] w fun e W => ∃ v', e = .returned v' ∧ OwD W w.heap.size v' (rvec B O) ∧ Below w.heap.size w W := by
  obtain ⟨ab, cb, rfl⟩ := hB.form
  obtain ⟨ao, co, rfl⟩ := rn_form hO
  obtain ⟨X, hX⟩ : ∃ X, w.alloc (.cells #[.slice ab B.length cb, .slice ao O.length co] 35) = X := ⟨_, rfl⟩
  have bX : Below w.heap.size w X := by rw [← hX]; exact ballc (Below.refl _ _) _
  have xX : Bx X w.heap.size 35 #[.slice ab B.length cb, .slice ao O.length co] := by rw [← hX]; exact Bx.new w _ _
  have HM := hide (refMerge_in (.slice ab B.length cb) (.slice none 0 0) B [] X (hB.below bX) (.inl ⟨rfl, _, _, rfl⟩) (by omega) (by simp))
  have HO := hide (hO.below bX)
  obtain ⟨L, hL⟩ : ∃ L, O.length = L := ⟨_, rfl⟩
  rw [hL] at HO lO xX hX ⊢
  have HL := hide hL
  have XX := hide xX
  have BX := hide bX
  have c0 := xX.cell 0 _ rfl
  have xl := xX.lt
  clear hB hO bX xX hL
  go_enter Tryz.func37, Tryz.ntmps37
  go_wp2_with fail
  refine (unhide HM).mono ?_
  rintro r W1 ⟨v1, rfl, ho1, hb1⟩
  have H1 : Hid (OwD W1 X.heap.size v1 (rvec B (O.take 0))) := hide ho1
  have B1 := hide hb1
  clear HM ho1 hb1 c0 hX
  go_wp2
  go_loopw [3, 4] (fun vv iv wr => ∃ (i : Nat), iv = .int .i64 (i : Nat) ∧ i ≤ L ∧ Hid (OwD wr X.heap.size vv (rvec B (O.take i))) ∧ Hid (Below X.heap.size X wr)) (fun _ iv _ => L - (RowKit.intOf iv).toNat)
  case atStart => exact ⟨0, rfl, by omega, H1, B1⟩
  case round =>
    clear H1 B1
    obtain ⟨i, rfl, hi, H1, B1⟩ := hrel
    have xr := (unhide XX).below (unhide B1)
    have c1 := xr.cell 1 _ rfl
    have cl := xr.lt
    have hX0 : w.heap.size ≤ X.heap.size := (unhide BX).size
    by_cases hlt : i < L
    · have hlt' : (i : Int) < (L : Int) := by omega
      have hls : i < O.length := by rw [unhide HL]; exact hlt
      obtain ⟨o, hx⟩ : ∃ o, O[i]? = some o := ⟨_, List.getElem?_eq_getElem hls⟩
      obtain ⟨_, _, _, b0, off, ad, cd, ag, cg, e1, e2, e3, hb0, hc, _, _, _, _⟩ := rn_at ((unhide HO).below (unhide B1)) hx
      simp only [Value.slice.injEq] at e1
      rw [← e1.1] at e3
      subst e3
      have p0 := hc 0 _ rfl
      have p1 := hc 1 _ rfl
      simp only [Nat.add_zero] at p0 p1
      obtain ⟨Y, hY⟩ : ∃ Y, wr.alloc (.cells #[.int .i64 o.ds, .int .i64 o.dq] 28) = Y := ⟨_, rfl⟩
      have bY : Below wr.heap.size wr Y := by rw [← hY]; exact ballc (Below.refl _ _) _
      have yY : Bx Y wr.heap.size 28 #[.int .i64 o.ds, .int .i64 o.dq] := by rw [← hY]; exact Bx.new wr _ _
      obtain ⟨a3, c3, rfl⟩ := (unhide H1).form
      have HM := hide (refMerge_in _ (.slice (some ⟨wr.heap.size, 0, none⟩) 1 1) (rvec B (O.take i)) [(o.ds, o.dq)] Y (owd_below (unhide H1) bY).row (by rw [← hY]; exact RC.lit wr 28 #[.int .i64 o.ds, .int .i64 o.dq] 1) (by have := rvec_len B (O.take i); omega) (by simp))
      have ht : rvec B (O.take (i + 1)) = vec (mrg (sy (rvec B (O.take i))) (sy [(o.ds, o.dq)])) := by rw [List.take_add_one, hx]; exact rvec_snoc _ _ _
      rw [← ht] at HM
      have B2 := hide (bnext (unhide B1) bY)
      have z2 := (unhide B2).size
      clear e1 e2 hc hx bY yY ht xr H1 B1
      go_wp2_with fail
      refine (unhide HM).mono ?_
      rintro r W2 ⟨v2, rfl, ho2, hb2⟩
      have H2 : Hid (OwD W2 X.heap.size v2 (rvec B (O.take (i + 1)))) := hide (own_base ho2 z2)
      have B3 := hide (bnext (unhide B2) hb2)
      clear HM ho2 hb2 B2 hY
      go_wp2
      go_roundw
      case rel => exact ⟨i + 1, by go_num, by omega, H2, B3⟩
      case measure => simp [RowKit.intOf]; omega
    · have hlt' : ¬ (i : Int) < (L : Int) := by omega
      obtain rfl : i = L := by omega
      have hte : O.take i = O := by rw [← unhide HL]; exact List.take_length
      rw [hte] at H1
      obtain ⟨a3, c3, rfl⟩ := (unhide H1).form
      have BW := hide (bnext (unhide BX) (unhide B1))
      clear xr B1 hte
      go_wp2
      go_ret
      exact ⟨_, rfl, own_base (unhide H1) hX0, unhide BW⟩

set_option maxRecDepth 100000 in
set_option maxHeartbeats 4000000 in
theorem refBeyond_in {Q : Nat → Prop} (ab : Option Addr) (nb cb : Nat) (vo v : Value) (O : List Opn) (l : List (Int × Int)) (w : World) (hO : RN Q w vo O) (hr : RI w v l) (lO : O.length ≤ 1000000) (hl : l.length ≤ 140737488355328) :
    Calls Tryz.prog 14 #[.agg #[.slice ab nb cb, vo], v] w fun e W => ∃ v', e = .returned v' ∧ RN (fun i => Q i ∨ w.heap.size ≤ i) W v' (bynd l O) ∧ Below w.heap.size w W := by
  obtain ⟨av, cv, rfl⟩ := hr.form
  obtain ⟨ops, h1, h2, h3, rfl, ao, co, rfl⟩ := hO
  rw [List.length_map] at lO
  obtain ⟨X, hX⟩ : ∃ X, w.alloc (.cells #[.slice ab nb cb, .slice ao ops.length co] 35) = X := ⟨_, rfl⟩
  have bX : Below w.heap.size w X := by rw [← hX]; exact ballc (Below.refl _ _) _
  have xX : Bx X w.heap.size 35 #[.slice ab nb cb, .slice ao ops.length co] := by rw [← hX]; exact Bx.new w _ _
  have HCk := hide (refCheck_in _ l X (hr.below bX) hl)
  have HH := hide (fun (W : World) (hb : Below X.heap.size X W) (x y : Int) => refHas_in _ l x y W ((hr.below bX).below hb) hl)
  have HO := hide (RC.below h1 bX)
  have HE := hide (fun e he => (h2 e he).kp (N := fun _ => False) (Kp.of_below bX) (fun _ h => h.elim))
  have zX := bX.size
  have XX := hide xX
  have BX := hide bX
  have H2 := hide h2
  have H3 := hide h3
  obtain ⟨ck, hck⟩ : ∃ k, chk l = k := ⟨_, rfl⟩
  unfold bynd
  rw [hck] at HCk ⊢
  clear h1 h2 h3 hr bX xX hck
  by_cases h0 : ck = 0
  rotate_left
  · have h0' : (ck == 0) = false := by simpa using h0
    rw [if_neg h0]
    clear HH
    go_enter Tryz.func14, Tryz.ntmps14
    go_wp2_with fail
    refine (unhide HCk).mono ?_
    rintro r W1 ⟨rfl, hb1⟩
    go_wp2
    go_ret
    exact ⟨_, rfl, RN.nil _ _, bnext (unhide BX) hb1⟩
  subst h0
  rw [if_pos rfl]
  go_enter Tryz.func14, Tryz.ntmps14
  go_wp2_with fail
  refine (unhide HCk).mono ?_
  rintro r W1 ⟨rfl, hb1⟩
  have B1 := hide hb1
  clear HCk hb1 hX
  go_wp2
  go_loopw [5, 6] (fun vv iv wr => ∃ (i : Nat), iv = .int .i64 (i : Nat) ∧ i ≤ ops.length ∧ Hid (wr.ownsRow X.heap.size 45 11 vv (prt l false (ops.take i)).length (flat encO (prt l false (ops.take i)))) ∧ Hid (Below X.heap.size X wr)) (fun _ iv _ => ops.length - (RowKit.intOf iv).toNat)
  case atStart => exact ⟨0, rfl, by omega, hide (by rw [List.take_zero]; exact World.ownsRow_nil _ _ _ _), B1⟩
  case round =>
    clear B1
    obtain ⟨i, rfl, hi, H1, B1⟩ := hrel
    have xr := (unhide XX).below (unhide B1)
    have c1 := xr.cell 1 _ rfl
    have cl := xr.lt
    by_cases hlt : i < ops.length
    · have hlt' : (i : Int) < (ops.length : Int) := by omega
      obtain ⟨e, hx⟩ : ∃ e, ops[i]? = some e := ⟨_, List.getElem?_eq_getElem hlt⟩
      obtain ⟨b0, off, rfl, hb0, hcell⟩ := RO.at (RC.below (unhide HO) (unhide B1)) hx
      have en := unhide HE e (List.mem_of_getElem? hx)
      have ht : ops.take (i + 1) = ops.take i ++ [e] := by rw [List.take_add_one, hx]; rfl
      have hps := prt_snoc l false (ops.take i) e
      rw [← ht] at hps
      have hpl : (prt l false (ops.take i)).length ≤ 1000000 := by have := prt_len l false (ops.take i); rw [List.length_take] at this; omega
      have Hone := hide en.one
      obtain ⟨a1, n1, e1⟩ := en.fd
      obtain ⟨a2, n2, e2⟩ := en.fg
      obtain ⟨o, ud, ug⟩ := e
      simp only at e1 e2
      subst e1 e2
      have p0 := hcell 0 _ rfl
      have p1 := hcell 1 _ rfl
      simp only [Nat.add_zero] at p0 p1
      have HS := hide (unhide HH wr (unhide B1) o.ds o.dq)
      have Hps := hide hps
      simp only at Hps
      obtain ⟨hh, hhe⟩ : ∃ x, hasV l (o.ds, o.dq) = x := ⟨_, rfl⟩
      rw [hhe] at HS Hps
      have HX2 := hide hx
      clear hcell en hps ht hx hhe xr
      go_wp2_with fail
      refine (unhide HS).mono ?_
      rintro r W2 ⟨rfl, hb2⟩
      have B2 := hide (bnext (unhide B1) hb2)
      have O2 := hide (owns_kp (N := fun _ => False) (unhide H1) (Kp.of_below hb2) (fun _ _ e => e))
      clear HS H1 B1 hb2 p0 p1
      have xr := (unhide XX).below (unhide B2)
      have c2 := xr.cell 1 _ rfl
      have cl2 := xr.lt
      clear xr
      cases hh with
      | false =>
        rw [show ((false : Bool) == false) = true from rfl, if_pos rfl] at Hps
        obtain ⟨b0', off', hae, hb0', hcell⟩ := RO.at (RC.below (unhide HO) (unhide B2)) (unhide HX2)
        simp only [Option.some.injEq, Addr.mk.injEq, and_true] at hae
        obtain ⟨rfl, rfl⟩ := hae
        have q0 := hcell 0 _ rfl
        have q1 := hcell 1 _ rfl
        have q2 := hcell 2 _ rfl
        have q3 := hcell 3 _ rfl
        have q4 := hcell 4 _ rfl
        have q5 := hcell 5 _ rfl
        have q6 := hcell 6 _ rfl
        have q7 := hcell 7 _ rfl
        have q8 := hcell 8 _ rfl
        have q9 := hcell 9 _ rfl
        have q10 := hcell 10 _ rfl
        rw [Nat.add_zero] at q0
        have al := ballc (Below.refl W2.heap.size W2) (.cells #[.int .i64 o.ds, .int .i64 o.dq, .slice a1 o.deps.length n1, .int .i64 o.kind, .int .i64 o.it, .int .i64 o.is, .int .i64 o.rt, .int .i64 o.rs, .string o.text, .slice a2 o.gone.length n2, .int .i64 o.site] 45)
        obtain ⟨v', w', hr, hown, hgr, _⟩ := append_op (W2.alloc (.cells #[.int .i64 o.ds, .int .i64 o.dq, .slice a1 o.deps.length n1, .int .i64 o.kind, .int .i64 o.it, .int .i64 o.is, .int .i64 o.rt, .int .i64 o.rs, .string o.text, .slice a2 o.gone.length n2, .int .i64 o.site] 45)) 33 X.heap.size _ (prt l false (ops.take i)) (o, .slice a1 o.deps.length n1, .slice a2 o.gone.length n2) W2.heap.size (owns_kp (N := fun _ => False) (unhide O2) (Kp.of_below al) (fun _ _ e => e)) (Bx.new _ _ _) (unhide Hone) (bnext (unhide B2) al).size hpl
        have kk := Kp.of_grown (N := fun k => _ = some k) hgr (fun k hk => hk)
        have HO4 : Hid (w'.ownsRow X.heap.size 45 11 v' (prt l false (ops.take (i + 1))).length (flat encO (prt l false (ops.take (i + 1))))) := by rw [unhide Hps]; exact hown
        have HB4 := hide (kk.below (bnext (unhide B2) al) (fun k hk => ((unhide O2).lt k hk).1))
        obtain ⟨ax, cx, hv'⟩ := owns_form (unhide HO4)
        subst hv'
        replace hr := hide hr
        obtain ⟨vx, cx2, hvv⟩ := owns_form (unhide O2)
        subst hvv
        clear hown hgr kk al O2 B2 Hps Hone hcell HX2
        go_wp2_with (at_builtin; refine wpList_append_eq rfl _ _ 33 rfl _ _ _ _ rfl rfl (unhide hr) ?_; clear hr)
        go_roundw
        case measure => simp [RowKit.intOf]; omega
        case rel => exact ⟨i + 1, by go_num, by omega, HO4, HB4⟩
      | true =>
        rw [show ((true : Bool) == false) = false from rfl, if_neg (by simp)] at Hps
        have HO4 : Hid (W2.ownsRow X.heap.size 45 11 u5 (prt l false (ops.take (i + 1))).length (flat encO (prt l false (ops.take (i + 1))))) := by rw [unhide Hps]; exact unhide O2
        clear O2 Hps
        go_wp2
        go_roundw
        case measure => simp [RowKit.intOf]; omega
        case rel => exact ⟨i + 1, by go_num, by omega, HO4, B2⟩
    · have hlt' : ¬ (i : Int) < (ops.length : Int) := by omega
      obtain rfl : i = ops.length := by omega
      rw [List.take_length] at H1
      obtain ⟨vx, cx2, hvv⟩ := owns_form (unhide H1)
      subst hvv
      have HE2 := hide (fun e he => (unhide HE e he).kp (N := fun _ => False) (Kp.of_below (unhide B1)) (fun _ h => h.elim))
      clear xr
      go_wp2
      go_ret
      refine ⟨_, rfl, ⟨prt l false ops, RC.of_owns (unhide H1), fun e he => (unhide HE2 e (prt_mem he)).mono (fun i _ h => .inl h), fun k hk => .inr (Nat.le_trans zX ((unhide H1).lt k hk.2).1), prt_fst l false ops, _, _, rfl⟩, bnext (unhide BX) (unhide B1)⟩

set_option maxRecDepth 100000 in
set_option maxHeartbeats 1000000 in
theorem refLacks_in {Q : Nat → Prop} (ab : Option Addr) (nb cb : Nat) (vo v : Value) (O : List Opn) (l : List (Int × Int)) (w : World) (hO : RN Q w vo O) (hr : RI w v l) (lO : O.length ≤ 1000000) (hl : l.length ≤ 140737488355328) :
    Calls Tryz.prog 33 #[.agg #[.slice ab nb cb, vo], v] w fun e W => e = .returned (.int .i64 ((bynd l O).length : Nat)) ∧ Below w.heap.size w W := by
  obtain ⟨ao, co, rfl⟩ := rn_form hO
  obtain ⟨av, cv, rfl⟩ := hr.form
  obtain ⟨X, hX⟩ : ∃ X, w.alloc (.cells #[.slice ab nb cb, .slice ao O.length co] 35) = X := ⟨_, rfl⟩
  have bX : Below w.heap.size w X := by rw [← hX]; exact ballc (Below.refl _ _) _
  have xX : Bx X w.heap.size 35 #[.slice ab nb cb, .slice ao O.length co] := by rw [← hX]; exact Bx.new w _ _
  have HB := hide (refBeyond_in ab nb cb _ _ O l X (hO.below bX) (hr.below bX) lO hl)
  have c0 := xX.cell 0 _ rfl
  have c1 := xX.cell 1 _ rfl
  have xl := xX.lt
  have BX := hide bX
  clear hO hr bX xX
  go_enter Tryz.func33, Tryz.ntmps33
  go_wp2_with fail
  refine (unhide HB).mono ?_
  rintro r W1 ⟨v', rfl, hn, hb1⟩
  obtain ⟨a', c', rfl⟩ := rn_form hn
  have B1 := hide (bnext (unhide BX) hb1)
  clear HB hn hb1 c0 c1
  go_wp2
  go_ret
  exact ⟨rfl, unhide B1⟩

end Go.Proofs.YtijjoikeceechaaGreat

/-
  The document's own log: New and Add.
-/
set_option linter.unusedSimpArgs false
set_option linter.unusedVariables false
namespace Go.Proofs.YtijjoikeceechaaGreat
open Go.RowKit Go.Lib

theorem results_ct {P : Program} {fn : Func} {j p : Tmp} {ty : TypeId} (h : fn.results = #[.cell p ty, .tmp j]) (tmps : Array Value) (w : World) (g : Nat) (t : TypeId) (cs : Array Value) (fr : Nat × Nat) (d : TypeDesc)
    (hp : tmps.getD p undef = .pointer (some ⟨g, 0, none⟩)) (hg : w.heap[g]? = some (.cells cs t fr))
    (hu : P.underlying ty = some d) (hd : (match d with | .struct _ | .array _ _ => true | _ => false) = true) (hi : (P.info? ty).map (·.size) = some cs.size) :
    (results fn tmps).run P w = .ok (.tuple #[.agg cs, tmps.getD j undef]) w := by
  have hp' : tmps[p]?.getD undef = .pointer (some ⟨g, 0, none⟩) := by simpa using hp
  simp [results, h, hp', asAddr, run_loadVar_row w g t ty cs fr d hg hu hd hi]
theorem results_ctt {P : Program} {fn : Func} {j k p : Tmp} {ty : TypeId} (h : fn.results = #[.cell p ty, .tmp j, .tmp k]) (tmps : Array Value) (w : World) (g : Nat) (t : TypeId) (cs : Array Value) (fr : Nat × Nat) (d : TypeDesc)
    (hp : tmps.getD p undef = .pointer (some ⟨g, 0, none⟩)) (hg : w.heap[g]? = some (.cells cs t fr))
    (hu : P.underlying ty = some d) (hd : (match d with | .struct _ | .array _ _ => true | _ => false) = true) (hi : (P.info? ty).map (·.size) = some cs.size) :
    (results fn tmps).run P w = .ok (.tuple #[.agg cs, tmps.getD j undef, tmps.getD k undef]) w := by
  have hp' : tmps[p]?.getD undef = .pointer (some ⟨g, 0, none⟩) := by simpa using hp
  simp [results, h, hp', asAddr, run_loadVar_row w g t ty cs fr d hg hu hd hi]
theorem sizeLg : (Tryz.prog.info? 35).map (·.size) = some 2 := by kernel_rfl
theorem box2 {W : World} {b : Nat} {t : TypeId} {x0 x1 : Value} (h : Bx W b t #[x0, x1]) (y0 y1 : Value) : Bx ((W.setCell ⟨b, 0, none⟩ y0).setCell ⟨b, 1, none⟩ y1) b t #[y0, y1] := by simpa using (h.set 0 y0).set 1 y1
theorem kp2 (W : World) (b : Nat) (y0 y1 : Value) : Kp (fun k => k = b) W ((W.setCell ⟨b, 0, none⟩ y0).setCell ⟨b, 1, none⟩ y1) := (Kp.set (N := fun k => k = b) W ⟨b, 0, none⟩ y0 rfl).trans (Kp.set (N := fun k => k = b) _ ⟨b, 1, none⟩ y1 rfl) (fun i h => .inl h)

set_option maxRecDepth 100000 in
set_option maxHeartbeats 2000000 in
theorem refNew_in (v : Value) (l : List (Int × Int)) (w : World) (h : RI w v l) (hl : l.length ≤ 1000000) :
    Calls Tryz.prog 9 #[v] w fun e W => (chk l ≠ 0 ∧ e = .returned (.tuple #[.agg #[.slice none 0 0, .slice none 0 0], .int .i64 (chk l)]) ∧ Below w.heap.size w W) ∨ (chk l = 0 ∧ ∃ a c, e = .returned (.tuple #[.agg #[.slice a l.length c, .slice none 0 0], .int .i64 0]) ∧ OwD W w.heap.size (.slice a l.length c) l ∧ Below w.heap.size w W) := by
  obtain ⟨a, c, rfl⟩ := h.form
  obtain ⟨X, hX⟩ : ∃ X, w.alloc (.cells #[.slice none 0 0, .slice none 0 0] 35) = X := ⟨_, rfl⟩
  have bX : Below w.heap.size w X := by rw [← hX]; exact ballc (Below.refl _ _) _
  have xX : Bx X w.heap.size 35 #[.slice none 0 0, .slice none 0 0] := by rw [← hX]; exact Bx.new w _ _
  have zX : w.heap.size < X.heap.size := xX.lt
  have HCk := hide (refCheck_in _ l X (h.below bX) (by omega))
  have HM := hide (fun (W : World) (hb : Below X.heap.size X W) => refMerge_in (.slice a l.length c) (.slice none 0 0) l [] W ((h.below bX).below hb) (.inl ⟨rfl, _, _, rfl⟩) (by omega) (by simp))
  have XX := hide xX
  have BX := hide bX
  by_cases h0 : chk l = 0
  rotate_left
  · obtain ⟨ck, hck⟩ : ∃ k, chk l = k := ⟨_, rfl⟩
    rw [hck] at h0 HCk ⊢
    have h0' : (ck == 0) = false := by simpa using h0
    clear h bX xX hck HM
    go_enter Tryz.func9, Tryz.ntmps9
    go_wp2_with fail
    refine (unhide HCk).mono ?_
    rintro r W1 ⟨rfl, hb1⟩
    have x1 := (unhide XX).below hb1
    have BW := hide (bnext (unhide BX) hb1)
    have c0 := x1.cell 0 _ rfl
    have c1 := x1.cell 1 _ rfl
    have f0 := x1.frozen 0
    have f1 := x1.frozen 1
    have l0 := x1.lt
    have x2 := hide (box2 x1 (.slice none 0 0) (.slice none 0 0))
    have k2 := hide (kp2 W1 w.heap.size (.slice none 0 0) (.slice none 0 0))
    clear HCk hb1 x1
    go_wp2
    refine bodyPost_ret (results_ct rfl _ _ w.heap.size _ _ _ _ rfl (unhide x2) Tryz.underlying35 rfl sizeLg) rfl ?_
    exact .inl ⟨h0, rfl, (unhide k2).below (unhide BW) (fun i e => by omega)⟩
  · have hm : vec (mrg (sy l) (sy [])) = l := by rw [mrg_nil (sy_good l), vec_of_chk h0]
    rw [hm] at HM
    rw [h0] at HCk
    clear h bX xX hm
    go_enter Tryz.func9, Tryz.ntmps9
    go_wp2_with fail
    refine (unhide HCk).mono ?_
    rintro r W1 ⟨rfl, hb1⟩
    have B1 := hide hb1
    have HM1 := hide (unhide HM W1 hb1)
    clear HCk HM hb1
    go_wp2_with fail
    refine (unhide HM1).mono ?_
    rintro r W2 ⟨v2, rfl, ho2, hb2⟩
    obtain ⟨a2, c2, rfl⟩ := ho2.form
    have x1 := ((unhide XX).below (unhide B1)).below hb2
    have z1 := (unhide B1).size
    have BW := hide (bnext (unhide BX) (bnext (unhide B1) hb2))
    have c0 := x1.cell 0 _ rfl
    have c1 := x1.cell 1 _ rfl
    have f0 := x1.frozen 0
    have f1 := x1.frozen 1
    have l0 := x1.lt
    have x2 := hide (box2 x1 (.slice a2 l.length c2) (.slice none 0 0))
    have k2 := hide (kp2 W2 w.heap.size (.slice a2 l.length c2) (.slice none 0 0))
    have O2 := hide (owns_kp ho2 (unhide k2) (fun i hi e => by have := (ho2.lt i hi).1; omega))
    have hw : w.heap.size ≤ W1.heap.size := by omega
    clear HM1 ho2 hb2 x1 B1
    go_wp2
    refine bodyPost_ret (results_ct rfl _ _ w.heap.size _ _ _ _ rfl (unhide x2) Tryz.underlying35 rfl sizeLg) rfl ?_
    exact .inr ⟨h0, a2, c2, rfl, own_base (unhide O2) hw, (unhide k2).below (unhide BW) (fun i e => by omega)⟩

end Go.Proofs.YtijjoikeceechaaGreat
