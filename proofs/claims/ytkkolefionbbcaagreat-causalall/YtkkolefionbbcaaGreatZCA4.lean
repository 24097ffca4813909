/-
  The law's own: closed.
-/
import Derived.Test.YtkkolefionbbcaaGreatZXCA
import Derived.Deep.CutRange
set_option linter.unusedSimpArgs false
set_option linter.unusedVariables false
namespace Go.Proofs.YtkkolefionbbcaaGreat
open Go.RowKit Go.Lib

theorem CM.kb {w W W' : World} {b bo : Nat} {lv : Value} {ops : List (Opn × Value × Value)} {f : Nat → Value × List (Int × Int)} {cs : Array Value} (h : CM w W b lv ops f) (k : Kp (fun i => i = bo) W W') (hx : Bx W bo 42 cs) (hn : lv.ownBlock ≠ some bo) (hbo : w.heap.size ≤ bo) : CM w W' b lv ops f := by
  have hD : ∀ {v l}, OwD W w.heap.size v l → OwD W' w.heap.size v l := fun {v l} q => owns_kp q k (fun i hi e => own_ne_box q hx (by decide) (by rw [hi, e]))
  refine ⟨(k.wk (M := fun i => w.heap.size ≤ i) (fun i e => by rw [e]; exact hbo)).below h.bel (fun i e => e), owns_kp h.row k (fun i hi e => hn (by rw [hi, e])), fun x hx' => ?_, h.box.kp k (fun e => ?_), h.ge, fun s => hD (h.has s)⟩
  · have q := h.ent x hx'
    exact ⟨owns_kp q.d k (fun i hi e => own_ne_box q.d hx (by decide) (by rw [hi, e])), owns_kp q.g k (fun i hi e => own_ne_box q.g hx (by decide) (by rw [hi, e])), q.pd, q.pg, q.s1, q.s2, q.s3, q.inn⟩
  · subst e
    exact ne_types (show W.heap[b]? = some (.cells _ _ _) from h.box) (show W.heap[b]? = some (.cells _ _ _) from hx) (by decide)
theorem OwD.kb {W W' : World} {bo B : Nat} {v : Value} {l : List (Int × Int)} {cs : Array Value} (q : OwD W B v l) (k : Kp (fun i => i = bo) W W') (hx : Bx W bo 42 cs) : OwD W' B v l := owns_kp q k (fun i hi e => own_ne_box q hx (by decide) (by rw [hi, e]))
theorem jn_oe {P : Nat → Prop} {W : World} {s q : Int} {u : List (Int × Int)} {v : Value} (hs : in64 s) (hq : in64 q) (h : OwD W 0 v u) (hp : ∀ k, v.ownBlock = some k → P k) (hl : u.length ≤ 17) : OE P W (jnO s q u, v, .slice none 0 0) := by
  have z : ∀ k : Int, 0 ≤ k ∧ k ≤ 9 → in64 k := fun k hk => ⟨by omega, by omega⟩
  exact ⟨h, World.ownsRow_nil _ _ _ _, hp, fun k hk => (by cases hk), by show u.length ≤ _; omega, by show (0 : Nat) ≤ _; omega, by show (0 : Nat) ≤ _; omega, ⟨hs, hq, z 3 (by decide), z 0 (by decide), z 0 (by decide), z 0 (by decide), z 0 (by decide), z 9 (by decide), by show u.length ≤ _; omega, by show (0 : Nat) ≤ _; omega, (fun r hr => by simp [jnO] at hr), by show (0 : Nat) ≤ _; omega⟩⟩
theorem HF.put {l : List Opn} {f : Nat → Value × List (Int × Int)} {s : Nat} {v : Value} {A : List (Int × Int)} (h : HF l (putF (fun t => (f t).2) s A)) : HF l (fun t => (putF f s (v, A) t).2) := by
  have e : (fun t => (putF f s (v, A) t).2) = putF (fun t => (f t).2) s A := by
    funext t
    unfold putF
    split <;> rfl
  rw [e]; exact h
theorem own_at11c {W : World} {B n : Nat} {a : Option Addr} {c : Nat} {ops : List (Opn × Value × Value)} (h : W.ownsRow B 42 11 (.slice a n c) n (flat encO ops)) (hn : ops.length = n) {i : Nat} {e : Opn × Value × Value} (hi : ops[i]? = some e) : ∃ g, a = some ⟨g, 0, none⟩ ∧ g < W.heap.size ∧ ∀ q v, (encO e)[q]? = some v → W.cell? ⟨g, i * 11 + q, none⟩ = some v := by
  have hl := (List.getElem?_eq_some_iff.1 hi).1
  have hlt := h.lt
  have h0 := h
  obtain ⟨_, (⟨_, h1⟩ | ⟨g, cap, cur, e', _, hg, _⟩)⟩ := h
  · omega
  · simp at e'
    obtain ⟨rfl, rfl⟩ := e'
    refine ⟨g, rfl, (hlt g rfl).2, fun q v hv => ?_⟩
    have hq : q < 11 := by have := (List.getElem?_eq_some_iff.1 hv).1; rwa [encO_len] at this
    rw [h0.cellAt (i * 11 + q) (by omega)]
    exact (flat_get encO_len ops i q e hi hq).trans hv
/-- a closed set in new memory -/
def ClA (w W : World) (lv : Value) : Prop := ∃ ops b f, CM w W b lv ops f ∧ ops.length ≤ 40 ∧ HF (ops.map Prod.fst) (fun s => (f s).2)
set_option maxRecDepth 100000 in
set_option maxHeartbeats 4000000 in
theorem closed_in (w : World) (a0 a1 : Option Addr) (n0 n1 c0 c1 : Nat) (ss ks : List Int) (h0 : RN w (.slice a0 n0 c0) ss) (h1 : RN w (.slice a1 n1 c1) ks) (hl0 : ss.length = n0) (hl1 : ks.length = n1) (i0 : ∀ x ∈ ss, in64 x) (i1 : ∀ x ∈ ks, in64 x) (hn0 : n0 ≤ 40) (hn1 : n1 ≤ 40) :
    Calls Tryz.prog 27 #[.slice a0 n0 c0, .slice a1 n1 c1] w fun e W => ∃ lv, e = .returned lv ∧ ClA w W lv := by
  obtain ⟨X, hX⟩ : ∃ X, w.alloc (.cells (arrV fun _ => (.slice none 0 0, [])) 92) = X := ⟨_, rfl⟩
  have C0 : CM w X w.heap.size (.slice none 0 0) [] (fun _ => (.slice none 0 0, [])) := by
    rw [← hX]
    exact ⟨ballc (Below.refl _ _) _, World.ownsRow_nil _ _ _ _, fun e he => (by cases he), Bx.new _ _ _, Nat.le_refl _, fun s => World.ownsRow_nil _ _ _ _⟩
  have HC0 := hide C0
  have HF0 := hide HF.nil
  obtain ⟨b, hb⟩ : ∃ b, w.heap.size = b := ⟨_, rfl⟩
  rw [hb] at HC0
  have H0 := hide h0
  have H1 := hide h1
  have I0 := hide i0
  have I1 := hide i1
  have L0 := hide hl0
  have L1 := hide hl1
  unfold arrV at hX
  simp [List.range, List.range.loop] at hX
  clear C0 h0 h1 i0 i1 hl0 hl1
  go_enter Tryz.func27, Tryz.ntmps27
  go_wp2
  clear hX hb
  go_loopw [5, 7] (fun lv iv wr => ∃ (i : Nat) (al : Option Addr) (cl : Nat) (ops : List (Opn × Value × Value)) (f : Nat → Value × List (Int × Int)), lv = .slice al ops.length cl ∧ iv = .int .i64 (i : Nat) ∧ i ≤ n0 ∧ ops.length ≤ i ∧ Hid (CM w wr b (.slice al ops.length cl) ops f) ∧ Hid (HF (ops.map Prod.fst) (fun s => (f s).2))) (fun lv iv _ => n0 - (RowKit.intOf iv).toNat)
  case atStart => exact ⟨0, none, 0, [], _, rfl, rfl, by omega, by simp, HC0, HF0⟩
  case round =>
    clear HC0 HF0
    obtain ⟨i, al, cl, ops, f, rfl, rfl, hi, hoi, HC, HH⟩ := hrel
    obtain ⟨no, hno⟩ : ∃ no, ops.length = no := ⟨_, rfl⟩
    rw [hno] at HC hoi
    rw [hno]
    have Hno := hide hno
    clear hno
    by_cases hlt : i < n0
    rotate_left
    · have hlt' : ¬ (i : Int) < (n0 : Int) := by omega
      go_wp2
      go_ret
      exact ⟨_, rfl, ops, b, f, unhide HC, by have := unhide Hno; omega, unhide HH⟩
    have hlt' : (i : Int) < (n0 : Int) := by omega
    obtain ⟨x, hx⟩ : ∃ x, ss[i]? = some x := ⟨_, List.getElem?_eq_getElem (by rw [unhide L0]; exact hlt)⟩
    obtain ⟨g0, off0, rfl, hg0, q0⟩ := RN.at (RN.below (unhide H0) (unhide HC).bel) hx
    have hr1 := Int.tmod_lt_of_pos x (show (0 : Int) < 5 by decide)
    have hr2 := Int.lt_tmod_of_pos x (show (0 : Int) < 5 by decide)
    obtain ⟨r, hr⟩ : ∃ r, x.tmod 5 = r := ⟨_, rfl⟩
    rw [hr] at hr1 hr2
    have hrw : IntKind.i64.wrap r = r := by simp only [IntKind.wrap_i64]; omega
    obtain ⟨s, hs⟩ : ∃ s : Nat, s = r.natAbs + 1 := ⟨_, rfl⟩
    have hs1 : 1 ≤ s := by omega
    have hs5 : s ≤ 5 := by omega
    clear hx
    obtain ⟨ah, ch, hfs⟩ := OwD.form ((unhide HC).has s)
    have q1 := (unhide HC).box.cell s _ (arrV_get f s (by omega))
    have hbl := (unhide HC).box.lt
    rw [hfs] at q1
    have Hfs := hide hfs
    obtain ⟨nh, hnh⟩ : ∃ nh, (f s).2.length = nh := ⟨_, rfl⟩
    rw [hnh] at q1 Hfs
    have Hnh := hide hnh
    have e2 : IntKind.i64.wrap ((s : Int) - 1 + 1) = (s : Int) := by simp only [IntKind.wrap_i64]; omega
    have e3 : (s : Int) - 1 + 1 = (s : Int) := by omega
    clear hnh hfs
    by_cases hneg : r < 0
    · have e1 : IntKind.i64.wrap (-r) = (s : Int) - 1 := by simp only [IntKind.wrap_i64]; omega
      have e4 : -r = (s : Int) - 1 := by omega
      clear hs hr1 hr2
      go_upto_region 11 with fail
      clear e1 e2 e3 e4 q0 hr hrw hneg hg0
      by_cases hin : i < n1
      rotate_left
      · have hin' : ¬ (i : Int) < (n1 : Int) := by omega
        go_upto_region 15 with fail
        clear hin'
        have HU : Hid (OwD wr w.heap.size (.slice ah nh ch) (f s).2) := by have := (unhide HC).has s; rw [unhide Hfs] at this; exact this
        have HVu : Hid (HV (ops.map Prod.fst) (f s).2) := (unhide HH).v s
        obtain ⟨u, hu⟩ : ∃ u, (f s).2 = u := ⟨_, rfl⟩
        have Hul : Hid (u.length = nh) := by rw [← hu]; exact Hnh
        rw [hu] at HU HVu
        clear hu
        have hrow : OwD wr w.heap.size (.slice ah nh ch) (f s).2 := by have := (unhide HC).has s; rw [unhide Hfs] at this; exact this
        have hfl : (f s).2.length ≤ 17 := ((unhide HH).v s).len
        obtain ⟨G, hG⟩ : ∃ G, getV (f s).2 (s : Int) = G := ⟨_, rfl⟩
        have hGb : 0 ≤ G ∧ G ≤ 40 := by
          have h1 := get_nn (f s).2 (s : Int)
          have h2 : getV (f s).2 (s : Int) = (cntS (ops.map Prod.fst) (s : Int) : Int) := by
            unfold getV
            rw [if_pos ⟨by omega, by omega⟩, Int.toNat_natCast]
            exact (unhide HH).at_ s hs1 hs5
          have h3 := cntS_len (ops.map Prod.fst) (s : Int)
          rw [List.length_map, unhide Hno] at h3
          omega
        obtain ⟨q, hq⟩ : ∃ q, q = G + 1 := ⟨_, rfl⟩
        have hqw : IntKind.i64.wrap (G + 1) = q := by simp only [IntKind.wrap_i64]; omega
        obtain ⟨G9, hG9⟩ : ∃ G9, getV u (s : Int) = G9 := ⟨_, rfl⟩
        have HG := hide (refGet_in (.slice ah nh ch) (f s).2 (s : Int) wr (OwD.row hrow) (by omega))
        rw [hG] at HG
        have q5 : wr.cell? ⟨b, s, none⟩ = some (.slice ah nh ch) := by have := (unhide HC).box.cell s _ (arrV_get f s (by omega)); rw [unhide Hfs] at this; exact this
        have hbl := (unhide HC).box.lt
        have hs17 : (s : Int) < 17 := by omega
        have HGq := hide (show q = getV (f s).2 (s : Int) + 1 by rw [hG]; exact hq)
        have hul := unhide Hul
        have hu17 : u.length ≤ 17 := (unhide HVu).len
        have HuR := hide (OwD.row (unhide HU))
        have Hq := hide hq
        have hGe : G + 1 = q := hq.symm
        clear hrow hfl hG hul hq
        go_wp2_with fail
        refine (unhide HG).mono ?_
        rintro e W6 ⟨rfl, b6⟩
        have B6 := hide b6
        obtain ⟨V, hV⟩ : ∃ V, W6.alloc (.cells #[.int .i64 (s : Int), .int .i64 q, .slice none 0 0, .int .i64 3, .int .i64 0, .int .i64 0, .int .i64 0, .int .i64 0, .string ⟨#[]⟩, .slice none 0 0, .int .i64 9] 42) = V := ⟨_, rfl⟩
        have bV : Below W6.heap.size W6 V := by rw [← hV]; exact ballc (Below.refl _ _) _
        have xV : Bx V W6.heap.size 42 #[.int .i64 (s : Int), .int .i64 q, .slice none 0 0, .int .i64 3, .int .i64 0, .int .i64 0, .int .i64 0, .int .i64 0, .string ⟨#[]⟩, .slice none 0 0, .int .i64 9] := by rw [← hV]; exact Bx.new _ _ _
        obtain ⟨bo, hbo⟩ : ∃ bo, W6.heap.size = bo := ⟨_, rfl⟩
        rw [hbo] at xV
        have b5V : Below wr.heap.size wr V := bnext b6 bV
        have HCV := hide ((unhide HC).below b5V)
        have HUV := hide (owd_below (unhide HU) b5V)
        have hlvo : ∀ k, (Value.slice al no cl).ownBlock = some k → k < bo := fun k hk => by have := ((unhide HC).below b6).row.lt k hk; omega
        have Hlvo := hide hlvo
        have Hbo0 := hide (show w.heap.size ≤ bo by rw [← hbo]; exact ((unhide HC).below b6).bel.size)
        have HG9 := hide (fun X (hX : Below V.heap.size V X) => refGet_in (.slice ah nh ch) u (s : Int) X (OwD.row (owd_below (unhide HUV) hX)) (by omega))
        rw [hG9] at HG9
        have HxV := hide xV
        clear HG q5 b6 bV xV b5V hlvo B6 HuR
        go_wp2_with fail
        clear hV hbo hqw hGe
        have hqb : 1 ≤ q ∧ q ≤ 41 := by have := unhide Hq; omega
        have mixed : Tryz.prog.follows .mixedOrders = true := by kernel_rfl
        have hne := BelowOf.ne V
        have k1 : ∀ p : BelowOf V, p.w.cell? ⟨bo, 1, none⟩ = some (.int .i64 q) := fun p => ((unhide HxV).below p.h).cell 1 _ rfl
        have hq1 : IntKind.i64.wrap (q - 1) = q - 1 := by simp only [IntKind.wrap_i64]; omega
        by_cases hgq : G9 = q - 1
        rotate_left
        · have hgq1 : (G9 != q - 1) = true := by simpa using hgq
          clear hgq
          refine wp_region_quiet_below mixed (by kernel_rfl) ?_
          repeat (any_goals (first | go_big_quiet_step ((first | (go_at_call 23; exact below_of (unhide HG9 _ (BelowOf.h _))))) | quiet_step ((first | (go_at_call 23; exact below_of (unhide HG9 _ (BelowOf.h _)))))))
          all_goals (refine wpQuiet_nil ?_; intro _ hw'; obtain ⟨p, hw''⟩ := hw'; subst hw'')
          have HCp := hide ((unhide HCV).below p.h)
          generalize p.w = Z at *
          clear hne k1 HG9 hq1
          go_wp2
          go_roundw
          case rel => exact ⟨i + 1, al, cl, ops, f, by rw [unhide Hno], by go_num, by omega, by have := unhide Hno; omega, by rw [unhide Hno]; exact HCp, HH⟩
          case measure => show n0 - ((i : Int) + 1).toNat < n0 - ((i : Nat) : Int).toNat; omega
        have hgq1 : (G9 != q - 1) = false := by simpa using hgq
        refine wp_region_quiet_below mixed (by kernel_rfl) ?_
        repeat (any_goals (first | go_big_quiet_step ((first | (go_at_call 23; exact below_of (unhide HG9 _ (BelowOf.h _))))) | quiet_step ((first | (go_at_call 23; exact below_of (unhide HG9 _ (BelowOf.h _)))))))
        all_goals (refine wpQuiet_nil ?_; intro _ hw'; obtain ⟨p, hw''⟩ := hw'; subst hw'')
        have HCp := hide ((unhide HCV).below p.h)
        have HUp := hide (owd_below (unhide HUV) p.h)
        have Hxp := hide ((unhide HxV).below p.h)
        generalize p.w = Z at *
        have hgu : getV u (s : Int) = q - 1 := by rw [hG9, hgq]
        have HHn := hide ((unhide HH).snoc hs1 hs5 (by rw [List.length_map, unhide Hno]; omega) (unhide HVu) (unhide HGq) hgu)
        have Hgu := hide hgu
        have HM := hide (refMerge_in (.slice ah nh ch) (.slice none 0 0) u [] Z (OwD.row (unhide HUp)) (RC.nil _ _ _) (by omega) (by simp))
        rw [mrg_self u (unhide HVu).vc] at HM
        clear hne k1 HG9 hq1 HCV HUV HxV hgq1 hG9 hgq hgu
        go_wp2_with fail
        refine (unhide HM).mono ?_
        rintro e W8 ⟨vm, rfl, om, b8⟩
        obtain ⟨am, cm, rfl⟩ := OwD.form om
        rw [unhide Hul] at om
        rw [unhide Hul]
        have C8 := (unhide HCp).below b8
        have U8 := owd_below (unhide HUp) b8
        have x8 := (unhide Hxp).below b8
        have hwZ := (unhide HCp).bel.size
        have hbo0 : w.heap.size ≤ bo := unhide Hbo0
        have hnb : (Value.slice al no cl).ownBlock ≠ some bo := fun e => by have := unhide Hlvo bo e; omega
        have k8 := Kp.set (N := fun i => i = bo) W8 ⟨bo, 2, none⟩ (.slice am nh cm) rfl
        obtain ⟨Y8, hY8⟩ : ∃ Y, W8.setCell ⟨bo, 2, none⟩ (.slice am nh cm) = Y := ⟨_, rfl⟩
        have xY8 : Bx Y8 bo 42 #[.int .i64 (s : Int), .int .i64 q, .slice am nh cm, .int .i64 3, .int .i64 0, .int .i64 0, .int .i64 0, .int .i64 0, .string ⟨#[]⟩, .slice none 0 0, .int .i64 9] := by rw [← hY8]; have := x8.set 2 (.slice am nh cm); simpa using this
        rw [hY8] at k8
        have CY := C8.kb k8 x8 hnb hbo0
        have UY := U8.kb k8 x8
        have oY := om.kb k8 x8
        have p2 := x8.cell 2 _ rfl
        have f2 := x8.frozen 2
        have l2 := x8.lt
        obtain ⟨Y9, hY9⟩ : ∃ Y, Y8.alloc (.cells #[.int .i64 (s : Int), .int .i64 q, .slice am nh cm, .int .i64 3, .int .i64 0, .int .i64 0, .int .i64 0, .int .i64 0, .string ⟨#[]⟩, .slice none 0 0, .int .i64 9] 42) = Y := ⟨_, rfl⟩
        have b9 : Below Y8.heap.size Y8 Y9 := by rw [← hY9]; exact ballc (Below.refl _ _) _
        have xY9 : Bx Y9 Y8.heap.size 42 #[.int .i64 (s : Int), .int .i64 q, .slice am nh cm, .int .i64 3, .int .i64 0, .int .i64 0, .int .i64 0, .int .i64 0, .string ⟨#[]⟩, .slice none 0 0, .int .i64 9] := by rw [← hY9]; exact Bx.new _ _ _
        have hqb : 1 ≤ q ∧ q ≤ 41 := by have := unhide Hq; omega
        have oe := jn_oe (P := fun i => w.heap.size ≤ i) (s := (s : Int)) (q := q) (u := u) ⟨by omega, by omega⟩ ⟨by omega, by omega⟩ (OwD.base (owd_below oY b9) (Nat.zero_le _)) (fun k hk => Nat.le_trans hwZ (om.lt k hk).1) hu17
        obtain ⟨v', Z2, hr, C2, kk, hD⟩ := (CY.below b9).push oe xY9 (by have := unhide Hno; omega)
        obtain ⟨av, cv, rfl⟩ := owns_form C2.row
        have hln : (ops ++ [(jnO (s : Int) q u, Value.slice am nh cm, Value.slice none 0 0)]).length = no + 1 := by simp; exact unhide Hno
        have Hln := hide hln
        have HC2 := hide C2
        rw [hln] at hr
        have U2 := hD _ _ _ (owd_below UY b9)
        have x2 := (xY8.below b9).kp kk (fun e => hnb e)
        obtain ⟨p0, p1, p3, p4, p5, p6, p7, p8, p9, p10, p11⟩ := cells_op xY8
        have j0 := x2.cell 0 _ rfl
        have j1 := x2.cell 1 _ rfl
        have l8 := xY8.lt
        have Hr := hide hr
        have HAd := hide (refAdd_in (.slice ah nh ch) u (s : Int) q Z2 (OwD.row U2) (by omega) (by omega))
        obtain ⟨A, hA⟩ : ∃ A, addV u ((s : Int), q) = A := ⟨_, rfl⟩
        have HHm : Hid (HF (ops.map Prod.fst ++ [jnO (s : Int) q u]) (putF (fun t => (f t).2) s A.1)) := by rw [← hA]; exact (unhide HHn).1
        rw [hA] at HAd
        clear HM om b8 C8 U8 x8 k8 xY8 CY UY oY b9 xY9 oe C2 kk hD hln hr U2 x2 HCp HUp Hxp hwZ hnb hbo0
        go_wp2_with (at_builtin; refine wpList_append_eq rfl _ _ 47 rfl _ _ _ _ rfl rfl (unhide Hr) ?_; clear Hr)
        clear hY8 hY9 p0 p1 p2 f2 l2 p3 p4 p5 p6 p7 p8 p9 p10 p11 l8
        refine (unhide HAd).mono ?_
        rintro e W3 ⟨v3, rfl, o3, b3⟩
        obtain ⟨a3, c3, rfl⟩ := OwD.form o3
        have C3 := (unhide HC2).below b3
        have r0 : W3.cell? ⟨b, s, none⟩ = some (.slice ah nh ch) := by have := C3.box.cell s _ (arrV_get f s (by omega)); rw [unhide Hfs] at this; exact this
        have r1 := C3.box.frozen s
        have r2 := C3.box.lt
        have HC4 := hide (C3.put (s := s) (by omega) (OwD.base o3 (unhide HC2).bel.size))
        clear C3 HAd o3 b3 j0 j1
        go_wp2
        go_roundw
        case rel => exact ⟨i + 1, av, cv, ops ++ [(jnO (s : Int) q u, Value.slice am nh cm, Value.slice none 0 0)], _, by rw [unhide Hln], by go_num, by omega, by have := unhide Hln; omega, HC4, hide (by rw [List.map_append]; exact HF.put (unhide HHm))⟩
        case measure => show n0 - ((i : Int) + 1).toNat < n0 - ((i : Nat) : Int).toNat; omega
      have hin' : (i : Int) < (n1 : Int) := by omega
      obtain ⟨kx, hkx⟩ : ∃ kx, ks[i]? = some kx := ⟨_, List.getElem?_eq_getElem (by rw [unhide L1]; exact hin)⟩
      obtain ⟨g1, off1, rfl, hg1, q2⟩ := RN.at (RN.below (unhide H1) (unhide HC).bel) hkx
      clear hkx
      by_cases hk0 : 0 ≤ kx
      rotate_left
      · go_upto_region 15 with fail
        clear hin' q2 hk0 hg1
        have HU : Hid (OwD wr w.heap.size (.slice ah nh ch) (f s).2) := by have := (unhide HC).has s; rw [unhide Hfs] at this; exact this
        have HVu : Hid (HV (ops.map Prod.fst) (f s).2) := (unhide HH).v s
        obtain ⟨u, hu⟩ : ∃ u, (f s).2 = u := ⟨_, rfl⟩
        have Hul : Hid (u.length = nh) := by rw [← hu]; exact Hnh
        rw [hu] at HU HVu
        clear hu
        have hrow : OwD wr w.heap.size (.slice ah nh ch) (f s).2 := by have := (unhide HC).has s; rw [unhide Hfs] at this; exact this
        have hfl : (f s).2.length ≤ 17 := ((unhide HH).v s).len
        obtain ⟨G, hG⟩ : ∃ G, getV (f s).2 (s : Int) = G := ⟨_, rfl⟩
        have hGb : 0 ≤ G ∧ G ≤ 40 := by
          have h1 := get_nn (f s).2 (s : Int)
          have h2 : getV (f s).2 (s : Int) = (cntS (ops.map Prod.fst) (s : Int) : Int) := by
            unfold getV
            rw [if_pos ⟨by omega, by omega⟩, Int.toNat_natCast]
            exact (unhide HH).at_ s hs1 hs5
          have h3 := cntS_len (ops.map Prod.fst) (s : Int)
          rw [List.length_map, unhide Hno] at h3
          omega
        obtain ⟨q, hq⟩ : ∃ q, q = G + 1 := ⟨_, rfl⟩
        have hqw : IntKind.i64.wrap (G + 1) = q := by simp only [IntKind.wrap_i64]; omega
        obtain ⟨G9, hG9⟩ : ∃ G9, getV u (s : Int) = G9 := ⟨_, rfl⟩
        have HG := hide (refGet_in (.slice ah nh ch) (f s).2 (s : Int) wr (OwD.row hrow) (by omega))
        rw [hG] at HG
        have q5 : wr.cell? ⟨b, s, none⟩ = some (.slice ah nh ch) := by have := (unhide HC).box.cell s _ (arrV_get f s (by omega)); rw [unhide Hfs] at this; exact this
        have hbl := (unhide HC).box.lt
        have hs17 : (s : Int) < 17 := by omega
        have HGq := hide (show q = getV (f s).2 (s : Int) + 1 by rw [hG]; exact hq)
        have hul := unhide Hul
        have hu17 : u.length ≤ 17 := (unhide HVu).len
        have HuR := hide (OwD.row (unhide HU))
        have Hq := hide hq
        have hGe : G + 1 = q := hq.symm
        clear hrow hfl hG hul hq
        go_wp2_with fail
        refine (unhide HG).mono ?_
        rintro e W6 ⟨rfl, b6⟩
        have B6 := hide b6
        obtain ⟨V, hV⟩ : ∃ V, W6.alloc (.cells #[.int .i64 (s : Int), .int .i64 q, .slice none 0 0, .int .i64 3, .int .i64 0, .int .i64 0, .int .i64 0, .int .i64 0, .string ⟨#[]⟩, .slice none 0 0, .int .i64 9] 42) = V := ⟨_, rfl⟩
        have bV : Below W6.heap.size W6 V := by rw [← hV]; exact ballc (Below.refl _ _) _
        have xV : Bx V W6.heap.size 42 #[.int .i64 (s : Int), .int .i64 q, .slice none 0 0, .int .i64 3, .int .i64 0, .int .i64 0, .int .i64 0, .int .i64 0, .string ⟨#[]⟩, .slice none 0 0, .int .i64 9] := by rw [← hV]; exact Bx.new _ _ _
        obtain ⟨bo, hbo⟩ : ∃ bo, W6.heap.size = bo := ⟨_, rfl⟩
        rw [hbo] at xV
        have b5V : Below wr.heap.size wr V := bnext b6 bV
        have HCV := hide ((unhide HC).below b5V)
        have HUV := hide (owd_below (unhide HU) b5V)
        have hlvo : ∀ k, (Value.slice al no cl).ownBlock = some k → k < bo := fun k hk => by have := ((unhide HC).below b6).row.lt k hk; omega
        have Hlvo := hide hlvo
        have Hbo0 := hide (show w.heap.size ≤ bo by rw [← hbo]; exact ((unhide HC).below b6).bel.size)
        have HG9 := hide (fun X (hX : Below V.heap.size V X) => refGet_in (.slice ah nh ch) u (s : Int) X (OwD.row (owd_below (unhide HUV) hX)) (by omega))
        rw [hG9] at HG9
        have HxV := hide xV
        clear HG q5 b6 bV xV b5V hlvo B6 HuR
        go_wp2_with fail
        clear hV hbo hqw hGe
        have hqb : 1 ≤ q ∧ q ≤ 41 := by have := unhide Hq; omega
        have mixed : Tryz.prog.follows .mixedOrders = true := by kernel_rfl
        have hne := BelowOf.ne V
        have k1 : ∀ p : BelowOf V, p.w.cell? ⟨bo, 1, none⟩ = some (.int .i64 q) := fun p => ((unhide HxV).below p.h).cell 1 _ rfl
        have hq1 : IntKind.i64.wrap (q - 1) = q - 1 := by simp only [IntKind.wrap_i64]; omega
        by_cases hgq : G9 = q - 1
        rotate_left
        · have hgq1 : (G9 != q - 1) = true := by simpa using hgq
          clear hgq
          refine wp_region_quiet_below mixed (by kernel_rfl) ?_
          repeat (any_goals (first | go_big_quiet_step ((first | (go_at_call 23; exact below_of (unhide HG9 _ (BelowOf.h _))))) | quiet_step ((first | (go_at_call 23; exact below_of (unhide HG9 _ (BelowOf.h _)))))))
          all_goals (refine wpQuiet_nil ?_; intro _ hw'; obtain ⟨p, hw''⟩ := hw'; subst hw'')
          have HCp := hide ((unhide HCV).below p.h)
          generalize p.w = Z at *
          clear hne k1 HG9 hq1
          go_wp2
          go_roundw
          case rel => exact ⟨i + 1, al, cl, ops, f, by rw [unhide Hno], by go_num, by omega, by have := unhide Hno; omega, by rw [unhide Hno]; exact HCp, HH⟩
          case measure => show n0 - ((i : Int) + 1).toNat < n0 - ((i : Nat) : Int).toNat; omega
        have hgq1 : (G9 != q - 1) = false := by simpa using hgq
        refine wp_region_quiet_below mixed (by kernel_rfl) ?_
        repeat (any_goals (first | go_big_quiet_step ((first | (go_at_call 23; exact below_of (unhide HG9 _ (BelowOf.h _))))) | quiet_step ((first | (go_at_call 23; exact below_of (unhide HG9 _ (BelowOf.h _)))))))
        all_goals (refine wpQuiet_nil ?_; intro _ hw'; obtain ⟨p, hw''⟩ := hw'; subst hw'')
        have HCp := hide ((unhide HCV).below p.h)
        have HUp := hide (owd_below (unhide HUV) p.h)
        have Hxp := hide ((unhide HxV).below p.h)
        generalize p.w = Z at *
        have hgu : getV u (s : Int) = q - 1 := by rw [hG9, hgq]
        have HHn := hide ((unhide HH).snoc hs1 hs5 (by rw [List.length_map, unhide Hno]; omega) (unhide HVu) (unhide HGq) hgu)
        have Hgu := hide hgu
        have HM := hide (refMerge_in (.slice ah nh ch) (.slice none 0 0) u [] Z (OwD.row (unhide HUp)) (RC.nil _ _ _) (by omega) (by simp))
        rw [mrg_self u (unhide HVu).vc] at HM
        clear hne k1 HG9 hq1 HCV HUV HxV hgq1 hG9 hgq hgu
        go_wp2_with fail
        refine (unhide HM).mono ?_
        rintro e W8 ⟨vm, rfl, om, b8⟩
        obtain ⟨am, cm, rfl⟩ := OwD.form om
        rw [unhide Hul] at om
        rw [unhide Hul]
        have C8 := (unhide HCp).below b8
        have U8 := owd_below (unhide HUp) b8
        have x8 := (unhide Hxp).below b8
        have hwZ := (unhide HCp).bel.size
        have hbo0 : w.heap.size ≤ bo := unhide Hbo0
        have hnb : (Value.slice al no cl).ownBlock ≠ some bo := fun e => by have := unhide Hlvo bo e; omega
        have k8 := Kp.set (N := fun i => i = bo) W8 ⟨bo, 2, none⟩ (.slice am nh cm) rfl
        obtain ⟨Y8, hY8⟩ : ∃ Y, W8.setCell ⟨bo, 2, none⟩ (.slice am nh cm) = Y := ⟨_, rfl⟩
        have xY8 : Bx Y8 bo 42 #[.int .i64 (s : Int), .int .i64 q, .slice am nh cm, .int .i64 3, .int .i64 0, .int .i64 0, .int .i64 0, .int .i64 0, .string ⟨#[]⟩, .slice none 0 0, .int .i64 9] := by rw [← hY8]; have := x8.set 2 (.slice am nh cm); simpa using this
        rw [hY8] at k8
        have CY := C8.kb k8 x8 hnb hbo0
        have UY := U8.kb k8 x8
        have oY := om.kb k8 x8
        have p2 := x8.cell 2 _ rfl
        have f2 := x8.frozen 2
        have l2 := x8.lt
        obtain ⟨Y9, hY9⟩ : ∃ Y, Y8.alloc (.cells #[.int .i64 (s : Int), .int .i64 q, .slice am nh cm, .int .i64 3, .int .i64 0, .int .i64 0, .int .i64 0, .int .i64 0, .string ⟨#[]⟩, .slice none 0 0, .int .i64 9] 42) = Y := ⟨_, rfl⟩
        have b9 : Below Y8.heap.size Y8 Y9 := by rw [← hY9]; exact ballc (Below.refl _ _) _
        have xY9 : Bx Y9 Y8.heap.size 42 #[.int .i64 (s : Int), .int .i64 q, .slice am nh cm, .int .i64 3, .int .i64 0, .int .i64 0, .int .i64 0, .int .i64 0, .string ⟨#[]⟩, .slice none 0 0, .int .i64 9] := by rw [← hY9]; exact Bx.new _ _ _
        have hqb : 1 ≤ q ∧ q ≤ 41 := by have := unhide Hq; omega
        have oe := jn_oe (P := fun i => w.heap.size ≤ i) (s := (s : Int)) (q := q) (u := u) ⟨by omega, by omega⟩ ⟨by omega, by omega⟩ (OwD.base (owd_below oY b9) (Nat.zero_le _)) (fun k hk => Nat.le_trans hwZ (om.lt k hk).1) hu17
        obtain ⟨v', Z2, hr, C2, kk, hD⟩ := (CY.below b9).push oe xY9 (by have := unhide Hno; omega)
        obtain ⟨av, cv, rfl⟩ := owns_form C2.row
        have hln : (ops ++ [(jnO (s : Int) q u, Value.slice am nh cm, Value.slice none 0 0)]).length = no + 1 := by simp; exact unhide Hno
        have Hln := hide hln
        have HC2 := hide C2
        rw [hln] at hr
        have U2 := hD _ _ _ (owd_below UY b9)
        have x2 := (xY8.below b9).kp kk (fun e => hnb e)
        obtain ⟨p0, p1, p3, p4, p5, p6, p7, p8, p9, p10, p11⟩ := cells_op xY8
        have j0 := x2.cell 0 _ rfl
        have j1 := x2.cell 1 _ rfl
        have l8 := xY8.lt
        have Hr := hide hr
        have HAd := hide (refAdd_in (.slice ah nh ch) u (s : Int) q Z2 (OwD.row U2) (by omega) (by omega))
        obtain ⟨A, hA⟩ : ∃ A, addV u ((s : Int), q) = A := ⟨_, rfl⟩
        have HHm : Hid (HF (ops.map Prod.fst ++ [jnO (s : Int) q u]) (putF (fun t => (f t).2) s A.1)) := by rw [← hA]; exact (unhide HHn).1
        rw [hA] at HAd
        clear HM om b8 C8 U8 x8 k8 xY8 CY UY oY b9 xY9 oe C2 kk hD hln hr U2 x2 HCp HUp Hxp hwZ hnb hbo0
        go_wp2_with (at_builtin; refine wpList_append_eq rfl _ _ 47 rfl _ _ _ _ rfl rfl (unhide Hr) ?_; clear Hr)
        clear hY8 hY9 p0 p1 p2 f2 l2 p3 p4 p5 p6 p7 p8 p9 p10 p11 l8
        refine (unhide HAd).mono ?_
        rintro e W3 ⟨v3, rfl, o3, b3⟩
        obtain ⟨a3, c3, rfl⟩ := OwD.form o3
        have C3 := (unhide HC2).below b3
        have r0 : W3.cell? ⟨b, s, none⟩ = some (.slice ah nh ch) := by have := C3.box.cell s _ (arrV_get f s (by omega)); rw [unhide Hfs] at this; exact this
        have r1 := C3.box.frozen s
        have r2 := C3.box.lt
        have HC4 := hide (C3.put (s := s) (by omega) (OwD.base o3 (unhide HC2).bel.size))
        clear C3 HAd o3 b3 j0 j1
        go_wp2
        go_roundw
        case rel => exact ⟨i + 1, av, cv, ops ++ [(jnO (s : Int) q u, Value.slice am nh cm, Value.slice none 0 0)], _, by rw [unhide Hln], by go_num, by omega, by have := unhide Hln; omega, HC4, hide (by rw [List.map_append]; exact HF.put (unhide HHm))⟩
        case measure => show n0 - ((i : Int) + 1).toNat < n0 - ((i : Nat) : Int).toNat; omega
      by_cases hno0 : 0 < no
      rotate_left
      · have hno1 : ¬ (0 : Int) < (no : Int) := by omega
        go_upto_region 15 with fail
        clear hin' q2 hk0 hg1 hno1
        have HU : Hid (OwD wr w.heap.size (.slice ah nh ch) (f s).2) := by have := (unhide HC).has s; rw [unhide Hfs] at this; exact this
        have HVu : Hid (HV (ops.map Prod.fst) (f s).2) := (unhide HH).v s
        obtain ⟨u, hu⟩ : ∃ u, (f s).2 = u := ⟨_, rfl⟩
        have Hul : Hid (u.length = nh) := by rw [← hu]; exact Hnh
        rw [hu] at HU HVu
        clear hu
        have hrow : OwD wr w.heap.size (.slice ah nh ch) (f s).2 := by have := (unhide HC).has s; rw [unhide Hfs] at this; exact this
        have hfl : (f s).2.length ≤ 17 := ((unhide HH).v s).len
        obtain ⟨G, hG⟩ : ∃ G, getV (f s).2 (s : Int) = G := ⟨_, rfl⟩
        have hGb : 0 ≤ G ∧ G ≤ 40 := by
          have h1 := get_nn (f s).2 (s : Int)
          have h2 : getV (f s).2 (s : Int) = (cntS (ops.map Prod.fst) (s : Int) : Int) := by
            unfold getV
            rw [if_pos ⟨by omega, by omega⟩, Int.toNat_natCast]
            exact (unhide HH).at_ s hs1 hs5
          have h3 := cntS_len (ops.map Prod.fst) (s : Int)
          rw [List.length_map, unhide Hno] at h3
          omega
        obtain ⟨q, hq⟩ : ∃ q, q = G + 1 := ⟨_, rfl⟩
        have hqw : IntKind.i64.wrap (G + 1) = q := by simp only [IntKind.wrap_i64]; omega
        obtain ⟨G9, hG9⟩ : ∃ G9, getV u (s : Int) = G9 := ⟨_, rfl⟩
        have HG := hide (refGet_in (.slice ah nh ch) (f s).2 (s : Int) wr (OwD.row hrow) (by omega))
        rw [hG] at HG
        have q5 : wr.cell? ⟨b, s, none⟩ = some (.slice ah nh ch) := by have := (unhide HC).box.cell s _ (arrV_get f s (by omega)); rw [unhide Hfs] at this; exact this
        have hbl := (unhide HC).box.lt
        have hs17 : (s : Int) < 17 := by omega
        have HGq := hide (show q = getV (f s).2 (s : Int) + 1 by rw [hG]; exact hq)
        have hul := unhide Hul
        have hu17 : u.length ≤ 17 := (unhide HVu).len
        have HuR := hide (OwD.row (unhide HU))
        have Hq := hide hq
        have hGe : G + 1 = q := hq.symm
        clear hrow hfl hG hul hq
        go_wp2_with fail
        refine (unhide HG).mono ?_
        rintro e W6 ⟨rfl, b6⟩
        have B6 := hide b6
        obtain ⟨V, hV⟩ : ∃ V, W6.alloc (.cells #[.int .i64 (s : Int), .int .i64 q, .slice none 0 0, .int .i64 3, .int .i64 0, .int .i64 0, .int .i64 0, .int .i64 0, .string ⟨#[]⟩, .slice none 0 0, .int .i64 9] 42) = V := ⟨_, rfl⟩
        have bV : Below W6.heap.size W6 V := by rw [← hV]; exact ballc (Below.refl _ _) _
        have xV : Bx V W6.heap.size 42 #[.int .i64 (s : Int), .int .i64 q, .slice none 0 0, .int .i64 3, .int .i64 0, .int .i64 0, .int .i64 0, .int .i64 0, .string ⟨#[]⟩, .slice none 0 0, .int .i64 9] := by rw [← hV]; exact Bx.new _ _ _
        obtain ⟨bo, hbo⟩ : ∃ bo, W6.heap.size = bo := ⟨_, rfl⟩
        rw [hbo] at xV
        have b5V : Below wr.heap.size wr V := bnext b6 bV
        have HCV := hide ((unhide HC).below b5V)
        have HUV := hide (owd_below (unhide HU) b5V)
        have hlvo : ∀ k, (Value.slice al no cl).ownBlock = some k → k < bo := fun k hk => by have := ((unhide HC).below b6).row.lt k hk; omega
        have Hlvo := hide hlvo
        have Hbo0 := hide (show w.heap.size ≤ bo by rw [← hbo]; exact ((unhide HC).below b6).bel.size)
        have HG9 := hide (fun X (hX : Below V.heap.size V X) => refGet_in (.slice ah nh ch) u (s : Int) X (OwD.row (owd_below (unhide HUV) hX)) (by omega))
        rw [hG9] at HG9
        have HxV := hide xV
        clear HG q5 b6 bV xV b5V hlvo B6 HuR
        go_wp2_with fail
        clear hV hbo hqw hGe
        have hqb : 1 ≤ q ∧ q ≤ 41 := by have := unhide Hq; omega
        have mixed : Tryz.prog.follows .mixedOrders = true := by kernel_rfl
        have hne := BelowOf.ne V
        have k1 : ∀ p : BelowOf V, p.w.cell? ⟨bo, 1, none⟩ = some (.int .i64 q) := fun p => ((unhide HxV).below p.h).cell 1 _ rfl
        have hq1 : IntKind.i64.wrap (q - 1) = q - 1 := by simp only [IntKind.wrap_i64]; omega
        by_cases hgq : G9 = q - 1
        rotate_left
        · have hgq1 : (G9 != q - 1) = true := by simpa using hgq
          clear hgq
          refine wp_region_quiet_below mixed (by kernel_rfl) ?_
          repeat (any_goals (first | go_big_quiet_step ((first | (go_at_call 23; exact below_of (unhide HG9 _ (BelowOf.h _))))) | quiet_step ((first | (go_at_call 23; exact below_of (unhide HG9 _ (BelowOf.h _)))))))
          all_goals (refine wpQuiet_nil ?_; intro _ hw'; obtain ⟨p, hw''⟩ := hw'; subst hw'')
          have HCp := hide ((unhide HCV).below p.h)
          generalize p.w = Z at *
          clear hne k1 HG9 hq1
          go_wp2
          go_roundw
          case rel => exact ⟨i + 1, al, cl, ops, f, by rw [unhide Hno], by go_num, by omega, by have := unhide Hno; omega, by rw [unhide Hno]; exact HCp, HH⟩
          case measure => show n0 - ((i : Int) + 1).toNat < n0 - ((i : Nat) : Int).toNat; omega
        have hgq1 : (G9 != q - 1) = false := by simpa using hgq
        refine wp_region_quiet_below mixed (by kernel_rfl) ?_
        repeat (any_goals (first | go_big_quiet_step ((first | (go_at_call 23; exact below_of (unhide HG9 _ (BelowOf.h _))))) | quiet_step ((first | (go_at_call 23; exact below_of (unhide HG9 _ (BelowOf.h _)))))))
        all_goals (refine wpQuiet_nil ?_; intro _ hw'; obtain ⟨p, hw''⟩ := hw'; subst hw'')
        have HCp := hide ((unhide HCV).below p.h)
        have HUp := hide (owd_below (unhide HUV) p.h)
        have Hxp := hide ((unhide HxV).below p.h)
        generalize p.w = Z at *
        have hgu : getV u (s : Int) = q - 1 := by rw [hG9, hgq]
        have HHn := hide ((unhide HH).snoc hs1 hs5 (by rw [List.length_map, unhide Hno]; omega) (unhide HVu) (unhide HGq) hgu)
        have Hgu := hide hgu
        have HM := hide (refMerge_in (.slice ah nh ch) (.slice none 0 0) u [] Z (OwD.row (unhide HUp)) (RC.nil _ _ _) (by omega) (by simp))
        rw [mrg_self u (unhide HVu).vc] at HM
        clear hne k1 HG9 hq1 HCV HUV HxV hgq1 hG9 hgq hgu
        go_wp2_with fail
        refine (unhide HM).mono ?_
        rintro e W8 ⟨vm, rfl, om, b8⟩
        obtain ⟨am, cm, rfl⟩ := OwD.form om
        rw [unhide Hul] at om
        rw [unhide Hul]
        have C8 := (unhide HCp).below b8
        have U8 := owd_below (unhide HUp) b8
        have x8 := (unhide Hxp).below b8
        have hwZ := (unhide HCp).bel.size
        have hbo0 : w.heap.size ≤ bo := unhide Hbo0
        have hnb : (Value.slice al no cl).ownBlock ≠ some bo := fun e => by have := unhide Hlvo bo e; omega
        have k8 := Kp.set (N := fun i => i = bo) W8 ⟨bo, 2, none⟩ (.slice am nh cm) rfl
        obtain ⟨Y8, hY8⟩ : ∃ Y, W8.setCell ⟨bo, 2, none⟩ (.slice am nh cm) = Y := ⟨_, rfl⟩
        have xY8 : Bx Y8 bo 42 #[.int .i64 (s : Int), .int .i64 q, .slice am nh cm, .int .i64 3, .int .i64 0, .int .i64 0, .int .i64 0, .int .i64 0, .string ⟨#[]⟩, .slice none 0 0, .int .i64 9] := by rw [← hY8]; have := x8.set 2 (.slice am nh cm); simpa using this
        rw [hY8] at k8
        have CY := C8.kb k8 x8 hnb hbo0
        have UY := U8.kb k8 x8
        have oY := om.kb k8 x8
        have p2 := x8.cell 2 _ rfl
        have f2 := x8.frozen 2
        have l2 := x8.lt
        obtain ⟨Y9, hY9⟩ : ∃ Y, Y8.alloc (.cells #[.int .i64 (s : Int), .int .i64 q, .slice am nh cm, .int .i64 3, .int .i64 0, .int .i64 0, .int .i64 0, .int .i64 0, .string ⟨#[]⟩, .slice none 0 0, .int .i64 9] 42) = Y := ⟨_, rfl⟩
        have b9 : Below Y8.heap.size Y8 Y9 := by rw [← hY9]; exact ballc (Below.refl _ _) _
        have xY9 : Bx Y9 Y8.heap.size 42 #[.int .i64 (s : Int), .int .i64 q, .slice am nh cm, .int .i64 3, .int .i64 0, .int .i64 0, .int .i64 0, .int .i64 0, .string ⟨#[]⟩, .slice none 0 0, .int .i64 9] := by rw [← hY9]; exact Bx.new _ _ _
        have hqb : 1 ≤ q ∧ q ≤ 41 := by have := unhide Hq; omega
        have oe := jn_oe (P := fun i => w.heap.size ≤ i) (s := (s : Int)) (q := q) (u := u) ⟨by omega, by omega⟩ ⟨by omega, by omega⟩ (OwD.base (owd_below oY b9) (Nat.zero_le _)) (fun k hk => Nat.le_trans hwZ (om.lt k hk).1) hu17
        obtain ⟨v', Z2, hr, C2, kk, hD⟩ := (CY.below b9).push oe xY9 (by have := unhide Hno; omega)
        obtain ⟨av, cv, rfl⟩ := owns_form C2.row
        have hln : (ops ++ [(jnO (s : Int) q u, Value.slice am nh cm, Value.slice none 0 0)]).length = no + 1 := by simp; exact unhide Hno
        have Hln := hide hln
        have HC2 := hide C2
        rw [hln] at hr
        have U2 := hD _ _ _ (owd_below UY b9)
        have x2 := (xY8.below b9).kp kk (fun e => hnb e)
        obtain ⟨p0, p1, p3, p4, p5, p6, p7, p8, p9, p10, p11⟩ := cells_op xY8
        have j0 := x2.cell 0 _ rfl
        have j1 := x2.cell 1 _ rfl
        have l8 := xY8.lt
        have Hr := hide hr
        have HAd := hide (refAdd_in (.slice ah nh ch) u (s : Int) q Z2 (OwD.row U2) (by omega) (by omega))
        obtain ⟨A, hA⟩ : ∃ A, addV u ((s : Int), q) = A := ⟨_, rfl⟩
        have HHm : Hid (HF (ops.map Prod.fst ++ [jnO (s : Int) q u]) (putF (fun t => (f t).2) s A.1)) := by rw [← hA]; exact (unhide HHn).1
        rw [hA] at HAd
        clear HM om b8 C8 U8 x8 k8 xY8 CY UY oY b9 xY9 oe C2 kk hD hln hr U2 x2 HCp HUp Hxp hwZ hnb hbo0
        go_wp2_with (at_builtin; refine wpList_append_eq rfl _ _ 47 rfl _ _ _ _ rfl rfl (unhide Hr) ?_; clear Hr)
        clear hY8 hY9 p0 p1 p2 f2 l2 p3 p4 p5 p6 p7 p8 p9 p10 p11 l8
        refine (unhide HAd).mono ?_
        rintro e W3 ⟨v3, rfl, o3, b3⟩
        obtain ⟨a3, c3, rfl⟩ := OwD.form o3
        have C3 := (unhide HC2).below b3
        have r0 : W3.cell? ⟨b, s, none⟩ = some (.slice ah nh ch) := by have := C3.box.cell s _ (arrV_get f s (by omega)); rw [unhide Hfs] at this; exact this
        have r1 := C3.box.frozen s
        have r2 := C3.box.lt
        have HC4 := hide (C3.put (s := s) (by omega) (OwD.base o3 (unhide HC2).bel.size))
        clear C3 HAd o3 b3 j0 j1
        go_wp2
        go_roundw
        case rel => exact ⟨i + 1, av, cv, ops ++ [(jnO (s : Int) q u, Value.slice am nh cm, Value.slice none 0 0)], _, by rw [unhide Hln], by go_num, by omega, by have := unhide Hln; omega, HC4, hide (by rw [List.map_append]; exact HF.put (unhide HHm))⟩
        case measure => show n0 - ((i : Int) + 1).toNat < n0 - ((i : Nat) : Int).toNat; omega
      have hno1 : (0 : Int) < (no : Int) := by omega
      have hj1 := Int.tmod_lt_of_pos kx hno1
      have hj2 : 0 ≤ kx.tmod (no : Int) := Int.tmod_nonneg _ hk0
      obtain ⟨j, hj⟩ : ∃ j : Nat, kx.tmod (no : Int) = (j : Int) := ⟨(kx.tmod (no : Int)).toNat, by omega⟩
      rw [hj] at hj1 hj2
      have hjn : j < no := by omega
      have hno2 : ¬ (no : Int) = 0 := by omega
      have hjw : IntKind.i64.wrap (j : Int) = (j : Int) := by simp only [IntKind.wrap_i64]; omega
      obtain ⟨⟨o, vd, vg⟩, he⟩ : ∃ e, ops[j]? = some e := ⟨_, List.getElem?_eq_getElem (by rw [unhide Hno]; exact hjn)⟩
      have hrw := (unhide HC).row
      rw [unhide Hno] at hrw
      obtain ⟨gl, rfl, hgl, hcell⟩ := own_at11c hrw (unhide Hno) he
      have hoe := (unhide HC).ent _ (List.mem_of_getElem? he)
      obtain ⟨ad, cd, hvd⟩ := OwD.form hoe.d
      obtain ⟨ag, cg, hvg⟩ := OwR.form hoe.g
      simp only at hvd hvg
      subst hvd
      subst hvg
      have hom : o ∈ ops.map Prod.fst := List.mem_map.2 ⟨_, List.mem_of_getElem? he, rfl⟩
      have hod := (unhide HH).dv o hom
      have t0 := hcell 0 _ rfl
      have t1 := hcell 1 _ rfl
      have t2 := hcell 2 _ rfl
      have t3 := hcell 3 _ rfl
      have t4 := hcell 4 _ rfl
      have t5 := hcell 5 _ rfl
      have t6 := hcell 6 _ rfl
      have t7 := hcell 7 _ rfl
      have t8 := hcell 8 _ rfl
      have t9 := hcell 9 _ rfl
      have t10 := hcell 10 _ rfl
      simp only [Nat.add_zero] at t0
      obtain ⟨V1, hV1⟩ : ∃ V, wr.alloc (.cells #[.int .i64 o.ds, .int .i64 o.dq, .slice ad o.deps.length cd, .int .i64 o.kind, .int .i64 o.it, .int .i64 o.is, .int .i64 o.rt, .int .i64 o.rs, .string o.text, .slice ag o.gone.length cg, .int .i64 o.site] 42) = V := ⟨_, rfl⟩
      have bV1 : Below wr.heap.size wr V1 := by rw [← hV1]; exact ballc (Below.refl _ _) _
      have xV1 : Bx V1 wr.heap.size 42 #[.int .i64 o.ds, .int .i64 o.dq, .slice ad o.deps.length cd, .int .i64 o.kind, .int .i64 o.it, .int .i64 o.is, .int .i64 o.rt, .int .i64 o.rs, .string o.text, .slice ag o.gone.length cg, .int .i64 o.site] := by rw [← hV1]; exact Bx.new _ _ _
      have y0 := xV1.cell 0 _ rfl
      have y1 := xV1.cell 1 _ rfl
      have y2 := xV1.cell 2 _ rfl
      have HAd := hide (refAdd_in (.slice ad o.deps.length cd) o.deps o.ds o.dq V1 (OwD.row (owd_below hoe.d bV1)) (by have := hod.len; omega) hoe.inn.dq.2)
      obtain ⟨B1, hB1⟩ : ∃ B1, addV o.deps (o.ds, o.dq) = B1 := ⟨_, rfl⟩
      have HVB : Hid (HV (ops.map Prod.fst) B1.1) := by rw [← hB1]; exact HV.add (unhide HH).cl hom hod
      rw [hB1] at HAd
      have HCw := hide ((unhide HC).below bV1)
      clear he hrw hcell hoe hom hod bV1 xV1 hB1 q1
      go_wp2_with fail
      refine (unhide HAd).mono ?_
      rintro e W1 ⟨v1, rfl, o1, b1⟩
      obtain ⟨e1, d1, rfl⟩ := OwD.form o1
      have HC1 := hide ((unhide HCw).below b1)
      have hrow1 : OwD W1 w.heap.size (.slice ah nh ch) (f s).2 := by have := (unhide HC1).has s; rw [unhide Hfs] at this; exact this
      have hf17 := ((unhide HH).v s).len
      have hb17 := (unhide HVB).len
      have HMg := hide (refMerge_in (.slice ah nh ch) (.slice e1 B1.1.length d1) (f s).2 B1.1 W1 (OwD.row hrow1) (OwD.row o1) (by omega) (by omega))
      clear HAd o1 b1 hrow1 hf17 hb17 HCw y0 y1 y2 hV1 t0 t1 t2 t3 t4 t5 t6 t7 t8 t9 t10 hgl hjw hno2 hj hj1 hj2 hjn hno1 q2 hin' hg1 hk0
      go_wp2_with fail
      refine (unhide HMg).mono ?_
      rintro e W5 ⟨v5, rfl, o5, b5⟩
      obtain ⟨u, hu⟩ : ∃ u, vec (mrg (sy (f s).2) (sy B1.1)) = u := ⟨_, rfl⟩
      rw [hu] at o5
      obtain ⟨a9, c9, rfl⟩ := OwD.form o5
      obtain ⟨n9, hn9⟩ : ∃ n9, u.length = n9 := ⟨_, rfl⟩
      have Hul := hide hn9
      rw [hn9] at o5
      rw [hn9]
      have HC5 := hide ((unhide HC1).below b5)
      have HU := hide (OwD.base o5 (unhide HC1).bel.size)
      have HV5 : Hid (HV (ops.map Prod.fst) u) := by rw [← hu]; exact ((unhide HH).v s).mrg (unhide HVB)
      clear HMg HC1 o5 b5 hn9 hu HVB HC
      have hrow : OwD W5 w.heap.size (.slice ah nh ch) (f s).2 := by have := (unhide HC5).has s; rw [unhide Hfs] at this; exact this
      have hfl : (f s).2.length ≤ 17 := ((unhide HH).v s).len
      obtain ⟨G, hG⟩ : ∃ G, getV (f s).2 (s : Int) = G := ⟨_, rfl⟩
      have hGb : 0 ≤ G ∧ G ≤ 40 := by
        have h1 := get_nn (f s).2 (s : Int)
        have h2 : getV (f s).2 (s : Int) = (cntS (ops.map Prod.fst) (s : Int) : Int) := by
          unfold getV
          rw [if_pos ⟨by omega, by omega⟩, Int.toNat_natCast]
          exact (unhide HH).at_ s hs1 hs5
        have h3 := cntS_len (ops.map Prod.fst) (s : Int)
        rw [List.length_map, unhide Hno] at h3
        omega
      obtain ⟨q, hq⟩ : ∃ q, q = G + 1 := ⟨_, rfl⟩
      have hqw : IntKind.i64.wrap (G + 1) = q := by simp only [IntKind.wrap_i64]; omega
      obtain ⟨G9, hG9⟩ : ∃ G9, getV u (s : Int) = G9 := ⟨_, rfl⟩
      have HG := hide (refGet_in (.slice ah nh ch) (f s).2 (s : Int) W5 (OwD.row hrow) (by omega))
      rw [hG] at HG
      have q5 : W5.cell? ⟨b, s, none⟩ = some (.slice ah nh ch) := by have := (unhide HC5).box.cell s _ (arrV_get f s (by omega)); rw [unhide Hfs] at this; exact this
      have hbl := (unhide HC5).box.lt
      have hs17 : (s : Int) < 17 := by omega
      have HGq := hide (show q = getV (f s).2 (s : Int) + 1 by rw [hG]; exact hq)
      have hul := unhide Hul
      have hu17 : u.length ≤ 17 := (unhide HV5).len
      have HuR := hide (OwD.row (unhide HU))
      have Hq := hide hq
      have hGe : G + 1 = q := hq.symm
      clear hrow hfl hG hul hq
      go_wp2_with fail
      refine (unhide HG).mono ?_
      rintro e W6 ⟨rfl, b6⟩
      have B6 := hide b6
      obtain ⟨V, hV⟩ : ∃ V, W6.alloc (.cells #[.int .i64 (s : Int), .int .i64 q, .slice none 0 0, .int .i64 3, .int .i64 0, .int .i64 0, .int .i64 0, .int .i64 0, .string ⟨#[]⟩, .slice none 0 0, .int .i64 9] 42) = V := ⟨_, rfl⟩
      have bV : Below W6.heap.size W6 V := by rw [← hV]; exact ballc (Below.refl _ _) _
      have xV : Bx V W6.heap.size 42 #[.int .i64 (s : Int), .int .i64 q, .slice none 0 0, .int .i64 3, .int .i64 0, .int .i64 0, .int .i64 0, .int .i64 0, .string ⟨#[]⟩, .slice none 0 0, .int .i64 9] := by rw [← hV]; exact Bx.new _ _ _
      obtain ⟨bo, hbo⟩ : ∃ bo, W6.heap.size = bo := ⟨_, rfl⟩
      rw [hbo] at xV
      have b5V : Below W5.heap.size W5 V := bnext b6 bV
      have HCV := hide ((unhide HC5).below b5V)
      have HUV := hide (owd_below (unhide HU) b5V)
      have hlvo : ∀ k, (Value.slice (some ⟨gl, 0, none⟩) no cl).ownBlock = some k → k < bo := fun k hk => by have := ((unhide HC5).below b6).row.lt k hk; omega
      have Hlvo := hide hlvo
      have Hbo0 := hide (show w.heap.size ≤ bo by rw [← hbo]; exact ((unhide HC5).below b6).bel.size)
      have HG9 := hide (fun X (hX : Below V.heap.size V X) => refGet_in (.slice a9 n9 c9) u (s : Int) X (OwD.row (owd_below (unhide HUV) hX)) (by omega))
      rw [hG9] at HG9
      have HxV := hide xV
      clear HG q5 b6 bV xV b5V hlvo B6 HuR
      go_wp2_with fail
      clear hV hbo hqw hGe
      have hqb : 1 ≤ q ∧ q ≤ 41 := by have := unhide Hq; omega
      have mixed : Tryz.prog.follows .mixedOrders = true := by kernel_rfl
      have hne := BelowOf.ne V
      have k1 : ∀ p : BelowOf V, p.w.cell? ⟨bo, 1, none⟩ = some (.int .i64 q) := fun p => ((unhide HxV).below p.h).cell 1 _ rfl
      have hq1 : IntKind.i64.wrap (q - 1) = q - 1 := by simp only [IntKind.wrap_i64]; omega
      by_cases hgq : G9 = q - 1
      rotate_left
      · have hgq1 : (G9 != q - 1) = true := by simpa using hgq
        clear hgq
        refine wp_region_quiet_below mixed (by kernel_rfl) ?_
        repeat (any_goals (first | go_big_quiet_step ((first | (go_at_call 23; exact below_of (unhide HG9 _ (BelowOf.h _))))) | quiet_step ((first | (go_at_call 23; exact below_of (unhide HG9 _ (BelowOf.h _)))))))
        all_goals (refine wpQuiet_nil ?_; intro _ hw'; obtain ⟨p, hw''⟩ := hw'; subst hw'')
        have HCp := hide ((unhide HCV).below p.h)
        generalize p.w = Z at *
        clear hne k1 HG9 hq1
        go_wp2
        go_roundw
        case rel => exact ⟨i + 1, some ⟨gl, 0, none⟩, cl, ops, f, by rw [unhide Hno], by go_num, by omega, by have := unhide Hno; omega, by rw [unhide Hno]; exact HCp, HH⟩
        case measure => show n0 - ((i : Int) + 1).toNat < n0 - ((i : Nat) : Int).toNat; omega
      have hgq1 : (G9 != q - 1) = false := by simpa using hgq
      refine wp_region_quiet_below mixed (by kernel_rfl) ?_
      repeat (any_goals (first | go_big_quiet_step ((first | (go_at_call 23; exact below_of (unhide HG9 _ (BelowOf.h _))))) | quiet_step ((first | (go_at_call 23; exact below_of (unhide HG9 _ (BelowOf.h _)))))))
      all_goals (refine wpQuiet_nil ?_; intro _ hw'; obtain ⟨p, hw''⟩ := hw'; subst hw'')
      have HCp := hide ((unhide HCV).below p.h)
      have HUp := hide (owd_below (unhide HUV) p.h)
      have Hxp := hide ((unhide HxV).below p.h)
      generalize p.w = Z at *
      have hgu : getV u (s : Int) = q - 1 := by rw [hG9, hgq]
      have HHn := hide ((unhide HH).snoc hs1 hs5 (by rw [List.length_map, unhide Hno]; omega) (unhide HV5) (unhide HGq) hgu)
      have Hgu := hide hgu
      have HM := hide (refMerge_in (.slice a9 n9 c9) (.slice none 0 0) u [] Z (OwD.row (unhide HUp)) (RC.nil _ _ _) (by omega) (by simp))
      rw [mrg_self u (unhide HV5).vc] at HM
      clear hne k1 HG9 hq1 HCV HUV HxV hgq1 hG9 hgq hgu
      go_wp2_with fail
      refine (unhide HM).mono ?_
      rintro e W8 ⟨vm, rfl, om, b8⟩
      obtain ⟨am, cm, rfl⟩ := OwD.form om
      rw [unhide Hul] at om
      rw [unhide Hul]
      have C8 := (unhide HCp).below b8
      have U8 := owd_below (unhide HUp) b8
      have x8 := (unhide Hxp).below b8
      have hwZ := (unhide HCp).bel.size
      have hbo0 : w.heap.size ≤ bo := unhide Hbo0
      have hnb : (Value.slice (some ⟨gl, 0, none⟩) no cl).ownBlock ≠ some bo := fun e => by have := unhide Hlvo bo e; omega
      have k8 := Kp.set (N := fun i => i = bo) W8 ⟨bo, 2, none⟩ (.slice am n9 cm) rfl
      obtain ⟨Y8, hY8⟩ : ∃ Y, W8.setCell ⟨bo, 2, none⟩ (.slice am n9 cm) = Y := ⟨_, rfl⟩
      have xY8 : Bx Y8 bo 42 #[.int .i64 (s : Int), .int .i64 q, .slice am n9 cm, .int .i64 3, .int .i64 0, .int .i64 0, .int .i64 0, .int .i64 0, .string ⟨#[]⟩, .slice none 0 0, .int .i64 9] := by rw [← hY8]; have := x8.set 2 (.slice am n9 cm); simpa using this
      rw [hY8] at k8
      have CY := C8.kb k8 x8 hnb hbo0
      have UY := U8.kb k8 x8
      have oY := om.kb k8 x8
      have p2 := x8.cell 2 _ rfl
      have f2 := x8.frozen 2
      have l2 := x8.lt
      obtain ⟨Y9, hY9⟩ : ∃ Y, Y8.alloc (.cells #[.int .i64 (s : Int), .int .i64 q, .slice am n9 cm, .int .i64 3, .int .i64 0, .int .i64 0, .int .i64 0, .int .i64 0, .string ⟨#[]⟩, .slice none 0 0, .int .i64 9] 42) = Y := ⟨_, rfl⟩
      have b9 : Below Y8.heap.size Y8 Y9 := by rw [← hY9]; exact ballc (Below.refl _ _) _
      have xY9 : Bx Y9 Y8.heap.size 42 #[.int .i64 (s : Int), .int .i64 q, .slice am n9 cm, .int .i64 3, .int .i64 0, .int .i64 0, .int .i64 0, .int .i64 0, .string ⟨#[]⟩, .slice none 0 0, .int .i64 9] := by rw [← hY9]; exact Bx.new _ _ _
      have hqb : 1 ≤ q ∧ q ≤ 41 := by have := unhide Hq; omega
      have oe := jn_oe (P := fun i => w.heap.size ≤ i) (s := (s : Int)) (q := q) (u := u) ⟨by omega, by omega⟩ ⟨by omega, by omega⟩ (OwD.base (owd_below oY b9) (Nat.zero_le _)) (fun k hk => Nat.le_trans hwZ (om.lt k hk).1) hu17
      obtain ⟨v', Z2, hr, C2, kk, hD⟩ := (CY.below b9).push oe xY9 (by have := unhide Hno; omega)
      obtain ⟨av, cv, rfl⟩ := owns_form C2.row
      have hln : (ops ++ [(jnO (s : Int) q u, Value.slice am n9 cm, Value.slice none 0 0)]).length = no + 1 := by simp; exact unhide Hno
      have Hln := hide hln
      have HC2 := hide C2
      rw [hln] at hr
      have U2 := hD _ _ _ (owd_below UY b9)
      have x2 := (xY8.below b9).kp kk (fun e => hnb e)
      obtain ⟨p0, p1, p3, p4, p5, p6, p7, p8, p9, p10, p11⟩ := cells_op xY8
      have j0 := x2.cell 0 _ rfl
      have j1 := x2.cell 1 _ rfl
      have l8 := xY8.lt
      have Hr := hide hr
      have HAd := hide (refAdd_in (.slice a9 n9 c9) u (s : Int) q Z2 (OwD.row U2) (by omega) (by omega))
      obtain ⟨A, hA⟩ : ∃ A, addV u ((s : Int), q) = A := ⟨_, rfl⟩
      have HHm : Hid (HF (ops.map Prod.fst ++ [jnO (s : Int) q u]) (putF (fun t => (f t).2) s A.1)) := by rw [← hA]; exact (unhide HHn).1
      rw [hA] at HAd
      clear HM om b8 C8 U8 x8 k8 xY8 CY UY oY b9 xY9 oe C2 kk hD hln hr U2 x2 HCp HUp Hxp hwZ hnb hbo0
      go_wp2_with (at_builtin; refine wpList_append_eq rfl _ _ 47 rfl _ _ _ _ rfl rfl (unhide Hr) ?_; clear Hr)
      clear hY8 hY9 p0 p1 p2 f2 l2 p3 p4 p5 p6 p7 p8 p9 p10 p11 l8
      refine (unhide HAd).mono ?_
      rintro e W3 ⟨v3, rfl, o3, b3⟩
      obtain ⟨a3, c3, rfl⟩ := OwD.form o3
      have C3 := (unhide HC2).below b3
      have r0 : W3.cell? ⟨b, s, none⟩ = some (.slice ah nh ch) := by have := C3.box.cell s _ (arrV_get f s (by omega)); rw [unhide Hfs] at this; exact this
      have r1 := C3.box.frozen s
      have r2 := C3.box.lt
      have HC4 := hide (C3.put (s := s) (by omega) (OwD.base o3 (unhide HC2).bel.size))
      clear C3 HAd o3 b3 j0 j1
      go_wp2
      go_roundw
      case rel => exact ⟨i + 1, av, cv, ops ++ [(jnO (s : Int) q u, Value.slice am n9 cm, Value.slice none 0 0)], _, by rw [unhide Hln], by go_num, by omega, by have := unhide Hln; omega, HC4, hide (by rw [List.map_append]; exact HF.put (unhide HHm))⟩
      case measure => show n0 - ((i : Int) + 1).toNat < n0 - ((i : Nat) : Int).toNat; omega
    · have e1 : r = (s : Int) - 1 := by omega
      subst e1
      clear hs hr1 hr2
      go_upto_region 11 with fail
      clear e2 e3 q0 hr hrw hneg hg0
      by_cases hin : i < n1
      rotate_left
      · have hin' : ¬ (i : Int) < (n1 : Int) := by omega
        go_upto_region 15 with fail
        clear hin'
        have HU : Hid (OwD wr w.heap.size (.slice ah nh ch) (f s).2) := by have := (unhide HC).has s; rw [unhide Hfs] at this; exact this
        have HVu : Hid (HV (ops.map Prod.fst) (f s).2) := (unhide HH).v s
        obtain ⟨u, hu⟩ : ∃ u, (f s).2 = u := ⟨_, rfl⟩
        have Hul : Hid (u.length = nh) := by rw [← hu]; exact Hnh
        rw [hu] at HU HVu
        clear hu
        have hrow : OwD wr w.heap.size (.slice ah nh ch) (f s).2 := by have := (unhide HC).has s; rw [unhide Hfs] at this; exact this
        have hfl : (f s).2.length ≤ 17 := ((unhide HH).v s).len
        obtain ⟨G, hG⟩ : ∃ G, getV (f s).2 (s : Int) = G := ⟨_, rfl⟩
        have hGb : 0 ≤ G ∧ G ≤ 40 := by
          have h1 := get_nn (f s).2 (s : Int)
          have h2 : getV (f s).2 (s : Int) = (cntS (ops.map Prod.fst) (s : Int) : Int) := by
            unfold getV
            rw [if_pos ⟨by omega, by omega⟩, Int.toNat_natCast]
            exact (unhide HH).at_ s hs1 hs5
          have h3 := cntS_len (ops.map Prod.fst) (s : Int)
          rw [List.length_map, unhide Hno] at h3
          omega
        obtain ⟨q, hq⟩ : ∃ q, q = G + 1 := ⟨_, rfl⟩
        have hqw : IntKind.i64.wrap (G + 1) = q := by simp only [IntKind.wrap_i64]; omega
        obtain ⟨G9, hG9⟩ : ∃ G9, getV u (s : Int) = G9 := ⟨_, rfl⟩
        have HG := hide (refGet_in (.slice ah nh ch) (f s).2 (s : Int) wr (OwD.row hrow) (by omega))
        rw [hG] at HG
        have q5 : wr.cell? ⟨b, s, none⟩ = some (.slice ah nh ch) := by have := (unhide HC).box.cell s _ (arrV_get f s (by omega)); rw [unhide Hfs] at this; exact this
        have hbl := (unhide HC).box.lt
        have hs17 : (s : Int) < 17 := by omega
        have HGq := hide (show q = getV (f s).2 (s : Int) + 1 by rw [hG]; exact hq)
        have hul := unhide Hul
        have hu17 : u.length ≤ 17 := (unhide HVu).len
        have HuR := hide (OwD.row (unhide HU))
        have Hq := hide hq
        have hGe : G + 1 = q := hq.symm
        clear hrow hfl hG hul hq
        go_wp2_with fail
        refine (unhide HG).mono ?_
        rintro e W6 ⟨rfl, b6⟩
        have B6 := hide b6
        obtain ⟨V, hV⟩ : ∃ V, W6.alloc (.cells #[.int .i64 (s : Int), .int .i64 q, .slice none 0 0, .int .i64 3, .int .i64 0, .int .i64 0, .int .i64 0, .int .i64 0, .string ⟨#[]⟩, .slice none 0 0, .int .i64 9] 42) = V := ⟨_, rfl⟩
        have bV : Below W6.heap.size W6 V := by rw [← hV]; exact ballc (Below.refl _ _) _
        have xV : Bx V W6.heap.size 42 #[.int .i64 (s : Int), .int .i64 q, .slice none 0 0, .int .i64 3, .int .i64 0, .int .i64 0, .int .i64 0, .int .i64 0, .string ⟨#[]⟩, .slice none 0 0, .int .i64 9] := by rw [← hV]; exact Bx.new _ _ _
        obtain ⟨bo, hbo⟩ : ∃ bo, W6.heap.size = bo := ⟨_, rfl⟩
        rw [hbo] at xV
        have b5V : Below wr.heap.size wr V := bnext b6 bV
        have HCV := hide ((unhide HC).below b5V)
        have HUV := hide (owd_below (unhide HU) b5V)
        have hlvo : ∀ k, (Value.slice al no cl).ownBlock = some k → k < bo := fun k hk => by have := ((unhide HC).below b6).row.lt k hk; omega
        have Hlvo := hide hlvo
        have Hbo0 := hide (show w.heap.size ≤ bo by rw [← hbo]; exact ((unhide HC).below b6).bel.size)
        have HG9 := hide (fun X (hX : Below V.heap.size V X) => refGet_in (.slice ah nh ch) u (s : Int) X (OwD.row (owd_below (unhide HUV) hX)) (by omega))
        rw [hG9] at HG9
        have HxV := hide xV
        clear HG q5 b6 bV xV b5V hlvo B6 HuR
        go_wp2_with fail
        clear hV hbo hqw hGe
        have hqb : 1 ≤ q ∧ q ≤ 41 := by have := unhide Hq; omega
        have mixed : Tryz.prog.follows .mixedOrders = true := by kernel_rfl
        have hne := BelowOf.ne V
        have k1 : ∀ p : BelowOf V, p.w.cell? ⟨bo, 1, none⟩ = some (.int .i64 q) := fun p => ((unhide HxV).below p.h).cell 1 _ rfl
        have hq1 : IntKind.i64.wrap (q - 1) = q - 1 := by simp only [IntKind.wrap_i64]; omega
        by_cases hgq : G9 = q - 1
        rotate_left
        · have hgq1 : (G9 != q - 1) = true := by simpa using hgq
          clear hgq
          refine wp_region_quiet_below mixed (by kernel_rfl) ?_
          repeat (any_goals (first | go_big_quiet_step ((first | (go_at_call 23; exact below_of (unhide HG9 _ (BelowOf.h _))))) | quiet_step ((first | (go_at_call 23; exact below_of (unhide HG9 _ (BelowOf.h _)))))))
          all_goals (refine wpQuiet_nil ?_; intro _ hw'; obtain ⟨p, hw''⟩ := hw'; subst hw'')
          have HCp := hide ((unhide HCV).below p.h)
          generalize p.w = Z at *
          clear hne k1 HG9 hq1
          go_wp2
          go_roundw
          case rel => exact ⟨i + 1, al, cl, ops, f, by rw [unhide Hno], by go_num, by omega, by have := unhide Hno; omega, by rw [unhide Hno]; exact HCp, HH⟩
          case measure => show n0 - ((i : Int) + 1).toNat < n0 - ((i : Nat) : Int).toNat; omega
        have hgq1 : (G9 != q - 1) = false := by simpa using hgq
        refine wp_region_quiet_below mixed (by kernel_rfl) ?_
        repeat (any_goals (first | go_big_quiet_step ((first | (go_at_call 23; exact below_of (unhide HG9 _ (BelowOf.h _))))) | quiet_step ((first | (go_at_call 23; exact below_of (unhide HG9 _ (BelowOf.h _)))))))
        all_goals (refine wpQuiet_nil ?_; intro _ hw'; obtain ⟨p, hw''⟩ := hw'; subst hw'')
        have HCp := hide ((unhide HCV).below p.h)
        have HUp := hide (owd_below (unhide HUV) p.h)
        have Hxp := hide ((unhide HxV).below p.h)
        generalize p.w = Z at *
        have hgu : getV u (s : Int) = q - 1 := by rw [hG9, hgq]
        have HHn := hide ((unhide HH).snoc hs1 hs5 (by rw [List.length_map, unhide Hno]; omega) (unhide HVu) (unhide HGq) hgu)
        have Hgu := hide hgu
        have HM := hide (refMerge_in (.slice ah nh ch) (.slice none 0 0) u [] Z (OwD.row (unhide HUp)) (RC.nil _ _ _) (by omega) (by simp))
        rw [mrg_self u (unhide HVu).vc] at HM
        clear hne k1 HG9 hq1 HCV HUV HxV hgq1 hG9 hgq hgu
        go_wp2_with fail
        refine (unhide HM).mono ?_
        rintro e W8 ⟨vm, rfl, om, b8⟩
        obtain ⟨am, cm, rfl⟩ := OwD.form om
        rw [unhide Hul] at om
        rw [unhide Hul]
        have C8 := (unhide HCp).below b8
        have U8 := owd_below (unhide HUp) b8
        have x8 := (unhide Hxp).below b8
        have hwZ := (unhide HCp).bel.size
        have hbo0 : w.heap.size ≤ bo := unhide Hbo0
        have hnb : (Value.slice al no cl).ownBlock ≠ some bo := fun e => by have := unhide Hlvo bo e; omega
        have k8 := Kp.set (N := fun i => i = bo) W8 ⟨bo, 2, none⟩ (.slice am nh cm) rfl
        obtain ⟨Y8, hY8⟩ : ∃ Y, W8.setCell ⟨bo, 2, none⟩ (.slice am nh cm) = Y := ⟨_, rfl⟩
        have xY8 : Bx Y8 bo 42 #[.int .i64 (s : Int), .int .i64 q, .slice am nh cm, .int .i64 3, .int .i64 0, .int .i64 0, .int .i64 0, .int .i64 0, .string ⟨#[]⟩, .slice none 0 0, .int .i64 9] := by rw [← hY8]; have := x8.set 2 (.slice am nh cm); simpa using this
        rw [hY8] at k8
        have CY := C8.kb k8 x8 hnb hbo0
        have UY := U8.kb k8 x8
        have oY := om.kb k8 x8
        have p2 := x8.cell 2 _ rfl
        have f2 := x8.frozen 2
        have l2 := x8.lt
        obtain ⟨Y9, hY9⟩ : ∃ Y, Y8.alloc (.cells #[.int .i64 (s : Int), .int .i64 q, .slice am nh cm, .int .i64 3, .int .i64 0, .int .i64 0, .int .i64 0, .int .i64 0, .string ⟨#[]⟩, .slice none 0 0, .int .i64 9] 42) = Y := ⟨_, rfl⟩
        have b9 : Below Y8.heap.size Y8 Y9 := by rw [← hY9]; exact ballc (Below.refl _ _) _
        have xY9 : Bx Y9 Y8.heap.size 42 #[.int .i64 (s : Int), .int .i64 q, .slice am nh cm, .int .i64 3, .int .i64 0, .int .i64 0, .int .i64 0, .int .i64 0, .string ⟨#[]⟩, .slice none 0 0, .int .i64 9] := by rw [← hY9]; exact Bx.new _ _ _
        have hqb : 1 ≤ q ∧ q ≤ 41 := by have := unhide Hq; omega
        have oe := jn_oe (P := fun i => w.heap.size ≤ i) (s := (s : Int)) (q := q) (u := u) ⟨by omega, by omega⟩ ⟨by omega, by omega⟩ (OwD.base (owd_below oY b9) (Nat.zero_le _)) (fun k hk => Nat.le_trans hwZ (om.lt k hk).1) hu17
        obtain ⟨v', Z2, hr, C2, kk, hD⟩ := (CY.below b9).push oe xY9 (by have := unhide Hno; omega)
        obtain ⟨av, cv, rfl⟩ := owns_form C2.row
        have hln : (ops ++ [(jnO (s : Int) q u, Value.slice am nh cm, Value.slice none 0 0)]).length = no + 1 := by simp; exact unhide Hno
        have Hln := hide hln
        have HC2 := hide C2
        rw [hln] at hr
        have U2 := hD _ _ _ (owd_below UY b9)
        have x2 := (xY8.below b9).kp kk (fun e => hnb e)
        obtain ⟨p0, p1, p3, p4, p5, p6, p7, p8, p9, p10, p11⟩ := cells_op xY8
        have j0 := x2.cell 0 _ rfl
        have j1 := x2.cell 1 _ rfl
        have l8 := xY8.lt
        have Hr := hide hr
        have HAd := hide (refAdd_in (.slice ah nh ch) u (s : Int) q Z2 (OwD.row U2) (by omega) (by omega))
        obtain ⟨A, hA⟩ : ∃ A, addV u ((s : Int), q) = A := ⟨_, rfl⟩
        have HHm : Hid (HF (ops.map Prod.fst ++ [jnO (s : Int) q u]) (putF (fun t => (f t).2) s A.1)) := by rw [← hA]; exact (unhide HHn).1
        rw [hA] at HAd
        clear HM om b8 C8 U8 x8 k8 xY8 CY UY oY b9 xY9 oe C2 kk hD hln hr U2 x2 HCp HUp Hxp hwZ hnb hbo0
        go_wp2_with (at_builtin; refine wpList_append_eq rfl _ _ 47 rfl _ _ _ _ rfl rfl (unhide Hr) ?_; clear Hr)
        clear hY8 hY9 p0 p1 p2 f2 l2 p3 p4 p5 p6 p7 p8 p9 p10 p11 l8
        refine (unhide HAd).mono ?_
        rintro e W3 ⟨v3, rfl, o3, b3⟩
        obtain ⟨a3, c3, rfl⟩ := OwD.form o3
        have C3 := (unhide HC2).below b3
        have r0 : W3.cell? ⟨b, s, none⟩ = some (.slice ah nh ch) := by have := C3.box.cell s _ (arrV_get f s (by omega)); rw [unhide Hfs] at this; exact this
        have r1 := C3.box.frozen s
        have r2 := C3.box.lt
        have HC4 := hide (C3.put (s := s) (by omega) (OwD.base o3 (unhide HC2).bel.size))
        clear C3 HAd o3 b3 j0 j1
        go_wp2
        go_roundw
        case rel => exact ⟨i + 1, av, cv, ops ++ [(jnO (s : Int) q u, Value.slice am nh cm, Value.slice none 0 0)], _, by rw [unhide Hln], by go_num, by omega, by have := unhide Hln; omega, HC4, hide (by rw [List.map_append]; exact HF.put (unhide HHm))⟩
        case measure => show n0 - ((i : Int) + 1).toNat < n0 - ((i : Nat) : Int).toNat; omega
      have hin' : (i : Int) < (n1 : Int) := by omega
      obtain ⟨kx, hkx⟩ : ∃ kx, ks[i]? = some kx := ⟨_, List.getElem?_eq_getElem (by rw [unhide L1]; exact hin)⟩
      obtain ⟨g1, off1, rfl, hg1, q2⟩ := RN.at (RN.below (unhide H1) (unhide HC).bel) hkx
      clear hkx
      by_cases hk0 : 0 ≤ kx
      rotate_left
      · go_upto_region 15 with fail
        clear hin' q2 hk0 hg1
        have HU : Hid (OwD wr w.heap.size (.slice ah nh ch) (f s).2) := by have := (unhide HC).has s; rw [unhide Hfs] at this; exact this
        have HVu : Hid (HV (ops.map Prod.fst) (f s).2) := (unhide HH).v s
        obtain ⟨u, hu⟩ : ∃ u, (f s).2 = u := ⟨_, rfl⟩
        have Hul : Hid (u.length = nh) := by rw [← hu]; exact Hnh
        rw [hu] at HU HVu
        clear hu
        have hrow : OwD wr w.heap.size (.slice ah nh ch) (f s).2 := by have := (unhide HC).has s; rw [unhide Hfs] at this; exact this
        have hfl : (f s).2.length ≤ 17 := ((unhide HH).v s).len
        obtain ⟨G, hG⟩ : ∃ G, getV (f s).2 (s : Int) = G := ⟨_, rfl⟩
        have hGb : 0 ≤ G ∧ G ≤ 40 := by
          have h1 := get_nn (f s).2 (s : Int)
          have h2 : getV (f s).2 (s : Int) = (cntS (ops.map Prod.fst) (s : Int) : Int) := by
            unfold getV
            rw [if_pos ⟨by omega, by omega⟩, Int.toNat_natCast]
            exact (unhide HH).at_ s hs1 hs5
          have h3 := cntS_len (ops.map Prod.fst) (s : Int)
          rw [List.length_map, unhide Hno] at h3
          omega
        obtain ⟨q, hq⟩ : ∃ q, q = G + 1 := ⟨_, rfl⟩
        have hqw : IntKind.i64.wrap (G + 1) = q := by simp only [IntKind.wrap_i64]; omega
        obtain ⟨G9, hG9⟩ : ∃ G9, getV u (s : Int) = G9 := ⟨_, rfl⟩
        have HG := hide (refGet_in (.slice ah nh ch) (f s).2 (s : Int) wr (OwD.row hrow) (by omega))
        rw [hG] at HG
        have q5 : wr.cell? ⟨b, s, none⟩ = some (.slice ah nh ch) := by have := (unhide HC).box.cell s _ (arrV_get f s (by omega)); rw [unhide Hfs] at this; exact this
        have hbl := (unhide HC).box.lt
        have hs17 : (s : Int) < 17 := by omega
        have HGq := hide (show q = getV (f s).2 (s : Int) + 1 by rw [hG]; exact hq)
        have hul := unhide Hul
        have hu17 : u.length ≤ 17 := (unhide HVu).len
        have HuR := hide (OwD.row (unhide HU))
        have Hq := hide hq
        have hGe : G + 1 = q := hq.symm
        clear hrow hfl hG hul hq
        go_wp2_with fail
        refine (unhide HG).mono ?_
        rintro e W6 ⟨rfl, b6⟩
        have B6 := hide b6
        obtain ⟨V, hV⟩ : ∃ V, W6.alloc (.cells #[.int .i64 (s : Int), .int .i64 q, .slice none 0 0, .int .i64 3, .int .i64 0, .int .i64 0, .int .i64 0, .int .i64 0, .string ⟨#[]⟩, .slice none 0 0, .int .i64 9] 42) = V := ⟨_, rfl⟩
        have bV : Below W6.heap.size W6 V := by rw [← hV]; exact ballc (Below.refl _ _) _
        have xV : Bx V W6.heap.size 42 #[.int .i64 (s : Int), .int .i64 q, .slice none 0 0, .int .i64 3, .int .i64 0, .int .i64 0, .int .i64 0, .int .i64 0, .string ⟨#[]⟩, .slice none 0 0, .int .i64 9] := by rw [← hV]; exact Bx.new _ _ _
        obtain ⟨bo, hbo⟩ : ∃ bo, W6.heap.size = bo := ⟨_, rfl⟩
        rw [hbo] at xV
        have b5V : Below wr.heap.size wr V := bnext b6 bV
        have HCV := hide ((unhide HC).below b5V)
        have HUV := hide (owd_below (unhide HU) b5V)
        have hlvo : ∀ k, (Value.slice al no cl).ownBlock = some k → k < bo := fun k hk => by have := ((unhide HC).below b6).row.lt k hk; omega
        have Hlvo := hide hlvo
        have Hbo0 := hide (show w.heap.size ≤ bo by rw [← hbo]; exact ((unhide HC).below b6).bel.size)
        have HG9 := hide (fun X (hX : Below V.heap.size V X) => refGet_in (.slice ah nh ch) u (s : Int) X (OwD.row (owd_below (unhide HUV) hX)) (by omega))
        rw [hG9] at HG9
        have HxV := hide xV
        clear HG q5 b6 bV xV b5V hlvo B6 HuR
        go_wp2_with fail
        clear hV hbo hqw hGe
        have hqb : 1 ≤ q ∧ q ≤ 41 := by have := unhide Hq; omega
        have mixed : Tryz.prog.follows .mixedOrders = true := by kernel_rfl
        have hne := BelowOf.ne V
        have k1 : ∀ p : BelowOf V, p.w.cell? ⟨bo, 1, none⟩ = some (.int .i64 q) := fun p => ((unhide HxV).below p.h).cell 1 _ rfl
        have hq1 : IntKind.i64.wrap (q - 1) = q - 1 := by simp only [IntKind.wrap_i64]; omega
        by_cases hgq : G9 = q - 1
        rotate_left
        · have hgq1 : (G9 != q - 1) = true := by simpa using hgq
          clear hgq
          refine wp_region_quiet_below mixed (by kernel_rfl) ?_
          repeat (any_goals (first | go_big_quiet_step ((first | (go_at_call 23; exact below_of (unhide HG9 _ (BelowOf.h _))))) | quiet_step ((first | (go_at_call 23; exact below_of (unhide HG9 _ (BelowOf.h _)))))))
          all_goals (refine wpQuiet_nil ?_; intro _ hw'; obtain ⟨p, hw''⟩ := hw'; subst hw'')
          have HCp := hide ((unhide HCV).below p.h)
          generalize p.w = Z at *
          clear hne k1 HG9 hq1
          go_wp2
          go_roundw
          case rel => exact ⟨i + 1, al, cl, ops, f, by rw [unhide Hno], by go_num, by omega, by have := unhide Hno; omega, by rw [unhide Hno]; exact HCp, HH⟩
          case measure => show n0 - ((i : Int) + 1).toNat < n0 - ((i : Nat) : Int).toNat; omega
        have hgq1 : (G9 != q - 1) = false := by simpa using hgq
        refine wp_region_quiet_below mixed (by kernel_rfl) ?_
        repeat (any_goals (first | go_big_quiet_step ((first | (go_at_call 23; exact below_of (unhide HG9 _ (BelowOf.h _))))) | quiet_step ((first | (go_at_call 23; exact below_of (unhide HG9 _ (BelowOf.h _)))))))
        all_goals (refine wpQuiet_nil ?_; intro _ hw'; obtain ⟨p, hw''⟩ := hw'; subst hw'')
        have HCp := hide ((unhide HCV).below p.h)
        have HUp := hide (owd_below (unhide HUV) p.h)
        have Hxp := hide ((unhide HxV).below p.h)
        generalize p.w = Z at *
        have hgu : getV u (s : Int) = q - 1 := by rw [hG9, hgq]
        have HHn := hide ((unhide HH).snoc hs1 hs5 (by rw [List.length_map, unhide Hno]; omega) (unhide HVu) (unhide HGq) hgu)
        have Hgu := hide hgu
        have HM := hide (refMerge_in (.slice ah nh ch) (.slice none 0 0) u [] Z (OwD.row (unhide HUp)) (RC.nil _ _ _) (by omega) (by simp))
        rw [mrg_self u (unhide HVu).vc] at HM
        clear hne k1 HG9 hq1 HCV HUV HxV hgq1 hG9 hgq hgu
        go_wp2_with fail
        refine (unhide HM).mono ?_
        rintro e W8 ⟨vm, rfl, om, b8⟩
        obtain ⟨am, cm, rfl⟩ := OwD.form om
        rw [unhide Hul] at om
        rw [unhide Hul]
        have C8 := (unhide HCp).below b8
        have U8 := owd_below (unhide HUp) b8
        have x8 := (unhide Hxp).below b8
        have hwZ := (unhide HCp).bel.size
        have hbo0 : w.heap.size ≤ bo := unhide Hbo0
        have hnb : (Value.slice al no cl).ownBlock ≠ some bo := fun e => by have := unhide Hlvo bo e; omega
        have k8 := Kp.set (N := fun i => i = bo) W8 ⟨bo, 2, none⟩ (.slice am nh cm) rfl
        obtain ⟨Y8, hY8⟩ : ∃ Y, W8.setCell ⟨bo, 2, none⟩ (.slice am nh cm) = Y := ⟨_, rfl⟩
        have xY8 : Bx Y8 bo 42 #[.int .i64 (s : Int), .int .i64 q, .slice am nh cm, .int .i64 3, .int .i64 0, .int .i64 0, .int .i64 0, .int .i64 0, .string ⟨#[]⟩, .slice none 0 0, .int .i64 9] := by rw [← hY8]; have := x8.set 2 (.slice am nh cm); simpa using this
        rw [hY8] at k8
        have CY := C8.kb k8 x8 hnb hbo0
        have UY := U8.kb k8 x8
        have oY := om.kb k8 x8
        have p2 := x8.cell 2 _ rfl
        have f2 := x8.frozen 2
        have l2 := x8.lt
        obtain ⟨Y9, hY9⟩ : ∃ Y, Y8.alloc (.cells #[.int .i64 (s : Int), .int .i64 q, .slice am nh cm, .int .i64 3, .int .i64 0, .int .i64 0, .int .i64 0, .int .i64 0, .string ⟨#[]⟩, .slice none 0 0, .int .i64 9] 42) = Y := ⟨_, rfl⟩
        have b9 : Below Y8.heap.size Y8 Y9 := by rw [← hY9]; exact ballc (Below.refl _ _) _
        have xY9 : Bx Y9 Y8.heap.size 42 #[.int .i64 (s : Int), .int .i64 q, .slice am nh cm, .int .i64 3, .int .i64 0, .int .i64 0, .int .i64 0, .int .i64 0, .string ⟨#[]⟩, .slice none 0 0, .int .i64 9] := by rw [← hY9]; exact Bx.new _ _ _
        have hqb : 1 ≤ q ∧ q ≤ 41 := by have := unhide Hq; omega
        have oe := jn_oe (P := fun i => w.heap.size ≤ i) (s := (s : Int)) (q := q) (u := u) ⟨by omega, by omega⟩ ⟨by omega, by omega⟩ (OwD.base (owd_below oY b9) (Nat.zero_le _)) (fun k hk => Nat.le_trans hwZ (om.lt k hk).1) hu17
        obtain ⟨v', Z2, hr, C2, kk, hD⟩ := (CY.below b9).push oe xY9 (by have := unhide Hno; omega)
        obtain ⟨av, cv, rfl⟩ := owns_form C2.row
        have hln : (ops ++ [(jnO (s : Int) q u, Value.slice am nh cm, Value.slice none 0 0)]).length = no + 1 := by simp; exact unhide Hno
        have Hln := hide hln
        have HC2 := hide C2
        rw [hln] at hr
        have U2 := hD _ _ _ (owd_below UY b9)
        have x2 := (xY8.below b9).kp kk (fun e => hnb e)
        obtain ⟨p0, p1, p3, p4, p5, p6, p7, p8, p9, p10, p11⟩ := cells_op xY8
        have j0 := x2.cell 0 _ rfl
        have j1 := x2.cell 1 _ rfl
        have l8 := xY8.lt
        have Hr := hide hr
        have HAd := hide (refAdd_in (.slice ah nh ch) u (s : Int) q Z2 (OwD.row U2) (by omega) (by omega))
        obtain ⟨A, hA⟩ : ∃ A, addV u ((s : Int), q) = A := ⟨_, rfl⟩
        have HHm : Hid (HF (ops.map Prod.fst ++ [jnO (s : Int) q u]) (putF (fun t => (f t).2) s A.1)) := by rw [← hA]; exact (unhide HHn).1
        rw [hA] at HAd
        clear HM om b8 C8 U8 x8 k8 xY8 CY UY oY b9 xY9 oe C2 kk hD hln hr U2 x2 HCp HUp Hxp hwZ hnb hbo0
        go_wp2_with (at_builtin; refine wpList_append_eq rfl _ _ 47 rfl _ _ _ _ rfl rfl (unhide Hr) ?_; clear Hr)
        clear hY8 hY9 p0 p1 p2 f2 l2 p3 p4 p5 p6 p7 p8 p9 p10 p11 l8
        refine (unhide HAd).mono ?_
        rintro e W3 ⟨v3, rfl, o3, b3⟩
        obtain ⟨a3, c3, rfl⟩ := OwD.form o3
        have C3 := (unhide HC2).below b3
        have r0 : W3.cell? ⟨b, s, none⟩ = some (.slice ah nh ch) := by have := C3.box.cell s _ (arrV_get f s (by omega)); rw [unhide Hfs] at this; exact this
        have r1 := C3.box.frozen s
        have r2 := C3.box.lt
        have HC4 := hide (C3.put (s := s) (by omega) (OwD.base o3 (unhide HC2).bel.size))
        clear C3 HAd o3 b3 j0 j1
        go_wp2
        go_roundw
        case rel => exact ⟨i + 1, av, cv, ops ++ [(jnO (s : Int) q u, Value.slice am nh cm, Value.slice none 0 0)], _, by rw [unhide Hln], by go_num, by omega, by have := unhide Hln; omega, HC4, hide (by rw [List.map_append]; exact HF.put (unhide HHm))⟩
        case measure => show n0 - ((i : Int) + 1).toNat < n0 - ((i : Nat) : Int).toNat; omega
      by_cases hno0 : 0 < no
      rotate_left
      · have hno1 : ¬ (0 : Int) < (no : Int) := by omega
        go_upto_region 15 with fail
        clear hin' q2 hk0 hg1 hno1
        have HU : Hid (OwD wr w.heap.size (.slice ah nh ch) (f s).2) := by have := (unhide HC).has s; rw [unhide Hfs] at this; exact this
        have HVu : Hid (HV (ops.map Prod.fst) (f s).2) := (unhide HH).v s
        obtain ⟨u, hu⟩ : ∃ u, (f s).2 = u := ⟨_, rfl⟩
        have Hul : Hid (u.length = nh) := by rw [← hu]; exact Hnh
        rw [hu] at HU HVu
        clear hu
        have hrow : OwD wr w.heap.size (.slice ah nh ch) (f s).2 := by have := (unhide HC).has s; rw [unhide Hfs] at this; exact this
        have hfl : (f s).2.length ≤ 17 := ((unhide HH).v s).len
        obtain ⟨G, hG⟩ : ∃ G, getV (f s).2 (s : Int) = G := ⟨_, rfl⟩
        have hGb : 0 ≤ G ∧ G ≤ 40 := by
          have h1 := get_nn (f s).2 (s : Int)
          have h2 : getV (f s).2 (s : Int) = (cntS (ops.map Prod.fst) (s : Int) : Int) := by
            unfold getV
            rw [if_pos ⟨by omega, by omega⟩, Int.toNat_natCast]
            exact (unhide HH).at_ s hs1 hs5
          have h3 := cntS_len (ops.map Prod.fst) (s : Int)
          rw [List.length_map, unhide Hno] at h3
          omega
        obtain ⟨q, hq⟩ : ∃ q, q = G + 1 := ⟨_, rfl⟩
        have hqw : IntKind.i64.wrap (G + 1) = q := by simp only [IntKind.wrap_i64]; omega
        obtain ⟨G9, hG9⟩ : ∃ G9, getV u (s : Int) = G9 := ⟨_, rfl⟩
        have HG := hide (refGet_in (.slice ah nh ch) (f s).2 (s : Int) wr (OwD.row hrow) (by omega))
        rw [hG] at HG
        have q5 : wr.cell? ⟨b, s, none⟩ = some (.slice ah nh ch) := by have := (unhide HC).box.cell s _ (arrV_get f s (by omega)); rw [unhide Hfs] at this; exact this
        have hbl := (unhide HC).box.lt
        have hs17 : (s : Int) < 17 := by omega
        have HGq := hide (show q = getV (f s).2 (s : Int) + 1 by rw [hG]; exact hq)
        have hul := unhide Hul
        have hu17 : u.length ≤ 17 := (unhide HVu).len
        have HuR := hide (OwD.row (unhide HU))
        have Hq := hide hq
        have hGe : G + 1 = q := hq.symm
        clear hrow hfl hG hul hq
        go_wp2_with fail
        refine (unhide HG).mono ?_
        rintro e W6 ⟨rfl, b6⟩
        have B6 := hide b6
        obtain ⟨V, hV⟩ : ∃ V, W6.alloc (.cells #[.int .i64 (s : Int), .int .i64 q, .slice none 0 0, .int .i64 3, .int .i64 0, .int .i64 0, .int .i64 0, .int .i64 0, .string ⟨#[]⟩, .slice none 0 0, .int .i64 9] 42) = V := ⟨_, rfl⟩
        have bV : Below W6.heap.size W6 V := by rw [← hV]; exact ballc (Below.refl _ _) _
        have xV : Bx V W6.heap.size 42 #[.int .i64 (s : Int), .int .i64 q, .slice none 0 0, .int .i64 3, .int .i64 0, .int .i64 0, .int .i64 0, .int .i64 0, .string ⟨#[]⟩, .slice none 0 0, .int .i64 9] := by rw [← hV]; exact Bx.new _ _ _
        obtain ⟨bo, hbo⟩ : ∃ bo, W6.heap.size = bo := ⟨_, rfl⟩
        rw [hbo] at xV
        have b5V : Below wr.heap.size wr V := bnext b6 bV
        have HCV := hide ((unhide HC).below b5V)
        have HUV := hide (owd_below (unhide HU) b5V)
        have hlvo : ∀ k, (Value.slice al no cl).ownBlock = some k → k < bo := fun k hk => by have := ((unhide HC).below b6).row.lt k hk; omega
        have Hlvo := hide hlvo
        have Hbo0 := hide (show w.heap.size ≤ bo by rw [← hbo]; exact ((unhide HC).below b6).bel.size)
        have HG9 := hide (fun X (hX : Below V.heap.size V X) => refGet_in (.slice ah nh ch) u (s : Int) X (OwD.row (owd_below (unhide HUV) hX)) (by omega))
        rw [hG9] at HG9
        have HxV := hide xV
        clear HG q5 b6 bV xV b5V hlvo B6 HuR
        go_wp2_with fail
        clear hV hbo hqw hGe
        have hqb : 1 ≤ q ∧ q ≤ 41 := by have := unhide Hq; omega
        have mixed : Tryz.prog.follows .mixedOrders = true := by kernel_rfl
        have hne := BelowOf.ne V
        have k1 : ∀ p : BelowOf V, p.w.cell? ⟨bo, 1, none⟩ = some (.int .i64 q) := fun p => ((unhide HxV).below p.h).cell 1 _ rfl
        have hq1 : IntKind.i64.wrap (q - 1) = q - 1 := by simp only [IntKind.wrap_i64]; omega
        by_cases hgq : G9 = q - 1
        rotate_left
        · have hgq1 : (G9 != q - 1) = true := by simpa using hgq
          clear hgq
          refine wp_region_quiet_below mixed (by kernel_rfl) ?_
          repeat (any_goals (first | go_big_quiet_step ((first | (go_at_call 23; exact below_of (unhide HG9 _ (BelowOf.h _))))) | quiet_step ((first | (go_at_call 23; exact below_of (unhide HG9 _ (BelowOf.h _)))))))
          all_goals (refine wpQuiet_nil ?_; intro _ hw'; obtain ⟨p, hw''⟩ := hw'; subst hw'')
          have HCp := hide ((unhide HCV).below p.h)
          generalize p.w = Z at *
          clear hne k1 HG9 hq1
          go_wp2
          go_roundw
          case rel => exact ⟨i + 1, al, cl, ops, f, by rw [unhide Hno], by go_num, by omega, by have := unhide Hno; omega, by rw [unhide Hno]; exact HCp, HH⟩
          case measure => show n0 - ((i : Int) + 1).toNat < n0 - ((i : Nat) : Int).toNat; omega
        have hgq1 : (G9 != q - 1) = false := by simpa using hgq
        refine wp_region_quiet_below mixed (by kernel_rfl) ?_
        repeat (any_goals (first | go_big_quiet_step ((first | (go_at_call 23; exact below_of (unhide HG9 _ (BelowOf.h _))))) | quiet_step ((first | (go_at_call 23; exact below_of (unhide HG9 _ (BelowOf.h _)))))))
        all_goals (refine wpQuiet_nil ?_; intro _ hw'; obtain ⟨p, hw''⟩ := hw'; subst hw'')
        have HCp := hide ((unhide HCV).below p.h)
        have HUp := hide (owd_below (unhide HUV) p.h)
        have Hxp := hide ((unhide HxV).below p.h)
        generalize p.w = Z at *
        have hgu : getV u (s : Int) = q - 1 := by rw [hG9, hgq]
        have HHn := hide ((unhide HH).snoc hs1 hs5 (by rw [List.length_map, unhide Hno]; omega) (unhide HVu) (unhide HGq) hgu)
        have Hgu := hide hgu
        have HM := hide (refMerge_in (.slice ah nh ch) (.slice none 0 0) u [] Z (OwD.row (unhide HUp)) (RC.nil _ _ _) (by omega) (by simp))
        rw [mrg_self u (unhide HVu).vc] at HM
        clear hne k1 HG9 hq1 HCV HUV HxV hgq1 hG9 hgq hgu
        go_wp2_with fail
        refine (unhide HM).mono ?_
        rintro e W8 ⟨vm, rfl, om, b8⟩
        obtain ⟨am, cm, rfl⟩ := OwD.form om
        rw [unhide Hul] at om
        rw [unhide Hul]
        have C8 := (unhide HCp).below b8
        have U8 := owd_below (unhide HUp) b8
        have x8 := (unhide Hxp).below b8
        have hwZ := (unhide HCp).bel.size
        have hbo0 : w.heap.size ≤ bo := unhide Hbo0
        have hnb : (Value.slice al no cl).ownBlock ≠ some bo := fun e => by have := unhide Hlvo bo e; omega
        have k8 := Kp.set (N := fun i => i = bo) W8 ⟨bo, 2, none⟩ (.slice am nh cm) rfl
        obtain ⟨Y8, hY8⟩ : ∃ Y, W8.setCell ⟨bo, 2, none⟩ (.slice am nh cm) = Y := ⟨_, rfl⟩
        have xY8 : Bx Y8 bo 42 #[.int .i64 (s : Int), .int .i64 q, .slice am nh cm, .int .i64 3, .int .i64 0, .int .i64 0, .int .i64 0, .int .i64 0, .string ⟨#[]⟩, .slice none 0 0, .int .i64 9] := by rw [← hY8]; have := x8.set 2 (.slice am nh cm); simpa using this
        rw [hY8] at k8
        have CY := C8.kb k8 x8 hnb hbo0
        have UY := U8.kb k8 x8
        have oY := om.kb k8 x8
        have p2 := x8.cell 2 _ rfl
        have f2 := x8.frozen 2
        have l2 := x8.lt
        obtain ⟨Y9, hY9⟩ : ∃ Y, Y8.alloc (.cells #[.int .i64 (s : Int), .int .i64 q, .slice am nh cm, .int .i64 3, .int .i64 0, .int .i64 0, .int .i64 0, .int .i64 0, .string ⟨#[]⟩, .slice none 0 0, .int .i64 9] 42) = Y := ⟨_, rfl⟩
        have b9 : Below Y8.heap.size Y8 Y9 := by rw [← hY9]; exact ballc (Below.refl _ _) _
        have xY9 : Bx Y9 Y8.heap.size 42 #[.int .i64 (s : Int), .int .i64 q, .slice am nh cm, .int .i64 3, .int .i64 0, .int .i64 0, .int .i64 0, .int .i64 0, .string ⟨#[]⟩, .slice none 0 0, .int .i64 9] := by rw [← hY9]; exact Bx.new _ _ _
        have hqb : 1 ≤ q ∧ q ≤ 41 := by have := unhide Hq; omega
        have oe := jn_oe (P := fun i => w.heap.size ≤ i) (s := (s : Int)) (q := q) (u := u) ⟨by omega, by omega⟩ ⟨by omega, by omega⟩ (OwD.base (owd_below oY b9) (Nat.zero_le _)) (fun k hk => Nat.le_trans hwZ (om.lt k hk).1) hu17
        obtain ⟨v', Z2, hr, C2, kk, hD⟩ := (CY.below b9).push oe xY9 (by have := unhide Hno; omega)
        obtain ⟨av, cv, rfl⟩ := owns_form C2.row
        have hln : (ops ++ [(jnO (s : Int) q u, Value.slice am nh cm, Value.slice none 0 0)]).length = no + 1 := by simp; exact unhide Hno
        have Hln := hide hln
        have HC2 := hide C2
        rw [hln] at hr
        have U2 := hD _ _ _ (owd_below UY b9)
        have x2 := (xY8.below b9).kp kk (fun e => hnb e)
        obtain ⟨p0, p1, p3, p4, p5, p6, p7, p8, p9, p10, p11⟩ := cells_op xY8
        have j0 := x2.cell 0 _ rfl
        have j1 := x2.cell 1 _ rfl
        have l8 := xY8.lt
        have Hr := hide hr
        have HAd := hide (refAdd_in (.slice ah nh ch) u (s : Int) q Z2 (OwD.row U2) (by omega) (by omega))
        obtain ⟨A, hA⟩ : ∃ A, addV u ((s : Int), q) = A := ⟨_, rfl⟩
        have HHm : Hid (HF (ops.map Prod.fst ++ [jnO (s : Int) q u]) (putF (fun t => (f t).2) s A.1)) := by rw [← hA]; exact (unhide HHn).1
        rw [hA] at HAd
        clear HM om b8 C8 U8 x8 k8 xY8 CY UY oY b9 xY9 oe C2 kk hD hln hr U2 x2 HCp HUp Hxp hwZ hnb hbo0
        go_wp2_with (at_builtin; refine wpList_append_eq rfl _ _ 47 rfl _ _ _ _ rfl rfl (unhide Hr) ?_; clear Hr)
        clear hY8 hY9 p0 p1 p2 f2 l2 p3 p4 p5 p6 p7 p8 p9 p10 p11 l8
        refine (unhide HAd).mono ?_
        rintro e W3 ⟨v3, rfl, o3, b3⟩
        obtain ⟨a3, c3, rfl⟩ := OwD.form o3
        have C3 := (unhide HC2).below b3
        have r0 : W3.cell? ⟨b, s, none⟩ = some (.slice ah nh ch) := by have := C3.box.cell s _ (arrV_get f s (by omega)); rw [unhide Hfs] at this; exact this
        have r1 := C3.box.frozen s
        have r2 := C3.box.lt
        have HC4 := hide (C3.put (s := s) (by omega) (OwD.base o3 (unhide HC2).bel.size))
        clear C3 HAd o3 b3 j0 j1
        go_wp2
        go_roundw
        case rel => exact ⟨i + 1, av, cv, ops ++ [(jnO (s : Int) q u, Value.slice am nh cm, Value.slice none 0 0)], _, by rw [unhide Hln], by go_num, by omega, by have := unhide Hln; omega, HC4, hide (by rw [List.map_append]; exact HF.put (unhide HHm))⟩
        case measure => show n0 - ((i : Int) + 1).toNat < n0 - ((i : Nat) : Int).toNat; omega
      have hno1 : (0 : Int) < (no : Int) := by omega
      have hj1 := Int.tmod_lt_of_pos kx hno1
      have hj2 : 0 ≤ kx.tmod (no : Int) := Int.tmod_nonneg _ hk0
      obtain ⟨j, hj⟩ : ∃ j : Nat, kx.tmod (no : Int) = (j : Int) := ⟨(kx.tmod (no : Int)).toNat, by omega⟩
      rw [hj] at hj1 hj2
      have hjn : j < no := by omega
      have hno2 : ¬ (no : Int) = 0 := by omega
      have hjw : IntKind.i64.wrap (j : Int) = (j : Int) := by simp only [IntKind.wrap_i64]; omega
      obtain ⟨⟨o, vd, vg⟩, he⟩ : ∃ e, ops[j]? = some e := ⟨_, List.getElem?_eq_getElem (by rw [unhide Hno]; exact hjn)⟩
      have hrw := (unhide HC).row
      rw [unhide Hno] at hrw
      obtain ⟨gl, rfl, hgl, hcell⟩ := own_at11c hrw (unhide Hno) he
      have hoe := (unhide HC).ent _ (List.mem_of_getElem? he)
      obtain ⟨ad, cd, hvd⟩ := OwD.form hoe.d
      obtain ⟨ag, cg, hvg⟩ := OwR.form hoe.g
      simp only at hvd hvg
      subst hvd
      subst hvg
      have hom : o ∈ ops.map Prod.fst := List.mem_map.2 ⟨_, List.mem_of_getElem? he, rfl⟩
      have hod := (unhide HH).dv o hom
      have t0 := hcell 0 _ rfl
      have t1 := hcell 1 _ rfl
      have t2 := hcell 2 _ rfl
      have t3 := hcell 3 _ rfl
      have t4 := hcell 4 _ rfl
      have t5 := hcell 5 _ rfl
      have t6 := hcell 6 _ rfl
      have t7 := hcell 7 _ rfl
      have t8 := hcell 8 _ rfl
      have t9 := hcell 9 _ rfl
      have t10 := hcell 10 _ rfl
      simp only [Nat.add_zero] at t0
      obtain ⟨V1, hV1⟩ : ∃ V, wr.alloc (.cells #[.int .i64 o.ds, .int .i64 o.dq, .slice ad o.deps.length cd, .int .i64 o.kind, .int .i64 o.it, .int .i64 o.is, .int .i64 o.rt, .int .i64 o.rs, .string o.text, .slice ag o.gone.length cg, .int .i64 o.site] 42) = V := ⟨_, rfl⟩
      have bV1 : Below wr.heap.size wr V1 := by rw [← hV1]; exact ballc (Below.refl _ _) _
      have xV1 : Bx V1 wr.heap.size 42 #[.int .i64 o.ds, .int .i64 o.dq, .slice ad o.deps.length cd, .int .i64 o.kind, .int .i64 o.it, .int .i64 o.is, .int .i64 o.rt, .int .i64 o.rs, .string o.text, .slice ag o.gone.length cg, .int .i64 o.site] := by rw [← hV1]; exact Bx.new _ _ _
      have y0 := xV1.cell 0 _ rfl
      have y1 := xV1.cell 1 _ rfl
      have y2 := xV1.cell 2 _ rfl
      have HAd := hide (refAdd_in (.slice ad o.deps.length cd) o.deps o.ds o.dq V1 (OwD.row (owd_below hoe.d bV1)) (by have := hod.len; omega) hoe.inn.dq.2)
      obtain ⟨B1, hB1⟩ : ∃ B1, addV o.deps (o.ds, o.dq) = B1 := ⟨_, rfl⟩
      have HVB : Hid (HV (ops.map Prod.fst) B1.1) := by rw [← hB1]; exact HV.add (unhide HH).cl hom hod
      rw [hB1] at HAd
      have HCw := hide ((unhide HC).below bV1)
      clear he hrw hcell hoe hom hod bV1 xV1 hB1 q1
      go_wp2_with fail
      refine (unhide HAd).mono ?_
      rintro e W1 ⟨v1, rfl, o1, b1⟩
      obtain ⟨e1, d1, rfl⟩ := OwD.form o1
      have HC1 := hide ((unhide HCw).below b1)
      have hrow1 : OwD W1 w.heap.size (.slice ah nh ch) (f s).2 := by have := (unhide HC1).has s; rw [unhide Hfs] at this; exact this
      have hf17 := ((unhide HH).v s).len
      have hb17 := (unhide HVB).len
      have HMg := hide (refMerge_in (.slice ah nh ch) (.slice e1 B1.1.length d1) (f s).2 B1.1 W1 (OwD.row hrow1) (OwD.row o1) (by omega) (by omega))
      clear HAd o1 b1 hrow1 hf17 hb17 HCw y0 y1 y2 hV1 t0 t1 t2 t3 t4 t5 t6 t7 t8 t9 t10 hgl hjw hno2 hj hj1 hj2 hjn hno1 q2 hin' hg1 hk0
      go_wp2_with fail
      refine (unhide HMg).mono ?_
      rintro e W5 ⟨v5, rfl, o5, b5⟩
      obtain ⟨u, hu⟩ : ∃ u, vec (mrg (sy (f s).2) (sy B1.1)) = u := ⟨_, rfl⟩
      rw [hu] at o5
      obtain ⟨a9, c9, rfl⟩ := OwD.form o5
      obtain ⟨n9, hn9⟩ : ∃ n9, u.length = n9 := ⟨_, rfl⟩
      have Hul := hide hn9
      rw [hn9] at o5
      rw [hn9]
      have HC5 := hide ((unhide HC1).below b5)
      have HU := hide (OwD.base o5 (unhide HC1).bel.size)
      have HV5 : Hid (HV (ops.map Prod.fst) u) := by rw [← hu]; exact ((unhide HH).v s).mrg (unhide HVB)
      clear HMg HC1 o5 b5 hn9 hu HVB HC
      have hrow : OwD W5 w.heap.size (.slice ah nh ch) (f s).2 := by have := (unhide HC5).has s; rw [unhide Hfs] at this; exact this
      have hfl : (f s).2.length ≤ 17 := ((unhide HH).v s).len
      obtain ⟨G, hG⟩ : ∃ G, getV (f s).2 (s : Int) = G := ⟨_, rfl⟩
      have hGb : 0 ≤ G ∧ G ≤ 40 := by
        have h1 := get_nn (f s).2 (s : Int)
        have h2 : getV (f s).2 (s : Int) = (cntS (ops.map Prod.fst) (s : Int) : Int) := by
          unfold getV
          rw [if_pos ⟨by omega, by omega⟩, Int.toNat_natCast]
          exact (unhide HH).at_ s hs1 hs5
        have h3 := cntS_len (ops.map Prod.fst) (s : Int)
        rw [List.length_map, unhide Hno] at h3
        omega
      obtain ⟨q, hq⟩ : ∃ q, q = G + 1 := ⟨_, rfl⟩
      have hqw : IntKind.i64.wrap (G + 1) = q := by simp only [IntKind.wrap_i64]; omega
      obtain ⟨G9, hG9⟩ : ∃ G9, getV u (s : Int) = G9 := ⟨_, rfl⟩
      have HG := hide (refGet_in (.slice ah nh ch) (f s).2 (s : Int) W5 (OwD.row hrow) (by omega))
      rw [hG] at HG
      have q5 : W5.cell? ⟨b, s, none⟩ = some (.slice ah nh ch) := by have := (unhide HC5).box.cell s _ (arrV_get f s (by omega)); rw [unhide Hfs] at this; exact this
      have hbl := (unhide HC5).box.lt
      have hs17 : (s : Int) < 17 := by omega
      have HGq := hide (show q = getV (f s).2 (s : Int) + 1 by rw [hG]; exact hq)
      have hul := unhide Hul
      have hu17 : u.length ≤ 17 := (unhide HV5).len
      have HuR := hide (OwD.row (unhide HU))
      have Hq := hide hq
      have hGe : G + 1 = q := hq.symm
      clear hrow hfl hG hul hq
      go_wp2_with fail
      refine (unhide HG).mono ?_
      rintro e W6 ⟨rfl, b6⟩
      have B6 := hide b6
      obtain ⟨V, hV⟩ : ∃ V, W6.alloc (.cells #[.int .i64 (s : Int), .int .i64 q, .slice none 0 0, .int .i64 3, .int .i64 0, .int .i64 0, .int .i64 0, .int .i64 0, .string ⟨#[]⟩, .slice none 0 0, .int .i64 9] 42) = V := ⟨_, rfl⟩
      have bV : Below W6.heap.size W6 V := by rw [← hV]; exact ballc (Below.refl _ _) _
      have xV : Bx V W6.heap.size 42 #[.int .i64 (s : Int), .int .i64 q, .slice none 0 0, .int .i64 3, .int .i64 0, .int .i64 0, .int .i64 0, .int .i64 0, .string ⟨#[]⟩, .slice none 0 0, .int .i64 9] := by rw [← hV]; exact Bx.new _ _ _
      obtain ⟨bo, hbo⟩ : ∃ bo, W6.heap.size = bo := ⟨_, rfl⟩
      rw [hbo] at xV
      have b5V : Below W5.heap.size W5 V := bnext b6 bV
      have HCV := hide ((unhide HC5).below b5V)
      have HUV := hide (owd_below (unhide HU) b5V)
      have hlvo : ∀ k, (Value.slice (some ⟨gl, 0, none⟩) no cl).ownBlock = some k → k < bo := fun k hk => by have := ((unhide HC5).below b6).row.lt k hk; omega
      have Hlvo := hide hlvo
      have Hbo0 := hide (show w.heap.size ≤ bo by rw [← hbo]; exact ((unhide HC5).below b6).bel.size)
      have HG9 := hide (fun X (hX : Below V.heap.size V X) => refGet_in (.slice a9 n9 c9) u (s : Int) X (OwD.row (owd_below (unhide HUV) hX)) (by omega))
      rw [hG9] at HG9
      have HxV := hide xV
      clear HG q5 b6 bV xV b5V hlvo B6 HuR
      go_wp2_with fail
      clear hV hbo hqw hGe
      have hqb : 1 ≤ q ∧ q ≤ 41 := by have := unhide Hq; omega
      have mixed : Tryz.prog.follows .mixedOrders = true := by kernel_rfl
      have hne := BelowOf.ne V
      have k1 : ∀ p : BelowOf V, p.w.cell? ⟨bo, 1, none⟩ = some (.int .i64 q) := fun p => ((unhide HxV).below p.h).cell 1 _ rfl
      have hq1 : IntKind.i64.wrap (q - 1) = q - 1 := by simp only [IntKind.wrap_i64]; omega
      by_cases hgq : G9 = q - 1
      rotate_left
      · have hgq1 : (G9 != q - 1) = true := by simpa using hgq
        clear hgq
        refine wp_region_quiet_below mixed (by kernel_rfl) ?_
        repeat (any_goals (first | go_big_quiet_step ((first | (go_at_call 23; exact below_of (unhide HG9 _ (BelowOf.h _))))) | quiet_step ((first | (go_at_call 23; exact below_of (unhide HG9 _ (BelowOf.h _)))))))
        all_goals (refine wpQuiet_nil ?_; intro _ hw'; obtain ⟨p, hw''⟩ := hw'; subst hw'')
        have HCp := hide ((unhide HCV).below p.h)
        generalize p.w = Z at *
        clear hne k1 HG9 hq1
        go_wp2
        go_roundw
        case rel => exact ⟨i + 1, some ⟨gl, 0, none⟩, cl, ops, f, by rw [unhide Hno], by go_num, by omega, by have := unhide Hno; omega, by rw [unhide Hno]; exact HCp, HH⟩
        case measure => show n0 - ((i : Int) + 1).toNat < n0 - ((i : Nat) : Int).toNat; omega
      have hgq1 : (G9 != q - 1) = false := by simpa using hgq
      refine wp_region_quiet_below mixed (by kernel_rfl) ?_
      repeat (any_goals (first | go_big_quiet_step ((first | (go_at_call 23; exact below_of (unhide HG9 _ (BelowOf.h _))))) | quiet_step ((first | (go_at_call 23; exact below_of (unhide HG9 _ (BelowOf.h _)))))))
      all_goals (refine wpQuiet_nil ?_; intro _ hw'; obtain ⟨p, hw''⟩ := hw'; subst hw'')
      have HCp := hide ((unhide HCV).below p.h)
      have HUp := hide (owd_below (unhide HUV) p.h)
      have Hxp := hide ((unhide HxV).below p.h)
      generalize p.w = Z at *
      have hgu : getV u (s : Int) = q - 1 := by rw [hG9, hgq]
      have HHn := hide ((unhide HH).snoc hs1 hs5 (by rw [List.length_map, unhide Hno]; omega) (unhide HV5) (unhide HGq) hgu)
      have Hgu := hide hgu
      have HM := hide (refMerge_in (.slice a9 n9 c9) (.slice none 0 0) u [] Z (OwD.row (unhide HUp)) (RC.nil _ _ _) (by omega) (by simp))
      rw [mrg_self u (unhide HV5).vc] at HM
      clear hne k1 HG9 hq1 HCV HUV HxV hgq1 hG9 hgq hgu
      go_wp2_with fail
      refine (unhide HM).mono ?_
      rintro e W8 ⟨vm, rfl, om, b8⟩
      obtain ⟨am, cm, rfl⟩ := OwD.form om
      rw [unhide Hul] at om
      rw [unhide Hul]
      have C8 := (unhide HCp).below b8
      have U8 := owd_below (unhide HUp) b8
      have x8 := (unhide Hxp).below b8
      have hwZ := (unhide HCp).bel.size
      have hbo0 : w.heap.size ≤ bo := unhide Hbo0
      have hnb : (Value.slice (some ⟨gl, 0, none⟩) no cl).ownBlock ≠ some bo := fun e => by have := unhide Hlvo bo e; omega
      have k8 := Kp.set (N := fun i => i = bo) W8 ⟨bo, 2, none⟩ (.slice am n9 cm) rfl
      obtain ⟨Y8, hY8⟩ : ∃ Y, W8.setCell ⟨bo, 2, none⟩ (.slice am n9 cm) = Y := ⟨_, rfl⟩
      have xY8 : Bx Y8 bo 42 #[.int .i64 (s : Int), .int .i64 q, .slice am n9 cm, .int .i64 3, .int .i64 0, .int .i64 0, .int .i64 0, .int .i64 0, .string ⟨#[]⟩, .slice none 0 0, .int .i64 9] := by rw [← hY8]; have := x8.set 2 (.slice am n9 cm); simpa using this
      rw [hY8] at k8
      have CY := C8.kb k8 x8 hnb hbo0
      have UY := U8.kb k8 x8
      have oY := om.kb k8 x8
      have p2 := x8.cell 2 _ rfl
      have f2 := x8.frozen 2
      have l2 := x8.lt
      obtain ⟨Y9, hY9⟩ : ∃ Y, Y8.alloc (.cells #[.int .i64 (s : Int), .int .i64 q, .slice am n9 cm, .int .i64 3, .int .i64 0, .int .i64 0, .int .i64 0, .int .i64 0, .string ⟨#[]⟩, .slice none 0 0, .int .i64 9] 42) = Y := ⟨_, rfl⟩
      have b9 : Below Y8.heap.size Y8 Y9 := by rw [← hY9]; exact ballc (Below.refl _ _) _
      have xY9 : Bx Y9 Y8.heap.size 42 #[.int .i64 (s : Int), .int .i64 q, .slice am n9 cm, .int .i64 3, .int .i64 0, .int .i64 0, .int .i64 0, .int .i64 0, .string ⟨#[]⟩, .slice none 0 0, .int .i64 9] := by rw [← hY9]; exact Bx.new _ _ _
      have hqb : 1 ≤ q ∧ q ≤ 41 := by have := unhide Hq; omega
      have oe := jn_oe (P := fun i => w.heap.size ≤ i) (s := (s : Int)) (q := q) (u := u) ⟨by omega, by omega⟩ ⟨by omega, by omega⟩ (OwD.base (owd_below oY b9) (Nat.zero_le _)) (fun k hk => Nat.le_trans hwZ (om.lt k hk).1) hu17
      obtain ⟨v', Z2, hr, C2, kk, hD⟩ := (CY.below b9).push oe xY9 (by have := unhide Hno; omega)
      obtain ⟨av, cv, rfl⟩ := owns_form C2.row
      have hln : (ops ++ [(jnO (s : Int) q u, Value.slice am n9 cm, Value.slice none 0 0)]).length = no + 1 := by simp; exact unhide Hno
      have Hln := hide hln
      have HC2 := hide C2
      rw [hln] at hr
      have U2 := hD _ _ _ (owd_below UY b9)
      have x2 := (xY8.below b9).kp kk (fun e => hnb e)
      obtain ⟨p0, p1, p3, p4, p5, p6, p7, p8, p9, p10, p11⟩ := cells_op xY8
      have j0 := x2.cell 0 _ rfl
      have j1 := x2.cell 1 _ rfl
      have l8 := xY8.lt
      have Hr := hide hr
      have HAd := hide (refAdd_in (.slice a9 n9 c9) u (s : Int) q Z2 (OwD.row U2) (by omega) (by omega))
      obtain ⟨A, hA⟩ : ∃ A, addV u ((s : Int), q) = A := ⟨_, rfl⟩
      have HHm : Hid (HF (ops.map Prod.fst ++ [jnO (s : Int) q u]) (putF (fun t => (f t).2) s A.1)) := by rw [← hA]; exact (unhide HHn).1
      rw [hA] at HAd
      clear HM om b8 C8 U8 x8 k8 xY8 CY UY oY b9 xY9 oe C2 kk hD hln hr U2 x2 HCp HUp Hxp hwZ hnb hbo0
      go_wp2_with (at_builtin; refine wpList_append_eq rfl _ _ 47 rfl _ _ _ _ rfl rfl (unhide Hr) ?_; clear Hr)
      clear hY8 hY9 p0 p1 p2 f2 l2 p3 p4 p5 p6 p7 p8 p9 p10 p11 l8
      refine (unhide HAd).mono ?_
      rintro e W3 ⟨v3, rfl, o3, b3⟩
      obtain ⟨a3, c3, rfl⟩ := OwD.form o3
      have C3 := (unhide HC2).below b3
      have r0 : W3.cell? ⟨b, s, none⟩ = some (.slice ah nh ch) := by have := C3.box.cell s _ (arrV_get f s (by omega)); rw [unhide Hfs] at this; exact this
      have r1 := C3.box.frozen s
      have r2 := C3.box.lt
      have HC4 := hide (C3.put (s := s) (by omega) (OwD.base o3 (unhide HC2).bel.size))
      clear C3 HAd o3 b3 j0 j1
      go_wp2
      go_roundw
      case rel => exact ⟨i + 1, av, cv, ops ++ [(jnO (s : Int) q u, Value.slice am n9 cm, Value.slice none 0 0)], _, by rw [unhide Hln], by go_num, by omega, by have := unhide Hln; omega, HC4, hide (by rw [List.map_append]; exact HF.put (unhide HHm))⟩
      case measure => show n0 - ((i : Int) + 1).toNat < n0 - ((i : Nat) : Int).toNat; omega
end Go.Proofs.YtkkolefionbbcaaGreat
