/-
  fair.Windows.
-/
import Derived.Test.YtmglnaldpcmakaaZSY
set_option linter.unusedSimpArgs false
set_option linter.unusedVariables false
namespace Go.Proofs.Ytmglnaldpcmakaa
open Go.RowKit Go.Lib Go.Shelf
namespace Sk
attribute [local go_sem] Oper.semAt_some

theorem isP_len {N : Nat} : ∀ {l : List (Int × Int)} {f : Int} {rest : List Arr}, IsP N f rest l → l.length ≤ rest.length
  | [], _, _, _ => Nat.zero_le _
  | w :: l, f, rest, h => by
    obtain ⟨_, r, h2, h3⟩ := h
    have := scan_short N f _ _ _ _ h2
    have := isP_len h3
    simp; omega
theorem lsW_len {N : Nat} {frm : Int} {came : List Arr} {L : List (Int × Int)} (h : LsW N frm came L) : L.length ≤ came.length := by
  rcases h with ⟨_, rfl⟩ | ⟨_, _, h⟩
  · exact Nat.zero_le _
  · exact isP_len h
theorem lsW_ex (N : Nat) (frm : Int) (came : List Arr) : ∃ L, LsW N frm came L := by
  by_cases h : N = 0 ∨ came.length < N
  · exact ⟨[], .inl ⟨h, rfl⟩⟩
  · obtain ⟨l, hl, _⟩ := isP_ex N came.length frm came (Nat.le_refl _)
    exact ⟨l, .inr ⟨by omega, by omega, hl⟩⟩
/-- the windows that are handed on are the document's -/
theorem lsW_winP {es : List Ev} {lv : List Int} {frm to : Int} {came : List Arr} {L : List (Int × Int)} (hm : ∀ x, x ∈ came ↔ x ∈ arrL (sitesL lv) (max frm 0) to es) (ho : came.Pairwise (fun x y => x.last ≤ y.last))
    (h : LsW ((sitesL lv).length * ((sitesL lv).length - 1)) (max frm 0) came L) : WinP es lv frm to L := by
  unfold WinP
  by_cases hs : Sev lv
  · rw [if_pos hs]
    have h2 := (sev_two (sitesL_lt lv) (sitesL_mem lv)).1 hs
    have hc := cameP_of (sitesL_lt lv) (sitesL_mem lv) h2 hm ho
    have hp : IsP ((sitesL lv).length * ((sitesL lv).length - 1)) (max frm 0) came L := by
      rcases h with ⟨hn, rfl⟩ | ⟨_, _, h⟩
      · have := pos_two h2
        have hn' : came.length < (sitesL lv).length * ((sitesL lv).length - 1) := by omega
        exact scan_few _ _ _ _ (by rw [cnt_all]; exact hn')
      · exact h
    exact isP_isW hc L (max frm 0) [] came rfl (Int.le_refl _) (fun x hx => by simp at hx) hp
  · rw [if_neg hs]
    have h2 : ¬ 2 ≤ (sitesL lv).length := fun c => hs ((sev_two (sitesL_lt lv) (sitesL_mem lv)).2 c)
    have h0 : (sitesL lv).length * ((sitesL lv).length - 1) = 0 := by
      rcases (by omega : (sitesL lv).length = 0 ∨ (sitesL lv).length = 1) with e | e <;> rw [e]
    rcases h with ⟨_, rfl⟩ | ⟨hp, _⟩
    · rfl
    · omega

/-- what is gathered -/
structure WI (w4 : World) (cv : Value) (N : Nat) (frm : Int) (pre : List (Int × Int)) (W : World) (v : Value) : Prop where
  box : Bx W w4.heap.size 28 #[v]
  row : OwW W w4.heap.size v pre
  hi : ∀ i, v.ownBlock = some i → w4.heap.size + 9 ≤ i
  b0 : Bx W (w4.heap.size + 1) 39 #[cv]
  b1 : Bx W (w4.heap.size + 2) 3 #[.int .i64 (N : Nat)]
  b2 : Bx W (w4.heap.size + 3) 3 #[.int .i64 frm]
  bel : Below w4.heap.size w4 W
theorem WI.kp {w4 : World} {cv : Value} {N : Nat} {frm : Int} {pre : List (Int × Int)} {W W' : World} {v : Value} {S : Nat → Prop} (h : WI w4 cv N frm pre W v) (k : Kp S W W') (hS : ∀ i, S i → w4.heap.size + 4 ≤ i ∧ i < w4.heap.size + 9) : WI w4 cv N frm pre W' v :=
  ⟨h.box.kp k (fun e => by have := hS _ e; omega), owns_kp h.row k (fun i hi e => by have := hS _ e; have := h.hi i hi; omega), h.hi, h.b0.kp k (fun e => by have := hS _ e; omega), h.b1.kp k (fun e => by have := hS _ e; omega), h.b2.kp k (fun e => by have := hS _ e; omega), k.below h.bel (fun i e => by have := hS i e; omega)⟩
theorem WI.below {w4 : World} {cv : Value} {N : Nat} {frm : Int} {pre : List (Int × Int)} {W W' : World} {v : Value} (h : WI w4 cv N frm pre W v) (hb : Below W.heap.size W W') : WI w4 cv N frm pre W' v := h.kp (S := fun _ => False) (Kp.of_below hb) (fun i e => e.elim)

theorem kq_kp {S : Nat → Prop} {W W' : World} (k : Kp S W W') {B T : Nat} (hS : ∀ i, S i → i < B ∨ T ≤ i) : KQ B T W W' := ⟨k.size, fun i h1 h2 h3 => k.block i h3 (fun e => by have := hS i e; omega)⟩

set_option maxRecDepth 100000 in
set_option maxHeartbeats 8000000 in
theorem Windows_in (w : World) (ev sv : Value) (es : List Ev) (lv : List Int) (frm to : Int) (hev : RV w ev es) (hsv : RN w sv lv) (hl : es.length ≤ 100000) (hlv : lv.length ≤ 10000) (hto : to ≤ 9223372036854775807) :
    Calls Try.prog 10 #[ev, sv, .int .i64 frm, .int .i64 to] w fun e W => ∃ v l, e = .returned v ∧ OwW W w.heap.size v l ∧ WinP es lv frm to l ∧ l.length ≤ es.length ∧ Below w.heap.size w W := by
  obtain ⟨ae, ce, rfl⟩ := hev.form
  obtain ⟨av, cs, rfl⟩ := hsv.form
  have HD := hide (distinct_in w _ lv hsv (by omega))
  have HE := hide hev
  refine (callsIn_wide (n := 6)).1 ?_
  refine callsIn_of_wp_marks Try.func10 rfl trivial ?_ rfl
  simp only [Try.ntmps10, List.size_toArray, List.length_cons, List.length_nil, Nat.reduceAdd, Nat.reduceSub, Array.replicate_succ, Array.replicate_zero, List.push_toArray, List.append_toArray, List.nil_append, List.cons_append]
  refine wpIn_wide.2 ?_
  clear hev hsv
  go_wp2_with (go_at_call 16; refine (unhide HD).mono ?_; rintro e W1 ⟨v1, rfl, ho1, hb1⟩; obtain ⟨a1, c1, rfl⟩ := ho1.form; have Ho1 := hide ho1; have Hb1 := hide hb1; clear ho1 hb1)
  have Hss := hide (sitesL_lt lv)
  have Hsl := hide (sitesL_len lv)
  have Hfin := hide (fun (came : List Arr) (L : List (Int × Int)) => lsW_winP (es := es) (lv := lv) (frm := frm) (to := to) (came := came) (L := L))
  have Har := hide (fun (a : Option Addr) (c : Nat) (h : OwN W1 w.heap.size (.slice a (sitesL lv).length c) (sitesL lv)) => arrivals_in W1 (.slice ae es.length ce) (.slice a (sitesL lv).length c) es (sitesL lv) (max frm 0) to ((unhide HE).below (unhide Hb1)) h.row (sitesL_lt lv) (by omega) (by have := sitesL_len lv; omega))
  generalize sitesL lv = ss at *
  obtain ⟨ns, hns⟩ : ∃ ns, ss.length = ns := ⟨_, rfl⟩
  have hsl : ns ≤ 10000 := by have := unhide Hsl; omega
  rw [hns] at Ho1 Har ⊢
  have Har2 := hide (unhide Har a1 c1 (unhide Ho1))
  clear Har HD
  go_wp2_with fail
  refine (unhide Har2).mono ?_
  rintro e W2 ⟨vc, came, rfl, oc, hmem, hsrt, hlen, hb2⟩
  obtain ⟨ac, cc, rfl⟩ := oc.form
  obtain ⟨L, hL⟩ := lsW_ex (ns * (ns - 1)) (max frm 0) came
  have HWin : Hid (WinP es lv frm to L) := by
    have h := unhide Hfin came L hmem hsrt
    rw [hns] at h
    exact h hL
  have hLl := lsW_len hL
  have hcl : came.length ≤ 100000 := by omega
  have hpr : ∀ x ∈ came, x.pair < ns * (ns - 1) := fun x hx => by
    obtain ⟨e, _, ⟨_, _, ⟨q1, q2, q3⟩, _⟩, rfl⟩ := arrL_mem.1 ((hmem x).1 hx)
    have r1 := rk_mem (unhide Hss) q1
    have r2 := rk_mem (unhide Hss) q2
    rw [← hns]
    exact pnK_lt r1.1 r2.1 (fun e' => q3 (rk_inj (unhide Hss) q1 q2 e'))
  have hla : ∀ x ∈ came, -9223372036854775808 ≤ x.last ∧ x.last + 1 ≤ 9223372036854775807 := fun x hx => by
    obtain ⟨e, _, ⟨_, _, _, q1, q2⟩, rfl⟩ := arrL_mem.1 ((hmem x).1 hx)
    simp only []
    constructor <;> omega
  have Hoc := hide oc
  have Hb2 := hide (bnext (unhide Hb1) hb2)
  have HLs := hide hL
  have Hpr := hide hpr
  have Hla := hide hla
  have hN9 : ns * (ns - 1) ≤ 1000000000 := by
    have : ns * (ns - 1) ≤ 10000 * 10000 := Nat.mul_le_mul hsl (by omega)
    omega
  clear oc hmem hsrt hb2 hL hpr hla Har2 Hfin Ho1 HE Hss Hsl Hb1
  have Hpc := hide (fun W => pairCount_in ns hsl W)
  generalize ns * (ns - 1) = N at *
  generalize max frm 0 = frm' at *
  go_wp2_with (first | (go_at_call 19; refine (unhide Hpc _).mono ?_; rintro e W3 ⟨rfl, rfl⟩) | (go_at_call 18; refine (windows_in _ _ _ _ _ _).mono ?_; rintro e W4 ⟨rfl, x0, x1, x2, hb4, hz4⟩))
  obtain ⟨m, hm⟩ : ∃ m, came.length = m := ⟨_, rfl⟩
  have Hm := hide hm
  rw [hm] at x0 hLl hcl hlen ⊢
  obtain ⟨B, hB⟩ : ∃ B, W2.heap.size = B := ⟨_, rfl⟩
  have HBs := hide hB
  have hz3 : (W2.alloc (.cells #[.slice none 0 0] 28)).heap.size = B + 1 := by simp [hB]
  have y0 := Bx.new W2 28 #[.slice none 0 0]
  have yb := ballc (Below.refl W2.heap.size W2) (.cells #[.slice none 0 0] 28)
  rw [hz3] at x0 x1 x2 hz4
  rw [hB]
  have h0 : WI W2 (.slice ac m cc) N frm' [] W4 (.slice none 0 0) :=
    ⟨y0.below hb4, World.ownsRow_nil _ _ _ _, fun i hi => by (cases hi), by rw [hB]; exact x0, by rw [hB]; exact x1, by rw [hB]; exact x2, bnext yb hb4⟩
  have hrow2 := (unhide Hoc).row
  rw [hm] at hrow2
  have Hrow := hide hrow2
  have hz4' : W4.heap.size = B + 4 := by omega
  clear x0 x1 x2 y0 yb hb4 hz3 hB hm hz4 hrow2 Hoc Hpc
  refine (wpIn_wide (n := 6)).1 ?_
  rename_i KK hKK
  have hI : AbidesAll W4.heap.size (W4.heap.size + 2 + 3) (fun pre W => ∃ v, WI W2 (.slice ac m cc) N frm' pre W v) := by
    rintro pre W W' row ⟨v, h⟩ hg hr
    have hB := unhide HBs
    exact ⟨v, h.kp (Kp.of_grown hg (N := fun i => row = some i) (fun k hk => hk)) (fun i hi => by have := hr i hi; omega)⟩
  refine range_KA (gf := 29) (lb := #[.pointer (some ⟨B + 1 + 1, 0, none⟩), .pointer (some ⟨B + 1, 0, none⟩), .pointer (some ⟨B + 1 + 2, 0, none⟩)]) rfl (enters_of Try.func29 (by kernel_rfl) rfl)
    (windows_seq (B + 1 + 1) (B + 1) (B + 1 + 2) N frm' (.slice ac m cc) came L W4 hN9 (by rw [unhide Hm]; omega) (unhide Hpr) (unhide Hla) (unhide HLs)) (Below.refl _ _) (fun _ => rfl) _
    (fun _ _ _ => False) hI (fun _ _ _ _ _ h _ _ => h) ?hKx ⟨_, h0⟩
    (fun x a' W => ∃ b, a' = { tmps := #[.slice ae es.length ce, .slice av lv.length cs, .int .i64 frm', .int .i64 to, undef, undef, undef, undef, .slice none 0 0, .slice a1 ns c1, .slice ac m cc, .pointer (some ⟨B, 0, none⟩), .pointer (some ⟨b, 0, none⟩), .int .i64 frm, .int .i64 frm', .slice av lv.length cs, .slice a1 ns c1, .slice ae es.length ce, .slice a1 ns c1, .int .i64 frm', .int .i64 to, .slice ac m cc, .slice ac m cc, .slice a1 ns c1, .int .i64 (ns : Nat), .int .i64 (N : Nat), .int .i64 frm', .func (.func 29) #[] #[.pointer (some ⟨B + 1 + 1, 0, none⟩), .pointer (some ⟨B + 1, 0, none⟩), .pointer (some ⟨B + 1 + 2, 0, none⟩)], .agg #[.int .i64 x.1, .int .i64 x.2], undef, undef, undef, undef, undef], defers := [] } ∧ B + 9 ≤ b ∧ Bx W b 32 #[.int .i64 x.1, .int .i64 x.2])
    ?hAx ?assign ?body ?done ?stop
  case hKx =>
    rintro pre W ⟨v, h⟩
    have hB := unhide HBs
    have q0 := h.b0; have q1 := h.b1; have q2 := h.b2
    rw [hB] at q0 q1 q2
    exact ⟨q1.cell 0 _ rfl, q0.cell 0 _ rfl, q2.cell 0 _ rfl, (unhide Hrow).below h.bel⟩
  case hAx =>
    rintro x a' _ W W' row ⟨b, h1, h2, h3⟩ hg hr
    exact ⟨b, h1, h2, h3.kp (Kp.of_grown hg (N := fun i => row = some i) (fun k hk => hk)) (fun e => by have := hr b e; omega)⟩
  case assign =>
    rintro l pre ⟨x1, x2⟩ rest W K hpre hz ⟨v, h⟩ hK
    unfold argW
    gi_wp2
    have hb := ballc (Below.refl _ W) (.cells #[.int .i64 x1, .int .i64 x2] 32)
    exact hK _ _ (kq_kp (S := fun _ => False) (Kp.of_below hb) (fun i e => e.elim)) ⟨_, h.below hb⟩ ⟨W.heap.size, rfl, by omega, Bx.new W 32 #[.int .i64 x1, .int .i64 x2]⟩
  case body =>
    rintro l pre ⟨x1, x2⟩ rest a' W hpre hzW ⟨v, h⟩ ⟨b, rfl, hb, hbx⟩
    have hB := unhide HBs
    have hl9 : pre.length < 100000 := by have := congrArg List.length hpre; simp at this; omega
    obtain ⟨v', W2', hr, hown, hgr, hat⟩ := append_wn W 28 W2.heap.size v pre (x1, x2) h.row h.bel.size (by omega)
    obtain ⟨av', cv', rfl⟩ := OwW.form h.row
    obtain ⟨a', c', rfl⟩ := OwW.form hown
    have bA := ballc (Below.refl W.heap.size W) (.cells #[.int .i64 x1, .int .i64 x2] 32)
    have hA := h.below bA
    have K2 := Kp.of_grown (N := fun k => (Value.slice av' pre.length cv').ownBlock = some k) hgr (fun k e => e)
    have hh := h.hi
    have hbox := h.box
    rw [hB] at hbox hh
    have hlt := hbox.lt
    have xA := hbox.below bA
    have x2' := xA.kp K2 (fun e => by have := hh _ e; omega)
    have c0 := hbox.cell 0 _ rfl
    have c0' := xA.cell 0 _ rfl
    have c2 := x2'.cell 0 _ rfl
    have f2 := x2'.frozen 0
    have l2 := x2'.lt
    have d0 := hbx.cell 0 _ rfl
    have d1 := hbx.cell 1 _ rfl
    have Hr := hide hr
    have ks := Kp.set (N := fun i => i = B) W2' ⟨B, 0, none⟩ (.slice a' (pre ++ [(x1, x2)]).length c') rfl
    have R : Hid (KQ W4.heap.size (W4.heap.size + 2 + 3) W (W2'.setCell ⟨B, 0, none⟩ (.slice a' (pre ++ [(x1, x2)]).length c')) ∧ ∃ v, WI W2 (.slice ac m cc) N frm' (pre ++ [(x1, x2)]) (W2'.setCell ⟨B, 0, none⟩ (.slice a' (pre ++ [(x1, x2)]).length c')) v) := by
      have hlo : ∀ i, (Value.slice a' (pre ++ [(x1, x2)]).length c').ownBlock = some i → B + 9 ≤ i := fun i hi => by
        rcases hat with e | e
        · exact hh i (by rw [← e]; exact hi)
        · rw [e] at hi; cases hi; omega
      refine ⟨((kq_kp (Kp.of_below (N := fun _ => False) bA) (fun i e => e.elim)).trans (kq_kp K2 (fun i e => .inr (by have := hh i e; omega)))).trans (kq_kp ks (fun i e => by omega)), .slice a' (pre ++ [(x1, x2)]).length c', ?_⟩
      refine ⟨by rw [hB]; simpa using x2'.set 0 (.slice a' (pre ++ [(x1, x2)]).length c'), owns_kp hown ks (fun i hi e => by have := hlo i hi; omega), fun i hi => by have := hlo i hi; omega, ?_, ?_, ?_, ?_⟩
      · exact (hA.b0.kp K2 (fun e => by have := hh _ e; omega)).kp ks (by omega)
      · exact (hA.b1.kp K2 (fun e => by have := hh _ e; omega)).kp ks (by omega)
      · exact (hA.b2.kp K2 (fun e => by have := hh _ e; omega)).kp ks (by omega)
      · exact ks.below (K2.below hA.bel (fun i e => by have := hh i e; omega)) (fun i e => by omega)
    have e9 : (pre ++ [(x1, x2)]).length = pre.length + 1 := by simp
    rw [e9] at Hr R
    rw [hz4'] at R ⊢
    clear hr hown hgr hat bA hA K2 hbox xA x2' ks e9 h hbx hh
    gi_wp2_with (gi_at_builtin; refine wpListIn_append_eq rfl _ _ 28 rfl _ _ _ rfl rfl (unhide Hr) ?_)
    exact unhide R
  case done =>
    rintro D W hD hzW ⟨v, h⟩ hdd
    subst hD
    refine hKK _ _ ?_
    have hB := unhide HBs
    obtain ⟨av', cv', rfl⟩ := OwW.form h.row
    have c0 := h.box.cell 0 _ rfl
    rw [hB] at c0
    have H := hide h
    clear h
    go_wp2
    refine ⟨by simp, .inl ⟨_, _, rfl, run_takeDeferred (ds := []) (by rw [← hz4']; exact hdd), ?_⟩⟩
    have h := unhide H
    have kk := Kp.of_grown (N := fun k => k = B + 4) (grownBy_putObj' W (B + 4) (.deferred none)) (fun k e => by cases e; rfl)
    refine ⟨_, results_tmp rfl _ _ _, ?_⟩
    have hw2 := (unhide Hb2).size
    refine ⟨_, L, rfl, owns_kp (owns_wk h.row hw2) kk (fun i hi e => by have := h.hi i hi; omega), unhide HWin, by omega, kk.below (bnext (unhide Hb2) h.bel) (fun i e => by omega)⟩
  case stop => rintro D c pre rest W hD hp h _; exact h.elim

end Sk
end Go.Proofs.Ytmglnaldpcmakaa
