/-
  The document's own Alarm: Due.
-/
import Derived.Test.YtknomhgglmgciaaZAR2
import Derived.Test.YtknomhgglmgciaaZAA5
set_option linter.unusedSimpArgs false
set_option linter.unusedVariables false
namespace Go.Proofs.Ytknomhgglmgciaa
open Go.RowKit Go.Lib

def FiV (M : List Tm) (z : Value) : Prop := (M = [] ∧ z = .int .i64 (-1)) ∨ ∃ (i : Nat) (x : Tm), M[i]? = some x ∧ minL M = some x ∧ z = .int .i64 (i : Nat)
theorem FiA.v {M : List Tm} {e : Ending} (h : FiA M e) : ∃ z, e = .returned z ∧ FiV M z := by
  rcases h with ⟨h, e⟩ | ⟨i, x, h1, h2, e⟩
  · exact ⟨_, e, .inl ⟨h, rfl⟩⟩
  · exact ⟨_, e, .inr ⟨i, x, h1, h2, rfl⟩⟩
/-- within the loop -/
structure RDJ (P : Nat → Prop) (w : World) (r : Nat) (ls ms : Int) (now : Int) (L : List Tm) (u z : Value) (wr : World) (ks : List Int) (M : List Tm) : Prop where
  own : OwN wr w.heap.size u ks
  rl : RL P wr r ls ms M
  gl : GL ls ms M
  i : DuI ms now L ks M
  len : M.length = L.length
  sh : ks.length + cntL now M ≤ L.length
  kp : Kp P w wr
  fi : FiV M z
/-- what a call of Due answers -/
def RDu (P : Nat → Prop) (w : World) (r : Nat) (ls ms : Int) (R : List Int × List Tm) (e : Ending) (W : World) : Prop := ∃ v, e = .returned v ∧ OwN W w.heap.size v R.1 ∧ RL P W r ls ms R.2 ∧ Kp P w W
theorem upd_set : ∀ {M : List Tm}, (M.map Tm.key).Nodup → ∀ {i : Nat} {x y : Tm}, M[i]? = some x → y.key = x.key → M.set i y = updL M y
  | [], _, _, _, _, h, _ => by simp at h
  | z :: M, hn, 0, x, y, h, e => by
    simp only [List.map_cons, List.nodup_cons] at hn
    simp at h
    subst h
    unfold updL
    rw [List.set_cons_zero, List.map_cons, if_pos e.symm]
    congr 1
    conv => lhs; rw [← List.map_id M]
    refine List.map_congr_left fun w hw => ?_
    rw [if_neg]
    · rfl
    · intro e2
      exact hn.1 (by rw [← e, ← e2]; exact List.mem_map_of_mem hw)
  | z :: M, hn, i + 1, x, y, h, e => by
    simp only [List.map_cons, List.nodup_cons] at hn
    have hx : M[i]? = some x := by simpa using h
    have := upd_set hn.2 hx e
    unfold updL at *
    rw [List.set_cons_succ, List.map_cons, this, if_neg]
    intro e2
    exact hn.1 (by rw [e2, e]; exact List.mem_map_of_mem (List.mem_of_getElem? hx))
theorem flat_set3 (M : List Tm) (i : Nat) (y : Tm) (hi : i < M.length) : (((flat encT M).set (i * 3) (.int .i64 y.key)).set (i * 3 + 1) (.int .i64 y.gap)).set (i * 3 + 2) (.int .i64 y.due) = flat encT (M.set i y) := by
  apply List.ext_getElem?
  intro j
  have hl := flat_len encT_len M
  have hl2 := flat_len encT_len (M.set i y)
  simp only [List.getElem?_set, List.length_set, hl]
  by_cases hj : j < M.length * 3
  · have h1 := flat_get encT_len (M.set i y) (j / 3) (j % 3) ((M.set i y)[j / 3]'(by rw [List.length_set]; omega)) (List.getElem?_eq_getElem _) (by omega)
    rw [show j / 3 * 3 + j % 3 = j by omega] at h1
    rw [h1]
    have h2 := flat_get encT_len M (j / 3) (j % 3) (M[j / 3]'(by omega)) (List.getElem?_eq_getElem _) (by omega)
    rw [show j / 3 * 3 + j % 3 = j by omega] at h2
    rw [h2, List.getElem_set]
    by_cases e : i = j / 3
    · rw [if_pos e]
      have : j = i * 3 ∨ j = i * 3 + 1 ∨ j = i * 3 + 2 := by omega
      rcases this with rfl | rfl | rfl
      · rw [if_neg (by omega), if_neg (by omega), if_pos rfl, if_pos (by omega), show (i * 3) % 3 = 0 by omega]; rfl
      · rw [if_neg (by omega), if_pos rfl, if_pos (by omega), show (i * 3 + 1) % 3 = 1 by omega]; rfl
      · rw [if_pos rfl, if_pos (by omega), show (i * 3 + 2) % 3 = 2 by omega]; rfl
    · rw [if_neg e, if_neg (by omega), if_neg (by omega), if_neg (by omega)]
  · have hj1 : (flat encT M)[j]? = none := List.getElem?_eq_none (by omega)
    have hj2 : (flat encT (M.set i y))[j]? = none := List.getElem?_eq_none (by rw [hl2, List.length_set]; omega)
    rw [hj1, hj2, if_neg (by omega), if_neg (by omega), if_neg (by omega)]

set_option maxRecDepth 100000 in
set_option maxHeartbeats 4000000 in
theorem rDue_in {P : Nat → Prop} {w : World} {r : Nat} {ls ms : Int} {L : List Tm} (h : RL P w r ls ms L) (hP : ∀ i, P i → i < w.heap.size) (gl : GL ls ms L) (hl : L.length ≤ 999999) (now : Int) :
    Calls Try.prog 28 #[.pointer (some ⟨r, 0, none⟩), .int .i64 now] w (RDu P w r ls ms (duA ms now L)) := by
  have HA := hide h
  have HT := hide (rtick_in now w)
  unfold duA
  cases hT : tickB now with
  | false =>
    rw [hT] at HT
    simp only [Bool.false_eq_true, if_false]
    clear h hP hT
    go_enter Try.func28, Try.ntmps28
    go_wp2_with fail
    refine (unhide HT).mono ?_
    rintro e W1 ⟨rfl, rfl⟩
    clear HT
    go_wp2
    go_ret
    exact ⟨_, rfl, World.ownsRow_nil _ _ _ _, unhide HA, Kp.refl _ _⟩
  | true =>
    rw [hT] at HT
    simp only [if_true]
    have hnow : 0 ≤ now ∧ now ≤ 2147483647 := by unfold tickB at hT; simpa using hT
    have HF := hide (first_in h (by omega) gl.nod)
    have H0 : Hid (∀ z X, Below w.heap.size w X → FiV L z → RDJ P w r ls ms now L (.slice none 0 0) z X [] L) := fun z X hX hz => ⟨World.ownsRow_nil _ _ _ _, h.below hX, gl, DuI.start _ _ _, rfl, by have := cntL_le now L; simp; omega, Kp.of_below hX, hz⟩
    clear h hT HA
    go_enter Try.func28, Try.ntmps28
    go_wp2_with fail
    refine (unhide HT).mono ?_
    rintro e W1 ⟨rfl, rfl⟩
    clear HT
    go_wp2_with fail
    refine (unhide HF).mono ?_
    rintro e W1 ⟨he, hb1⟩
    obtain ⟨z0, rfl, hz0⟩ := he.v
    have HJ0 := hide (unhide H0 z0 W1 hb1 hz0)
    clear HF H0 he hb1 hz0
    go_wp2
    go_loopw [5, 6] (fun u z wr => ∃ ks M, Hid (RDJ P w r ls ms now L u z wr ks M)) (fun u _ _ => L.length + 1 - slN u)
    case atStart => exact ⟨[], L, HJ0⟩
    case round =>
      clear HJ0
      obtain ⟨ks, M, HJ⟩ := hrel
      have J := unhide HJ
      obtain ⟨ua, uc, rfl⟩ := J.own.form
      rcases J.fi with ⟨hM, rfl⟩ | ⟨i, x, hi, hmin, rfl⟩
      · have hf := hide (J.i.fin (fun x hx => by rw [hM] at hx; cases hx))
        clear J hM
        go_wp2
        go_ret
        have J := unhide HJ
        rw [unhide hf]
        exact ⟨_, rfl, J.own, J.rl, J.kp⟩
      · have hil := (List.getElem?_eq_some_iff.1 hi).1
        have hlen := J.len
        obtain ⟨v, hs⟩ := J.rl
        obtain ⟨a, c, rfl⟩ := hs.form
        have c1 := hs.c1
        have c2 := hs.c2
        obtain ⟨_, g, rfl, hPg, fz, k0, k1, k2⟩ := hs.at hi
        have hi0 : (0 : Int) ≤ (i : Int) := by omega
        have hin : (i : Int) < (M.length : Int) := by omega
        by_cases hd : x.due ≤ now
        · have hx := List.mem_of_getElem? hi
          have hgap := again_ok J.gl hx
          have hgb := J.gl.gap x hx
          have hpos := cnt_pos hx hd
          have hsh := J.sh
          obtain ⟨X0, hX0⟩ : ∃ X0, wr.alloc (.cells #[.int .i64 x.key, .int .i64 x.gap, .int .i64 x.due] 70) = X0 := ⟨_, rfl⟩
          have hb0 : Below wr.heap.size wr X0 := by rw [← hX0]; exact ballc (Below.refl _ _) _
          have hz0 : X0.heap.size = wr.heap.size + 1 := by rw [← hX0]; simp
          have hB0 : Bx X0 wr.heap.size 70 #[.int .i64 x.key, .int .i64 x.gap, .int .i64 x.due] := by rw [← hX0]; exact Bx.new _ _ _
          have y0 : X0.cell? ⟨wr.heap.size, 0, none⟩ = some (.int .i64 x.key) := hB0.cell 0 _ rfl
          have own0 : OwN X0 w.heap.size (.slice ua ks.length uc) ks := own_kp (N := fun _ => False) J.own (Kp.of_below hb0) (fun _ _ e => e)
          obtain ⟨v', X1, hr, o1, g1, hv1⟩ := append_n X0 52 w.heap.size _ ks x.key own0 (by have := J.kp.size; omega) (by omega)
          have hubl : ∀ j, (Value.slice ua ks.length uc).ownBlock = some j → w.heap.size ≤ j ∧ j < wr.heap.size := fun j hj => World.ownsRow.lt J.own j hj
          have k01 : Kp (fun j => (Value.slice ua ks.length uc).ownBlock = some j) X0 X1 := (Kp.of_below (N := fun j => (Value.slice ua ks.length uc).ownBlock = some j) (ballc (Below.refl _ X0) (.cells #[.int .i64 x.key] 3))).trans (Kp.of_grown (N := fun j => (Value.slice ua ks.length uc).ownBlock = some j) g1 (fun j hj => hj)) (fun j hj => .inl hj)
          have hB1 : Bx X1 wr.heap.size 70 #[.int .i64 x.key, .int .i64 x.gap, .int .i64 x.due] := hB0.kp k01 (fun e => by have := hubl _ e; omega)
          have kw1 : Kp (fun j => w.heap.size ≤ j) wr X1 := (Kp.of_below (N := fun j => w.heap.size ≤ j) hb0).trans k01 (fun j hj => .inl (hubl j hj).1)
          have hs1 := hs.kp kw1 (fun j hj e => by have := hP j e; omega)
          have d1 := hs1.c1
          have d2 := hs1.c2
          obtain ⟨_, g', eg, _, fz1, q0, q1, q2⟩ := hs1.at hi
          simp at eg
          subst eg
          have fq0 := fz1 (i * 3)
          have fq1 := fz1 (i * 3 + 1)
          have fq2 := fz1 (i * 3 + 2)
          have e0 : X1.cell? ⟨wr.heap.size, 0, none⟩ = some (.int .i64 x.key) := hB1.cell 0 _ rfl
          have e1 : X1.cell? ⟨wr.heap.size, 1, none⟩ = some (.int .i64 x.gap) := hB1.cell 1 _ rfl
          have e2 : X1.cell? ⟨wr.heap.size, 2, none⟩ = some (.int .i64 x.due) := hB1.cell 2 _ rfl
          have f1 := hB1.frozen 1
          have f2 := hB1.frozen 2
          have hgl : g < w.heap.size := hP g hPg
          have hwl := J.kp.size
          have hne : g ≠ wr.heap.size := by omega
          have hne' : wr.heap.size ≠ g := by omega
          have hrl := hP r hs.pr
          have hrn : r ≠ wr.heap.size := by omega
          have hrn' : wr.heap.size ≠ r := by omega
          have hw1 : -9223372036854775808 ≤ 2 * x.gap := by omega
          have hw2 : 2 * x.gap ≤ 9223372036854775807 := by omega
          obtain ⟨va, vc, ev⟩ := OwN.form o1
          subst ev
          have hll : (ks ++ [x.key]).length = ks.length + 1 := by simp
          rw [hll] at hr
          have HH := hide (And.intro hs1 (And.intro hmin (And.intro hi (And.intro o1 (And.intro kw1 hpos)))))
          have HB1 := hide hB1
          have HW := hide hwl
          have HPg := hide hPg
          have HVb : Hid (∀ j, (Value.slice va (ks ++ [x.key]).length vc).ownBlock = some j → j ≠ wr.heap.size) := fun j hj e => by
            rcases hv1 with h1 | h1
            · have := hubl j (by rw [← h1]; exact hj); omega
            · rw [hj] at h1; simp at h1; omega
          replace hr := hide hr
          have HN := hide (And.intro hlen hil)
          obtain ⟨m, hm⟩ : ∃ m, M.length = m := ⟨_, rfl⟩
          have Hm := hide hm
          rw [hm] at c2 d2 hin
          have hml : m ≤ 999999 := by omega
          clear J hs hmin hi hx hpos hsh hb0 hz0 hB0 own0 o1 g1 hv1 hubl k01 hB1 kw1 hs1 fz1 fz hil hlen hgl hwl hll hm
          by_cases hgt : ms < 2 * x.gap
          · have hf : decide (ms < 2 * x.gap) = true := decide_eq_true hgt
            have hw3 : -9223372036854775808 ≤ now + ms := by omega
            have hw4 : now + ms ≤ 9223372036854775807 := by omega
            have hGm : Hid (min (2 * x.gap) ms = ms) := by unfold Hid; omega
            have Hd := hide hd
            have HG := hide (And.intro hgap hgb)
            clear hgap hgb
            go_wp2_with (at_builtin; refine wpList_append_eq rfl _ _ _ _ rfl _ _ _ _ rfl rfl (unhide hr) ?_)
            go_quiet (fail)
            go_wp2
            obtain ⟨Y, hY⟩ : ∃ Y, (((X1.setCell ⟨wr.heap.size, 1, none⟩ (.int .i64 (2 * x.gap))).drewN nq).setCell ⟨wr.heap.size, 1, none⟩ (.int .i64 ms)).setCell ⟨wr.heap.size, 2, none⟩ (.int .i64 (now + ms)) = Y := ⟨_, rfl⟩
            rw [hY]
            obtain ⟨hs1, hmin, hi, o1, kw1, hpos⟩ := unhide HH
            have hB1 := unhide HB1
            have kY : Kp (fun j => j = wr.heap.size) X1 Y := by
              rw [← hY]
              exact ((((Kp.set (N := fun j => j = wr.heap.size) _ ⟨wr.heap.size, 1, none⟩ _ rfl).draw nq).trans (Kp.set (N := fun j => j = wr.heap.size) _ ⟨wr.heap.size, 1, none⟩ _ rfl) (fun j hj => .inl hj)).trans (Kp.set (N := fun j => j = wr.heap.size) _ ⟨wr.heap.size, 2, none⟩ _ rfl) (fun j hj => .inl hj))
            have bY : Bx Y wr.heap.size 70 #[.int .i64 x.key, .int .i64 ms, .int .i64 (now + ms)] := by
              rw [← hY]
              exact (((show Bx ((X1.setCell ⟨wr.heap.size, 1, none⟩ (.int .i64 (2 * x.gap))).drewN nq) wr.heap.size _ _ from (hB1.set 1 (.int .i64 (2 * x.gap))))).set 1 (.int .i64 ms)).set 2 (.int .i64 (now + ms))
            have hsY := hs1.kp kY (fun j hj e => by have := hP j e; have := unhide HW; omega)
            have t0 : Y.cell? ⟨wr.heap.size, 0, none⟩ = some (.int .i64 x.key) := bY.cell 0 _ rfl
            have t1 : Y.cell? ⟨wr.heap.size, 1, none⟩ = some (.int .i64 ms) := bY.cell 1 _ rfl
            have t2 : Y.cell? ⟨wr.heap.size, 2, none⟩ = some (.int .i64 (now + ms)) := bY.cell 2 _ rfl
            have s2 := hsY.c2
            rw [unhide Hm] at s2
            obtain ⟨_, g', eg, _, fzY, p0, p1, p2⟩ := hsY.at hi
            simp at eg
            subst eg
            have fp0 := fzY (i * 3)
            have fp1 := fzY (i * 3 + 1)
            have fp2 := fzY (i * 3 + 2)
            obtain ⟨Z, hZ⟩ : ∃ Z, ((Y.setCell ⟨g, i * 3, none⟩ (.int .i64 x.key)).setCell ⟨g, i * 3 + 1, none⟩ (.int .i64 ms)).setCell ⟨g, i * 3 + 2, none⟩ (.int .i64 (now + ms)) = Z := ⟨_, rfl⟩
            have hag : again ms now x = ⟨x.key, ms, now + ms⟩ := by unfold again; rw [unhide hGm]
            have hgl := (unhide HJ).gl
            have hil := (List.getElem?_eq_some_iff.1 hi).1
            have hset : M.set i (again ms now x) = updL M (again ms now x) := upd_set hgl.nod hi rfl
            have kZ : Kp (fun j => j = g) Y Z := by
              rw [← hZ]
              exact ((Kp.set (N := fun j => j = g) Y ⟨g, i * 3, none⟩ _ rfl).trans (Kp.set (N := fun j => j = g) _ ⟨g, i * 3 + 1, none⟩ _ rfl) (fun j hj => .inl hj)).trans (Kp.set (N := fun j => j = g) _ ⟨g, i * 3 + 2, none⟩ _ rfl) (fun j hj => .inl hj)
            have hrg : r ≠ g := fun e => by
              obtain ⟨g2, c2', e2, _, cur, hbb⟩ := owns_some hsY.row (by omega)
              simp at e2
              obtain ⟨rfl, _⟩ := e2
              exact Bx.apart hsY.bx hbb (by decide) e
            have hsZ : RS P Z r ls ms (.slice (some ⟨g, 0, none⟩) M.length c) (updL M (again ms now x)) := by
              refine ⟨hsY.bx.kp kZ hrg, ?_, hsY.pr, hsY.pk⟩
              have z1 := (hsY.row.stored (i * 3) (.int .i64 x.key)).1
              have z2 := (z1.stored (i * 3 + 1) (.int .i64 ms)).1
              have z3 := (z2.stored (i * 3 + 2) (.int .i64 (now + ms))).1
              rw [hZ] at z3
              have hfl := flat_set3 M i (again ms now x) hil
              rw [hag] at hfl hset
              simp only at hfl
              rw [hfl, hset, ← hag] at z3
              rw [updL_len]
              exact z3
            have hglU : GL ls ms (updL M (again ms now x)) := hgl.again (List.mem_of_getElem? hi) hnow
            have HF := hide (fun (X : World) (hX : Below Z.heap.size Z X) => first_in (RL.below ⟨_, hsZ⟩ hX) (by rw [updL_len]; have := (unhide HN).1; omega) hglU.nod)
            have kwZ : Kp (fun j => P j ∨ w.heap.size ≤ j) wr Z := ((kw1.wk (N' := fun j => P j ∨ w.heap.size ≤ j) (fun j hj => .inr hj)).trans kY (fun j hj => .inl (.inr (by have := unhide HW; omega)))).trans kZ (fun j hj => .inl (.inl (by rw [hj]; exact unhide HPg)))
            have kXZ : Kp (fun j => P j ∨ j = wr.heap.size) X1 Z := (kY.wk (N' := fun j => P j ∨ j = wr.heap.size) (fun j hj => .inr hj)).trans kZ (fun j hj => .inl (.inl (by rw [hj]; exact unhide HPg)))
            have HZ := hide (And.intro hsZ (And.intro hglU (And.intro kwZ kXZ)))
            clear hs1 hmin hi o1 kw1 hpos hB1 kY bY hsY hag hgl hil hset kZ hrg hsZ hglU kwZ kXZ fzY q0 q1 q2 fq0 fq1 fq2 e0 e1 e2 f1 f2 d1 d2 c1 c2 k0 k1 k2
            go_region
            all_goals (
              go_wp2_with fail
              refine (unhide HF _ ((Below.refl _ _).drew)).mono ?_
              rintro e W9 ⟨he, hb9⟩
              obtain ⟨z9, rfl, hz9⟩ := he.v
              replace hb9 := hide hb9
              replace hz9 := hide hz9
              clear HF he
              go_wp2
              go_roundw
              case rel =>
                obtain ⟨hs1, hmin, hi, o1, kw1, hpos⟩ := unhide HH
                obtain ⟨hsZ, hglU, kwZ, kXZ⟩ := unhide HZ
                have J := unhide HJ
                have hd := unhide Hd
                have hx := List.mem_of_getElem? hi
                have kd : Kp (fun _ => False) Z W9 := (Kp.refl (fun _ => False) Z).drew.trans (Kp.of_below (N := fun _ => False) (unhide hb9)) (fun _ e => e.elim)
                refine ⟨ks ++ [x.key], updL M (again ms now x), hide ⟨?_, RL.kp ⟨_, hsZ⟩ kd (fun _ e => e.elim), hglU, J.i.more J.gl hmin hd, by rw [updL_len]; exact J.len, ?_, ?_, unhide hz9⟩⟩
                · have o2 : OwN Z w.heap.size (.slice va (ks ++ [x.key]).length vc) (ks ++ [x.key]) := owns_kp o1 kXZ (fun j hj e => by
                    have h1 := (World.ownsRow.lt o1 j hj).1
                    rcases e with e | e
                    · have := hP j e; omega
                    · exact unhide HVb j hj e)
                  have o3 := own_kp o2 kd (fun _ _ e => e)
                  simpa using o3
                · have hc := cntL_upd J.gl.nod hx hd (y := again ms now x) rfl (again_due J.gl hx now)
                  have := J.sh
                  rw [List.length_append]
                  simp only [List.length_cons, List.length_nil]
                  omega
                · exact ((J.kp.trans kwZ (fun j hj => hj)).trans kd (fun _ e => e.elim))
              case measure =>
                have hpos := (unhide HH).2.2.2.2.2
                have := (unhide HJ).sh
                show L.length + 1 - (ks.length + 1) < L.length + 1 - ks.length
                omega)
          · have hf : decide (ms < 2 * x.gap) = false := decide_eq_false hgt
            have hw3 : -9223372036854775808 ≤ now + 2 * x.gap := by omega
            have hw4 : now + 2 * x.gap ≤ 9223372036854775807 := by omega
            have hGm : Hid (min (2 * x.gap) ms = 2 * x.gap) := by unfold Hid; omega
            have Hd := hide hd
            have HG := hide (And.intro hgap hgb)
            clear hgap hgb
            go_wp2_with (at_builtin; refine wpList_append_eq rfl _ _ _ _ rfl _ _ _ _ rfl rfl (unhide hr) ?_)
            go_quiet (fail)
            go_wp2
            obtain ⟨Y, hY⟩ : ∃ Y, ((X1.setCell ⟨wr.heap.size, 1, none⟩ (.int .i64 (2 * x.gap))).drewN nq).setCell ⟨wr.heap.size, 2, none⟩ (.int .i64 (now + 2 * x.gap)) = Y := ⟨_, rfl⟩
            rw [hY]
            obtain ⟨hs1, hmin, hi, o1, kw1, hpos⟩ := unhide HH
            have hB1 := unhide HB1
            have kY : Kp (fun j => j = wr.heap.size) X1 Y := by
              rw [← hY]
              exact (((Kp.set (N := fun j => j = wr.heap.size) _ ⟨wr.heap.size, 1, none⟩ _ rfl).draw nq).trans (Kp.set (N := fun j => j = wr.heap.size) _ ⟨wr.heap.size, 2, none⟩ _ rfl) (fun j hj => .inl hj))
            have bY : Bx Y wr.heap.size 70 #[.int .i64 x.key, .int .i64 (2 * x.gap), .int .i64 (now + 2 * x.gap)] := by
              rw [← hY]
              exact ((show Bx ((X1.setCell ⟨wr.heap.size, 1, none⟩ (.int .i64 (2 * x.gap))).drewN nq) wr.heap.size _ _ from (hB1.set 1 (.int .i64 (2 * x.gap))))).set 2 (.int .i64 (now + 2 * x.gap))
            have hsY := hs1.kp kY (fun j hj e => by have := hP j e; have := unhide HW; omega)
            have t0 : Y.cell? ⟨wr.heap.size, 0, none⟩ = some (.int .i64 x.key) := bY.cell 0 _ rfl
            have t1 : Y.cell? ⟨wr.heap.size, 1, none⟩ = some (.int .i64 (2 * x.gap)) := bY.cell 1 _ rfl
            have t2 : Y.cell? ⟨wr.heap.size, 2, none⟩ = some (.int .i64 (now + 2 * x.gap)) := bY.cell 2 _ rfl
            have s2 := hsY.c2
            rw [unhide Hm] at s2
            obtain ⟨_, g', eg, _, fzY, p0, p1, p2⟩ := hsY.at hi
            simp at eg
            subst eg
            have fp0 := fzY (i * 3)
            have fp1 := fzY (i * 3 + 1)
            have fp2 := fzY (i * 3 + 2)
            obtain ⟨Z, hZ⟩ : ∃ Z, ((Y.setCell ⟨g, i * 3, none⟩ (.int .i64 x.key)).setCell ⟨g, i * 3 + 1, none⟩ (.int .i64 (2 * x.gap))).setCell ⟨g, i * 3 + 2, none⟩ (.int .i64 (now + 2 * x.gap)) = Z := ⟨_, rfl⟩
            have hag : again ms now x = ⟨x.key, 2 * x.gap, now + 2 * x.gap⟩ := by unfold again; rw [unhide hGm]
            have hgl := (unhide HJ).gl
            have hil := (List.getElem?_eq_some_iff.1 hi).1
            have hset : M.set i (again ms now x) = updL M (again ms now x) := upd_set hgl.nod hi rfl
            have kZ : Kp (fun j => j = g) Y Z := by
              rw [← hZ]
              exact ((Kp.set (N := fun j => j = g) Y ⟨g, i * 3, none⟩ _ rfl).trans (Kp.set (N := fun j => j = g) _ ⟨g, i * 3 + 1, none⟩ _ rfl) (fun j hj => .inl hj)).trans (Kp.set (N := fun j => j = g) _ ⟨g, i * 3 + 2, none⟩ _ rfl) (fun j hj => .inl hj)
            have hrg : r ≠ g := fun e => by
              obtain ⟨g2, c2', e2, _, cur, hbb⟩ := owns_some hsY.row (by omega)
              simp at e2
              obtain ⟨rfl, _⟩ := e2
              exact Bx.apart hsY.bx hbb (by decide) e
            have hsZ : RS P Z r ls ms (.slice (some ⟨g, 0, none⟩) M.length c) (updL M (again ms now x)) := by
              refine ⟨hsY.bx.kp kZ hrg, ?_, hsY.pr, hsY.pk⟩
              have z1 := (hsY.row.stored (i * 3) (.int .i64 x.key)).1
              have z2 := (z1.stored (i * 3 + 1) (.int .i64 (2 * x.gap))).1
              have z3 := (z2.stored (i * 3 + 2) (.int .i64 (now + 2 * x.gap))).1
              rw [hZ] at z3
              have hfl := flat_set3 M i (again ms now x) hil
              rw [hag] at hfl hset
              simp only at hfl
              rw [hfl, hset, ← hag] at z3
              rw [updL_len]
              exact z3
            have hglU : GL ls ms (updL M (again ms now x)) := hgl.again (List.mem_of_getElem? hi) hnow
            have HF := hide (fun (X : World) (hX : Below Z.heap.size Z X) => first_in (RL.below ⟨_, hsZ⟩ hX) (by rw [updL_len]; have := (unhide HN).1; omega) hglU.nod)
            have kwZ : Kp (fun j => P j ∨ w.heap.size ≤ j) wr Z := ((kw1.wk (N' := fun j => P j ∨ w.heap.size ≤ j) (fun j hj => .inr hj)).trans kY (fun j hj => .inl (.inr (by have := unhide HW; omega)))).trans kZ (fun j hj => .inl (.inl (by rw [hj]; exact unhide HPg)))
            have kXZ : Kp (fun j => P j ∨ j = wr.heap.size) X1 Z := (kY.wk (N' := fun j => P j ∨ j = wr.heap.size) (fun j hj => .inr hj)).trans kZ (fun j hj => .inl (.inl (by rw [hj]; exact unhide HPg)))
            have HZ := hide (And.intro hsZ (And.intro hglU (And.intro kwZ kXZ)))
            clear hs1 hmin hi o1 kw1 hpos hB1 kY bY hsY hag hgl hil hset kZ hrg hsZ hglU kwZ kXZ fzY q0 q1 q2 fq0 fq1 fq2 e0 e1 e2 f1 f2 d1 d2 c1 c2 k0 k1 k2
            go_region
            all_goals (
              go_wp2_with fail
              refine (unhide HF _ ((Below.refl _ _).drew)).mono ?_
              rintro e W9 ⟨he, hb9⟩
              obtain ⟨z9, rfl, hz9⟩ := he.v
              replace hb9 := hide hb9
              replace hz9 := hide hz9
              clear HF he
              go_wp2
              go_roundw
              case rel =>
                obtain ⟨hs1, hmin, hi, o1, kw1, hpos⟩ := unhide HH
                obtain ⟨hsZ, hglU, kwZ, kXZ⟩ := unhide HZ
                have J := unhide HJ
                have hd := unhide Hd
                have hx := List.mem_of_getElem? hi
                have kd : Kp (fun _ => False) Z W9 := (Kp.refl (fun _ => False) Z).drew.trans (Kp.of_below (N := fun _ => False) (unhide hb9)) (fun _ e => e.elim)
                refine ⟨ks ++ [x.key], updL M (again ms now x), hide ⟨?_, RL.kp ⟨_, hsZ⟩ kd (fun _ e => e.elim), hglU, J.i.more J.gl hmin hd, by rw [updL_len]; exact J.len, ?_, ?_, unhide hz9⟩⟩
                · have o2 : OwN Z w.heap.size (.slice va (ks ++ [x.key]).length vc) (ks ++ [x.key]) := owns_kp o1 kXZ (fun j hj e => by
                    have h1 := (World.ownsRow.lt o1 j hj).1
                    rcases e with e | e
                    · have := hP j e; omega
                    · exact unhide HVb j hj e)
                  have o3 := own_kp o2 kd (fun _ _ e => e)
                  simpa using o3
                · have hc := cntL_upd J.gl.nod hx hd (y := again ms now x) rfl (again_due J.gl hx now)
                  have := J.sh
                  rw [List.length_append]
                  simp only [List.length_cons, List.length_nil]
                  omega
                · exact ((J.kp.trans kwZ (fun j hj => hj)).trans kd (fun _ e => e.elim))
              case measure =>
                have hpos := (unhide HH).2.2.2.2.2
                have := (unhide HJ).sh
                show L.length + 1 - (ks.length + 1) < L.length + 1 - ks.length
                omega)
        · have hd' : ¬ x.due ≤ now := hd
          have hf := hide (J.i.fin (fun y hy => by rw [hmin] at hy; cases hy; omega))
          clear J hmin hi hd hs fz
          generalize M.length = m at *
          go_wp2
          go_ret
          have J := unhide HJ
          rw [unhide hf]
          exact ⟨_, rfl, J.own, J.rl, J.kp⟩

end Go.Proofs.Ytknomhgglmgciaa
