/-
  The document's own Put.
-/
import Derived.Test.YtmjhkgpbemjjkaaZN1
import Derived.Test.YtmjhkgpbemjjkaaZU3
import Derived.Test.YtmjhkgpbemjjkaaZRF1
import Derived.Deep.CutRange
import Derived.Deep.RegionWith
set_option linter.unusedSimpArgs false
set_option linter.unusedVariables false
namespace Go.Proofs.Ytmjhkgpbemjjkaa
open Go.RowKit Go.Lib

/-- the document's Writer in its variable, and the Dots beside it -/
structure PQ (w W : World) (v dv : Value) (d : List (Int × Int)) : Prop where
  bx : Bx W w.heap.size 47 #[v, .int .i64 0]
  rs : Bx W (w.heap.size + 1) 47 #[.slice none 0 0, .int .i64 0]
  dots : OwD W (w.heap.size + 2) dv d
  bel : Below w.heap.size w W
theorem PQ.below {w W W' : World} {v dv : Value} {d : List (Int × Int)} (h : PQ w W v dv d) (hb : Below W.heap.size W W') : PQ w W' v dv d :=
  ⟨h.bx.below hb, h.rs.below hb, owns_kp (N := fun _ => False) h.dots (Kp.of_below hb) (fun _ _ h => h), bnext h.bel hb⟩
def PZ (w W : World) (v dv : Value) (d : List (Int × Int)) (L : List Nat) : Prop := PQ w W v dv d ∧ W.ownsRow (w.heap.size + 2) 5 1 v L.length (bC L)
theorem PQ.store {w W W2 : World} {v v' dv : Value} {d : List (Int × Int)} {L' : List Nat} (h : PQ w W v dv d) (hb : Below W.heap.size W W2) (hr : W2.ownsRow W.heap.size 5 1 v' L'.length (bC L')) :
    PZ w ((W2.setCell ⟨w.heap.size, 0, none⟩ v').setCell ⟨w.heap.size, 1, none⟩ (.int .i64 0)) v' dv d L' := by
  have h2 := h.below hb
  have hs := h.rs.lt
  have k1 := Kp.set (N := fun i => i = w.heap.size) W2 ⟨w.heap.size, 0, none⟩ v' rfl
  have k2 := Kp.set (N := fun i => i = w.heap.size) (W2.setCell ⟨w.heap.size, 0, none⟩ v') ⟨w.heap.size, 1, none⟩ (.int .i64 0) rfl
  have k := k1.trans k2 (fun i h => .inl h)
  refine ⟨⟨?_, h2.rs.kp k (by omega), owns_kp h2.dots k (fun i hi e => by have := (h2.dots.lt i hi).1; omega), ?_⟩, ?_⟩
  · have := (h2.bx.set 0 v').set 1 (.int .i64 0)
    simpa using this
  · exact bset (bset h2.bel ⟨w.heap.size, 0, none⟩ (Nat.le_refl _) v') ⟨w.heap.size, 1, none⟩ (Nat.le_refl _) _
  · exact owns_base (by omega) (owns_kp hr k (fun i hi e => by have := (hr.lt i hi).1; omega))
theorem PQ.num {w W W0 : World} {v dv : Value} {d : List (Int × Int)} {L : List Nat} (h : PQ w W v dv d) (hr : RC W v L.length (bC L)) (hb0 : Below W.heap.size W W0) (x : Int) (h0 : 0 ≤ x) (h1 : x ≤ 9223372036854775807) (hL : L.length ≤ 10000000000) :
    Calls Try.prog 31 #[.agg #[v, .int .i64 0], .int .i64 x] W0 fun r X2 => ∃ a5 n5 c5, r = .returned (.agg #[.slice a5 n5 c5, .int .i64 0]) ∧ X2.cell? ⟨w.heap.size, 0, none⟩ = some v ∧ X2.cell? ⟨w.heap.size, 1, none⟩ = some (.int .i64 0) ∧ X2.frozen? ⟨w.heap.size, 0, none⟩ = false ∧ X2.frozen? ⟨w.heap.size, 1, none⟩ = false ∧ w.heap.size < X2.heap.size ∧ Hid (PZ w ((X2.setCell ⟨w.heap.size, 0, none⟩ (.slice a5 n5 c5)).setCell ⟨w.heap.size, 1, none⟩ (.int .i64 0)) (.slice a5 n5 c5) dv d (L ++ num x.toNat)) := by
  refine (refNumber_in W0 v L 0 x (hr.below hb0) (by omega) h1 hL).mono ?_
  rintro r X2 ⟨v', rfl, _, ho, _, hb⟩
  have ho' := ho rfl h0
  rw [wNum_pos L h0] at ho' ⊢
  simp only at ho' ⊢
  obtain ⟨a5, c5, rfl⟩ := owns_form ho'
  have hb2 : Below W.heap.size W X2 := bnext hb0 hb
  have hbb := h.bx.below hb2
  exact ⟨a5, _, c5, rfl, hbb.cell 0 _ rfl, hbb.cell 1 _ rfl, hbb.frozen 0, hbb.frozen 1, hbb.lt, hide (h.store hb2 (owns_base hb0.size ho'))⟩

theorem pb_step {d : List (Int × Int)} {i : Nat} {x : Int × Int} (h : d[i]? = some x) : pb (d.take (i + 1)) = pb (d.take i) ++ num x.1.toNat ++ num x.2.toNat := by
  rw [List.take_add_one, h]
  simp [pb, List.append_assoc]
theorem pb_len (d : List (Int × Int)) : (pb d).length ≤ 22 * d.length := by
  induction d with
  | nil => simp [pb]
  | cons x d ih =>
    have h1 := num_len x.1.toNat
    have h2 := num_len x.2.toNat
    have e : pb (x :: d) = num x.1.toNat ++ num x.2.toNat ++ pb d := by simp [pb]
    rw [e]
    simp only [List.length_append, List.length_cons]
    omega

set_option maxRecDepth 100000 in
set_option maxHeartbeats 4000000 in
theorem refPut_in (v u : Value) (L : List Nat) (l : List (Int × Int)) (w : World) (h : RC w v L.length (bC L)) (hu : RI w u l) (hl : l.length ≤ 140737488355328) (hL : L.length ≤ 1000000000) :
    Calls Try.prog 32 #[.agg #[v, .int .i64 0], u] w fun r W => ∃ v', r = .returned (.agg #[v', .int .i64 0]) ∧ W.ownsRow w.heap.size 5 1 v' (L ++ num (vec (sy l)).length ++ pb (vec (sy l))).length (bC (L ++ num (vec (sy l)).length ++ pb (vec (sy l)))) ∧ Below w.heap.size w W := by
  obtain ⟨a, c, rfl⟩ := h.form
  obtain ⟨a2, c2, rfl⟩ := hu.form
  obtain ⟨X, hX⟩ : ∃ X, (w.alloc (.cells #[.slice a L.length c, .int .i64 0] 47)).alloc (.cells #[.slice none 0 0, .int .i64 0] 47) = X := ⟨_, rfl⟩
  have b1 : Below w.heap.size w X := by rw [← hX]; exact ballc (ballc (Below.refl _ _) _) _
  have x1 : Bx X w.heap.size 47 #[.slice a L.length c, .int .i64 0] := by rw [← hX]; exact (Bx.new w _ _).below (ballc (Below.refl _ _) _)
  have x2 : Bx X (w.heap.size + 1) 47 #[.slice none 0 0, .int .i64 0] := by
    rw [← hX]
    have := Bx.new (w.alloc (.cells #[.slice a L.length c, .int .i64 0] 47)) 47 #[.slice none 0 0, .int .i64 0]
    rw [show (w.alloc (.cells #[.slice a L.length c, .int .i64 0] 47)).heap.size = w.heap.size + 1 by simp] at this
    exact this
  have hXs : X.heap.size = w.heap.size + 2 := by rw [← hX]; simp
  have HR := hide (Says_in _ l X (hu.below b1) hl)
  have HG := hide (sy_good l)
  have HRow := hide (h.below b1)
  generalize sy l = s at *
  have HV := hide (fun W => Of_in s (unhide HG).zero W)
  have hvl := vec_len s
  obtain ⟨d, hd⟩ : ∃ d, vec s = d := ⟨_, rfl⟩
  have HD := hide (fun x (hx : x ∈ vec s) => vec_in (unhide HG) hx)
  rw [hd] at HV hvl HD ⊢
  obtain ⟨n, hn⟩ : ∃ n, d.length = n := ⟨_, rfl⟩
  have Hn := hide hn
  obtain ⟨m, hm⟩ : ∃ m, L.length = m := ⟨_, rfl⟩
  have Hm := hide hm
  rw [hm] at x1 HRow hX ⊢
  rw [hn] at hvl ⊢
  obtain ⟨R, hR⟩ : ∃ R, L ++ num n ++ pb d = R := ⟨_, rfl⟩
  rw [hR]
  replace hR := hide hR
  clear hd HG h hu hn hm
  replace b1 := hide b1
  replace x1 := hide x1
  replace x2 := hide x2
  go_enter Try.func32, Try.ntmps32
  go_wp2_with fail
  refine (unhide HR).mono ?_
  rintro e W1 ⟨rfl, hb1⟩
  replace hb1 := hide hb1
  go_wp2_with fail
  refine (unhide HV _).mono ?_
  rintro e W2 ⟨dv, rfl, ho, hb2⟩
  obtain ⟨ad, cd, hdv⟩ := ho.form
  rw [unhide Hn] at hdv
  have hb12 := bnext (unhide hb1) hb2
  have PA : PQ w W2 (.slice a m c) dv d := ⟨(unhide x1).below hb12, (unhide x2).below hb12, ho.base (by have := (unhide hb1).size; omega), bnext (unhide b1) hb12⟩
  subst hdv
  have HRow2 := (unhide HRow).below hb12
  have c0 := PA.bx.cell 0 _ rfl
  have c1 := PA.bx.cell 1 _ rfl
  have HN := hide (PA.num (L := L) (by rw [unhide Hm]; exact HRow2) (Below.refl _ _) (n : Int) (by omega) (by omega) (by omega))
  rw [Int.toNat_natCast] at HN
  clear HR HV x1 x2 b1 hb1 hb2 ho hb12 HRow HRow2 PA hX hXs
  go_wp2_with fail
  refine (unhide HN).mono ?_
  rintro e X2 ⟨a5, n5, c5, rfl, y0, y1, z0, z1, hlt2, HF⟩
  obtain ⟨W3, hW3⟩ : ∃ W3, (X2.setCell ⟨w.heap.size, 0, none⟩ (.slice a5 n5 c5)).setCell ⟨w.heap.size, 1, none⟩ (.int .i64 0) = W3 := ⟨_, rfl⟩
  rw [hW3] at HF
  clear HN c0 c1
  go_wp2
  clear hW3 y0 y1 z0 z1 hlt2
  go_loopw [6] (fun iv wr => ∃ (i : Nat) (v2 : Value), iv = .int .i64 (i : Nat) ∧ i ≤ n ∧ Hid (PZ w wr v2 (.slice ad n cd) d (L ++ num n ++ pb (d.take i)))) (fun iv _ => n - (Lib.intOf iv).toNat)
  case atStart => exact ⟨0, _, rfl, by omega, hide (by simpa [pb] using unhide HF)⟩
  case round =>
    clear HF
    obtain ⟨i, v2, rfl, hin, PC⟩ := hrel
    obtain ⟨av, nv, cv, rfl⟩ : ∃ av nv cv, v2 = .slice av nv cv := by
      obtain ⟨av, cv, e⟩ := owns_form (unhide PC).2
      exact ⟨av, _, cv, e⟩
    by_cases hlt : i < n
    · have hlt' : (i : Int) < (n : Int) := by omega
      obtain ⟨x, hx⟩ : ∃ x, d[i]? = some x := ⟨_, List.getElem?_eq_getElem (by have := unhide Hn; omega)⟩
      obtain ⟨k1, k2, k3, k4⟩ := unhide HD x (List.mem_of_getElem? hx)
      have hlen : (L ++ num n ++ pb (d.take i)).length ≤ 1000000400 := by
        have h1 := pb_len (d.take i)
        have h2 := num_len n
        have h3 : (d.take i).length ≤ 17 := by rw [List.length_take]; omega
        have h4 := unhide Hm
        simp only [List.length_append]
        omega
      have Hst := hide (pb_step hx)
      obtain ⟨b, off, rfl, hb, q0, q1⟩ := (unhide PC).1.dots.row.at hx
      have HX := hide hx
      clear hx
      obtain ⟨y0, y1⟩ := x
      simp only at q0 q1 k1 k2 k3 k4 Hst
      have HN := hide ((unhide PC).1.num (RC.of_owns (unhide PC).2) (Below.refl _ wr).drew y0 (by omega) (by omega) (by omega))
      have c0 := (unhide PC).1.bx.cell 0 _ rfl
      have c1 := (unhide PC).1.bx.cell 1 _ rfl
      go_upto_region 6 with fail
      go_cut [26] from 20 to 26 (fun v wx => Hid (∃ v3, PZ w wx v3 (.slice (some ⟨b, off, none⟩) n cd) d (L ++ num n ++ pb (d.take i) ++ num y0.toNat)))
      case first =>
        go_region_with (go_at_call 31; refine (unhide HN).mono ?_; rintro r X2 ⟨a5, n5, c5, rfl, y0, y1, z0, z1, hlt2, HF⟩)
        all_goals (go_wp2; go_meet)
        all_goals exact ⟨_, unhide HF⟩
      case rest =>
        obtain ⟨v3, hS⟩ := unhide hcut
        clear hcut c0 c1 q0 q1 HN
        obtain ⟨av3, cv3, e3⟩ := owns_form hS.2
        subst e3
        obtain ⟨b', off', eb, hb', q0, q1⟩ := hS.1.dots.row.at (unhide HX)
        simp only [Option.some.injEq, Addr.mk.injEq, and_true] at eb
        obtain ⟨rfl, rfl⟩ := eb
        simp only at q0 q1
        have hlen2 : (L ++ num n ++ pb (d.take i) ++ num y0.toNat).length ≤ 2000000000 := by have := num_len y0.toNat; rw [List.length_append]; omega
        have HN := hide (hS.1.num (RC.of_owns hS.2) (Below.refl _ wc).drew y1 (by omega) (by omega) (by omega))
        have c0 := hS.1.bx.cell 0 _ rfl
        have c1 := hS.1.bx.cell 1 _ rfl
        generalize (L ++ num n ++ pb (d.take i) ++ num y0.toNat).length = nq at *
        have HS := hide hS
        clear hS
        go_upto_region 7 with fail
        go_region_with (go_at_call 31; refine (unhide HN).mono ?_; rintro r X2 ⟨a5, n5, c5, rfl, y0, y1, z0, z1, hlt2, HF⟩)
        all_goals
          go_wp2
          go_roundw
          case measure => show n - ((i : Int) + 1).toNat < n - ((i : Nat) : Int).toNat; omega
          case rel => exact ⟨i + 1, _, by go_num, by omega, hide (by rw [unhide Hst, ← List.append_assoc, ← List.append_assoc]; exact unhide HF)⟩
    · have hlt' : ¬ (i : Int) < (n : Int) := by omega
      have Hend := hide (show d.take i = d from List.take_of_length_le (by have := unhide Hn; omega))
      rw [unhide Hend, unhide hR] at PC
      have c0 := (unhide PC).1.bx.cell 0 _ rfl
      have c1 := (unhide PC).1.bx.cell 1 _ rfl
      have r0 := (unhide PC).1.rs.cell 0 _ rfl
      have r1 := (unhide PC).1.rs.cell 1 _ rfl
      have g0 := (unhide PC).1.rs.frozen 0
      have g1 := (unhide PC).1.rs.frozen 1
      have hrl := (unhide PC).1.rs.lt
      obtain ⟨Y, hY⟩ : ∃ Y, (wr.setCell ⟨w.heap.size + 1, 0, none⟩ (.slice av nv cv)).setCell ⟨w.heap.size + 1, 1, none⟩ (.int .i64 0) = Y := ⟨_, rfl⟩
      have Y1 : Bx Y (w.heap.size + 1) 47 #[.slice av nv cv, .int .i64 0] := by
        rw [← hY]
        have := ((unhide PC).1.rs.set 0 (.slice av nv cv)).set 1 (.int .i64 0)
        simpa using this
      replace Y1 := hide Y1
      have k1 := Kp.set (N := fun i => i = w.heap.size + 1) wr ⟨w.heap.size + 1, 0, none⟩ (.slice av nv cv) rfl
      have k2 := Kp.set (N := fun i => i = w.heap.size + 1) (wr.setCell ⟨w.heap.size + 1, 0, none⟩ (.slice av nv cv)) ⟨w.heap.size + 1, 1, none⟩ (.int .i64 0) rfl
      have k := k1.trans k2 (fun i h => .inl h)
      rw [hY] at k
      have Y2 := hide (owns_base (show w.heap.size ≤ w.heap.size + 2 by omega) (owns_kp (unhide PC).2 k (fun i hi e => by have := ((unhide PC).2.lt i hi).1; omega)))
      have Y3 := hide (k.below (unhide PC).1.bel (fun i hi => by omega))
      clear k1 k2 k
      go_wp2
      refine bodyPost_ret (results_cell_row rfl _ _ (w.heap.size + 1) _ _ _ _ rfl (unhide Y1) Try.underlying47 rfl sizeW) rfl ?_
      exact ⟨_, rfl, unhide Y2, unhide Y3⟩

end Go.Proofs.Ytmjhkgpbemjjkaa
