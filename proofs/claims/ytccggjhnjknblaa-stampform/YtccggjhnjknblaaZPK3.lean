/-
  Pack.
-/
import Derived.Test.YtccggjhnjknblaaZPK2
set_option linter.unusedSimpArgs false
set_option linter.unusedVariables false
namespace Go.Proofs.Ytccggjhnjknblaa
open Go.RowKit Go.Lib Go.Sort Go.Maps

/-- the runs' row, when one is put behind -/
theorem append_run (w : World) (ty : TypeId) (N : Nat) (v : Value) (runs : List ((Int × Int) × Int)) (t s c : Int) (h : w.ownsRow N 32 3 v runs.length (flat encR runs)) (hN : N ≤ w.heap.size) (hl : runs.length ≤ 1000000) :
    ∃ v' w', (Builtin.append_ #[22, 22] ty #[v, .slice (some ⟨w.heap.size, 0, none⟩) 1 1]).run Try.prog (w.alloc (.cells #[.int .i64 t, .int .i64 s, .int .i64 c] 32)) = .ok v' w' ∧ w'.ownsRow N 32 3 v' (runs ++ [((t, s), c)]).length (flat encR (runs ++ [((t, s), c)])) ∧ (w.alloc (.cells #[.int .i64 t, .int .i64 s, .int .i64 c] 32)).grownBy w' v.ownBlock ∧ (v'.ownBlock = v.ownBlock ∨ v'.ownBlock = some (w.heap.size + 1)) := by
  obtain ⟨i0, hi, hz0, hz1, hz2⟩ := info_parts infoR
  have hbx := Bx.new w 32 #[.int .i64 t, .int .i64 s, .int .i64 c]
  obtain ⟨v', w', h1, h2, h3, h4, h5⟩ := run_append_own_at (P := Try.prog) (w.alloc (.cells #[.int .i64 t, .int .i64 s, .int .i64 c] 32)) N 22 ty 32 i0 _ 3 24 Try.underlying22 hi hz0 hz1 hz2 rfl (by decide) v runs.length _ (h.alloc _) ⟨w.heap.size, 0, none⟩ 1 1 [.int .i64 t, .int .i64 s, .int .i64 c] rfl (fun j u hu => by
    rw [Addr.add_lit, Nat.zero_add]
    exact hbx.cell j u (by rw [← hu]; simp)) (fun u hu => by simp at hu; rcases hu with rfl | rfl | rfl <;> rfl) (by unfold maxLen; omega) (by omega) (by simp; omega)
  refine ⟨v', w', h1, by rw [flat_append]; simpa [show flat encR [((t, s), c)] = [.int .i64 t, .int .i64 s, .int .i64 c] from rfl] using h2, h3, ?_⟩
  simpa using h5

theorem wpList_append_eq {w : World} {ops : Array Oper} {rest : List Oper} {o : Oper} {a : Act} {Q : Exit → Act → World → Prop} (hgd : o.guard = none) (s x : Operand) (t : TypeId)
    (ho : o.op = .call { callee := .builtin .append, args := #[s, x], argTypes := #[t, t] }) (v u v' : Value) (w' : World) (hs : a.eval s = v) (hx : a.eval x = u) (hr : (Builtin.append_ #[t, t] o.type #[v, u]).run Try.prog w = .ok v' w')
    (h : wpList Try.prog ops Q rest (a.put o.dst v') w') : wpList Try.prog ops Q (o :: rest) a w := by
  refine wpList_plain hgd fun K hK => ?_
  unfold Oper.wp execOp
  simp only [ho, resolve, invoke, builtin, Sem.run_bind, Sem.run_pure, Result.andThen_ok, List.map_toArray, List.map_cons, List.map_nil, hs, hx, hr]
  exact hK _ _ h

theorem stepP_skip {st : (Int × Int) × List ((Int × Int) × Int)} {x : Int × Int} (h : x = st.1 ∨ isI x = false) : stepP st x = st := if_pos h
theorem stepP_take {st : (Int × Int) × List ((Int × Int) × Int)} {x : Int × Int} (h : x ≠ st.1) (h2 : isI x = true) : stepP st x = (x, growI st.2 x) := if_neg (by simp [h, h2])

/-- Pack has come to place i of the sorted row -/
structure PAt (W1 : World) (b N : Nat) (m : List (Int × Int)) (i : Nat) (W : World) (v : Value) : Prop where
  st : PSt W1 b N W (stP (m.take i)).1 v (stP (m.take i)).2 (endF (stP (m.take i)).2) i
  inv : PInv (stP (m.take i)).2 (stP (m.take i)).1 i
  low : (stP (m.take i)).1 = (0, 0) ∨ (stP (m.take i)).1 ∈ m.take i

theorem PAt.take {W1 : World} {b N : Nat} {m : List (Int × Int)} {i : Nat} {x : Int × Int} (hx : m[i]? = some x) : m.take (i + 1) = m.take i ++ [x] := by rw [List.take_add_one, hx]; rfl

theorem PAt.lt {W1 : World} {b N : Nat} {m : List (Int × Int)} {i : Nat} {W : World} {v : Value} (h : PAt W1 b N m i W v) (hs : m.Pairwise fun x y => ¬ lexLt y x) {x : Int × Int} (hx : m[i]? = some x) (hne : x ≠ (stP (m.take i)).1) (hi : isI x = true) : lexLt (stP (m.take i)).1 x := by
  rcases lex_tri (stP (m.take i)).1 x with k | k | k
  · exact k
  · exact absurd k.symm hne
  · exfalso
    rcases h.low with h2 | h2
    · rw [h2] at k
      have := isI_range (t := x.1) (s := x.2) hi
      unfold lexLt at k
      simp only at k
      omega
    · have hp : (m.take i ++ [x]).Pairwise (fun x y => ¬ lexLt y x) := by rw [← PAt.take (W1 := W1) (b := b) (N := N) hx]; exact hs.sublist (List.take_sublist _ _)
      exact (List.pairwise_append.1 hp).2.2 _ h2 _ (by simp) k

theorem PAt.skip {W1 : World} {b N : Nat} {m : List (Int × Int)} {i : Nat} {W W' : World} {v : Value} (h : PAt W1 b N m i W v) {x : Int × Int} (hx : m[i]? = some x) (hs : x = (stP (m.take i)).1 ∨ isI x = false) (hb : Below W.heap.size W W') : PAt W1 b N m (i + 1) W' v := by
  have e : stP (m.take (i + 1)) = stP (m.take i) := by rw [PAt.take (W1 := W1) (b := b) (N := N) hx, stP_snoc, stepP_skip hs]
  have s := h.st.below hb
  refine ⟨?_, ?_, ?_⟩
  · rw [e]
    exact ⟨s.bN, s.NW, s.lastB, s.map.mono (by omega), s.row, s.kp⟩
  · rw [e]; exact h.inv.mono (by omega)
  · rw [e, PAt.take (W1 := W1) (b := b) (N := N) hx]
    exact h.low.imp id fun h => List.mem_append_left _ h

theorem PAt.done {W1 : World} {b N : Nat} {m : List (Int × Int)} {i : Nat} {W W' : World} {v v' : Value} (h : PAt W1 b N m i W v) {x : Int × Int} (hx : m[i]? = some x) (hne : x ≠ (stP (m.take i)).1) (hi : isI x = true) (hs : m.Pairwise fun x y => ¬ lexLt y x) {f : Int × Int → Option Nat}
    (s : PSt W1 b N W' x v' (growI (stP (m.take i)).2 x) f (i + 1)) (hf : ∀ y, f y = endF (growI (stP (m.take i)).2 x) y) : PAt W1 b N m (i + 1) W' v' := by
  have e : stP (m.take (i + 1)) = (x, growI (stP (m.take i)).2 x) := by rw [PAt.take (W1 := W1) (b := b) (N := N) hx, stP_snoc, stepP_take hne hi]
  refine ⟨?_, ?_, ?_⟩
  · rw [e]
    exact ⟨s.bN, s.NW, s.lastB, s.map.ext hf, s.row, s.kp⟩
  · rw [e]; exact (h.inv.grown (h.lt hs hx hne hi) hi).1
  · rw [e, PAt.take (W1 := W1) (b := b) (N := N) hx]
    exact .inr (by simp)

set_option maxRecDepth 100000 in
set_option maxHeartbeats 4000000 in
theorem Pack_in (v : Value) (l : List (Int × Int)) (w : World) (h : RI w v l) (hin : ∀ x ∈ l, idIn x) (hl : l.length ≤ 1000000) :
    Calls Try.prog 11 #[v] w fun e W => ∃ v', e = .returned v' ∧ W.ownsRow w.heap.size 32 3 v' (packF l).length (flat encR (packF l)) ∧ Below w.heap.size w W := by
  have hmm := @run_makeMap Try.prog
  obtain ⟨a, cap, rfl⟩ := RC.form h
  have b2 := ballc (ballc (Below.refl _ w) (.map #[] 0)) (.cells #[.int .i64 0, .int .i64 0] 30)
  have HRi := hide (rising_in _ l _ (h.below b2) hl)
  obtain ⟨m, hm⟩ : ∃ m, sortI l = m := ⟨_, rfl⟩
  obtain ⟨P, hP⟩ : ∃ P, packF l = P := ⟨_, rfl⟩
  rw [hP]
  have HP := hide (show (stP m).2 = P by rw [← hm, packF_stP, hP])
  have Hsort := hide (show m.Pairwise (fun x y => ¬ lexLt y x) by rw [← hm]; exact sortI_sorted l)
  have Hin := hide (show ∀ x ∈ m, idIn x from fun x hx => hin x ((sortI_perm l).mem_iff.1 (by rw [hm]; exact hx)))
  have hml : m.length = l.length := by rw [← hm]; exact (sortI_perm l).length_eq
  rw [hm] at HRi
  obtain ⟨n, hn⟩ : ∃ n, l.length = n := ⟨_, rfl⟩
  rw [hn] at hl hml HRi ⊢
  have Hn := hide hml
  have HB2 := hide b2
  clear h hin hm hP hn hml b2
  go_enter Try.func11, Try.ntmps11
  go_wp2_with fail
  refine (unhide HRi).mono ?_
  rintro e W1 ⟨v1, rfl, hri, hb1, how⟩
  have HR := hide hri
  obtain ⟨a1, c1, rfl⟩ := RC.form hri
  rw [unhide Hn] at HR ⊢
  have HN := hide (show w.heap.size + 1 < W1.heap.size by have := hb1.size; simp at this; omega)
  have HB1 := hide (bnext (unhide HB2) hb1)
  have Hs0 : Hid (PAt W1 w.heap.size W1.heap.size m 0 W1 (.slice none 0 0)) := by
    have bl : Bx W1 (w.heap.size + 1) 30 #[.int .i64 0, .int .i64 0] := by
      have := Bx.new (w.alloc (.map #[] 0)) 30 #[.int .i64 0, .int .i64 0]
      rw [show (w.alloc (.map #[] 0)).heap.size = w.heap.size + 1 by simp] at this
      exact this.below hb1
    have mp : MapI W1 w.heap.size 0 (fun _ => none) := by
      refine (MapI.made w).kept ?_
      have b3 := bnext (ballc (Below.refl _ (w.alloc (.map #[] 0))) (.cells #[.int .i64 0, .int .i64 0] 30)) hb1
      exact b3.block _ (by simp)
    exact ⟨⟨unhide HN, Nat.le_refl _, bl, mp.ext (fun x => rfl), World.ownsRow_nil _ _ _ _, Kp.refl _ _⟩, PInv.nil _, .inl rfl⟩
  have How := hide how
  clear hri hb1 HB2 HRi how
  go_wp2
  go_loopw [3, 14] (fun rv iv wr => ∃ i : Nat, iv = .int .i64 (i : Nat) ∧ i ≤ n ∧ Hid (PAt W1 w.heap.size W1.heap.size m i wr rv)) (fun _ iv _ => n - (Lib.intOf iv).toNat)
  case atStart => exact ⟨0, rfl, by omega, Hs0⟩
  case round =>
    obtain ⟨i, rfl, hin2, HA⟩ := hrel
    by_cases hlt : i < n
    · have hlt' : (i : Int) < (n : Int) := by omega
      obtain ⟨x, hx⟩ : ∃ x, m[i]? = some x := ⟨_, List.getElem?_eq_getElem (by have := unhide Hn; omega)⟩
      have hxin := unhide Hin x (List.mem_of_getElem? hx)
      have hst := (unhide HA).st
      obtain ⟨b0, off, rfl, hb0, c0, c1⟩ := RI.at (unhide HR) hx
      have hkb : wr.heap[b0]? = W1.heap[b0]? := hst.kp.block b0 hb0 (by
        have h1 := unhide How b0 rfl
        simp at h1
        omega)
      have d0 : wr.cell? ⟨b0, off + i * 2, none⟩ = some (.int .i64 x.1) := (World.cell?_of_block (a := ⟨b0, off + i * 2, none⟩) hkb).trans c0
      have d1 : wr.cell? ⟨b0, off + i * 2 + 1, none⟩ = some (.int .i64 x.2) := (World.cell?_of_block (a := ⟨b0, off + i * 2 + 1, none⟩) hkb).trans c1
      obtain ⟨st, hst0⟩ : ∃ st, stP (m.take i) = st := ⟨_, rfl⟩
      obtain ⟨⟨la, lb⟩, rs⟩ := st
      obtain ⟨t, s⟩ := x
      rw [hst0] at hst
      simp only at d0 d1 hst
      have hbl : w.heap.size + 1 < wr.heap.size := Nat.lt_of_lt_of_le hst.bN hst.NW
      have l0 := hst.lastB.cell 0 _ rfl
      have l1 := hst.lastB.cell 1 _ rfl
      have heq := fun W => eqI t s la lb W
      obtain ⟨ar, cr, hrv⟩ := owns_form hst.row
      subst hrv
      have Hst := hide hst
      have Hst0 := hide hst0
      have Hx := hide hx
      have Hxin := hide hxin
      clear hst hst0 hx hxin hkb c0 c1 HR Hin
      by_cases hxl : (t, s) = (la, lb)
      · have hd : decide ((t, s) = (la, lb)) = true := by simpa using hxl
        rw [hd] at heq
        have Hsk := hide ((unhide HA).skip (unhide Hx) (.inl (by rw [unhide Hst0]; exact hxl)) (ballc (Below.refl _ wr) (.cells #[.int .i64 t, .int .i64 s] 30)))
        clear hxl hd
        go_wp2
        go_roundw
        case measure => show n - ((i : Int) + 1).toNat < n - ((i : Nat) : Int).toNat; omega
        case rel => exact ⟨i + 1, by go_num, by omega, Hsk⟩
      · have hd : decide ((t, s) = (la, lb)) = false := by simpa using hxl
        rw [hd] at heq
        have Hxl := hide hxl
        have HC := hide (fun W => isID_in t s W)
        clear hxl hd
        cases hI : isI (t, s) with
        | false =>
          rw [hI] at HC
          have Hsk := hide ((unhide HA).skip (unhide Hx) (.inr hI) (ballc (ballc (Below.refl _ wr) (.cells #[.int .i64 t, .int .i64 s] 30)) (.cells #[.int .i64 t, .int .i64 s] 30)))
          clear hI
          go_wp2_with (go_at_call 32; refine (unhide HC _).mono ?_; rintro e W2 ⟨rfl, rfl⟩)
          go_roundw
          case measure => show n - ((i : Int) + 1).toNat < n - ((i : Nat) : Int).toNat; omega
          case rel => exact ⟨i + 1, by go_num, by omega, Hsk⟩
        | true =>
          rw [hI] at HC
          obtain ⟨g1, g2, g3, g4⟩ := isI_range hI
          have HI := hide hI
          clear hI
          go_wp2_with fail
          refine (unhide HC _).mono ?_
          rintro e W2 ⟨rfl, hW2⟩
          have hb2 : Below wr.heap.size wr W2 := by rw [hW2]; exact ballc (ballc (Below.refl _ wr) _) _
          have bx2 : Bx W2 wr.heap.size 30 #[.int .i64 t, .int .i64 s] := by rw [hW2]; exact (Bx.new wr _ _).below (ballc (Below.refl _ _) _)
          have S1 := (unhide Hst).below hb2
          have S2 := S1.setLast t s
          obtain ⟨X2, hX2⟩ : ∃ X2, (W2.setCell ⟨w.heap.size + 1, 0, none⟩ (.int .i64 t)).setCell ⟨w.heap.size + 1, 1, none⟩ (.int .i64 s) = X2 := ⟨_, rfl⟩
          rw [hX2] at S2
          have bq : Bx X2 wr.heap.size 30 #[.int .i64 t, .int .i64 s] := by rw [← hX2]; exact (bx2.setO _ (by show wr.heap.size ≠ w.heap.size + 1; omega) _).setO _ (by show wr.heap.size ≠ w.heap.size + 1; omega) _
          have hXs : wr.heap.size < X2.heap.size := bq.lt
          have e0 := bx2.cell 0 _ rfl
          have e1 := bx2.cell 1 _ rfl
          have k0 := S1.lastB.cell 0 _ rfl
          have k1 := S1.lastB.cell 1 _ rfl
          have kf0 := S1.lastB.frozen 0
          have kf1 := S1.lastB.frozen 1
          have q0 := bq.cell 0 _ rfl
          have q1 := bq.cell 1 _ rfl
          obtain ⟨cc, hlk, hcc⟩ := S2.map.look t s (unhide Hxin)
          have hid1 : idIn (t + 1, s) := ⟨by unfold in64; simp only; omega, by unfold in64; simp only; omega⟩
          have hown := (unhide Hst).own
          have hinv := (unhide HA).inv
          rw [unhide Hst0] at hinv
          simp only at hinv
          have hgrow := hinv.grown (x := (t, s)) (by have := (unhide HA).lt (unhide Hsort) (unhide Hx) (by rw [unhide Hst0]; exact unhide Hxl) (unhide HI); rw [unhide Hst0] at this; exact this) (unhide HI)
          have hrl := hinv.len
          have hpos := hinv.pos
          clear hinv hW2 l0 l1 d0 d1 heq S1 bx2 hb2 HC
          cases hef : endF rs (t, s) with
          | some k =>
            obtain ⟨r, hr1, hr2, hr3, hr4⟩ := growI_some hef
            have hkl := (List.getElem?_eq_some_iff.1 hr1).1
            have hrp := hpos r (List.mem_of_getElem? hr1)
            rw [hef] at hlk
            have hcc' := hcc k hef
            subst hcc'
            simp only [Option.isSome_some] at hlk
            obtain ⟨W3, hdl, hm3, hg3⟩ := S2.map.del t s (unhide Hxin) 0
            have S3 := S2.mapped hm3 hg3
            obtain ⟨g, rfl⟩ : ∃ g, ar = some ⟨g, 0, none⟩ := by
              obtain ⟨_, (⟨h1, h2⟩ | ⟨g, cap', cur, h1, _⟩)⟩ := S3.row
              · simp at h1; omega
              · simp at h1; exact ⟨g, h1.1⟩
            have hgq := hown g rfl
            have bq3 : Bx W3 wr.heap.size 30 #[.int .i64 t, .int .i64 s] := (hg3.block _ bq.lt (by simp; omega)).trans bq
            have cc3 : W3.cell? ⟨g, k * 3 + 2, none⟩ = some (.int .i64 r.2) := (S3.row.cellAt (k * 3 + 2) (by omega)).trans (flat_get encR_len rs k 2 r hr1 (by omega))
            have cf3 := S3.row.frozenAt (k * 3 + 2)
            obtain ⟨ho4, hg4⟩ := S3.row.stored (k * 3 + 2) (.int .i64 (r.2 + 1))
            rw [flat_set rs k r (r.2 + 1) hr1] at ho4
            have S4 := S3.rowed (runs' := rs.set k (r.1, r.2 + 1)) (by rw [List.length_set]; exact ho4) hg4
            obtain ⟨X4, hX4⟩ : ∃ X4, W3.setCell ⟨g, k * 3 + 2, none⟩ (.int .i64 (r.2 + 1)) = X4 := ⟨_, rfl⟩
            rw [hX4] at S4
            have bq4 : Bx X4 wr.heap.size 30 #[.int .i64 t, .int .i64 s] := by rw [← hX4]; exact bq3.setO _ (by show wr.heap.size ≠ g; omega) _
            have z0 := bq4.cell 0 _ rfl
            have z1 := bq4.cell 1 _ rfl
            obtain ⟨X5, hup, hm5, hg5⟩ := S4.map.put (t + 1) s hid1 k (by omega) (by omega)
            have S5 := S4.mapped hm5 hg5
            have hfin : Hid (PAt W1 w.heap.size W1.heap.size m (i + 1) X5 (.slice (some ⟨g, 0, none⟩) rs.length cr)) := by
              refine (unhide HA).done (unhide Hx) (by rw [unhide Hst0]; exact unhide Hxl) (unhide HI) (unhide Hsort) (f := fun y => if y = (t + 1, s) then some k else if y = (t, s) then none else endF rs y) ?_ ?_
              · rw [unhide Hst0]
                simp only
                rw [hr4]
                exact S5
              · intro y
                rw [unhide Hst0]
                simp only
                rw [hgrow.2 y, hef]
                rfl
            have hr2' : (r.2 : Int) + 1 ≤ 9223372036854775807 := by omega
            have hr2'' : (0 : Int) ≤ r.2 := by omega
            have hkl' : (k : Int) < (rs.length : Int) := by omega
            generalize r.2 = rc at *
            replace S2 := hide S2
            replace S3 := hide S3
            replace S4 := hide S4
            replace S5 := hide S5
            replace bq := hide bq
            replace bq3 := hide bq3
            replace bq4 := hide bq4
            replace hm3 := hide hm3
            replace hg3 := hide hg3
            replace hm5 := hide hm5
            replace hg5 := hide hg5
            replace ho4 := hide ho4
            replace hg4 := hide hg4
            replace hgrow := hide hgrow
            replace hcc := hide hcc
            replace hown := hide hown
            replace hpos := hide hpos
            clear hr1 hr2 hr3 hr4 hrp hef
            go_wp2
            go_roundw
            case measure => show n - ((i : Int) + 1).toNat < n - ((i : Nat) : Int).toNat; omega
            case rel => exact ⟨i + 1, by go_num, by omega, hfin⟩
          | none =>
            have hr4 := growI_none hef
            rw [hef] at hlk
            simp only [Option.isSome_none] at hlk
            obtain ⟨v3, W3, hap, ho3, hg3, hat3⟩ := append_run X2 22 W1.heap.size (.slice ar rs.length cr) rs t s 0 S2.row S2.NW (by omega)
            have hba := ballc (Below.refl _ X2) (.cells #[.int .i64 t, .int .i64 s, .int .i64 0] 32)
            have S3 := (S2.below hba).rowed (runs' := rs ++ [((t, s), 0)]) ho3 hg3
            have hlen3 : (rs ++ [((t, s), (0 : Int))]).length = rs.length + 1 := by simp
            obtain ⟨a3, c3, rfl⟩ := owns_form S3.row
            obtain ⟨g, rfl⟩ : ∃ g, a3 = some ⟨g, 0, none⟩ := by
              obtain ⟨_, (⟨h1, h2⟩ | ⟨g, cap', cur, h1, _⟩)⟩ := S3.row
              · omega
              · simp at h1; exact ⟨g, h1.1⟩
            have hgq : g ≠ wr.heap.size := by
              rcases hat3 with h | h
              · have := hown g h.symm
                omega
              · simp [Value.ownBlock] at h
                omega
            have bq3 : Bx W3 wr.heap.size 30 #[.int .i64 t, .int .i64 s] := by
              refine (hg3.block _ (bq.below hba).lt ?_).trans (bq.below hba)
              intro h
              have := hown _ h.symm
              omega
            have cc3 : W3.cell? ⟨g, rs.length * 3 + 2, none⟩ = some (.int .i64 0) := (S3.row.cellAt (rs.length * 3 + 2) (by omega)).trans (flat_get encR_len _ rs.length 2 ((t, s), 0) (by simp) (by omega))
            have cf3 := S3.row.frozenAt (rs.length * 3 + 2)
            obtain ⟨ho4, hg4⟩ := S3.row.stored (rs.length * 3 + 2) (.int .i64 1)
            rw [flat_set _ rs.length ((t, s), 0) 1 (by simp)] at ho4
            have hset : (rs ++ [((t, s), (0 : Int))]).set rs.length ((t, s), 1) = rs ++ [((t, s), 1)] := by simp
            rw [hset] at ho4
            rw [show (rs ++ [((t, s), (0 : Int))]).length = (rs ++ [((t, s), (1 : Int))]).length by simp] at ho4 hap
            have S4 := S3.rowed (runs' := rs ++ [((t, s), 1)]) ho4 hg4
            have hlen3 : (rs ++ [((t, s), (1 : Int))]).length = rs.length + 1 := by simp
            rw [hlen3] at S4 hap
            obtain ⟨X4, hX4⟩ : ∃ X4, W3.setCell ⟨g, rs.length * 3 + 2, none⟩ (.int .i64 1) = X4 := ⟨_, rfl⟩
            rw [hX4] at S4
            have bq4 : Bx X4 wr.heap.size 30 #[.int .i64 t, .int .i64 s] := by rw [← hX4]; exact bq3.setO _ (by show wr.heap.size ≠ g; omega) _
            have z0 := bq4.cell 0 _ rfl
            have z1 := bq4.cell 1 _ rfl
            obtain ⟨X5, hup, hm5, hg5⟩ := S4.map.put (t + 1) s hid1 rs.length (by omega) (by omega)
            have S5 := S4.mapped hm5 hg5
            have hfin : Hid (PAt W1 w.heap.size W1.heap.size m (i + 1) X5 (.slice (some ⟨g, 0, none⟩) (rs.length + 1) c3)) := by
              refine (unhide HA).done (unhide Hx) (by rw [unhide Hst0]; exact unhide Hxl) (unhide HI) (unhide Hsort) (f := fun y => if y = (t + 1, s) then some rs.length else endF rs y) ?_ ?_
              · rw [unhide Hst0]
                simp only
                rw [hr4]
                exact S5
              · intro y
                rw [unhide Hst0]
                simp only
                rw [hgrow.2 y, hef]
                by_cases h1 : y = (t + 1, s)
                · rw [if_pos h1, if_pos h1]; rfl
                · rw [if_neg h1, if_neg h1]
                  by_cases h2 : y = (t, s)
                  · rw [if_pos h2, h2, hef]
                  · rw [if_neg h2]
            have hXX : X2.heap.size ≠ wr.heap.size := by omega
            replace S2 := hide S2
            replace S3 := hide S3
            replace S4 := hide S4
            replace S5 := hide S5
            replace bq := hide bq
            replace bq3 := hide bq3
            replace bq4 := hide bq4
            replace ho3 := hide ho3
            replace hg3 := hide hg3
            replace hm5 := hide hm5
            replace hg5 := hide hg5
            replace ho4 := hide ho4
            replace hg4 := hide hg4
            replace hgrow := hide hgrow
            replace hcc := hide hcc
            replace hown := hide hown
            replace hpos := hide hpos
            replace hap := hide hap
            clear hr4 hef hat3 hset hlen3 hba hXX
            go_wp2_with (at_builtin; refine wpList_append_eq rfl _ _ 22 rfl _ _ _ _ rfl rfl (unhide hap) ?_)
            go_roundw
            case measure => show n - ((i : Int) + 1).toNat < n - ((i : Nat) : Int).toNat; omega
            case rel => exact ⟨i + 1, by go_num, by omega, hfin⟩
    · have hlt' : ¬ (i : Int) < (n : Int) := by omega
      have hi : i = n := by omega
      have hst := (unhide HA).st
      have HE := hide (show (stP (m.take i)).2 = P by rw [List.take_of_length_le (by have := unhide Hn; omega)]; exact unhide HP)
      replace hst := hide hst
      clear hi
      go_wp2
      go_ret
      have hst := unhide hst
      rw [unhide HE] at hst
      refine ⟨_, rfl, ?_, ?_⟩
      · obtain ⟨h1, h2⟩ := hst.row
        refine ⟨h1, h2.imp id ?_⟩
        rintro ⟨g, cap, cur, e1, e2, e3⟩
        exact ⟨g, cap, cur, e1, by have := unhide HN; omega, e3⟩
      · exact hst.kp.below (unhide HB1) (fun k hk => by have := unhide HN; omega)

end Go.Proofs.Ytccggjhnjknblaa
