/-
  The document's Peer in memory: New, Got, Credit, Flight, Clear, Heard.
-/
import Derived.Test.YtiekholaheddhaaZPE
set_option linter.unusedSimpArgs false
set_option linter.unusedVariables false
namespace Go.Proofs.Ytiekholaheddhaa
open Go.RowKit Go.Lib

theorem step_append_eq {ops : Array Oper} {o : Oper} {a : Act} {w w' : World} {K : Act → World → Prop} {Q : Exit → Act → World → Prop} {E : Prop} (hg : o.guard = none) (s x : Operand) (t : TypeId) (hop : o.op = Op.call { callee := Callee.builtin Builtin.append, args := #[s, x], argTypes := #[t, t] })
    (v u v' : Value) (hs : a.eval s = v) (hx : a.eval x = u) (hr : (Builtin.append_ #[t, t] o.type #[v, u]).run Try.prog w = .ok v' w') (hK : K (a.put o.dst v') w') : if Region.wanted o (yielded ops a.tmps) = true then Oper.wp Try.prog o a w K Q else E := by
  have hw : Region.wanted o (yielded ops a.tmps) = true := by simp [Region.wanted, hg]
  rw [if_pos hw]
  unfold Oper.wp
  simp [execOp, hop, resolve, invoke, builtin, hs, hx, hr, Result.andThen]
  exact hK
/-- append(nil, l...) -/
theorem app_nil (TS E : TypeId) (k bytes : Nat) (z : Value) (ht : Try.prog.underlying TS = some (.slice E)) (hinf : (Try.prog.info? E).map (fun i => (i.zero, i.size, i.bytes)) = some (some z, k, bytes)) (hzs : z.cells.size = k) (k0 : 0 < k)
    (w : World) (base : Nat) (ty : TypeId) (v : Value) (n : Nat) (C : List Value) (h : RC w v n C) (hC : C.length = n * k) (h1 : ∀ u ∈ C, u.oneCell' = true) (hb : base ≤ w.heap.size) (hn : n ≤ maxLen) (hby : n * bytes ≤ 140737488355328) :
    ∃ v' w', (Builtin.append_ #[TS, TS] ty #[.slice none 0 0, v]).run Try.prog w = .ok v' w' ∧ w'.ownsRow base E k v' n C ∧ w.grownBy w' none := by
  obtain ⟨i0, hi, hz0, hz1, hz2⟩ := info_parts hinf
  have step : ∀ (ad : Addr) (cc : Nat), v = .slice (some ad) n cc → (∀ j x, C[j]? = some x → w.cell? (ad.add j) = some x) → ∃ v' w', (Builtin.append_ #[TS, TS] ty #[.slice none 0 0, v]).run Try.prog w = .ok v' w' ∧ w'.ownsRow base E k v' n C ∧ w.grownBy w' none := by
    rintro ad cc rfl hc
    obtain ⟨v', w', q1, q2, q3, _⟩ := run_append_own (P := Try.prog) w base TS ty E i0 z k bytes ht hi hz0 hz1 hz2 hzs k0 (.slice none 0 0) 0 [] (World.ownsRow_nil _ _ _ _) ad n cc C hC hc h1 (by omega) (by rw [Nat.zero_add]; exact hby) hb
    exact ⟨v', w', q1, by simpa using q2, q3⟩
  rcases h with ⟨h0, a, cap, rfl⟩ | ⟨b, off, cap, rfl, _, _, hc⟩
  · subst h0
    have e : C = [] := List.eq_nil_of_length_eq_zero (by simpa using hC)
    subst e
    cases a with
    | some ad => exact step ad cap rfl (fun j x hx => by simp at hx)
    | none =>
      refine ⟨.slice none 0 0, w, ?_, World.ownsRow_nil _ _ _ _, ⟨rfl, rfl, rfl, Nat.le_refl _, fun _ _ _ => rfl⟩⟩
      simp [Builtin.append_, run_underlying ht, sizeOf, typeInfo, hi, Builtin.lenOf, Builtin.firstCells, storeCells]
  · exact step ⟨b, off, none⟩ cap rfl (fun j x hx => by rw [Addr.add_lit]; exact hc j x hx)

variable {P N : Nat → Prop} {w W W' : World} {t : TypeId} {b : Nat} {v : Value} {s : St}
set_option maxRecDepth 100000 in
set_option maxHeartbeats 2000000 in
theorem rNew_in (x y : Int) (w : World) : Calls Try.prog 10 #[.int .i64 x, .int .i64 y] w (NewA w 41 x y) := by
  by_cases h : newB x y = true
  · have hp := hide (pl_new w 41 h)
    have HB := hide h
    unfold newB at h
    have h := of_decide_eq_true h
    obtain ⟨X, hX⟩ : ∃ X, w.alloc (.cells #[.int .i64 x, .int .i64 y, .int .i64 0, .slice none 0 0, .int .i64 0, .int .i64 y] 41) = X := ⟨_, rfl⟩
    have bb := hide (show Below w.heap.size w X by rw [← hX]; exact ballc (Below.refl _ _) _)
    rw [hX] at hp
    obtain ⟨h1, h2, h3, h4⟩ := h
    have h1' : ¬ x < 1 := by omega
    have h2' : ¬ 64 < x := by omega
    have h3' : ¬ y < 1 := by omega
    have h4' : ¬ 256 < y := by omega
    clear h1 h2 h3 h4
    go_enter Try.func10, Try.ntmps10
    go_wp2
    refine bodyPost_ret (results_tmp2 rfl _ _ _) rfl ?_
    exact ⟨unhide bb, .inl ⟨unhide HB, rfl, unhide hp⟩⟩
  · have HB := hide (show newB x y = false by simpa using h)
    unfold newB at h
    have h : ¬ (1 ≤ x ∧ x ≤ 64 ∧ 1 ≤ y ∧ y ≤ 256) := fun e => h (decide_eq_true e)
    by_cases h1 : x < 1
    · clear h
      go_enter Try.func10, Try.ntmps10
      go_wp2
      refine bodyPost_ret (results_tmp2 rfl _ _ _) rfl ?_
      exact ⟨Below.refl _ _, .inr ⟨unhide HB, rfl⟩⟩
    by_cases h2 : 64 < x
    · clear h
      go_enter Try.func10, Try.ntmps10
      go_wp2
      refine bodyPost_ret (results_tmp2 rfl _ _ _) rfl ?_
      exact ⟨Below.refl _ _, .inr ⟨unhide HB, rfl⟩⟩
    by_cases h3 : y < 1
    · clear h
      go_enter Try.func10, Try.ntmps10
      go_wp2
      refine bodyPost_ret (results_tmp2 rfl _ _ _) rfl ?_
      exact ⟨Below.refl _ _, .inr ⟨unhide HB, rfl⟩⟩
    · have h4 : 256 < y := by omega
      clear h
      go_enter Try.func10, Try.ntmps10
      go_wp2
      refine bodyPost_ret (results_tmp2 rfl _ _ _) rfl ?_
      exact ⟨Below.refl _ _, .inr ⟨unhide HB, rfl⟩⟩
theorem rGot_in (h : PL P w 41 b s) : Calls Try.prog 25 #[.pointer (some ⟨b, 0, none⟩)] w fun e W => e = .returned (.int .i64 s.gt) ∧ w = W := by
  obtain ⟨v, h⟩ := h
  have c4 := h.c4
  clear h
  go_enter Try.func25, Try.ntmps25
  go_wp2
  go_ret
  exact ⟨rfl, rfl⟩
theorem rCredit_in (h : PL P w 41 b s) : Calls Try.prog 26 #[.pointer (some ⟨b, 0, none⟩)] w fun e W => e = .returned (.int .i64 s.cr) ∧ w = W := by
  obtain ⟨v, h⟩ := h
  have c5 := h.c5
  clear h
  go_enter Try.func26, Try.ntmps26
  go_wp2
  go_ret
  exact ⟨rfl, rfl⟩
set_option maxRecDepth 100000 in
theorem rFlight_in (h : PL P w 41 b s) : Calls Try.prog 24 #[.pointer (some ⟨b, 0, none⟩)] w (FlA w s.fl) := by
  obtain ⟨v, h⟩ := h
  have c3 := h.c3
  have hl := h.len
  obtain ⟨v1, W1, hap1, ho1, hg1⟩ := app_nil 37 3 1 8 _ Try.underlying37 infoN rfl (by decide) w w.heap.size 37 v s.fl.length (nC s.fl) h.row.rn (by rw [nC_len]; omega) (nC_one _) (Nat.le_refl _) (by unfold maxLen; omega) (by omega)
  have b1 : Below w.heap.size w W1 := (Below.refl _ w).grown hg1 (Nat.le_refl _) (fun k hk => by cases hk)
  obtain ⟨a, c, rfl, _⟩ := h.row.form
  obtain ⟨a', c', rfl⟩ := owns_form ho1
  have hap := hide hap1
  have HO := hide ho1
  have HB := hide b1
  clear h hl hap1 ho1 hg1 b1
  go_enter Try.func24, Try.ntmps24
  go_wp2_with (at_builtin; refine wpList_append_eq rfl _ _ _ _ rfl _ _ _ _ rfl rfl (unhide hap) ?_)
  go_ret
  exact ⟨_, _, rfl, unhide HO, unhide HB⟩
theorem PM.ner (h : PM P W 41 b v s) : ∀ i, v.ownBlock = some i → i ≠ b := fun i hi e => by
  obtain ⟨cur, hcur⟩ := h.row.kind i hi
  exact Bx.apart hcur h.bx (by decide) e
set_option maxRecDepth 100000 in
theorem rClear_in (h : PL P w 41 b s) : Calls Try.prog 23 #[.pointer (some ⟨b, 0, none⟩)] w (CP P w 41 b (clrS s) (.tuple #[])) := by
  obtain ⟨v, h⟩ := h
  have c3 := h.c3
  have fz := h.fz 3
  obtain ⟨X, hX⟩ : ∃ X, w.setCell ⟨b, 3, none⟩ (.slice none 0 0) = X := ⟨_, rfl⟩
  have HF := hide (show CP P w 41 b (clrS s) (.tuple #[]) (.returned (.tuple #[])) X by
    rw [← hX]
    exact ⟨rfl, ⟨.slice none 0 0, .inl h.pb, PM.setfl h.bx _ [], RdN.nil _, fun k hk => (by cases hk), h.gd.clr⟩, Kp.set _ _ _ h.pb⟩)
  obtain ⟨a, c, rfl, _⟩ := h.row.form
  clear h
  go_enter Try.func23, Try.ntmps23
  go_wp2
  refine bodyPost_end (results_none rfl _ _ _) rfl ?_
  exact unhide HF
/-- the loop of Heard, behind the two stores -/
theorem lft_take {l : List Int} {g x : Int} {i : Nat} (hx : l[i]? = some x) : lft (l.take (i + 1)) g = if g < x then lft (l.take i) g ++ [x] else lft (l.take i) g := by
  unfold lft
  rw [List.take_add_one, hx, List.filter_append]
  by_cases h : g < x
  · rw [if_pos h]; simp [h]
  · rw [if_neg h]; simp [h]
set_option maxRecDepth 100000 in
set_option maxHeartbeats 4000000 in
theorem rHeard_in (h : PL P w 41 b s) (n g c : Int) : Calls Try.prog 22 #[.pointer (some ⟨b, 0, none⟩), .int .i64 n, .int .i64 g, .int .i64 c] w (CP P w 41 b (hrdS s n g c) (.bool (hrdB s g))) := by
  obtain ⟨v, h⟩ := h
  have c4 := h.c4
  have fz4 := h.fz 4
  have fz5 := h.fz 5
  have hln := h.len
  have hg0 := h.gd.g0
  have HGd := hide (h.gd.hrd n g c)
  have hpb := h.pb
  obtain ⟨a, cp, rfl, hcp⟩ := h.row.form
  obtain ⟨B, hB⟩ : ∃ B, hrdB s g = B := ⟨_, rfl⟩
  have HB := hide hB
  rw [hB]
  obtain ⟨cv, hcv⟩ : ∃ cv, crdS c = cv := ⟨_, rfl⟩
  have hcv' : min (max c 0) 256 = cv := hcv
  obtain ⟨L, hL⟩ : ∃ L, s.fl.length = L := ⟨_, rfl⟩
  have HL := hide hL
  -- what is asked of the world behind the stores, and what is reached then
  have HFin : Hid (∀ (Y Z : World) (u : Value), PM P Y 41 b (.slice a L cp) { s with gt := gotS s n, cr := crdS c } → Kp P w Y → OwN Z Y.heap.size u (lft s.fl g) → Below Y.heap.size Y Z → CP P w 41 b (hrdS s n g c) (.bool B) (.returned (.bool (decide ((lft s.fl g).length < L)))) (Z.setCell ⟨b, 3, none⟩ u)) := fun Y Z u hY kY hu hb => by
    have hz := kY.size
    have hbl := hY.bx.lt
    have hne : ∀ i, u.ownBlock = some i → Y.heap.size ≤ i := fun i hi => (World.ownsRow.lt hu i hi).1
    refine ⟨?_, ⟨u, .inl hpb, PM.setfl (hY.bx.below hb) u _, (RdN.of hu).kp (Kp.set (N := fun i => i = b) _ _ _ rfl) (fun i hi e => by have := hne i hi; omega), fun i hi => .inr (by have := hne i hi; omega), unhide HGd⟩, (kY.trans (Kp.of_below (N := P) hb) (fun i hi => .inl hi)).trans (Kp.set (N := P) _ _ _ hpb) (fun i hi => .inl hi)⟩
    rw [← unhide HB]
    unfold hrdB
    rw [unhide HL]
  have HSt : Hid (∀ X Y, ((gotS s n = s.gt ∧ X = w) ∨ X = w.setCell ⟨b, 4, none⟩ (.int .i64 (gotS s n))) → X.setCell ⟨b, 5, none⟩ (.int .i64 (crdS c)) = Y → PM P Y 41 b (.slice a L cp) { s with gt := gotS s n, cr := crdS c } ∧ Kp P w Y ∧ X.frozen? ⟨b, 5, none⟩ = false ∧ X.cell? ⟨b, 5, none⟩ = some (.int .i64 s.cr)) := fun X Y hX hY => by
    rw [← unhide HL]
    exact h.setgc n c h.ner hX hY
  have hcr := h.c5
  have HRow := hide h.row
  rw [hL] at hln hcp
  clear h hB hL
  by_cases hn : 1 ≤ n ∧ n ≤ 2147483647 ∧ s.gt < n
  · have hgt : gotS s n = n := by unfold gotS; rw [if_pos (by omega)]; omega
    obtain ⟨hn1, hn2, hn3⟩ := hn
    obtain ⟨X, hX⟩ : ∃ X, w.setCell ⟨b, 4, none⟩ (.int .i64 n) = X := ⟨_, rfl⟩
    obtain ⟨Y, hY⟩ : ∃ Y, X.setCell ⟨b, 5, none⟩ (.int .i64 (crdS c)) = Y := ⟨_, rfl⟩
    have hXX : (gotS s n = s.gt ∧ X = w) ∨ X = w.setCell ⟨b, 4, none⟩ (.int .i64 (gotS s n)) := .inr (by rw [hgt]; exact hX.symm)
    clear hgt
    obtain ⟨hp, hk, fzX, cX⟩ := unhide HSt X Y hXX hY
    rw [hcv] at hY
    have d3 : Y.cell? ⟨b, 3, none⟩ = some (.slice a L cp) := hp.c3
    have hzz := hp.fz 3
    have hzl := hp.bx.lt
    have HP := hide hp
    have HK := hide hk
    clear hp hk HSt hcv hXX
    generalize s.gt = gt at *
    generalize s.cr = cr at *
    go_enter Try.func22, Try.ntmps22
    go_wp2
    go_loopw [9, 10] (fun u iv wr => ∃ (i : Nat) (ua : Option Addr) (uc : Nat), iv = .int .i64 (i : Nat) ∧ i ≤ L ∧ u = .slice ua (lft (s.fl.take i) g).length uc ∧ Hid (OwN wr Y.heap.size (.slice ua (lft (s.fl.take i) g).length uc) (lft (s.fl.take i) g)) ∧ Hid (Below Y.heap.size Y wr)) (fun u iv _ => L - (RowKit.intOf iv).toNat)
    case atStart => exact ⟨0, none, 0, rfl, Nat.zero_le _, rfl, World.ownsRow_nil _ _ _ _, Below.refl _ _⟩
    case round =>
      obtain ⟨i, ua, uc, rfl, hi, rfl, HO, HBl⟩ := hrel
      have e3 : wr.cell? ⟨b, 3, none⟩ = some (.slice a L cp) := cell_below d3 (unhide HBl)
      have e3z : wr.frozen? ⟨b, 3, none⟩ = false := ((unhide HP).bx.below (unhide HBl)).frozen 3
      by_cases hlt : i < L
      · have hlt' : (i : Int) < (L : Int) := by omega
        have hil : i < s.fl.length := by rw [unhide HL]; exact hlt
        obtain ⟨x, hx⟩ : ∃ x, s.fl[i]? = some x := ⟨_, List.getElem?_eq_getElem hil⟩
        obtain ⟨g0, o0, ha, hg0', q0⟩ := RN.at (RN.below (unhide HP).row.rn (unhide HBl)) hx
        subst ha
        have hll := lft_le (s.fl.take i) g
        have hlm : (lft (s.fl.take i) g).length ≤ 64 := by rw [List.length_take] at hll; omega
        by_cases hgx : g < x
        · have ht := lft_take (g := g) hx
          rw [if_pos hgx] at ht
          obtain ⟨v2, X2, hap, o2, g2, hv2⟩ := append_n wr 37 Y.heap.size _ _ x (unhide HO) (unhide HBl).size (by omega)
          have bb : Below Y.heap.size Y X2 := (ballc (unhide HBl) _).grown g2 (ballc (unhide HBl) _).size (fun k hk => (World.ownsRow.lt (unhide HO) k hk).1)
          rw [← ht] at o2
          obtain ⟨a2, c2, rfl⟩ := o2.form
          have hap' := hide hap
          have o2' := hide o2
          have bb' := hide bb
          clear hap o2 bb g2 hv2 ht hx hll
          go_wp2_with (at_builtin; refine wpList_append_eq rfl _ _ _ _ rfl _ _ _ _ rfl rfl (unhide hap') ?_)
          go_roundw
          case rel => exact ⟨i + 1, a2, c2, by go_num, by omega, rfl, o2', bb'⟩
          case measure => show L - ((i : Int) + 1).toNat < L - ((i : Nat) : Int).toNat; omega
        · have ht := lft_take (g := g) hx
          rw [if_neg hgx] at ht
          have HO' := HO
          rw [← ht] at HO'
          have hlen : (lft (s.fl.take (i + 1)) g).length = (lft (s.fl.take i) g).length := by rw [ht]
          have Hlen := hide hlen
          clear hx ht hlen hll
          go_wp2
          go_roundw
          case rel => exact ⟨i + 1, ua, uc, by go_num, by omega, by rw [unhide Hlen], HO', HBl⟩
          case measure => show L - ((i : Int) + 1).toNat < L - ((i : Nat) : Int).toNat; omega
      · have hlt' : ¬ (i : Int) < (L : Int) := by omega
        have ht : s.fl.take i = s.fl := List.take_of_length_le (by have := unhide HL; omega)
        rw [ht] at HO ⊢
        have HE := hide (unhide HFin Y wr _ (unhide HP) (unhide HK) (unhide HO) (unhide HBl))
        clear ht
        generalize (lft s.fl g).length = M at *
        go_wp2
        go_ret
        exact unhide HE
  · by_cases h1 : 1 ≤ n
    · by_cases h2 : n ≤ 2147483647
      · have hgt : gotS s n = s.gt := by unfold gotS; split <;> omega
        obtain ⟨Y, hY⟩ : ∃ Y, w.setCell ⟨b, 5, none⟩ (.int .i64 (crdS c)) = Y := ⟨_, rfl⟩
        have hXX : (gotS s n = s.gt ∧ w = w) ∨ w = w.setCell ⟨b, 4, none⟩ (.int .i64 (gotS s n)) := .inl ⟨hgt, rfl⟩
        have h3 : ¬ s.gt < n := by omega
        clear hgt hn
        obtain ⟨hp, hk, fzX, cX⟩ := unhide HSt w Y hXX hY
        rw [hcv] at hY
        have d3 : Y.cell? ⟨b, 3, none⟩ = some (.slice a L cp) := hp.c3
        have hzz := hp.fz 3
        have hzl := hp.bx.lt
        have HP := hide hp
        have HK := hide hk
        clear hp hk HSt hcv hXX
        generalize s.gt = gt at *
        generalize s.cr = cr at *
        go_enter Try.func22, Try.ntmps22
        go_wp2
        go_loopw [9, 10] (fun u iv wr => ∃ (i : Nat) (ua : Option Addr) (uc : Nat), iv = .int .i64 (i : Nat) ∧ i ≤ L ∧ u = .slice ua (lft (s.fl.take i) g).length uc ∧ Hid (OwN wr Y.heap.size (.slice ua (lft (s.fl.take i) g).length uc) (lft (s.fl.take i) g)) ∧ Hid (Below Y.heap.size Y wr)) (fun u iv _ => L - (RowKit.intOf iv).toNat)
        case atStart => exact ⟨0, none, 0, rfl, Nat.zero_le _, rfl, World.ownsRow_nil _ _ _ _, Below.refl _ _⟩
        case round =>
          obtain ⟨i, ua, uc, rfl, hi, rfl, HO, HBl⟩ := hrel
          have e3 : wr.cell? ⟨b, 3, none⟩ = some (.slice a L cp) := cell_below d3 (unhide HBl)
          have e3z : wr.frozen? ⟨b, 3, none⟩ = false := ((unhide HP).bx.below (unhide HBl)).frozen 3
          by_cases hlt : i < L
          · have hlt' : (i : Int) < (L : Int) := by omega
            have hil : i < s.fl.length := by rw [unhide HL]; exact hlt
            obtain ⟨x, hx⟩ : ∃ x, s.fl[i]? = some x := ⟨_, List.getElem?_eq_getElem hil⟩
            obtain ⟨g0, o0, ha, hg0', q0⟩ := RN.at (RN.below (unhide HP).row.rn (unhide HBl)) hx
            subst ha
            have hll := lft_le (s.fl.take i) g
            have hlm : (lft (s.fl.take i) g).length ≤ 64 := by rw [List.length_take] at hll; omega
            by_cases hgx : g < x
            · have ht := lft_take (g := g) hx
              rw [if_pos hgx] at ht
              obtain ⟨v2, X2, hap, o2, g2, hv2⟩ := append_n wr 37 Y.heap.size _ _ x (unhide HO) (unhide HBl).size (by omega)
              have bb : Below Y.heap.size Y X2 := (ballc (unhide HBl) _).grown g2 (ballc (unhide HBl) _).size (fun k hk => (World.ownsRow.lt (unhide HO) k hk).1)
              rw [← ht] at o2
              obtain ⟨a2, c2, rfl⟩ := o2.form
              have hap' := hide hap
              have o2' := hide o2
              have bb' := hide bb
              clear hap o2 bb g2 hv2 ht hx hll
              go_wp2_with (at_builtin; refine wpList_append_eq rfl _ _ _ _ rfl _ _ _ _ rfl rfl (unhide hap') ?_)
              go_roundw
              case rel => exact ⟨i + 1, a2, c2, by go_num, by omega, rfl, o2', bb'⟩
              case measure => show L - ((i : Int) + 1).toNat < L - ((i : Nat) : Int).toNat; omega
            · have ht := lft_take (g := g) hx
              rw [if_neg hgx] at ht
              have HO' := HO
              rw [← ht] at HO'
              have hlen : (lft (s.fl.take (i + 1)) g).length = (lft (s.fl.take i) g).length := by rw [ht]
              have Hlen := hide hlen
              clear hx ht hlen hll
              go_wp2
              go_roundw
              case rel => exact ⟨i + 1, ua, uc, by go_num, by omega, by rw [unhide Hlen], HO', HBl⟩
              case measure => show L - ((i : Int) + 1).toNat < L - ((i : Nat) : Int).toNat; omega
          · have hlt' : ¬ (i : Int) < (L : Int) := by omega
            have ht : s.fl.take i = s.fl := List.take_of_length_le (by have := unhide HL; omega)
            rw [ht] at HO ⊢
            have HE := hide (unhide HFin Y wr _ (unhide HP) (unhide HK) (unhide HO) (unhide HBl))
            clear ht
            generalize (lft s.fl g).length = M at *
            go_wp2
            go_ret
            exact unhide HE
      · have hgt : gotS s n = s.gt := by unfold gotS; split <;> omega
        obtain ⟨Y, hY⟩ : ∃ Y, w.setCell ⟨b, 5, none⟩ (.int .i64 (crdS c)) = Y := ⟨_, rfl⟩
        have hXX : (gotS s n = s.gt ∧ w = w) ∨ w = w.setCell ⟨b, 4, none⟩ (.int .i64 (gotS s n)) := .inl ⟨hgt, rfl⟩
        clear hgt hn
        obtain ⟨hp, hk, fzX, cX⟩ := unhide HSt w Y hXX hY
        rw [hcv] at hY
        have d3 : Y.cell? ⟨b, 3, none⟩ = some (.slice a L cp) := hp.c3
        have hzz := hp.fz 3
        have hzl := hp.bx.lt
        have HP := hide hp
        have HK := hide hk
        clear hp hk HSt hcv hXX
        generalize s.gt = gt at *
        generalize s.cr = cr at *
        go_enter Try.func22, Try.ntmps22
        go_wp2
        go_loopw [9, 10] (fun u iv wr => ∃ (i : Nat) (ua : Option Addr) (uc : Nat), iv = .int .i64 (i : Nat) ∧ i ≤ L ∧ u = .slice ua (lft (s.fl.take i) g).length uc ∧ Hid (OwN wr Y.heap.size (.slice ua (lft (s.fl.take i) g).length uc) (lft (s.fl.take i) g)) ∧ Hid (Below Y.heap.size Y wr)) (fun u iv _ => L - (RowKit.intOf iv).toNat)
        case atStart => exact ⟨0, none, 0, rfl, Nat.zero_le _, rfl, World.ownsRow_nil _ _ _ _, Below.refl _ _⟩
        case round =>
          obtain ⟨i, ua, uc, rfl, hi, rfl, HO, HBl⟩ := hrel
          have e3 : wr.cell? ⟨b, 3, none⟩ = some (.slice a L cp) := cell_below d3 (unhide HBl)
          have e3z : wr.frozen? ⟨b, 3, none⟩ = false := ((unhide HP).bx.below (unhide HBl)).frozen 3
          by_cases hlt : i < L
          · have hlt' : (i : Int) < (L : Int) := by omega
            have hil : i < s.fl.length := by rw [unhide HL]; exact hlt
            obtain ⟨x, hx⟩ : ∃ x, s.fl[i]? = some x := ⟨_, List.getElem?_eq_getElem hil⟩
            obtain ⟨g0, o0, ha, hg0', q0⟩ := RN.at (RN.below (unhide HP).row.rn (unhide HBl)) hx
            subst ha
            have hll := lft_le (s.fl.take i) g
            have hlm : (lft (s.fl.take i) g).length ≤ 64 := by rw [List.length_take] at hll; omega
            by_cases hgx : g < x
            · have ht := lft_take (g := g) hx
              rw [if_pos hgx] at ht
              obtain ⟨v2, X2, hap, o2, g2, hv2⟩ := append_n wr 37 Y.heap.size _ _ x (unhide HO) (unhide HBl).size (by omega)
              have bb : Below Y.heap.size Y X2 := (ballc (unhide HBl) _).grown g2 (ballc (unhide HBl) _).size (fun k hk => (World.ownsRow.lt (unhide HO) k hk).1)
              rw [← ht] at o2
              obtain ⟨a2, c2, rfl⟩ := o2.form
              have hap' := hide hap
              have o2' := hide o2
              have bb' := hide bb
              clear hap o2 bb g2 hv2 ht hx hll
              go_wp2_with (at_builtin; refine wpList_append_eq rfl _ _ _ _ rfl _ _ _ _ rfl rfl (unhide hap') ?_)
              go_roundw
              case rel => exact ⟨i + 1, a2, c2, by go_num, by omega, rfl, o2', bb'⟩
              case measure => show L - ((i : Int) + 1).toNat < L - ((i : Nat) : Int).toNat; omega
            · have ht := lft_take (g := g) hx
              rw [if_neg hgx] at ht
              have HO' := HO
              rw [← ht] at HO'
              have hlen : (lft (s.fl.take (i + 1)) g).length = (lft (s.fl.take i) g).length := by rw [ht]
              have Hlen := hide hlen
              clear hx ht hlen hll
              go_wp2
              go_roundw
              case rel => exact ⟨i + 1, ua, uc, by go_num, by omega, by rw [unhide Hlen], HO', HBl⟩
              case measure => show L - ((i : Int) + 1).toNat < L - ((i : Nat) : Int).toNat; omega
          · have hlt' : ¬ (i : Int) < (L : Int) := by omega
            have ht : s.fl.take i = s.fl := List.take_of_length_le (by have := unhide HL; omega)
            rw [ht] at HO ⊢
            have HE := hide (unhide HFin Y wr _ (unhide HP) (unhide HK) (unhide HO) (unhide HBl))
            clear ht
            generalize (lft s.fl g).length = M at *
            go_wp2
            go_ret
            exact unhide HE
    · have hgt : gotS s n = s.gt := by unfold gotS; split <;> omega
      obtain ⟨Y, hY⟩ : ∃ Y, w.setCell ⟨b, 5, none⟩ (.int .i64 (crdS c)) = Y := ⟨_, rfl⟩
      have hXX : (gotS s n = s.gt ∧ w = w) ∨ w = w.setCell ⟨b, 4, none⟩ (.int .i64 (gotS s n)) := .inl ⟨hgt, rfl⟩
      clear hgt hn
      obtain ⟨hp, hk, fzX, cX⟩ := unhide HSt w Y hXX hY
      rw [hcv] at hY
      have d3 : Y.cell? ⟨b, 3, none⟩ = some (.slice a L cp) := hp.c3
      have hzz := hp.fz 3
      have hzl := hp.bx.lt
      have HP := hide hp
      have HK := hide hk
      clear hp hk HSt hcv hXX
      generalize s.gt = gt at *
      generalize s.cr = cr at *
      go_enter Try.func22, Try.ntmps22
      go_wp2
      go_loopw [9, 10] (fun u iv wr => ∃ (i : Nat) (ua : Option Addr) (uc : Nat), iv = .int .i64 (i : Nat) ∧ i ≤ L ∧ u = .slice ua (lft (s.fl.take i) g).length uc ∧ Hid (OwN wr Y.heap.size (.slice ua (lft (s.fl.take i) g).length uc) (lft (s.fl.take i) g)) ∧ Hid (Below Y.heap.size Y wr)) (fun u iv _ => L - (RowKit.intOf iv).toNat)
      case atStart => exact ⟨0, none, 0, rfl, Nat.zero_le _, rfl, World.ownsRow_nil _ _ _ _, Below.refl _ _⟩
      case round =>
        obtain ⟨i, ua, uc, rfl, hi, rfl, HO, HBl⟩ := hrel
        have e3 : wr.cell? ⟨b, 3, none⟩ = some (.slice a L cp) := cell_below d3 (unhide HBl)
        have e3z : wr.frozen? ⟨b, 3, none⟩ = false := ((unhide HP).bx.below (unhide HBl)).frozen 3
        by_cases hlt : i < L
        · have hlt' : (i : Int) < (L : Int) := by omega
          have hil : i < s.fl.length := by rw [unhide HL]; exact hlt
          obtain ⟨x, hx⟩ : ∃ x, s.fl[i]? = some x := ⟨_, List.getElem?_eq_getElem hil⟩
          obtain ⟨g0, o0, ha, hg0', q0⟩ := RN.at (RN.below (unhide HP).row.rn (unhide HBl)) hx
          subst ha
          have hll := lft_le (s.fl.take i) g
          have hlm : (lft (s.fl.take i) g).length ≤ 64 := by rw [List.length_take] at hll; omega
          by_cases hgx : g < x
          · have ht := lft_take (g := g) hx
            rw [if_pos hgx] at ht
            obtain ⟨v2, X2, hap, o2, g2, hv2⟩ := append_n wr 37 Y.heap.size _ _ x (unhide HO) (unhide HBl).size (by omega)
            have bb : Below Y.heap.size Y X2 := (ballc (unhide HBl) _).grown g2 (ballc (unhide HBl) _).size (fun k hk => (World.ownsRow.lt (unhide HO) k hk).1)
            rw [← ht] at o2
            obtain ⟨a2, c2, rfl⟩ := o2.form
            have hap' := hide hap
            have o2' := hide o2
            have bb' := hide bb
            clear hap o2 bb g2 hv2 ht hx hll
            go_wp2_with (at_builtin; refine wpList_append_eq rfl _ _ _ _ rfl _ _ _ _ rfl rfl (unhide hap') ?_)
            go_roundw
            case rel => exact ⟨i + 1, a2, c2, by go_num, by omega, rfl, o2', bb'⟩
            case measure => show L - ((i : Int) + 1).toNat < L - ((i : Nat) : Int).toNat; omega
          · have ht := lft_take (g := g) hx
            rw [if_neg hgx] at ht
            have HO' := HO
            rw [← ht] at HO'
            have hlen : (lft (s.fl.take (i + 1)) g).length = (lft (s.fl.take i) g).length := by rw [ht]
            have Hlen := hide hlen
            clear hx ht hlen hll
            go_wp2
            go_roundw
            case rel => exact ⟨i + 1, ua, uc, by go_num, by omega, by rw [unhide Hlen], HO', HBl⟩
            case measure => show L - ((i : Int) + 1).toNat < L - ((i : Nat) : Int).toNat; omega
        · have hlt' : ¬ (i : Int) < (L : Int) := by omega
          have ht : s.fl.take i = s.fl := List.take_of_length_le (by have := unhide HL; omega)
          rw [ht] at HO ⊢
          have HE := hide (unhide HFin Y wr _ (unhide HP) (unhide HK) (unhide HO) (unhide HBl))
          clear ht
          generalize (lft s.fl g).length = M at *
          go_wp2
          go_ret
          exact unhide HE

end Go.Proofs.Ytiekholaheddhaa
