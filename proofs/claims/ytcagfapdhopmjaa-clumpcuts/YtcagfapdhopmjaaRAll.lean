/-
  What the document's own All answers: the texts between the breaks.
-/
import Derived.Test.YtcagfapdhopmjaaRegL
import Derived.Test.YtcagfapdhopmjaaPrt
set_option linter.unusedSimpArgs false
set_option linter.unusedVariables false
namespace Go.Proofs.Ytcagfapdhopmjaa
open Go.RowKit Go.Lib

theorem cp_get {s : ByteArray} {i a b : Nat} (h : (cpL s)[i]? = some (a, b)) : (brL s)[i]? = some a ∧ (brL s)[i + 1]? = some b := by
  unfold cpL pairs at h
  rw [List.getElem?_zip_eq_some] at h
  refine ⟨h.1, ?_⟩
  have := h.2
  rw [List.getElem?_tail] at this
  exact this
theorem cp_take {s : ByteArray} {i : Nat} {p : Nat × Nat} (h : (cpL s)[i]? = some p) : (cpL s).take i ++ p :: (cpL s).drop (i + 1) = cpL s := by
  obtain ⟨hlt, rfl⟩ := List.getElem?_eq_some_iff.1 h
  rw [← List.drop_eq_getElem_cons hlt, List.take_append_drop]

theorem run_append {P : Program} {o : Oper} {ρ : Operand → Value} {w : World} {v' : Value} {w' : World} (s x : Operand) (t : TypeId)
    (ho : o.op = .call { callee := .builtin .append, args := #[s, x], argTypes := #[t, t] }) {v u : Value} (hs : ρ s = v) (hx : ρ x = u) (hr : (Builtin.append_ #[t, t] o.type #[v, u]).run P w = .ok v' w') : (execOp ρ o).run P w = .ok (.value v') w' := by
  unfold execOp
  simp only [ho, resolve, invoke, builtin, Sem.run_bind, Sem.run_pure, Result.andThen_ok, List.map_toArray, List.map_cons, List.map_nil, hs, hx, hr]

set_option maxRecDepth 100000 in
set_option maxHeartbeats 4000000 in
theorem refAll_in (s : ByteArray) (hs : s.size ≤ 1000000) (w : World) :
    Calls Try.prog 18 #[.string s] w fun e W' => ∃ v, e = .returned v ∧ W'.ownsRow w.heap.size 9 1 v (cpL s).length (cpC s (cpL s)) ∧ Below w.heap.size w W' := by
  obtain ⟨i0, hi, hz0, hz1, hz2⟩ := info_parts infoStr
  have hcl := cp_len s
  have hcb := cpL_length s
  have hbp := brL_pos s
  go_enter Try.func18, Try.ntmps18
  go_wp2_with fail
  refine (breaks_in s (by omega) _).mono ?_
  rintro e W ⟨v, rfl, ho, hB⟩
  obtain ⟨x, c, rfl⟩ := owns_form ho
  obtain ⟨g, rfl⟩ := owns_some ho (by omega)
  have hsW := hB.size
  obtain ⟨M, hM⟩ : ∃ M, (brL s).length = M := ⟨_, rfl⟩
  have ho1 := ho
  rw [hM] at hcb hbp ho1 ⊢
  obtain ⟨L, hL⟩ : ∃ L, (cpL s).length = L := ⟨_, rfl⟩
  have HL := hide hL
  have HM := hide hM
  rw [hL] at hcl hcb
  clear hM ho1 hL
  have Ho := hide ho
  clear ho
  go_wp2
  go_loopw [4, 5] (fun rv iv wr => ∃ k : Nat, k ≤ L ∧ iv = .int .i64 k ∧ wr.ownsRow W.heap.size 9 1 rv k (cpC s ((cpL s).take k)) ∧ Below W.heap.size W wr) (fun _ iv _ => L - (RowKit.intOf iv).toNat)
  case atStart => exact ⟨0, by omega, rfl, World.ownsRow_nil _ _ _ _, Below.refl _ _⟩
  case round =>
    obtain ⟨k, hk, rfl, hrow, hBr⟩ := hrel
    have hszr := hBr.size
    by_cases hlt : k < L
    · have i1 : (k : Int) + 1 < (M : Int) := by omega
      have i2 : (k : Int) < (M : Int) := by omega
      obtain ⟨⟨a, b⟩, hab⟩ : ∃ p, (cpL s)[k]? = some p := ⟨_, List.getElem?_eq_getElem (by rw [unhide HL]; exact hlt)⟩
      obtain ⟨h1, h2, h3, h4, h5⟩ := cp_at (cp_take hab)
      dsimp only at h1 h2 h3 h4 h5
      obtain ⟨hx, hy⟩ := cp_get hab
      have hcells : ∀ w', Below W.heap.size W w' → w'.cell? ⟨g, k, none⟩ = some (.int .i64 (a : Int)) ∧ w'.cell? ⟨g, k + 1, none⟩ = some (.int .i64 (b : Int)) := fun w' hb => ⟨iv_cell (owns_below (unhide Ho) hb) hx, iv_cell (owns_below (unhide Ho) hb) hy⟩
      have hst : cpC s ((cpL s).take (k + 1)) = cpC s ((cpL s).take k) ++ [.string (s.extract a b)] := by rw [List.take_add_one, hab, Option.toList_some, cpC_snoc]
      clear h1 h4 h5 hx hy hab
      go_wp2
      refine wp_region_any (by kernel_rfl) ?_
      change wpAny _ _ _ _ _ _ _ (World.drew _)
      obtain ⟨Wa, hWa⟩ : ∃ Wa, wr.drew.alloc (.cells #[.string (s.extract a b)] 9) = Wa := ⟨_, rfl⟩
      have hcn : ∀ j u, ([.string (s.extract a b)] : List Value)[j]? = some u → Wa.cell? ((⟨wr.heap.size, 0, none⟩ : Addr).add j) = some u := by rw [← hWa]; exact cell_one_new wr.drew _ _
      have hza : Wa.heap.size = wr.heap.size + 1 := by rw [← hWa]; simp
      have hBa : Below W.heap.size W Wa := by rw [← hWa]; exact (hBr.drew).alloc hszr _
      have hrowa : Wa.ownsRow W.heap.size 9 1 u4 k (cpC s ((cpL s).take k)) := by rw [← hWa]; exact World.ownsRow.alloc (show wr.drew.ownsRow _ _ _ _ _ _ from hrow) _
      obtain ⟨v4, W4, hrun, ho4, hg4, _⟩ := run_append_own (P := Try.prog) Wa W.heap.size 31 31 9 i0 (.string ⟨#[]⟩) 1 16 Try.underlying31 hi hz0 hz1 hz2 rfl (by decide) u4 k _ hrowa ⟨wr.heap.size, 0, none⟩ 1 1 [.string (s.extract a b)] rfl hcn (by simp [Value.oneCell']) (by unfold maxLen; omega) (by omega) (by omega)
      have hB4 : Below W.heap.size W W4 := hBa.grown hg4 (by omega) (fun k e => (hrowa.lt k e).1)
      obtain ⟨Jo, hJo⟩ : ∃ Jo : (Nat → Bool) → World → Prop, Jo = fun f w => w = if f 13 then W4 else if f 12 then Wa else wr.drew := ⟨_, rfl⟩
      have Jof : ∀ f w, Jo f w = (w = if f 13 then W4 else if f 12 then Wa else wr.drew) := fun f w => by rw [hJo]
      have hJB : ∀ f w, Jo f w → Below W.heap.size W w := by
        intro f w h
        rw [Jof] at h
        subst h
        split
        · exact hB4
        · split
          · exact hBa
          · exact hBr.drew
      have j1 : (a : Int) ≤ (b : Int) := by omega
      have j2 : (b : Int) ≤ (s.size : Int) := by omega
      have j4 : (0 : Int) ≤ (k : Int) + 1 := by omega
      have j5 : ((k : Int) + 1).toNat = k + 1 := by omega
      have j3 : (0 : Int) ≤ (k : Int) := by omega
      refine region_last 30 (fun j => if j = 14 then 4 else 15 + j) [(0, (Value.string s)), (1, undef), (2, (Value.slice none 0 0)), (3, (Value.slice (some { block := g, off := 0 }) M c)), (5, (Value.int IntKind.i64 ↑k)), (6, (Value.string s)), (7, (Value.slice (some { block := g, off := 0 }) M c)), (8, (Value.int IntKind.i64 ↑k)), (9, (Value.int IntKind.i64 (↑k + 1))), (10, (Value.slice (some { block := g, off := 0 }) M c)), (11, (Value.int IntKind.i64 ↑M)), (12, (Value.bool true)), (13, u13), (14, u14), (29, undef)] u4 Jo (valsOf [isV u4, isV (.string s), isV (Value.slice (some { block := g, off := 0 }) M c), isV (.int .i64 (k : Int)), isV (.pointer (some ⟨g, k, none⟩)), isV (.int .i64 (a : Int)), isV (Value.slice (some { block := g, off := 0 }) M c), isV (.int .i64 (k : Int)), isV (.int .i64 ((k : Int) + 1)), isV (.pointer (some ⟨g, k + 1, none⟩)), isV (.int .i64 (b : Int)), isV (.string (s.extract a b)), isV (.slice (some ⟨wr.heap.size, 0, none⟩) 1 1), isV v4, isV v4]) (fun w w' => w.heap.size ≤ w'.heap.size) ?fit ?last (fun j f => valsOf_stable (Stables.all ?stable) j) [] ?gs ?gv ?steps ?fin _ _ ?sz rfl ?base rfl (by rw [Jof]; simp)
      case fit => kernel_rfl
      case last => kernel_rfl
      case sz => rfl
      case gs => kernel_rfl
      case gv => intro p hp; cases hp
      case base => intro p hp; repeat (first | (rcases List.mem_cons.1 hp with rfl | hp; · rfl) | cases hp)
      case stable => repeat (first | exact .nil | refine .same ?_)
      case steps =>
        refine .cons (fun f ρ w hno hyes hρ hJ hu hb hd => by
          have d0 : ρ (.tmp 4) = u4 := hu
          exact step_move (.tmp 4) rfl ⟨Nat.le_refl _, by rw [Jof] at hJ ⊢; simpa using hJ, d0⟩) ?_
        refine .cons (fun f ρ w hno hyes hρ hJ hu hb hd => by
          have d0 : ρ (.tmp 0) = (Value.string s) := hb (0, _) (List.mem_of_getElem? (i := 0) rfl)
          exact step_move (.tmp 0) rfl ⟨Nat.le_refl _, by rw [Jof] at hJ ⊢; simpa using hJ, d0⟩) ?_
        refine .cons (fun f ρ w hno hyes hρ hJ hu hb hd => by
          have d0 : ρ (.tmp 3) = (Value.slice (some { block := g, off := 0 }) M c) := hb (3, _) (List.mem_of_getElem? (i := 3) rfl)
          exact step_move (.tmp 3) rfl ⟨Nat.le_refl _, by rw [Jof] at hJ ⊢; simpa using hJ, d0⟩) ?_
        refine .cons (fun f ρ w hno hyes hρ hJ hu hb hd => by
          have d0 : ρ (.tmp 5) = (Value.int IntKind.i64 ↑k) := hb (5, _) (List.mem_of_getElem? (i := 4) rfl)
          exact step_move (.tmp 5) rfl ⟨Nat.le_refl _, by rw [Jof] at hJ ⊢; simpa using hJ, d0⟩) ?_
        refine .cons (fun f ρ w hno hyes hρ hJ hu hb hd => by
          have d0 : ρ (.tmp 17) = (Value.slice (some { block := g, off := 0 }) M c) := hd 0 _ rfl rfl
          have d1 : ρ (.tmp 18) = (.int .i64 (k : Int)) := hd 1 _ rfl rfl
          exact step_val (v := (.pointer (some ⟨g, k, none⟩))) (w' := w) (by simp [go_sem, execOp, d0, d1, hρ.const, i1, i2, h2, h3, j1, j2, j3]) ⟨Nat.le_refl _, by rw [Jof] at hJ ⊢; simpa using hJ, rfl⟩) ?_
        refine .cons (fun f ρ w hno hyes hρ hJ hu hb hd => by
          have d0 : ρ (.tmp 19) = (.pointer (some ⟨g, k, none⟩)) := hd 0 _ rfl rfl
          have c1 := (hcells w (hJB f w hJ)).1
          exact step_val (v := (.int .i64 (a : Int))) (w' := w) (by simp [go_sem, execOp, d0, c1]) ⟨Nat.le_refl _, by rw [Jof] at hJ ⊢; simpa using hJ, rfl⟩) ?_
        refine .cons (fun f ρ w hno hyes hρ hJ hu hb hd => by
          have d0 : ρ (.tmp 3) = (Value.slice (some { block := g, off := 0 }) M c) := hb (3, _) (List.mem_of_getElem? (i := 3) rfl)
          exact step_move (.tmp 3) rfl ⟨Nat.le_refl _, by rw [Jof] at hJ ⊢; simpa using hJ, d0⟩) ?_
        refine .cons (fun f ρ w hno hyes hρ hJ hu hb hd => by
          have d0 : ρ (.tmp 5) = (Value.int IntKind.i64 ↑k) := hb (5, _) (List.mem_of_getElem? (i := 4) rfl)
          exact step_move (.tmp 5) rfl ⟨Nat.le_refl _, by rw [Jof] at hJ ⊢; simpa using hJ, d0⟩) ?_
        refine .cons (fun f ρ w hno hyes hρ hJ hu hb hd => by
          have d0 : ρ (.tmp 22) = (.int .i64 (k : Int)) := hd 0 _ rfl rfl
          refine step_val (v := (.int .i64 ((k : Int) + 1))) (w' := w) ?_ ⟨Nat.le_refl _, by rw [Jof] at hJ ⊢; simpa using hJ, rfl⟩
          simp [go_sem, execOp, d0, hρ.const, i1, i2, j3, j4, j5]
          exact wrap_small (by omega) (by omega)) ?_
        refine .cons (fun f ρ w hno hyes hρ hJ hu hb hd => by
          have d0 : ρ (.tmp 21) = (Value.slice (some { block := g, off := 0 }) M c) := hd 0 _ rfl rfl
          have d1 : ρ (.tmp 23) = (.int .i64 ((k : Int) + 1)) := hd 1 _ rfl rfl
          refine step_val (v := (.pointer (some ⟨g, k + 1, none⟩))) (w' := w) ?_ ⟨Nat.le_refl _, by rw [Jof] at hJ ⊢; simpa using hJ, rfl⟩
          simp [go_sem, execOp, d0, d1, hρ.const, i1, i2, j3, j4, j5]) ?_
        refine .cons (fun f ρ w hno hyes hρ hJ hu hb hd => by
          have d0 : ρ (.tmp 24) = (.pointer (some ⟨g, k + 1, none⟩)) := hd 0 _ rfl rfl
          have c1 := (hcells w (hJB f w hJ)).2
          exact step_val (v := (.int .i64 (b : Int))) (w' := w) (by simp [go_sem, execOp, d0, c1]) ⟨Nat.le_refl _, by rw [Jof] at hJ ⊢; simpa using hJ, rfl⟩) ?_
        refine .cons (fun f ρ w hno hyes hρ hJ hu hb hd => by
          have d0 : ρ (.tmp 16) = (.string s) := hd 0 _ rfl rfl
          have d1 : ρ (.tmp 20) = (.int .i64 (a : Int)) := hd 1 _ rfl rfl
          have d2 : ρ (.tmp 25) = (.int .i64 (b : Int)) := hd 2 _ rfl rfl
          exact step_val (v := (.string (s.extract a b))) (w' := w) (by simp [go_sem, execOp, d0, d1, d2, hρ.const, i1, i2, h2, h3, j1, j2, j3]) ⟨Nat.le_refl _, by rw [Jof] at hJ ⊢; simpa using hJ, rfl⟩) ?_
        refine .cons (fun f ρ w hno hyes hρ hJ hu hb hd => by
          have d0 : ρ (.tmp 26) = (.string (s.extract a b)) := hd 0 _ rfl rfl
          have e1 : w = wr.drew := by
            rw [Jof] at hJ
            simpa [hno 13 (.inr (by kernel_rfl)), hno 12 (.inl rfl)] using hJ
          subst e1
          exact step_val (v := (.slice (some ⟨wr.heap.size, 0, none⟩) 1 1)) (w' := Wa) (by rw [← hWa]; simp [go_sem, execOp, d0]) ⟨by rw [← hWa]; simp, by rw [Jof]; simp [hno 13 (.inr (by kernel_rfl))], rfl⟩) ?_
        refine .cons (fun f ρ w hno hyes hρ hJ hu hb hd => by
          have d0 : ρ (.tmp 15) = u4 := hd 0 _ rfl rfl
          have d1 : ρ (.tmp 27) = (.slice (some ⟨wr.heap.size, 0, none⟩) 1 1) := hd 1 _ rfl rfl
          have e1 : w = Wa := by
            rw [Jof] at hJ
            simpa [hno 13 (.inl rfl), show f 12 = true from hyes 1 _ rfl rfl] using hJ
          subst e1
          exact step_val (v := v4) (w' := W4) (run_append (.tmp 15) (.tmp 27) 31 rfl d0 d1 hrun) ⟨hg4.size, by rw [Jof]; simp, rfl⟩) ?_
        refine .cons (fun f ρ w hno hyes hρ hJ hu hb hd => by
          have d0 : ρ (.tmp 28) = v4 := hd 0 _ rfl rfl
          exact step_assign (.tmp 28) rfl ⟨Nat.le_refl _, by rw [Jof] at hJ ⊢; simpa using hJ, d0⟩) (.nil _)
      case fin =>
        intro ac W5 hsz2 hds hb hJ hv
        obtain ⟨f, hf, hJ⟩ := hJ
        obtain rfl : W5 = W4 := by rw [Jof, hf 13 (by decide)] at hJ; simpa using hJ
        obtain rfl := frame_of ([(0, (Value.string s)), (1, undef), (2, (Value.slice none 0 0)), (3, (Value.slice (some { block := g, off := 0 }) M c)), (5, (Value.int IntKind.i64 ↑k)), (6, (Value.string s)), (7, (Value.slice (some { block := g, off := 0 }) M c)), (8, (Value.int IntKind.i64 ↑k)), (9, (Value.int IntKind.i64 (↑k + 1))), (10, (Value.slice (some { block := g, off := 0 }) M c)), (11, (Value.int IntKind.i64 ↑M)), (12, (Value.bool true)), (13, u13), (14, u14), (29, undef)] ++ [(15, u4), (16, (.string s)), (17, (Value.slice (some { block := g, off := 0 }) M c)), (18, (.int .i64 (k : Int))), (19, (.pointer (some ⟨g, k, none⟩))), (20, (.int .i64 (a : Int))), (21, (Value.slice (some { block := g, off := 0 }) M c)), (22, (.int .i64 (k : Int))), (23, (.int .i64 ((k : Int) + 1))), (24, (.pointer (some ⟨g, k + 1, none⟩))), (25, (.int .i64 (b : Int))), (26, (.string (s.extract a b))), (27, (.slice (some ⟨wr.heap.size, 0, none⟩) 1 1)), (28, v4), (4, v4)]) [(Value.string s), undef, (Value.slice none 0 0), (Value.slice (some { block := g, off := 0 }) M c), v4, (Value.int IntKind.i64 ↑k), (Value.string s), (Value.slice (some { block := g, off := 0 }) M c), (Value.int IntKind.i64 ↑k), (Value.int IntKind.i64 (↑k + 1)), (Value.slice (some { block := g, off := 0 }) M c), (Value.int IntKind.i64 ↑M), (Value.bool true), u13, u14, u4, (.string s), (Value.slice (some { block := g, off := 0 }) M c), (.int .i64 (k : Int)), (.pointer (some ⟨g, k, none⟩)), (.int .i64 (a : Int)), (Value.slice (some { block := g, off := 0 }) M c), (.int .i64 (k : Int)), (.int .i64 ((k : Int) + 1)), (.pointer (some ⟨g, k + 1, none⟩)), (.int .i64 (b : Int)), (.string (s.extract a b)), (.slice (some ⟨wr.heap.size, 0, none⟩) 1 1), v4, undef] hsz2 hds (fun p hp => by
          rcases List.mem_append.1 hp with h | h
          · exact hb p h
          · simp only [List.mem_cons, List.not_mem_nil, or_false] at h
            rcases h with rfl | rfl | rfl | rfl | rfl | rfl | rfl | rfl | rfl | rfl | rfl | rfl | rfl | rfl | rfl
            · exact hv 0 (by decide)
            · exact hv 1 (by decide)
            · exact hv 2 (by decide)
            · exact hv 3 (by decide)
            · exact hv 4 (by decide)
            · exact hv 5 (by decide)
            · exact hv 6 (by decide)
            · exact hv 7 (by decide)
            · exact hv 8 (by decide)
            · exact hv 9 (by decide)
            · exact hv 10 (by decide)
            · exact hv 11 (by decide)
            · exact hv 12 (by decide)
            · exact hv 13 (by decide)
            · exact hv 14 (by decide)) rfl
        clear hb hv hds hsz2
        go_wp2
        go_roundw
        case rel => exact ⟨k + 1, by omega, by go_num, by rw [hst]; exact ho4, hB4⟩
        case measure => simp [RowKit.intOf]; omega
    · have i1 : ¬ (k : Int) + 1 < (M : Int) := by omega
      obtain rfl : k = L := by omega
      go_wp2
      go_ret
      refine ⟨_, rfl, ?_, hB.trans (hBr.mono hsW)⟩
      rw [unhide HL]
      have := hrow
      rw [List.take_of_length_le (by rw [unhide HL]; omega)] at this
      exact owns_base this hsW

end Go.Proofs.Ytcagfapdhopmjaa
