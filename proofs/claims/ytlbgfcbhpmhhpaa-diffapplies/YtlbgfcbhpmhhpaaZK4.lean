/-
  The document's own Invert.
-/
import Derived.Test.YtlbgfcbhpmhhpaaZK3
import Derived.Test.YtlbgfcbhpmhhpaaZRegM
set_option linter.unusedSimpArgs false
set_option linter.unusedVariables false
namespace Go.Proofs.Ytlbgfcbhpmhhpaa
open Go.RowKit Go.Lib

theorem ivL_get : ∀ (l : List Ed) (s : ByteArray) (i : Nat) (e : Ed), l[i]? = some e → ∃ g, (ivL s l)[i]? = some (e.1, (((allL e.2.2).length : Nat) : Int), g)
  | [], s, i, e, h => by simp at h
  | a :: l, s, 0, e, h => by simp at h; subst h; exact ⟨_, rfl⟩
  | a :: l, s, i + 1, e, h => by
    obtain ⟨g, hg⟩ := ivL_get l (rst s a) i e (by simpa using h)
    exact ⟨g, by simpa [ivL] using hg⟩

theorem app_E (w : World) (base : Nat) (v : Value) (l : List Ed) (e : Ed) (hown : w.ownsRow base 32 3 v l.length (edsC l)) (hb : base ≤ w.heap.size) (hl : l.length ≤ 1000000) :
    ∃ v' w', (∀ ty, (Builtin.append_ #[23, 23] ty #[v, .slice (some ⟨w.heap.size, 0, none⟩) 1 1]).run Try.prog (w.alloc (.cells #[.int .i64 e.1, .int .i64 e.2.1, .string e.2.2] 32)) = .ok v' w') ∧ w'.ownsRow base 32 3 v' (l ++ [e]).length (edsC (l ++ [e])) ∧ Below base w w' := by
  obtain ⟨i0, hinf, hz0, hz1, hz2⟩ := info_parts infoEdit
  have hal := World.ownsRow.alloc hown (.cells #[.int .i64 e.1, .int .i64 e.2.1, .string e.2.2] 32)
  obtain ⟨v', w', h1, h2, h3, h4⟩ := run_append_own (P := Try.prog) (w.alloc (.cells #[.int .i64 e.1, .int .i64 e.2.1, .string e.2.2] 32)) base 23 23 32 i0 _ 3 32 Try.underlying23 hinf hz0 hz1 hz2 rfl (by decide) v l.length (edsC l) hal ⟨w.heap.size, 0, none⟩ 1 1 (edC e) rfl (new_three _ _ _ _ _) (by simp [edC, Value.oneCell']) (by unfold maxLen; omega) (by omega) (by simp; omega)
  refine ⟨v', w', fun ty => h1, by rw [edsC_append, List.length_append]; exact h2, ((Below.refl base w).alloc hb _).grown h3 (by simp; omega) (fun q e => (hown.lt q e).1)⟩

/-- what the one Edit's row holds -/
def V17 (u : Value) (k : Int) (T : Nat) (g : ByteArray) (w : World) (v : Value) : Prop := ∃ g', v = .slice (some ⟨g', 0, none⟩) 1 1 ∧ g' < w.heap.size ∧ u.ownBlock ≠ some g' ∧ ∀ j x, (edC (k, (T : Int), g))[j]? = some x → w.cell? ((⟨g', 0, none⟩ : Addr).add j) = some x
def V18 (B : Nat) (l : List Ed) (w : World) (v : Value) : Prop := w.ownsRow B 32 3 v l.length (edsC l)
def Gi (u : Value) (i : Nat) (w w' : World) : Prop := (i = 18 → w.heap.size ≤ w'.heap.size ∧ ∀ q, q < w.heap.size → u.ownBlock ≠ some q → w'.heap[q]? = w.heap[q]?) ∧ (i ≠ 18 → Below w.heap.size w w')
theorem V17_stable {u : Value} {k : Int} {T : Nat} {g : ByteArray} {i : Nat} {w w' : World} {v : Value} (h : V17 u k T g w v) (hG : Gi u i w w') : V17 u k T g w' v := by
  obtain ⟨g', e, h1, h2, h3⟩ := h
  have hb : w'.heap[g']? = w.heap[g']? ∧ w.heap.size ≤ w'.heap.size := by
    by_cases hi : i = 18
    · exact ⟨(hG.1 hi).2 g' h1 h2, (hG.1 hi).1⟩
    · exact ⟨(hG.2 hi).block g' h1, (hG.2 hi).size⟩
  refine ⟨g', e, by omega, h2, fun j x hx => ?_⟩
  rw [← h3 j x hx, Addr.add_lit]
  unfold World.cell?
  rw [hb.1]
theorem down_step {f : Nat → Bool} {i : Nat} (h : f 19 = true → f 18 = true) (hi : i ≠ 19) : (f 19 || 19 == i) = true → (f 18 || 18 == i) = true := by
  intro h'
  rcases Bool.or_eq_true_iff.1 h' with h1 | h1
  · rw [h h1]; rfl
  · exact absurd (beq_iff_eq.1 h1).symm hi
theorem V18_stable {B : Nat} {l : List Ed} {u : Value} {i : Nat} {w w' : World} {v : Value} (hi : i ≠ 18) (h : V18 B l w v) (hG : Gi u i w w') : V18 B l w' v := owns_below h (hG.2 hi)

set_option maxRecDepth 100000 in
set_option maxHeartbeats 8000000 in
theorem refInvert_in (s : ByteArray) (l : List Ed) (v : Value) (w : World) (h : RE w v l) (hs : s.size ≤ 8000) (hl : l.length ≤ 300) (hok : ∀ e ∈ l, EdOk e) (hsz : szL l ≤ 8000) :
    Calls Try.prog 17 #[.string s, v] w fun e W => ∃ u, e = .returned (.tuple #[u, .int .i64 (chk s l)]) ∧ RE W u (if chk s l = 0 then ivL s l else []) ∧ Below w.heap.size w W := by
  have hap := hide (refApply_in s l v w h hs hl hok hsz)
  by_cases hz : chk s l = 0
  · rw [if_pos hz]
    rw [hz] at hap ⊢
    simp only [if_true] at hap
    have hil := ivL_length s l
    have Hget := hide (fun i e h => ivL_get l s i e h)
    obtain ⟨V, hV⟩ : ∃ V, ivL s l = V := ⟨_, rfl⟩
    rw [hV] at hap hil Hget ⊢
    obtain ⟨a, cap, rfl⟩ := h.form
    have Hre := hide h
    have Hok := hide hok
    obtain ⟨L, hL⟩ : ∃ L, l.length = L := ⟨_, rfl⟩
    rw [hL] at hl Hre hap hil ⊢
    have HL := hide hL
    have HVl := hide hil
    generalize ofL (apW s l) = R at *
    clear h hok hL hz hV hil
    go_enter Try.func17, Try.ntmps17
    go_wp2_with fail
    refine (unhide hap).mono ?_
    rintro e W1 ⟨gv, rfl, hst, hB1⟩
    have Hst := hide hst
    have hgf : ∃ ag cg, gv = .slice ag V.length cg := by
      rcases hst with ⟨e0, a0, c0, rfl⟩ | ⟨b0, o0, c0, rfl, _⟩
      · have : V.length = 0 := by simpa using congrArg List.length e0
        exact ⟨a0, c0, by rw [this]⟩
      · exact ⟨_, c0, by rw [List.length_map]⟩
    obtain ⟨ag, cg, rfl⟩ := hgf
    rw [unhide HVl] at Hst ⊢
    clear hst hap
    go_wp2_with fail
    go_loopw [9, 10] (fun ov iv wr => ∃ i : Nat, i ≤ L ∧ iv = .int .i64 (i : Nat) ∧ wr.ownsRow W1.heap.size 32 3 ov (V.take i).length (edsC (V.take i)) ∧ Below W1.heap.size W1 wr) (fun _ iv _ => L - (RowKit.intOf iv).toNat)
    case atStart => exact ⟨0, by omega, rfl, World.ownsRow_nil _ _ _ _, Below.refl _ _⟩
    case round =>
      obtain ⟨i, hi, rfl, hrow, hB⟩ := hrel
      have hbw := bnext hB1 hB
      have Hrow := hide hrow
      clear hrow
      by_cases hlt : i < L
      · have hlt' : i < l.length := by rw [unhide HL]; exact hlt
        have hltV : i < V.length := by rw [unhide HVl]; exact hlt
        rcases unhide Hre with ⟨e0, _⟩ | ⟨b, off, cap', e0, hc⟩
        · rw [e0] at hlt'; simp at hlt'
        simp only [Value.slice.injEq] at e0
        obtain ⟨rfl, hLL, rfl⟩ := e0
        clear hLL
        obtain ⟨c0, c1, c2⟩ := hc i _ (List.getElem?_eq_getElem hlt')
        obtain ⟨g, hg⟩ := unhide Hget i _ (List.getElem?_eq_getElem hlt')
        have hek := unhide Hok _ (List.getElem_mem hlt')
        rcases unhide Hst with ⟨e0, _⟩ | ⟨bg, og, cg', e0, hcg⟩
        · have : V.length = 0 := by simpa using congrArg List.length e0
          omega
        simp only [Value.slice.injEq] at e0
        obtain ⟨rfl, hLL, rfl⟩ := e0
        clear hLL
        obtain ⟨⟨k, d, t⟩, he⟩ : ∃ e, l[i] = e := ⟨_, rfl⟩
        rw [he] at c0 c1 c2 hek hg
        simp only at c0 c1 c2 hg
        have g0 := hcg i g (by rw [List.getElem?_map, hg]; rfl)
        have hts : t.size ≤ 1000000000 := hek.2.2.2.2
        have hcnt := fun W => hide (refCount_in t hts W)
        have hcl := allL_length t
        generalize (allL t).length = T at *
        have htk : V.take (i + 1) = V.take i ++ [(k, (T : Int), g)] := by
          rw [List.take_add_one, hg]; rfl
        have hVk : (V.take i).length ≤ 300 := by rw [List.length_take]; omega
        have Htk := hide htk
        have c0' := cell_below c0 hbw
        have c2' := cell_below c2 hbw
        have g0' := cell_below g0 hB
        have b0 := World.block_lt_of_cell? _ _ c0'
        have b1 := World.block_lt_of_cell? _ _ g0'
        simp only at b0 b1
        have i1 : (i : Int) < (L : Int) := by omega
        have C0 := hide c0
        have C2 := hide c2
        have G0 := hide g0
        clear c0 c1 c2 he hek hcg hc hg g0 htk
        go_wp2
        obtain ⟨i0, hinf, hz0, hz1, hz2⟩ := info_parts infoEdit
        have hcl0 : ∀ w', Below W1.heap.size W1 w' → w'.cell? ⟨b, off + i * 3, none⟩ = some (.int .i64 k) := fun w' hb => cell_below (unhide C0) (bnext hB1 hb)
        have hcl2 : ∀ w', Below W1.heap.size W1 w' → w'.cell? ⟨b, off + i * 3 + 2, none⟩ = some (.string t) := fun w' hb => cell_below (unhide C2) (bnext hB1 hb)
        have hclg : ∀ w', Below W1.heap.size W1 w' → w'.cell? ⟨bg, og + i, none⟩ = some (.string g) := fun w' hb => cell_below (unhide G0) hb
        have j3 : (0 : Int) ≤ (i : Int) := by omega
        refine wp_region_any (by kernel_rfl) ?_
        change wpAny _ _ _ _ _ _ _ (World.drew _)
        refine region_lastG 47 (fun j => if j = 19 then 9 else 27 + j) [(0, (Value.string s)), (1, (Value.slice (some { block := b, off := off }) L cap)), (2, undef), (3, undef), (4, (Value.slice none 0 0)), (5, (Value.int IntKind.i64 0)), (6, (Value.string R)), (7, (Value.slice (some { block := bg, off := og }) L cg)), (8, (Value.int IntKind.i64 0)), (10, (Value.int IntKind.i64 ↑i)), (11, (Value.tuple #[Value.string R, Value.slice (some { block := bg, off := og }) L cg, Value.int IntKind.i64 0])), (12, (Value.string s)), (13, (Value.slice (some { block := b, off := off }) L cap)), (14, (Value.tuple #[Value.string R, Value.slice (some { block := bg, off := og }) L cg, Value.int IntKind.i64 0])), (15, (Value.string R)), (16, (Value.slice (some { block := bg, off := og }) L cg)), (17, (Value.int IntKind.i64 0)), (18, (Value.int IntKind.i64 0)), (19, (Value.bool false)), (20, undef), (21, (Value.int IntKind.i64 ↑i)), (22, (Value.slice (some { block := b, off := off }) L cap)), (23, (Value.int IntKind.i64 ↑L)), (24, (Value.bool true)), (25, u25), (26, u26), (46, undef)] u9 (fun f w => Below W1.heap.size W1 w ∧ (f 18 = false → w.ownsRow W1.heap.size 32 3 u9 (V.take i).length (edsC (V.take i))) ∧ (f 19 = true → f 18 = true)) (valsOf [isV u9, isV (Value.slice (some { block := b, off := off }) L cap), isV (Value.int IntKind.i64 ↑i), isV (.pointer (some ⟨b, off + i * 3, none⟩)), isV (.pointer (some ⟨b, off + i * 3, none⟩)), isV (.int .i64 k), isV (Value.slice (some { block := b, off := off }) L cap), isV (Value.int IntKind.i64 ↑i), isV (.pointer (some ⟨b, off + i * 3, none⟩)), isV (.pointer (some ⟨b, off + i * 3 + 2, none⟩)), isV (.string t), isV (.int .i64 (T : Nat)), isV (Value.slice (some { block := bg, off := og }) L cg), isV (Value.int IntKind.i64 ↑i), isV (.pointer (some ⟨bg, og + i, none⟩)), isV (.string g), isV (.agg #[.int .i64 k, .int .i64 (T : Nat), .string g]), (V17 u9 k T g), (V18 W1.heap.size (V.take (i + 1))), (V18 W1.heap.size (V.take (i + 1)))]) (Gi u9) ?fit ?last ?stable [] ?gs ?gv ?steps ?fin _ _ ?sz rfl ?base rfl ?start
        case fit => kernel_rfl
        case last => kernel_rfl
        case sz => rfl
        case gs => kernel_rfl
        case gv => intro p hp; cases hp
        case base => intro p hp; repeat (first | (rcases List.mem_cons.1 hp with rfl | hp; · rfl) | cases hp)
        case start => exact ⟨hB.drew, fun _ => unhide Hrow, fun e => e⟩
        case stable =>
          intro q j f w w' v hj hq hJ hv hG
          by_cases h20 : j < 20
          · rcases (show j = 0 ∨ j = 1 ∨ j = 2 ∨ j = 3 ∨ j = 4 ∨ j = 5 ∨ j = 6 ∨ j = 7 ∨ j = 8 ∨ j = 9 ∨ j = 10 ∨ j = 11 ∨ j = 12 ∨ j = 13 ∨ j = 14 ∨ j = 15 ∨ j = 16 ∨ j = 17 ∨ j = 18 ∨ j = 19 by omega) with rfl | rfl | rfl | rfl | rfl | rfl | rfl | rfl | rfl | rfl | rfl | rfl | rfl | rfl | rfl | rfl | rfl | rfl | rfl | rfl
            · exact hv
            · exact hv
            · exact hv
            · exact hv
            · exact hv
            · exact hv
            · exact hv
            · exact hv
            · exact hv
            · exact hv
            · exact hv
            · exact hv
            · exact hv
            · exact hv
            · exact hv
            · exact hv
            · exact hv
            · exact V17_stable hv hG
            · exact V18_stable (fun e => by subst e; first | (rw [hq] at hj; cases hj) | (have := hJ.2.2 hj; rw [hq] at this; cases this)) hv hG
            · exact V18_stable (fun e => by subst e; first | (rw [hq] at hj; cases hj) | (have := hJ.2.2 hj; rw [hq] at this; cases this)) hv hG
          · have e0 : ∀ (l : List (World → Value → Prop)), l.length ≤ j → valsOf l j = fun _ _ => True := fun l h => by unfold valsOf; rw [List.getD_eq_getElem?_getD, List.getElem?_eq_none h]; rfl
            rw [e0 _ (by simp; omega)]
            trivial
        case steps =>
          refine .cons (fun f ρ w hno hyes hρ hJ hu hb hd => by
            have d0 : ρ (.tmp 9) = u9 := hu
            exact step_move (.tmp 9) rfl ⟨⟨fun e => absurd e (by decide), fun _ => Below.refl _ _⟩, ⟨hJ.1, fun h18 => hJ.2.1 (Bool.or_eq_false_iff.1 h18).1, down_step hJ.2.2 (by decide)⟩, d0⟩) ?_
          refine .cons (fun f ρ w hno hyes hρ hJ hu hb hd => by
            have d0 : ρ (.tmp 1) = (Value.slice (some { block := b, off := off }) L cap) := hb (1, _) (List.mem_of_getElem? (i := 1) rfl)
            exact step_move (.tmp 1) rfl ⟨⟨fun e => absurd e (by decide), fun _ => Below.refl _ _⟩, ⟨hJ.1, fun h18 => hJ.2.1 (Bool.or_eq_false_iff.1 h18).1, down_step hJ.2.2 (by decide)⟩, d0⟩) ?_
          refine .cons (fun f ρ w hno hyes hρ hJ hu hb hd => by
            have d0 : ρ (.tmp 10) = (Value.int IntKind.i64 ↑i) := hb (10, _) (List.mem_of_getElem? (i := 9) rfl)
            exact step_move (.tmp 10) rfl ⟨⟨fun e => absurd e (by decide), fun _ => Below.refl _ _⟩, ⟨hJ.1, fun h18 => hJ.2.1 (Bool.or_eq_false_iff.1 h18).1, down_step hJ.2.2 (by decide)⟩, d0⟩) ?_
          refine .cons (fun f ρ w hno hyes hρ hJ hu hb hd => by
            have d0 : ρ (.tmp 28) = (Value.slice (some { block := b, off := off }) L cap) := hd 0 _ rfl rfl
            have d1 : ρ (.tmp 29) = (Value.int IntKind.i64 ↑i) := hd 1 _ rfl rfl
            exact step_val (v := (.pointer (some ⟨b, off + i * 3, none⟩))) (w' := w) (by simp [go_sem, execOp, d0, d1, hρ.const, i1, j3]) ⟨⟨fun e => absurd e (by decide), fun _ => Below.refl _ _⟩, ⟨hJ.1, fun h18 => hJ.2.1 (Bool.or_eq_false_iff.1 h18).1, down_step hJ.2.2 (by decide)⟩, rfl⟩) ?_
          refine .cons (fun f ρ w hno hyes hρ hJ hu hb hd => by
            have d0 : ρ (.tmp 30) = (.pointer (some ⟨b, off + i * 3, none⟩)) := hd 0 _ rfl rfl
            exact step_val (v := (.pointer (some ⟨b, off + i * 3, none⟩))) (w' := w) (by simp [go_sem, execOp, d0, hρ.const, i1, j3]) ⟨⟨fun e => absurd e (by decide), fun _ => Below.refl _ _⟩, ⟨hJ.1, fun h18 => hJ.2.1 (Bool.or_eq_false_iff.1 h18).1, down_step hJ.2.2 (by decide)⟩, rfl⟩) ?_
          refine .cons (fun f ρ w hno hyes hρ hJ hu hb hd => by
            have d0 : ρ (.tmp 31) = (.pointer (some ⟨b, off + i * 3, none⟩)) := hd 0 _ rfl rfl
            have c1 := hcl0 w hJ.1
            exact step_val (v := (.int .i64 k)) (w' := w) (by simp [go_sem, execOp, d0, c1]) ⟨⟨fun e => absurd e (by decide), fun _ => Below.refl _ _⟩, ⟨hJ.1, fun h18 => hJ.2.1 (Bool.or_eq_false_iff.1 h18).1, down_step hJ.2.2 (by decide)⟩, rfl⟩) ?_
          refine .cons (fun f ρ w hno hyes hρ hJ hu hb hd => by
            have d0 : ρ (.tmp 1) = (Value.slice (some { block := b, off := off }) L cap) := hb (1, _) (List.mem_of_getElem? (i := 1) rfl)
            exact step_move (.tmp 1) rfl ⟨⟨fun e => absurd e (by decide), fun _ => Below.refl _ _⟩, ⟨hJ.1, fun h18 => hJ.2.1 (Bool.or_eq_false_iff.1 h18).1, down_step hJ.2.2 (by decide)⟩, d0⟩) ?_
          refine .cons (fun f ρ w hno hyes hρ hJ hu hb hd => by
            have d0 : ρ (.tmp 10) = (Value.int IntKind.i64 ↑i) := hb (10, _) (List.mem_of_getElem? (i := 9) rfl)
            exact step_move (.tmp 10) rfl ⟨⟨fun e => absurd e (by decide), fun _ => Below.refl _ _⟩, ⟨hJ.1, fun h18 => hJ.2.1 (Bool.or_eq_false_iff.1 h18).1, down_step hJ.2.2 (by decide)⟩, d0⟩) ?_
          refine .cons (fun f ρ w hno hyes hρ hJ hu hb hd => by
            have d0 : ρ (.tmp 33) = (Value.slice (some { block := b, off := off }) L cap) := hd 0 _ rfl rfl
            have d1 : ρ (.tmp 34) = (Value.int IntKind.i64 ↑i) := hd 1 _ rfl rfl
            exact step_val (v := (.pointer (some ⟨b, off + i * 3, none⟩))) (w' := w) (by simp [go_sem, execOp, d0, d1, hρ.const, i1, j3]) ⟨⟨fun e => absurd e (by decide), fun _ => Below.refl _ _⟩, ⟨hJ.1, fun h18 => hJ.2.1 (Bool.or_eq_false_iff.1 h18).1, down_step hJ.2.2 (by decide)⟩, rfl⟩) ?_
          refine .cons (fun f ρ w hno hyes hρ hJ hu hb hd => by
            have d0 : ρ (.tmp 35) = (.pointer (some ⟨b, off + i * 3, none⟩)) := hd 0 _ rfl rfl
            exact step_val (v := (.pointer (some ⟨b, off + i * 3 + 2, none⟩))) (w' := w) (by simp [go_sem, execOp, d0, hρ.const, i1, j3]) ⟨⟨fun e => absurd e (by decide), fun _ => Below.refl _ _⟩, ⟨hJ.1, fun h18 => hJ.2.1 (Bool.or_eq_false_iff.1 h18).1, down_step hJ.2.2 (by decide)⟩, rfl⟩) ?_
          refine .cons (fun f ρ w hno hyes hρ hJ hu hb hd => by
            have d0 : ρ (.tmp 36) = (.pointer (some ⟨b, off + i * 3 + 2, none⟩)) := hd 0 _ rfl rfl
            have c1 := hcl2 w hJ.1
            exact step_val (v := (.string t)) (w' := w) (by simp [go_sem, execOp, d0, c1]) ⟨⟨fun e => absurd e (by decide), fun _ => Below.refl _ _⟩, ⟨hJ.1, fun h18 => hJ.2.1 (Bool.or_eq_false_iff.1 h18).1, down_step hJ.2.2 (by decide)⟩, rfl⟩) ?_
          refine .cons (fun f ρ w hno hyes hρ hJ hu hb hd => by
            have d0 : ρ (.tmp 37) = (.string t) := hd 0 _ rfl rfl
            refine step_func 38 #[.tmp 37] #[9] #[.string t] hρ rfl (enters_of Try.func38 (by kernel_rfl) rfl) (by simp [d0]) ?_
            refine (unhide (hcnt _)).mono ?_
            rintro e W4 ⟨rfl, hB4⟩
            refine ⟨_, rfl, ⟨fun e => absurd e (by decide), fun _ => hB4⟩, ⟨bnext hJ.1 hB4, fun h18 => owns_below (hJ.2.1 (Bool.or_eq_false_iff.1 h18).1) hB4, down_step hJ.2.2 (by decide)⟩, rfl⟩) ?_
          refine .cons (fun f ρ w hno hyes hρ hJ hu hb hd => by
            have d0 : ρ (.tmp 7) = (Value.slice (some { block := bg, off := og }) L cg) := hb (7, _) (List.mem_of_getElem? (i := 7) rfl)
            exact step_move (.tmp 7) rfl ⟨⟨fun e => absurd e (by decide), fun _ => Below.refl _ _⟩, ⟨hJ.1, fun h18 => hJ.2.1 (Bool.or_eq_false_iff.1 h18).1, down_step hJ.2.2 (by decide)⟩, d0⟩) ?_
          refine .cons (fun f ρ w hno hyes hρ hJ hu hb hd => by
            have d0 : ρ (.tmp 10) = (Value.int IntKind.i64 ↑i) := hb (10, _) (List.mem_of_getElem? (i := 9) rfl)
            exact step_move (.tmp 10) rfl ⟨⟨fun e => absurd e (by decide), fun _ => Below.refl _ _⟩, ⟨hJ.1, fun h18 => hJ.2.1 (Bool.or_eq_false_iff.1 h18).1, down_step hJ.2.2 (by decide)⟩, d0⟩) ?_
          refine .cons (fun f ρ w hno hyes hρ hJ hu hb hd => by
            have d0 : ρ (.tmp 39) = (Value.slice (some { block := bg, off := og }) L cg) := hd 0 _ rfl rfl
            have d1 : ρ (.tmp 40) = (Value.int IntKind.i64 ↑i) := hd 1 _ rfl rfl
            exact step_val (v := (.pointer (some ⟨bg, og + i, none⟩))) (w' := w) (by simp [go_sem, execOp, d0, d1, hρ.const, i1, j3]) ⟨⟨fun e => absurd e (by decide), fun _ => Below.refl _ _⟩, ⟨hJ.1, fun h18 => hJ.2.1 (Bool.or_eq_false_iff.1 h18).1, down_step hJ.2.2 (by decide)⟩, rfl⟩) ?_
          refine .cons (fun f ρ w hno hyes hρ hJ hu hb hd => by
            have d0 : ρ (.tmp 41) = (.pointer (some ⟨bg, og + i, none⟩)) := hd 0 _ rfl rfl
            have c1 := hclg w hJ.1
            exact step_val (v := (.string g)) (w' := w) (by simp [go_sem, execOp, d0, c1]) ⟨⟨fun e => absurd e (by decide), fun _ => Below.refl _ _⟩, ⟨hJ.1, fun h18 => hJ.2.1 (Bool.or_eq_false_iff.1 h18).1, down_step hJ.2.2 (by decide)⟩, rfl⟩) ?_
          refine .cons (fun f ρ w hno hyes hρ hJ hu hb hd => by
            have d0 : ρ (.tmp 32) = (.int .i64 k) := hd 0 _ rfl rfl
            have d1 : ρ (.tmp 38) = (.int .i64 (T : Nat)) := hd 1 _ rfl rfl
            have d2 : ρ (.tmp 42) = (.string g) := hd 2 _ rfl rfl
            exact step_val (v := (.agg #[.int .i64 k, .int .i64 (T : Nat), .string g])) (w' := w) (by simp [go_sem, execOp, d0, d1, d2, hρ.const, i1, j3]) ⟨⟨fun e => absurd e (by decide), fun _ => Below.refl _ _⟩, ⟨hJ.1, fun h18 => hJ.2.1 (Bool.or_eq_false_iff.1 h18).1, down_step hJ.2.2 (by decide)⟩, rfl⟩) ?_
          refine .cons (fun f ρ w hno hyes hρ hJ hu hb hd => by
            have d0 : ρ (.tmp 43) = (.agg #[.int .i64 k, .int .i64 (T : Nat), .string g]) := hd 0 _ rfl rfl
            have hrow18 := hJ.2.1 (hno 18 (.inr (by kernel_rfl)))
            refine step_val (v := .slice (some ⟨w.heap.size, 0, none⟩) 1 1) (w' := w.alloc (.cells #[.int .i64 k, .int .i64 (T : Nat), .string g] 32)) (by simp [go_sem, execOp, d0]) ?_
            refine ⟨⟨fun e => absurd e (by decide), fun _ => (Below.refl _ _).alloc (Nat.le_refl _) _⟩, ⟨hJ.1.alloc hJ.1.size _, fun _ => World.ownsRow.alloc hrow18 _, down_step hJ.2.2 (by decide)⟩, ⟨w.heap.size, rfl, by simp, fun e => ?_, new_three _ _ _ _ _⟩⟩
            have := (hrow18.lt _ e).2
            omega) ?_
          refine .cons (fun f ρ w hno hyes hρ hJ hu hb hd => by
            have d0 : ρ (.tmp 27) = u9 := hd 0 _ rfl rfl
            have d1 : V17 u9 k T g w (ρ (.tmp 44)) := hd 1 _ rfl rfl
            have hrow18 := hJ.2.1 (hno 18 (.inl rfl))
            obtain ⟨g', e44, hg1, hg2, hg3⟩ := d1
            obtain ⟨v', w', q1, q2, q3, _⟩ := run_append_own (P := Try.prog) w W1.heap.size 23 23 32 i0 _ 3 32 Try.underlying23 hinf hz0 hz1 hz2 rfl (by decide) u9 (V.take i).length (edsC (V.take i)) hrow18 ⟨g', 0, none⟩ 1 1 (edC (k, (T : Int), g)) rfl hg3 (by simp [edC, Value.oneCell']) (by unfold maxLen; omega) (by omega) hJ.1.size
            refine step_val (v := v') (w' := w') (run_append (.tmp 27) (.tmp 44) 23 rfl d0 e44 q1) ?_
            refine ⟨⟨fun _ => ⟨q3.size, fun q hq hne => q3.block q hq (fun e => hne e.symm)⟩, fun e => absurd rfl e⟩, ⟨hJ.1.grown q3 hJ.1.size (fun q e => (hrow18.lt q e).1), fun h18 => by simp at h18, down_step hJ.2.2 (by decide)⟩, ?_⟩
            show w'.ownsRow _ _ _ _ _ _
            rw [unhide Htk, edsC_append, List.length_append]
            exact q2) ?_
          refine .cons (fun f ρ w hno hyes hρ hJ hu hb hd => by
            have d0 : V18 W1.heap.size (V.take (i + 1)) w (ρ (.tmp 45)) := hd 0 _ rfl rfl
            exact step_assign (.tmp 45) rfl ⟨⟨fun e => absurd e (by decide), fun _ => Below.refl _ _⟩, ⟨hJ.1, fun h18 => hJ.2.1 (Bool.or_eq_false_iff.1 h18).1, fun _ => Bool.or_eq_true_iff.2 (.inl (show f 18 = true from hyes 0 _ rfl rfl))⟩, d0⟩) (.nil _)
        case fin =>
          intro ac W5 hsz2 hds hb hJ hv
          obtain ⟨f, hf, hJ1, _⟩ := hJ
          have r9 : V18 W1.heap.size (V.take (i + 1)) W5 (ac.eval (.tmp 9)) := hv 19 (by decide)
          obtain ⟨x44, h44⟩ : ∃ x, ac.eval (.tmp 44) = x := ⟨_, rfl⟩
          obtain ⟨x45, h45⟩ : ∃ x, ac.eval (.tmp 45) = x := ⟨_, rfl⟩
          obtain ⟨x9, h9⟩ : ∃ x, ac.eval (.tmp 9) = x := ⟨_, rfl⟩
          rw [h9] at r9
          have R9 := hide r9
          obtain rfl := frame_of ([(0, (Value.string s)), (1, (Value.slice (some { block := b, off := off }) L cap)), (2, undef), (3, undef), (4, (Value.slice none 0 0)), (5, (Value.int IntKind.i64 0)), (6, (Value.string R)), (7, (Value.slice (some { block := bg, off := og }) L cg)), (8, (Value.int IntKind.i64 0)), (10, (Value.int IntKind.i64 ↑i)), (11, (Value.tuple #[Value.string R, Value.slice (some { block := bg, off := og }) L cg, Value.int IntKind.i64 0])), (12, (Value.string s)), (13, (Value.slice (some { block := b, off := off }) L cap)), (14, (Value.tuple #[Value.string R, Value.slice (some { block := bg, off := og }) L cg, Value.int IntKind.i64 0])), (15, (Value.string R)), (16, (Value.slice (some { block := bg, off := og }) L cg)), (17, (Value.int IntKind.i64 0)), (18, (Value.int IntKind.i64 0)), (19, (Value.bool false)), (20, undef), (21, (Value.int IntKind.i64 ↑i)), (22, (Value.slice (some { block := b, off := off }) L cap)), (23, (Value.int IntKind.i64 ↑L)), (24, (Value.bool true)), (25, u25), (26, u26), (46, undef)] ++ [(27, u9), (28, (Value.slice (some { block := b, off := off }) L cap)), (29, (Value.int IntKind.i64 ↑i)), (30, (.pointer (some ⟨b, off + i * 3, none⟩))), (31, (.pointer (some ⟨b, off + i * 3, none⟩))), (32, (.int .i64 k)), (33, (Value.slice (some { block := b, off := off }) L cap)), (34, (Value.int IntKind.i64 ↑i)), (35, (.pointer (some ⟨b, off + i * 3, none⟩))), (36, (.pointer (some ⟨b, off + i * 3 + 2, none⟩))), (37, (.string t)), (38, (.int .i64 (T : Nat))), (39, (Value.slice (some { block := bg, off := og }) L cg)), (40, (Value.int IntKind.i64 ↑i)), (41, (.pointer (some ⟨bg, og + i, none⟩))), (42, (.string g)), (43, (.agg #[.int .i64 k, .int .i64 (T : Nat), .string g])), (44, x44), (45, x45), (9, x9)]) [(Value.string s), (Value.slice (some { block := b, off := off }) L cap), undef, undef, (Value.slice none 0 0), (Value.int IntKind.i64 0), (Value.string R), (Value.slice (some { block := bg, off := og }) L cg), (Value.int IntKind.i64 0), x9, (Value.int IntKind.i64 ↑i), (Value.tuple #[Value.string R, Value.slice (some { block := bg, off := og }) L cg, Value.int IntKind.i64 0]), (Value.string s), (Value.slice (some { block := b, off := off }) L cap), (Value.tuple #[Value.string R, Value.slice (some { block := bg, off := og }) L cg, Value.int IntKind.i64 0]), (Value.string R), (Value.slice (some { block := bg, off := og }) L cg), (Value.int IntKind.i64 0), (Value.int IntKind.i64 0), (Value.bool false), undef, (Value.int IntKind.i64 ↑i), (Value.slice (some { block := b, off := off }) L cap), (Value.int IntKind.i64 ↑L), (Value.bool true), u25, u26, u9, (Value.slice (some { block := b, off := off }) L cap), (Value.int IntKind.i64 ↑i), (.pointer (some ⟨b, off + i * 3, none⟩)), (.pointer (some ⟨b, off + i * 3, none⟩)), (.int .i64 k), (Value.slice (some { block := b, off := off }) L cap), (Value.int IntKind.i64 ↑i), (.pointer (some ⟨b, off + i * 3, none⟩)), (.pointer (some ⟨b, off + i * 3 + 2, none⟩)), (.string t), (.int .i64 (T : Nat)), (Value.slice (some { block := bg, off := og }) L cg), (Value.int IntKind.i64 ↑i), (.pointer (some ⟨bg, og + i, none⟩)), (.string g), (.agg #[.int .i64 k, .int .i64 (T : Nat), .string g]), x44, x45, undef] hsz2 hds (fun p hp => by
              rcases List.mem_append.1 hp with h | h
              · exact hb p h
              · simp only [List.mem_cons, List.not_mem_nil, or_false] at h
                rcases h with rfl | rfl | rfl | rfl | rfl | rfl | rfl | rfl | rfl | rfl | rfl | rfl | rfl | rfl | rfl | rfl | rfl | rfl | rfl | rfl
                · exact hv 0 (by decide)
                · exact hv 1 (by decide)
                · exact hv 2 (by decide)
                · exact hv 3 (by decide)
                · exact hv 4 (by decide)
                · exact hv 5 (by decide)
                · exact hv 6 (by decide)
                · exact hv 7 (by decide)
                · exact hv 8 (by decide)
                · exact hv 9 (by decide)
                · exact hv 10 (by decide)
                · exact hv 11 (by decide)
                · exact hv 12 (by decide)
                · exact hv 13 (by decide)
                · exact hv 14 (by decide)
                · exact hv 15 (by decide)
                · exact hv 16 (by decide)
                · exact h44
                · exact h45
                · exact h9) rfl
          have hbn := hJ1
          clear hv hb hsz2 hds r9 h44 h45 h9 hf hJ1
          go_wp2
          go_roundw
          case rel => exact ⟨i + 1, by omega, by go_num, unhide R9, hbn⟩
          case measure => simp [RowKit.intOf]; omega
      · have htk : V.take i = V := List.take_of_length_le (by rw [unhide HVl]; omega)
        have hr := unhide Hrow
        rw [htk] at hr
        have Hr := hide (RE.of_owns hr)
        clear htk hr
        go_wp2
        go_ret2
        exact ⟨_, rfl, unhide Hr, hbw⟩
  · rw [if_neg hz]
    have hzd : ((chk s l) != 0) = true := by rw [bne_iff_ne]; exact hz
    obtain ⟨a, cap, rfl⟩ := h.form
    simp only [if_neg hz] at hap
    generalize chk s l = E at *
    clear h hz
    go_enter Try.func17, Try.ntmps17
    go_wp2_with fail
    refine (unhide hap).mono ?_
    rintro e W1 ⟨gv, rfl, _, hB1⟩
    go_wp2
    go_ret2
    exact ⟨_, rfl, .inl ⟨rfl, _, _, rfl⟩, hB1⟩

end Go.Proofs.Ytlbgfcbhpmhhpaa
