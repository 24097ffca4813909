/-
  Chapter 2's law ClumpOne returns true for every text, and leaves its argument as it was; no condition.
-/
import Derived.Test.YtcagfapdhopmjabRows
import Derived.WalkKit
import Derived.ProofKit
import Derived.OpenShut
import Derived.ShutString
import Derived.ChangeOld
import Derived.Below
import Derived.Test.YtcagfapdhopmjabKno
import Derived.Test.YtcagfapdhopmjabPrt2
import Derived.Test.YtcagfapdhopmjabOne
import Derived.Lib.Strings
set_option linter.unusedVariables false
set_option linter.unusedSimpArgs false
namespace Go.Proofs.Ytcagfapdhopmjab
namespace LClumpOne
open Go.ChangeShapes Go.WideShapes Go.ChangeAt Go.RowKit Go.Lib
open Go.ChangeMaps (open_string shut_string)

theorem cp_get {s : ByteArray} {i a b : Nat} (h : (cpL s)[i]? = some (a, b)) : (brL s)[i]? = some a ∧ (brL s)[i + 1]? = some b := by
  unfold cpL pairs at h
  rw [List.getElem?_zip_eq_some] at h
  refine ⟨h.1, ?_⟩
  have := h.2
  rw [List.getElem?_tail] at this
  exact this

theorem get_sorted {l : List Nat} (hs : l.Pairwise (· < ·)) {j k x y : Nat} (hjk : j < k) (hj : l[j]? = some x) (hk : l[k]? = some y) : x < y := by
  obtain ⟨h1, rfl⟩ := List.getElem?_eq_some_iff.1 hj
  obtain ⟨h2, rfl⟩ := List.getElem?_eq_some_iff.1 hk
  exact List.pairwise_iff_getElem.1 hs j k h1 h2 hjk

/-- between two neighbours of a rising list -/
theorem at_between {l : List Nat} (hs : l.Pairwise (· < ·)) {k x y q : Nat} (hx : l[k]? = some x) (hy : l[k + 1]? = some y) (hq : q ∈ l) : q ≤ x ∨ y ≤ q := by
  obtain ⟨j, hj, rfl⟩ := List.getElem_of_mem hq
  have hjj : l[j]? = some l[j] := List.getElem?_eq_getElem hj
  by_cases h : j < k + 1
  · left
    by_cases e : j = k
    · subst e; rw [hjj] at hx; cases hx; exact Nat.le_refl _
    · exact Nat.le_of_lt (get_sorted hs (by omega) hjj hx)
  · right
    by_cases e : j = k + 1
    · subst e; rw [hjj] at hy; cases hy; exact Nat.le_refl _
    · exact Nat.le_of_lt (get_sorted hs (by omega) hy hjj)

theorem st_cell {W : World} {B g cap : Nat} {s : ByteArray} {l : List (Nat × Nat)} (h : W.ownsRow B 9 1 (.slice (some ⟨g, 0, none⟩) l.length cap) l.length (cpC s l)) {k a b : Nat} (hk : l[k]? = some (a, b)) : W.cell? ⟨g, k, none⟩ = some (.string (s.extract a b)) := by
  have hlt : k < l.length := (List.getElem?_eq_some_iff.1 hk).1
  rw [h.cellAt k (by omega)]
  simp [cpC, hk]

theorem pcs_cell {W : World} {B g cap : Nat} {s : ByteArray} {l : List Nat} (h : W.ownsRow B 30 4 (.slice (some ⟨g, 0, none⟩) l.length cap) l.length (pcsC s l)) {k i : Nat} (hk : l[k]? = some i) (q : Nat) (hq : q < 4) :
    W.cell? ⟨g, k * 4 + q, none⟩ = (pcC s i)[q]? := by
  have hlt : k < l.length := (List.getElem?_eq_some_iff.1 hk).1
  rw [h.cellAt (k * 4 + q) (by omega), pcsC_get s l k q i hk hq]

/-- the counts over the first k classes -/
def IC (X : List Int) (k f p h : Nat) (b : Int) : Prop := f = nF (X.take k) ∧ p = (stP (X.take k)).2 ∧ h = nH (X.take k) ∧ b = (stP (X.take k)).1

theorem IC_step {X : List Int} {k f p h : Nat} {b c : Int} (hi : IC X k f p h b) (hc : X[k]? = some c) {f' p' h' : Nat} (h1 : f' = f + if c = 6 then 1 else 0) (h2 : p' = if c = 12 ∧ b ≠ 4 then p + 1 else p) (h3 : h' = h + if hardC c then 1 else 0) : IC X (k + 1) f' p' h' c := by
  obtain ⟨e1, e2, e3, e4⟩ := hi
  have ht : X.take (k + 1) = X.take k ++ [c] := by rw [List.take_add_one, hc]; rfl
  unfold IC
  rw [ht, nF_snoc, nH_snoc, stP_snoc, ← e1, ← e2, ← e3, ← e4]
  exact ⟨h1, h2, h3, rfl⟩

theorem cls_bad : cls 65533 = 0 := by decide

set_option maxRecDepth 100000 in
set_option maxHeartbeats 16000000 in
theorem walk (a0 : ByteArray) (w0 : a0.size ≤ maxLen) (w : World) :
    Calls Try.prog 3 #[.string a0] w fun e w' => e = .returned (.bool true) ∧ Below w.heap.size w w' := by
  unfold maxLen at w0
  by_cases hbig : 20000 < a0.size
  · go_enter Try.func3, Try.ntmps3
    go_wp2_with (go_at_call 4; refine (known_in _).mono ?_; rintro e w' ⟨rfl, hB⟩)
    go_ret
    exact ⟨rfl, hB⟩
  · have hs6 : a0.size ≤ 1000000 := by omega
    have hd0 : decide ((20000 : Int) < (a0.size : Int)) = false := by simp; omega
    have hcl := cp_len a0
    have hso := hide (brL_sorted a0)
    go_enter Try.func3, Try.ntmps3
    go_wp2_with fail
    refine (parts_in a0 hs6 _).mono ?_
    rintro e W ⟨v, rfl, ho, hBW⟩
    obtain ⟨x, c, rfl⟩ := owns_form ho
    have hsW := hBW.size
    obtain ⟨L, hL⟩ : ∃ L, (cpL a0).length = L := ⟨_, rfl⟩
    rw [hL] at hcl ⊢
    have hoL := hide ho
    have hoV : ∃ g', 0 < L → x = some ⟨g', 0, none⟩ := by
      by_cases h : 0 < L
      · obtain ⟨g', e⟩ := owns_some ho (by omega); exact ⟨g', fun _ => e⟩
      · exact ⟨0, fun h' => absurd h' h⟩
    obtain ⟨g, hg⟩ := hoV
    have HL := hide hL
    clear hL ho
    go_wp2
    go_loopw [5] (fun iv wr => ∃ i : Nat, i ≤ L ∧ iv = .int .i64 i ∧ Below W.heap.size W wr) (fun iv _ => L - (RowKit.intOf iv).toNat)
    case atStart => exact ⟨0, by omega, rfl, Below.refl _ _⟩
    case round =>
      obtain ⟨i, hiL, rfl, hBr⟩ := hrel
      have hszr := hBr.size
      by_cases hlt : i < L
      · have i1 : (i : Int) < (L : Int) := by omega
        have i2 : (0 : Int) ≤ (i : Int) := by omega
        obtain rfl := hg (by omega)
        obtain ⟨⟨a', b⟩, hab⟩ : ∃ p, (cpL a0)[i]? = some p := ⟨_, List.getElem?_eq_getElem (by rw [unhide HL]; exact hlt)⟩
        have hsp : (cpL a0).take i ++ (a', b) :: (cpL a0).drop (i + 1) = cpL a0 := by
          have hgx : (cpL a0)[i]'(by rw [unhide HL]; exact hlt) = (a', b) := by
            have := hab; rw [List.getElem?_eq_getElem (by rw [unhide HL]; exact hlt)] at this; simpa using this
          rw [← hgx, ← List.drop_eq_getElem_cons, List.take_append_drop]
        obtain ⟨h1, h2, h3, h4, h5⟩ := cp_at hsp
        dsimp only at h1 h2 h3 h4 h5
        obtain ⟨hx, hy⟩ := cp_get hab
        have hcell : ∀ w', Below wr.heap.size wr w' → w'.cell? ⟨g, i, none⟩ = some (.string (a0.extract a' b)) := fun w' hb => by
          have := owns_below (owns_below (unhide hoL) hBr) hb
          exact st_cell this hab
        have hCL := clump_CL h4 h5 h2 (fun q hq => at_between (unhide hso) hx hy hq)
        have hsx : (a0.extract a' b).size = b - a' := size_ext a0 a' b h3
        obtain ⟨t, ht⟩ : ∃ t, a0.extract a' b = t := ⟨_, rfl⟩
        rw [ht] at hcell hCL hsx
        have hts : t.size ≤ 20000 := by omega
        have hM1 := allL_length t
        have HCL := hide hCL
        clear hx hy h1 h4 h5 hsp hab ht hCL hsx
        have c1 := hcell wr (Below.refl _ _)
        have Hcell := hide hcell
        clear hcell
        go_wp2_with fail
        refine (pieces_in t (by omega) _).mono ?_
        rintro e W2 ⟨v2, rfl, ho2, hB2⟩
        have c2 := unhide Hcell W2 hB2
        obtain ⟨x2, d2, rfl⟩ := owns_form ho2
        have hs2 := hB2.size
        obtain ⟨l, hl⟩ : ∃ l, allL t = l := ⟨_, rfl⟩
        rw [hl] at hM1 ho2 ⊢
        have Hl := hide hl
        have ho3 := hide ho2
        obtain ⟨M, hM⟩ : ∃ M, l.length = M := ⟨_, rfl⟩
        rw [hM] at hM1 ⊢
        have HM := hide hM
        obtain ⟨g2, hg2⟩ : ∃ g', 0 < M → x2 = some ⟨g', 0, none⟩ := by
          by_cases h : 0 < M
          · obtain ⟨g', e⟩ := owns_some ho2 (by omega); exact ⟨g', fun _ => e⟩
          · exact ⟨0, fun h' => absurd h' h⟩
        have hBa := hBr.trans (hB2.mono hszr)
        clear hl hM ho2
        go_wp2
        go_loopw [7, 8, 9, 10, 11] (fun fv pv hv bv kv wk => ∃ (k f p h : Nat) (bf : Int), k ≤ M ∧ f ≤ k ∧ p ≤ k ∧ h ≤ k ∧ fv = .int .i64 f ∧ pv = .int .i64 p ∧ hv = .int .i64 h ∧ bv = .int .i64 bf ∧ kv = .int .i64 k ∧ Hid (IC (l.map (C t)) k f p h bf) ∧ Below W2.heap.size W2 wk) (fun _ _ _ _ kv _ => M - (RowKit.intOf kv).toNat)
        case atStart => exact ⟨0, 0, 0, 0, 0, by omega, by omega, by omega, by omega, rfl, rfl, rfl, rfl, rfl, hide ⟨rfl, rfl, rfl, rfl⟩, Below.refl _ _⟩
        case round =>
          obtain ⟨k, f, p, h, bf, hkM, hf, hp, hh, rfl, rfl, rfl, rfl, rfl, hic, hBk⟩ := hrel
          have hszk := hBk.size
          by_cases hklt : k < M
          · have k1 : (k : Int) < (M : Int) := by omega
            have k2 : (0 : Int) ≤ (k : Int) := by omega
            obtain rfl := hg2 (by omega)
            have hkl : k < l.length := by rw [unhide HM]; exact hklt
            obtain ⟨y, hy⟩ : ∃ y, l[k]? = some y := ⟨_, List.getElem?_eq_getElem hkl⟩
            have hyt : y < t.size := (mem_allL.1 (by rw [unhide Hl]; exact List.mem_of_getElem? hy)).1
            have hcells0 : ∀ w' (q : Nat), q < 4 → Below wr.heap.size wr w' → w'.cell? ⟨g2, k * 4 + q, none⟩ = (pcC t y)[q]? := fun w' q hq hb => by
              have := owns_below (owns_below (unhide ho3) hBk) hb
              exact pcs_cell this hy q hq
            have hcells := hide hcells0
            clear hcells0
            have hXk : (l.map (C t))[k]? = some (C t y) := by rw [List.getElem?_map, hy]; rfl
            have hst := hide (fun (f' p' h' : Nat) => IC_step (f' := f') (p' := p') (h' := h') (unhide hic) hXk)
            clear hy hXk hic
            have r1 := unhide hcells wr 1 (by omega) (Below.refl _ _)
            simp only [pcC, List.getElem?_cons_zero, List.getElem?_cons_succ] at r1
            have hrl := rn_lt t y hyt
            go_wp2_with fail
            refine (class_in _ (by omega) (by omega) _).mono ?_
            rintro e W5 ⟨rfl, b5⟩
            have r3 := unhide hcells W5 3 (by omega) b5
            simp only [pcC, List.getElem?_cons_zero, List.getElem?_cons_succ] at r3
            have hB5 := hBk.trans (b5.mono hszk)
            cases hok : okR t y with
            | false =>
              have hc0 : C t y = 0 := by show cls (rn t y : Nat) = 0; rw [(ok_false_iff hok).1]; exact cls_bad
              rw [hok] at r3
              rw [hc0] at hst
              go_wp2
              go_roundw
              case rel => exact ⟨k + 1, f, p, h, 0, by omega, by omega, by omega, by omega, rfl, rfl, rfl, rfl, by go_num, hide (unhide hst _ _ _ (by simp) (by simp) (by simp [hardC])), hB5⟩
              case measure => simp [RowKit.intOf]; omega
            | true =>
              rw [hok] at r3
              have hcc : cls (rn t y : Nat) = C t y := rfl
              rw [hcc]
              clear hcc
              generalize C t y = c at hst ⊢
              by_cases c6 : c = 6
              · subst c6
                go_wp2
                go_roundw
                case rel => exact ⟨k + 1, f + 1, p, h, 6, by omega, by omega, by omega, by omega, by go_num, rfl, rfl, rfl, by go_num, hide (unhide hst _ _ _ (by simp) (by simp) (by simp [hardC])), hB5⟩
                case measure => simp [RowKit.intOf]; omega
              · by_cases c12 : c = 12
                · subst c12
                  by_cases b4 : bf = 4
                  · subst b4
                    go_wp2
                    go_roundw
                    case rel => exact ⟨k + 1, f, p, h, 12, by omega, by omega, by omega, by omega, rfl, rfl, rfl, rfl, by go_num, hide (unhide hst _ _ _ (by simp) (by simp) (by simp [hardC])), hB5⟩
                    case measure => simp [RowKit.intOf]; omega
                  · go_wp2
                    go_roundw
                    case rel => exact ⟨k + 1, f, p + 1, h, 12, by omega, by omega, by omega, by omega, rfl, by go_num, rfl, rfl, by go_num, hide (unhide hst _ _ _ (by simp) (by simp [b4]) (by simp [hardC])), hB5⟩
                    case measure => simp [RowKit.intOf]; omega
                · by_cases cl : 1 ≤ c
                  · by_cases ch : c ≤ 3
                    · have hhc : hardC c = true := by unfold hardC; simp; omega
                      go_wp2
                      go_roundw
                      case rel => exact ⟨k + 1, f, p, h + 1, c, by omega, by omega, by omega, by omega, rfl, rfl, by go_num, rfl, by go_num, hide (unhide hst _ _ _ (by simp [c6]) (by simp [c12]) (by simp [hhc])), hB5⟩
                      case measure => simp [RowKit.intOf]; omega
                    · have hhc : hardC c = false := by unfold hardC; simp; omega
                      go_wp2
                      go_roundw
                      case rel => exact ⟨k + 1, f, p, h, c, by omega, by omega, by omega, by omega, rfl, rfl, rfl, rfl, by go_num, hide (unhide hst _ _ _ (by simp [c6]) (by simp [c12]) (by simp [hhc])), hB5⟩
                      case measure => simp [RowKit.intOf]; omega
                  · have hhc : hardC c = false := by unfold hardC; simp; omega
                    go_wp2
                    go_roundw
                    case rel => exact ⟨k + 1, f, p, h, c, by omega, by omega, by omega, by omega, rfl, rfl, rfl, rfl, by go_num, hide (unhide hst _ _ _ (by simp [c6]) (by simp [c12]) (by simp [hhc])), hB5⟩
                    case measure => simp [RowKit.intOf]; omega
          · have k1 : ¬ (k : Int) < (M : Int) := by omega
            obtain rfl : k = M := by omega
            have hall : (l.map (C t)).take k = l.map (C t) := List.take_of_length_le (by rw [List.length_map, unhide HM]; omega)
            obtain ⟨e1, e2, e3, e4⟩ := unhide hic
            rw [hall] at e1 e2 e3 e4
            have HC := unhide HCL
            rw [unhide Hl] at HC
            have f2 : f ≤ 2 := by rw [e1]; exact cl_nF HC
            have p1 : p ≤ 1 := by rw [e2]; exact cl_nP HC
            have hB9 := hBa.trans (hBk.mono hBa.size)
            have hlen : (l.map (C t)).length = k := by rw [List.length_map, unhide HM]
            have c3 : wr.cell? ⟨g, i, none⟩ = some (.string t) := unhide Hcell wr (hB2.trans (hBk.mono hB2.size))
            have g1 : ¬ (2 : Int) < (f : Int) := by omega
            have g2' : ¬ (1 : Int) < (p : Int) := by omega
            by_cases h0 : 0 < h
            · by_cases hk1 : 1 < k
              · have hX := cl_hard HC (by rw [← e3]; exact h0) (by rw [hlen]; exact hk1)
                rw [← unhide Hl] at hX
                have hT := crlf hX
                clear e1 e2 e3 e4 hX HC hall hlen
                have j1 : (0 : Int) < (h : Int) := by omega
                have j2 : (1 : Int) < (k : Int) := by omega
                go_wp2
                go_roundw
                case rel => exact ⟨i + 1, by omega, by go_num, hB9⟩
                case measure => simp [RowKit.intOf]; omega
              · clear e1 e2 e3 e4 HC hall hlen
                have j1 : (0 : Int) < (h : Int) := by omega
                have j2 : ¬ (1 : Int) < (k : Int) := by omega
                go_wp2
                go_roundw
                case rel => exact ⟨i + 1, by omega, by go_num, hB9⟩
                case measure => simp [RowKit.intOf]; omega
            · clear e1 e2 e3 e4 HC hall hlen
              have j1 : ¬ (0 : Int) < (h : Int) := by omega
              go_wp2
              go_roundw
              case rel => exact ⟨i + 1, by omega, by go_num, hB9⟩
              case measure => simp [RowKit.intOf]; omega
      · have i1 : ¬ (i : Int) < (L : Int) := by omega
        have hB9 := hBW.trans (hBr.mono hsW)
        go_wp2_with fail
        refine (known_in _).mono ?_
        rintro e w4 ⟨rfl, b4⟩
        go_wp2
        go_ret
        exact ⟨rfl, hB9.trans (b4.mono hB9.size)⟩

theorem own : ownKnob Try.prog.godebug = none := by kernel_rfl

set_option maxRecDepth 100000 in
theorem lifted (os : Os) (started : os.Started) (H : Type) (enc : TypeId × Value → H) :
    ReturnsInHanded {} Try.checked os 3 .any (Rows.clumpOneSpec.pre6 enc Try.prog Try.f3 Rows.clumpOneRow.domain false) (Rows.clumpOneSpec.post enc Try.prog Try.f3 false true false false) := by
  refine returnsInHanded_of_change (C := Try.checked) own started (by kernel_rfl) Try.func3
    (ChangeSpec.witness6 (enc := enc) (C := Try.checked) false ⟨#[], #[.string ByteArray.empty], []⟩ 8 (by kernel_rfl) (by kernel_rfl) (by kernel_rfl) (by kernel_rfl)) ?_
  intro W base args ds gs before hval0 hW hcnd _
  have hval : ∀ (j : Nat) t v, Try.f3.params[j]? = some t → args[j]? = some v → Value.okWide Try.prog W .any base t v := hval0
  have hW' := hW
  obtain ⟨p, q, hA0, hV, rfl, hfz, hnd⟩ := hW
  have hA : DataW.TrodAll enc Try.prog W 0 (fun _ => true) true Try.f3.params.toList args.toList ds p := hA0
  rw [Try.params3] at hA hval
  obtain ⟨v0, vs0, d0, ds0, p0, q0, hargs, rfl, rfl, h0, r0⟩ := trodAll_cons hA
  obtain ⟨rfl, rfl, rfl⟩ := trodAll_nil r0
  obtain rfl : args = #[v0] := by cases args; simp_all
  obtain ⟨rfl, rfl⟩ := trodVars_none hV
  obtain ⟨a0, rfl, rfl, rfl, w0⟩ := open_string Try.underlying9 (hval 0 9 v0 rfl rfl) h0
  clear hA0 hval0
  simp only [List.append_nil] at hW'
  refine (walk a0 w0 W).mono fun e W' ⟨he, bel⟩ => ?_
  subst he
  exact ⟨_, rfl, _, _, _, [], _, [], hW', trodAll_mk1 (shut_bool Try.underlying4 _), (trodAll_cons_mk (shut_string Try.underlying9 w0) trodAll_mk0), rfl, bel.frame _, fun h => by cases h⟩

theorem over : Rows.clumpOneRow.holds Try.pinned (OpenSpec.ofChange Rows.clumpOneSpec) :=
  OpenClaim.holds_of_wide 3 Try.f3 rfl rfl rfl rfl rfl rfl rfl ⟨rfl, rfl, rfl, rfl, rfl⟩ rfl rfl rfl rfl rfl (by kernel_rfl) Try.func3 (by kernel_rfl)
    (of_decide_eq_true (by kernel_rfl)) (by unfold Func.isWrapper; first | (rw [if_pos (by decide +kernel)]; kernel_rfl) | (rw [if_neg (by decide +kernel)]; exact ⟨rfl, rfl⟩))
    (fun os started H enc _ => lifted os started H enc)

end LClumpOne

theorem clumpOne_holds : Rows.ClumpOneSaid := LClumpOne.over

end Go.Proofs.Ytcagfapdhopmjab
