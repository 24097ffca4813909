/-
  The document's own TakeNumber, TakeText, Read, Left, End.
-/
import Derived.Test.YtbnhfbdfjnigoaaGreatZXR
import Derived.Test.YtbnhfbdfjnigoaaGreatZOp
import Derived.Test.YtbnhfbdfjnigoaaGreatZV7
import Derived.Test.YtbnhfbdfjnigoaaGreatZXRF
import Derived.Test.YtbnhfbdfjnigoaaGreatZXN
import Derived.Test.YtbnhfbdfjnigoaaGreatZXP1
import Derived.Test.YtbnhfbdfjnigoaaGreatZO5
import Derived.Test.YtbnhfbdfjnigoaaGreatZXR8

set_option linter.unusedSimpArgs false
set_option linter.unusedVariables false
namespace Go.Proofs.YtbnhfbdfjnigoaaGreat
open Go.RowKit Go.Lib

theorem drop_atR {α : Type} {l : List α} {i : Nat} {x : α} (h : l[i]? = some x) : l.drop i = x :: l.drop (i + 1) := by
  have hil := (List.getElem?_eq_some_iff.1 h).1
  rw [List.drop_eq_getElem_cons hil]
  congr 1
  rw [List.getElem?_eq_getElem hil] at h
  simpa using h

theorem rres_tc {P : Program} {fn : Func} {i p : Tmp} {ty : TypeId} (h : fn.results = #[.tmp i, .cell p ty]) (tmps : Array Value) (w : World) (g : Nat) (t : TypeId) (cs : Array Value) (fr : Nat × Nat) (d : TypeDesc)
    (hp : tmps.getD p undef = .pointer (some ⟨g, 0, none⟩)) (hg : w.heap[g]? = some (.cells cs t fr))
    (hu : P.underlying ty = some d) (hd : (match d with | .struct _ | .array _ _ => true | _ => false) = true) (hi : (P.info? ty).map (·.size) = some cs.size) :
    (results fn tmps).run P w = .ok (.tuple #[tmps.getD i undef, .agg cs]) w := by
  have hp' : tmps[p]?.getD undef = .pointer (some ⟨g, 0, none⟩) := by simpa using hp
  simp [results, h, hp', asAddr, run_loadVar_row w g t ty cs fr d hg hu hd hi]
theorem rres_tct {P : Program} {fn : Func} {i j p : Tmp} {ty : TypeId} (h : fn.results = #[.tmp i, .cell p ty, .tmp j]) (tmps : Array Value) (w : World) (g : Nat) (t : TypeId) (cs : Array Value) (fr : Nat × Nat) (d : TypeDesc)
    (hp : tmps.getD p undef = .pointer (some ⟨g, 0, none⟩)) (hg : w.heap[g]? = some (.cells cs t fr))
    (hu : P.underlying ty = some d) (hd : (match d with | .struct _ | .array _ _ => true | _ => false) = true) (hi : (P.info? ty).map (·.size) = some cs.size) :
    (results fn tmps).run P w = .ok (.tuple #[tmps.getD i undef, .agg cs, tmps.getD j undef]) w := by
  have hp' : tmps[p]?.getD undef = .pointer (some ⟨g, 0, none⟩) := by simpa using hp
  simp [results, h, hp', asAddr, run_loadVar_row w g t ty cs fr d hg hu hd hi]
theorem sizeRR : (Tryz.prog.info? 45).map (·.size) = some 3 := by kernel_rfl

theorem wraps_r63 (n : Int) (h₀ : 0 ≤ n) (h₁ : n < 2 ^ 63) : IntKind.i64.wrap n = n := IntWalk.i64_in n (by omega)
theorem or_sumR (s c i : Nat) (hi : i ≤ 8) (hs : s < 128 ^ i) : bits .or .i64 (s : Int) (wrap64 ((c : Int) % 128 * 2 ^ (7 * i))) = ((s + c % 128 * 128 ^ i : Nat) : Int) := by
  have h1 : (2 : Nat) ^ (7 * i) = 128 ^ i := by rw [Nat.pow_mul]
  have h2 : c % 128 * 128 ^ i ≤ 127 * 128 ^ i := Nat.mul_le_mul_right _ (by omega)
  have h3 := pow128 hi
  have e1 : ((c : Int) % 128 * 2 ^ (7 * i)) = ((c % 128 * 128 ^ i : Nat) : Int) := by
    rw [← h1]
    push_cast
    rfl
  rw [e1, IntWalk.wrap64_in _ (by omega)]
  have h4 := (bits_nat .i64 63 (by decide) wraps_r63 s (c % 128 * 128 ^ i) (by omega) (by omega)).2
  rw [h4]
  congr 1
  rw [← h1, ← Nat.shiftLeft_eq, Nat.or_comm, ← Nat.shiftLeft_add_eq_or_of_lt (by rw [h1]; exact hs), Nat.add_comm]

set_option maxRecDepth 100000 in
theorem refRead_in (v : Value) (n : Nat) (w : World) (hv : ∃ a c, v = .slice a n c) : Calls Tryz.prog 13 #[v] w fun r W => r = .returned (.agg #[v, .int .i64 0, .int .i64 0]) ∧ Below w.heap.size w W := by
  obtain ⟨a, c, rfl⟩ := hv
  have hb := hide (Bx.new w 45 #[.slice a n c, .int .i64 0, .int .i64 0])
  go_enter Tryz.func13, Tryz.ntmps13
  go_wp2
  refine bodyPost_ret (results_cell_row rfl _ _ w.heap.size _ _ _ _ rfl (unhide hb) Tryz.underlying45 rfl sizeRR) rfl ?_
  exact ⟨rfl, ballc (Below.refl _ _) _⟩
set_option maxRecDepth 100000 in
theorem refLeft_in (a : Option Addr) (n c at' : Nat) (e : Int) (w : World) (h : at' ≤ n) (hn : n ≤ 140737488355328) : Calls Tryz.prog 15 #[.agg #[.slice a n c, .int .i64 (at' : Nat), .int .i64 e]] w fun r W => r = .returned (.int .i64 ((n - at' : Nat) : Int)) ∧ Below w.heap.size w W := by
  have e1 : ((n - at' : Nat) : Int) = (n : Int) - (at' : Int) := by omega
  have e2 : wrap64 ((n : Int) - (at' : Int)) = (n : Int) - (at' : Int) := IntWalk.wrap64_in _ (by omega)
  have e3 : IntKind.i64.wrap ((n : Int) - (at' : Int)) = (n : Int) - (at' : Int) := IntWalk.i64_in _ (by omega)
  rw [e1]
  clear e1
  go_enter Tryz.func15, Tryz.ntmps15
  go_wp2
  go_ret
  exact ⟨rfl, ballc (Below.refl _ _) _⟩

theorem bx_lastR (w : World) (A : Obj) (vs : Array Value) (t : TypeId) : ((w.alloc A).alloc (.cells vs t)).heap[w.heap.size + 1]? = some (.cells vs t (0, 0)) := by
  have h := Bx.new (w.alloc A) t vs
  have e : (w.alloc A).heap.size = w.heap.size + 1 := by simp
  rw [e] at h
  exact h

set_option maxRecDepth 100000 in
set_option maxHeartbeats 4000000 in
theorem refTakeNumber_in (a : Option Addr) (n c p : Nat) (e : Int) (l : List Nat) (w : World) (h : RC w (.slice a n c) n (bC l)) (hl : l.length = n) (hp : p ≤ n) (hn : n ≤ 1000000) (hby : ∀ b ∈ l, b < 256) :
    Calls Tryz.prog 28 #[.agg #[.slice a n c, .int .i64 (p : Nat), .int .i64 e]] w fun r W => r = .returned (.tuple #[.int .i64 ((rn0 (l.drop p) e).2.1 : Nat), .agg #[.slice a n c, .int .i64 ((p + (rn0 (l.drop p) e).2.2 : Nat) : Int), .int .i64 (rn0 (l.drop p) e).1]]) ∧ Below w.heap.size w W := by
  have B2 := fun (A B : Obj) => hide (ballc (ballc (Below.refl w.heap.size w) A) B)
  by_cases he : e = 0
  · subst he
    have hr : rn0 (l.drop p) 0 = tn (l.drop p) := by unfold rn0; simp
    rw [hr]
    clear hr
    obtain ⟨E, V, Wd, hT⟩ : ∃ E V Wd, tn (l.drop p) = (E, V, Wd) := ⟨_, _, _, rfl⟩
    rw [hT]
    simp only
    have HT := hide hT
    have H := hide h
    have Hl := hide hl
    have Hby := hide hby
    clear hT h hl hby
    go_enter Tryz.func28, Tryz.ntmps28
    go_wp2
    go_loopw [4, 6] (fun sv iv wr => ∃ (i s : Nat), sv = .int .i64 (s : Nat) ∧ iv = .int .i64 (i : Nat) ∧ p + i ≤ n ∧ i ≤ 8 ∧ Hid (s < 128 ^ i) ∧ Hid (tnL i s ((l.drop p).drop i) = (E, V, Wd)) ∧ wr = (w.alloc (.cells #[.slice a n c, .int .i64 (p : Nat), .int .i64 0] 45)).alloc (.cells #[.slice none 0 0, .int .i64 0, .int .i64 0] 45)) (fun _ iv _ => n - (Lib.intOf iv).toNat)
    case atStart => exact ⟨0, 0, rfl, rfl, by omega, by omega, hide (by simp), hide (unhide HT), rfl⟩
    case round =>
      obtain ⟨i, s, rfl, rfl, hin, hi8, Hs, Ht, rfl⟩ := hrel
      have hw1 : wrap64 ((p : Int) + (i : Int)) = (p : Int) + (i : Int) := IntWalk.wrap64_in _ (by omega)
      have hw2 : IntKind.i64.wrap ((p : Int) + (i : Int)) = (p : Int) + (i : Int) := IntWalk.i64_in _ (by omega)
      by_cases hlt : p + i < n
      · have hlt' : ¬ (n : Int) ≤ (p : Int) + (i : Int) := by omega
        have hlt2 : (p : Int) + (i : Int) < (n : Int) := by omega
        have hlt0 : 0 ≤ (p : Int) + (i : Int) := by omega
        obtain ⟨cb, hcb⟩ : ∃ cb, l[p + i]? = some cb := ⟨_, List.getElem?_eq_getElem (by have := unhide Hl; omega)⟩
        obtain ⟨b0, off, rfl, hb0, hcell⟩ : ∃ b0 off, a = some ⟨b0, off, none⟩ ∧ b0 < w.heap.size ∧ w.cell? ⟨b0, off + (p + i), none⟩ = some (.int .u8 (cb : Nat)) := by
          rcases unhide H with ⟨h0, _⟩ | ⟨b, off, cap, e, h1, h2, h3⟩
          · omega
          · simp at e
            obtain ⟨rfl, _⟩ := e
            exact ⟨b, off, rfl, h2, h3 (p + i) _ (bC_get l _ cb hcb)⟩
        have hc256 : cb < 256 := unhide Hby cb (List.mem_of_getElem? hcb)
        have hdr : (l.drop p).drop i = cb :: (l.drop p).drop (i + 1) := drop_atR (by rw [List.getElem?_drop]; exact hcb)
        have Hd := hide hdr
        clear hdr hcb
        obtain ⟨S, hS⟩ : ∃ S : Nat, s + cb % 128 * 128 ^ i = S := ⟨_, rfl⟩
        have hor := or_sumR s cb i hi8 (unhide Hs)
        rw [hS] at hor
        have hSs : (S : Int) ≤ 9223372036854775807 := by
          have h1 := sum_lt (c := cb) (unhide Hs)
          have h2 := pow128 hi8
          have h3 := pow128s i
          rw [hS] at h1
          omega
        have HSl := hide (show S < 128 ^ (i + 1) by have h1 := sum_lt (c := cb) (unhide Hs); rw [hS] at h1; exact h1)
        have HS := hide hS
        have hidx : ((p : Int) + (i : Int)).toNat = p + i := by omega
        clear hS
        by_cases hc : cb < 128
        · have hc' : ¬ (128 : Int) ≤ (cb : Int) := by omega
          by_cases h8 : i = 8
          · have h8' : ((i : Int) == 8) = true := by simp [h8]
            have hi0 : 0 < i := by omega
            by_cases hz : cb = 0
            · have hz' : ((cb : Int) == 0) = true := by simp [hz]
              have hE : Hid (E = 6) := by
                have h := unhide Ht
                rw [unhide Hd, tnL, if_pos hc, if_pos ⟨hz, hi0⟩] at h
                simp at h
                exact h.1.symm
              clear h8 hz
              have hv : V = 0 ∧ Wd = 0 := by
                have := tnL_err (l.drop p) 0 0
                rw [show tnL 0 0 (l.drop p) = _ from unhide HT] at this
                exact this (by show E ≠ 0; rw [unhide hE]; decide)
              replace hv := hide hv
              go_wp2
              go_region
              go_wp2
              obtain ⟨rfl, rfl⟩ := unhide hv
              obtain rfl := unhide hE
              refine bodyPost_ret (rres_tc rfl _ _ (w.heap.size + 1) _ _ _ _ rfl (bx_lastR _ _ _ _) Tryz.underlying45 rfl sizeRR) rfl ?_
              exact ⟨rfl, (unhide (B2 _ _)).drew⟩
            · have hz' : ((cb : Int) == 0) = false := by simp; omega
              clear h8
              have hE : Hid (E = 0 ∧ V = S ∧ Wd = i + 1) := by
                have h := unhide Ht
                rw [unhide Hd, tnL, if_pos hc, if_neg (fun h => hz h.1), unhide HS] at h
                simp at h
                exact ⟨h.1.symm, h.2.1.symm, h.2.2.symm⟩
              have e9 : ((p + (i + 1) : Nat) : Int) = (p : Int) + (i : Int) + 1 := by omega
              replace e9 := hide e9
              go_wp2
              go_region
              go_wp2
              obtain ⟨rfl, rfl, rfl⟩ := unhide hE
              rw [unhide e9]
              refine bodyPost_ret (rres_tc rfl _ _ (w.heap.size + 1) _ _ _ _ rfl (bx_lastR _ _ _ _) Tryz.underlying45 rfl sizeRR) rfl ?_
              exact ⟨rfl, (unhide (B2 _ _)).drew⟩
          · have h8' : ((i : Int) == 8) = false := by simp; omega
            by_cases hi0 : 0 < i
            · by_cases hz : cb = 0
              · have hz' : ((cb : Int) == 0) = true := by simp [hz]
                have hE : Hid (E = 6) := by
                  have h := unhide Ht
                  rw [unhide Hd, tnL, if_pos hc, if_pos ⟨hz, hi0⟩] at h
                  simp at h
                  exact h.1.symm
                clear h8 hz
                have hv : V = 0 ∧ Wd = 0 := by
                  have := tnL_err (l.drop p) 0 0
                  rw [show tnL 0 0 (l.drop p) = _ from unhide HT] at this
                  exact this (by show E ≠ 0; rw [unhide hE]; decide)
                replace hv := hide hv
                go_wp2
                go_region
                go_wp2
                obtain ⟨rfl, rfl⟩ := unhide hv
                obtain rfl := unhide hE
                refine bodyPost_ret (rres_tc rfl _ _ (w.heap.size + 1) _ _ _ _ rfl (bx_lastR _ _ _ _) Tryz.underlying45 rfl sizeRR) rfl ?_
                exact ⟨rfl, (unhide (B2 _ _)).drew⟩
              · have hz' : ((cb : Int) == 0) = false := by simp; omega
                clear h8
                have hE : Hid (E = 0 ∧ V = S ∧ Wd = i + 1) := by
                  have h := unhide Ht
                  rw [unhide Hd, tnL, if_pos hc, if_neg (fun h => hz h.1), unhide HS] at h
                  simp at h
                  exact ⟨h.1.symm, h.2.1.symm, h.2.2.symm⟩
                have e9 : ((p + (i + 1) : Nat) : Int) = (p : Int) + (i : Int) + 1 := by omega
                replace e9 := hide e9
                go_wp2
                go_region
                go_wp2
                obtain ⟨rfl, rfl, rfl⟩ := unhide hE
                rw [unhide e9]
                refine bodyPost_ret (rres_tc rfl _ _ (w.heap.size + 1) _ _ _ _ rfl (bx_lastR _ _ _ _) Tryz.underlying45 rfl sizeRR) rfl ?_
                exact ⟨rfl, (unhide (B2 _ _)).drew⟩
            · have hi0' : decide (0 < i) = false := by simpa using hi0
              clear h8
              have hE : Hid (E = 0 ∧ V = S ∧ Wd = i + 1) := by
                have h := unhide Ht
                rw [unhide Hd, tnL, if_pos hc, if_neg (fun h => hi0 h.2), unhide HS] at h
                simp at h
                exact ⟨h.1.symm, h.2.1.symm, h.2.2.symm⟩
              have e9 : ((p + (i + 1) : Nat) : Int) = (p : Int) + (i : Int) + 1 := by omega
              replace e9 := hide e9
              go_wp2
              go_region
              go_wp2
              obtain ⟨rfl, rfl, rfl⟩ := unhide hE
              rw [unhide e9]
              refine bodyPost_ret (rres_tc rfl _ _ (w.heap.size + 1) _ _ _ _ rfl (bx_lastR _ _ _ _) Tryz.underlying45 rfl sizeRR) rfl ?_
              exact ⟨rfl, (unhide (B2 _ _)).drew⟩
        · have hc' : (128 : Int) ≤ (cb : Int) := by omega
          by_cases h8 : i = 8
          · have h8' : ((i : Int) == 8) = true := by simp [h8]
            have hE : Hid (E = 6) := by
              have h := unhide Ht
              rw [unhide Hd, tnL, if_neg hc, if_pos h8] at h
              simp at h
              exact h.1.symm
            clear h8
            have hv : V = 0 ∧ Wd = 0 := by
              have := tnL_err (l.drop p) 0 0
              rw [show tnL 0 0 (l.drop p) = _ from unhide HT] at this
              exact this (by show E ≠ 0; rw [unhide hE]; decide)
            replace hv := hide hv
            go_wp2
            go_region
            go_wp2
            obtain ⟨rfl, rfl⟩ := unhide hv
            obtain rfl := unhide hE
            refine bodyPost_ret (rres_tc rfl _ _ (w.heap.size + 1) _ _ _ _ rfl (bx_lastR _ _ _ _) Tryz.underlying45 rfl sizeRR) rfl ?_
            exact ⟨rfl, (unhide (B2 _ _)).drew⟩
          · have h8' : ((i : Int) == 8) = false := by simp; omega
            have Ht2 : Hid (tnL (i + 1) S ((l.drop p).drop (i + 1)) = (E, V, Wd)) := by
              have h := unhide Ht
              rw [unhide Hd, tnL, if_neg hc, if_neg h8, unhide HS] at h
              exact h
            go_wp2
            go_roundw
            case measure => show n - ((i : Int) + 1).toNat < n - ((i : Nat) : Int).toNat; omega
            case rel => exact ⟨i + 1, S, rfl, by go_num, by omega, by omega, HSl, Ht2, by trivial⟩
      · have hlt' : (n : Int) ≤ (p : Int) + (i : Int) := by omega
        have hE : Hid (E = 5) := by
          have h := unhide Ht
          rw [List.drop_drop, List.drop_eq_nil_of_le (by have := unhide Hl; omega), tnL] at h
          simp at h
          exact h.1.symm
        have hv : V = 0 ∧ Wd = 0 := by
          have := tnL_err (l.drop p) 0 0
          rw [show tnL 0 0 (l.drop p) = _ from unhide HT] at this
          exact this (by show E ≠ 0; rw [unhide hE]; decide)
        replace hv := hide hv
        go_wp2
        go_region
        go_wp2
        obtain ⟨rfl, rfl⟩ := unhide hv
        obtain rfl := unhide hE
        refine bodyPost_ret (rres_tc rfl _ _ (w.heap.size + 1) _ _ _ _ rfl (bx_lastR _ _ _ _) Tryz.underlying45 rfl sizeRR) rfl ?_
        exact ⟨rfl, (unhide (B2 _ _)).drew⟩
  · have hr : rn0 (l.drop p) e = (e, 0, 0) := by unfold rn0; simp [he]
    rw [hr]
    have he' : (e == 0) = false := by simpa using he
    clear hr h
    go_enter Tryz.func28, Tryz.ntmps28
    go_wp2
    go_region
    go_wp2
    refine bodyPost_ret (rres_tc rfl _ _ (w.heap.size + 1) _ _ _ _ rfl (bx_lastR _ _ _ _) Tryz.underlying45 rfl sizeRR) rfl ?_
    exact ⟨rfl, (unhide (B2 _ _)).drew⟩

set_option maxRecDepth 100000 in
theorem refEnd_in (a : Option Addr) (n c at' : Nat) (e : Int) (l : List Nat) (w : World) (hl : l.length = n) (h : at' ≤ n) (hn : n ≤ 140737488355328) : Calls Tryz.prog 22 #[.agg #[.slice a n c, .int .i64 (at' : Nat), .int .i64 e]] w fun r W => r = .returned (.int .i64 (rEnd (l.drop at') e)) ∧ Below w.heap.size w W := by
  have HL := hide (refLeft_in a n c at' e (w.alloc (.cells #[.slice a n c, .int .i64 (at' : Nat), .int .i64 e] 45)) h hn)
  have HB := hide (ballc (Below.refl w.heap.size w) (.cells #[.slice a n c, .int .i64 (at' : Nat), .int .i64 e] 45))
  by_cases he : e = 0
  · subst he
    by_cases hk : at' < n
    · have e1 : rEnd (l.drop at') 0 = 6 := by unfold rEnd; rw [if_pos]; exact ⟨rfl, by rw [List.length_drop]; omega⟩
      rw [e1]
      obtain ⟨m, hm⟩ : ∃ m, n - at' = m := ⟨_, rfl⟩
      rw [hm] at HL
      have hk' : (0 : Int) < (m : Int) := by omega
      clear e1 hm hk hl h
      go_enter Tryz.func22, Tryz.ntmps22
      go_wp2_with (go_at_call 15; refine (unhide HL).mono ?_; rintro r W ⟨rfl, hb⟩; replace hb := hide hb)
      go_ret
      exact ⟨rfl, bnext (unhide HB) (unhide hb)⟩
    · have e1 : rEnd (l.drop at') 0 = 0 := by unfold rEnd; rw [if_neg]; intro h; have := h.2; rw [List.length_drop] at this; omega
      rw [e1]
      obtain ⟨m, hm⟩ : ∃ m, n - at' = m := ⟨_, rfl⟩
      rw [hm] at HL
      have hk' : ¬ (0 : Int) < (m : Int) := by omega
      clear e1 hm hk hl h
      go_enter Tryz.func22, Tryz.ntmps22
      go_wp2_with (go_at_call 15; refine (unhide HL).mono ?_; rintro r W ⟨rfl, hb⟩; replace hb := hide hb)
      go_ret
      exact ⟨rfl, bnext (unhide HB) (unhide hb)⟩
  · have e1 : rEnd (l.drop at') e = e := by unfold rEnd; rw [if_neg]; intro h; exact he h.1
    rw [e1]
    have he' : (e == 0) = false := by simpa using he
    clear e1
    go_enter Tryz.func22, Tryz.ntmps22
    go_wp2
    go_ret
    exact ⟨rfl, unhide HB⟩

theorem put3R {W : World} {g : Nat} {T : TypeId} {u0 u1 u2 : Value} (y : Bx W g T #[u0, u1, u2]) (v0 v1 v2 : Value) : Bx (((W.setCell ⟨g, 0, none⟩ v0).setCell ⟨g, 1, none⟩ v1).setCell ⟨g, 2, none⟩ v2) g T #[v0, v1, v2] := by simpa using ((y.set 0 v0).set 1 v1).set 2 v2
theorem bput3R {w W : World} {g : Nat} (h : Below w.heap.size w W) (hg : w.heap.size ≤ g) (v0 v1 v2 : Value) : Below w.heap.size w (((W.setCell ⟨g, 0, none⟩ v0).setCell ⟨g, 1, none⟩ v1).setCell ⟨g, 2, none⟩ v2) :=
  bset (bset (bset h ⟨g, 0, none⟩ hg v0) ⟨g, 1, none⟩ hg v1) ⟨g, 2, none⟩ hg v2

/-- how many bytes a text takes, with its length -/
def rTxtW (l : List Nat) (e : Int) : Nat := if (rn0 l e).1 ≠ 0 then 0 else if l.length - (rn0 l e).2.2 < (rn0 l e).2.1 then 0 else (rn0 l e).2.2 + (rn0 l e).2.1
theorem rTxt_drop (l : List Nat) (e : Int) : (rTxt l e).2.1 = l.drop (rTxtW l e) := by
  unfold rTxt rTxtW
  split
  · rfl
  · split <;> rfl
theorem rTxtW_le (l : List Nat) (e : Int) : rTxtW l e ≤ l.length := by
  have := rn0_width l e
  unfold rTxtW
  split
  · omega
  · split <;> omega

set_option maxRecDepth 100000 in
set_option maxHeartbeats 4000000 in
theorem refTakeText_in (a : Option Addr) (n c p : Nat) (e : Int) (l : List Nat) (w : World) (h : RC w (.slice a n c) n (bC l)) (hl : l.length = n) (hp : p ≤ n) (hn : n ≤ 1000000) (hby : ∀ b ∈ l, b < 256) :
    Calls Tryz.prog 30 #[.agg #[.slice a n c, .int .i64 (p : Nat), .int .i64 e]] w fun r W => r = .returned (.tuple #[.string (rTxt (l.drop p) e).1, .agg #[.slice a n c, .int .i64 ((p + rTxtW (l.drop p) e : Nat) : Int), .int .i64 (rTxt (l.drop p) e).2.2]]) ∧ Below w.heap.size w W := by
  obtain ⟨w2, hw2⟩ : ∃ X, (w.alloc (.cells #[.slice a n c, .int .i64 (p : Nat), .int .i64 e] 45)).alloc (.cells #[.slice none 0 0, .int .i64 0, .int .i64 0] 45) = X := ⟨_, rfl⟩
  have b2 : Below w.heap.size w w2 := by rw [← hw2]; exact ballc (ballc (Below.refl _ _) _) _
  have x1 : Bx w2 w.heap.size 45 #[.slice a n c, .int .i64 (p : Nat), .int .i64 e] := by rw [← hw2]; exact (Bx.new w _ _).below (ballc (Below.refl _ _) _)
  have x3 : Bx w2 (w.heap.size + 1) 45 #[.slice none 0 0, .int .i64 0, .int .i64 0] := by
    rw [← hw2]; have q := Bx.new (w.alloc (.cells #[.slice a n c, .int .i64 (p : Nat), .int .i64 e] 45)) 45 #[.slice none 0 0, .int .i64 0, .int .i64 0]; simpa using q
  have hc : n ≤ c := by
    rcases h with ⟨h0, a9, c9, e9⟩ | ⟨b, off, cap, e, h1, _⟩
    · omega
    · simp at e; omega
  have HC := hide (refTakeNumber_in a n c p e l w2 (h.below b2) hl hp hn hby)
  have c10 := x1.cell 0 _ rfl
  have c11 := x1.cell 1 _ rfl
  have c12 := x1.cell 2 _ rfl
  have HWd := hide (rn0_width (l.drop p) e)
  have HV := hide (rn0_lt (l.drop p) e)
  have hld : (l.drop p).length = n - p := by rw [List.length_drop, hl]
  obtain ⟨R, hR⟩ : ∃ R, rTxt (l.drop p) e = R := ⟨_, rfl⟩
  obtain ⟨RW, hRW⟩ : ∃ R, rTxtW (l.drop p) e = R := ⟨_, rfl⟩
  rw [hR, hRW]
  unfold rTxt at hR
  unfold rTxtW at hRW
  generalize rn0 (l.drop p) e = X at *
  obtain ⟨E, V, Wd⟩ := X
  simp only at HC HWd HV hR hRW
  have wd := unhide HWd
  have vl := unhide HV
  rw [hld] at wd hR hRW
  have HR2 := hide (h.below b2)
  have Hby := hide hby
  have Hl := hide hl
  have B2 := hide b2
  have X1 := hide x1
  have X3 := hide x3
  clear h hby hl HWd HV hld x1 x3 b2
  obtain ⟨q, hq⟩ : ∃ q, p + Wd = q := ⟨_, rfl⟩
  rw [hq] at HC
  have hqn : q ≤ n := by omega
  go_enter Tryz.func30, Tryz.ntmps30
  go_wp2_with fail
  refine (unhide HC).mono ?_
  rintro r W1 ⟨rfl, hb⟩
  have y1 := (unhide X1).below hb
  have y3 := (unhide X3).below hb
  have lt1 := y1.lt
  have lt3 := y3.lt
  clear c10 c11 c12 hw2 HC
  have d10 := y1.cell 0 _ rfl
  have d11 := y1.cell 1 _ rfl
  have d12 := y1.cell 2 _ rfl
  have d30 := y3.cell 0 _ rfl
  have d31 := y3.cell 1 _ rfl
  have d32 := y3.cell 2 _ rfl
  have f10 := y1.frozen 0
  have f11 := y1.frozen 1
  have f12 := y1.frozen 2
  have f30 := y3.frozen 0
  have f31 := y3.frozen 1
  have f32 := y3.frozen 2
  have B1 := hide (bnext (unhide B2) hb)
  have Y1 := hide y1
  have Y3 := hide y3
  have RW1 := hide ((unhide HR2).below hb)
  clear y1 y3 hb
  by_cases hE : E = 0
  · subst hE
    rw [if_neg (by simp)] at hR hRW
    by_cases hlt : n - p - Wd < V
    · rw [if_pos hlt] at hR hRW
      subst hR hRW
      have hlt' : (n : Int) - (q : Int) < (V : Int) := by omega
      have hq0 : (q : Int) ≤ (n : Int) := by omega
      go_wp2
      go_region
      go_wp2
      refine bodyPost_ret (rres_tc rfl _ _ (w.heap.size + 1) _ _ _ _ rfl (Bx.below (put3R ((unhide Y3).kp (Kp.set (N := fun k => k = w.heap.size) W1 ⟨w.heap.size, 2, none⟩ _ rfl) (by omega)) _ _ _) (ballc (Below.refl _ _) _).drew) Tryz.underlying45 rfl sizeRR) rfl ?_
      exact ⟨rfl, (ballc (bput3R (bset (unhide B1) ⟨w.heap.size, 2, none⟩ (Nat.le_refl _) _) (Nat.le_succ _) _ _ _) _).drew⟩
    · rw [if_neg hlt] at hR hRW
      subst hR hRW
      have hlt' : ¬ ((n : Int) - (q : Int) < (V : Int)) := by omega
      have hq0 : (q : Int) ≤ (n : Int) := by omega
      have hsm : (q : Int) + (V : Int) ≤ 1000000 := by omega
      have hsl := fun W => sl_mid W a n c q V (by omega) hc
      have hrow := (unhide RW1).mid (k := q) (m := V) (by omega) (by rw [bC_len]; exact unhide Hl)
      rw [bC_drop, bC_take] at hrow
      have hll : ((l.drop q).take V).length = V := by rw [List.length_take, List.length_drop, unhide Hl]; omega
      obtain ⟨X, hX⟩ : ∃ X, W1.alloc (.cells #[.slice a n c, .int .i64 (q : Nat), .int .i64 0] 45) = X := ⟨_, rfl⟩
      have hcv := conv_in X _ ((l.drop q).take V) (by rw [hll, ← hX]; exact hrow.below (ballc (Below.refl _ _) _)) (fun b hb => unhide Hby b (List.mem_of_mem_drop (List.mem_of_mem_take hb)))
      generalize (if c = q then a else a.map (·.add q)) = a2 at hsl hcv
      obtain ⟨S, hS⟩ : ∃ S, txt ((l.drop q).take V) = S := ⟨_, rfl⟩
      rw [hS] at hcv
      have eS : txt (((l.drop p).drop Wd).take V) = S := by rw [List.drop_drop, hq, hS]
      have HS := hide hS
      have eq2 : ((p + (Wd + V) : Nat) : Int) = (q : Int) + (V : Int) := by omega
      have HQ := hide (show (p : Int) + ((Wd : Int) + (V : Int)) = (q : Int) + (V : Int) by omega)
      push_cast at hsl
      clear hrow hll hS eS eq2
      rw [← hX] at hcv
      clear hX
      go_wp2
      go_region
      go_wp2
      rw [unhide HS, unhide HQ]
      refine bodyPost_ret (rres_tc rfl _ _ (w.heap.size + 1) _ _ _ _ rfl (Bx.below (put3R (unhide Y3) _ _ _) (ballc (Below.refl _ _) _).drew) Tryz.underlying45 rfl sizeRR) rfl ?_
      exact ⟨rfl, (ballc (bput3R (unhide B1) (Nat.le_succ _) _ _ _) _).drew⟩
  · rw [if_pos hE] at hR hRW
    have hE' : (E == 0) = false := by simpa using hE
    subst hR hRW
    go_wp2
    go_region
    go_wp2
    refine bodyPost_ret (rres_tc rfl _ _ (w.heap.size + 1) _ _ _ _ rfl (Bx.below (put3R ((unhide Y3).kp (Kp.set (N := fun k => k = w.heap.size) W1 ⟨w.heap.size, 2, none⟩ _ rfl) (by omega)) _ _ _) (ballc (Below.refl _ _) _).drew) Tryz.underlying45 rfl sizeRR) rfl ?_
    exact ⟨rfl, (ballc (bput3R (bset (unhide B1) ⟨w.heap.size, 2, none⟩ (Nat.le_refl _) _) (Nat.le_succ _) _ _ _) _).drew⟩

end Go.Proofs.YtbnhfbdfjnigoaaGreat

/-
  The document's own Take.
-/
set_option linter.unusedSimpArgs false
set_option linter.unusedVariables false
namespace Go.Proofs.YtbnhfbdfjnigoaaGreat
open Go.RowKit Go.Lib

/-- the document's Reader in its variable, the result's variable, the Dots so far -/
structure TB (w W : World) (sl : Value) (p : Nat) (e : Int) (vv : Value) (acc : List (Int × Int)) : Prop where
  bx : Bx W w.heap.size 45 #[sl, .int .i64 (p : Nat), .int .i64 e]
  rs : Bx W (w.heap.size + 1) 45 #[.slice none 0 0, .int .i64 0, .int .i64 0]
  row : OwD W (w.heap.size + 2) vv acc
  bel : Below w.heap.size w W
theorem TB.below {w W W' : World} {sl : Value} {p : Nat} {e : Int} {vv : Value} {acc : List (Int × Int)} (h : TB w W sl p e vv acc) (hb : Below W.heap.size W W') : TB w W' sl p e vv acc :=
  ⟨h.bx.below hb, h.rs.below hb, owns_kp (N := fun _ => False) h.row (Kp.of_below hb) (fun _ _ h => h), bnext h.bel hb⟩
theorem TB.other {w W : World} {sl : Value} {p : Nat} {e : Int} {vv : Value} {acc : List (Int × Int)} (h : TB w W sl p e vv acc) (D j : Nat) (v : Value) (h1 : w.heap.size + 2 ≤ D) (h2 : vv.ownBlock ≠ some D) : TB w (W.setCell ⟨D, j, none⟩ v) sl p e vv acc :=
  ⟨h.bx.setO _ (by show w.heap.size ≠ D; omega) _, h.rs.setO _ (by show w.heap.size + 1 ≠ D; omega) _, owns_kp h.row (Kp.set (N := fun i => i = D) W ⟨D, j, none⟩ v rfl) (fun i hi e => h2 (by rw [hi, e])), bset h.bel _ (by show w.heap.size ≤ D; omega) _⟩
theorem TB.store {w W : World} {sl : Value} {p : Nat} {e : Int} {vv : Value} {acc : List (Int × Int)} (h : TB w W sl p e vv acc) (p' : Nat) (e' : Int) :
    TB w (((W.setCell ⟨w.heap.size, 0, none⟩ sl).setCell ⟨w.heap.size, 1, none⟩ (.int .i64 (p' : Nat))).setCell ⟨w.heap.size, 2, none⟩ (.int .i64 e')) sl p' e' vv acc := by
  have k1 := Kp.set (N := fun i => i = w.heap.size) W ⟨w.heap.size, 0, none⟩ sl rfl
  have k2 := Kp.set (N := fun i => i = w.heap.size) (W.setCell ⟨w.heap.size, 0, none⟩ sl) ⟨w.heap.size, 1, none⟩ (.int .i64 (p' : Nat)) rfl
  have k3 := Kp.set (N := fun i => i = w.heap.size) ((W.setCell ⟨w.heap.size, 0, none⟩ sl).setCell ⟨w.heap.size, 1, none⟩ (.int .i64 (p' : Nat))) ⟨w.heap.size, 2, none⟩ (.int .i64 e') rfl
  have k := (k1.trans k2 (fun i h => .inl h)).trans k3 (fun i h => .inl h)
  refine ⟨?_, h.rs.kp k (by omega), owns_kp h.row k (fun i hi e => by have := (h.row.lt i hi).1; omega), k.below h.bel (fun i hi => by omega)⟩
  have := ((h.bx.set 0 sl).set 1 (.int .i64 (p' : Nat))).set 2 (.int .i64 e')
  simpa using this
/-- the result's variable is stored -/
def stR (W : World) (q : Nat) (sl : Value) (p : Nat) (e : Int) : World := ((W.setCell ⟨q, 0, none⟩ sl).setCell ⟨q, 1, none⟩ (.int .i64 (p : Nat))).setCell ⟨q, 2, none⟩ (.int .i64 e)
theorem TB.fin {w W : World} {sl : Value} {p : Nat} {e : Int} {vv : Value} {acc : List (Int × Int)} (h : TB w W sl p e vv acc) :
    Bx (stR W (w.heap.size + 1) sl p e) (w.heap.size + 1) 45 #[sl, .int .i64 (p : Nat), .int .i64 e] ∧ Below w.heap.size w (stR W (w.heap.size + 1) sl p e) ∧ OwD (stR W (w.heap.size + 1) sl p e) (w.heap.size + 2) vv acc := by
  unfold stR
  have k1 := Kp.set (N := fun i => i = w.heap.size + 1) W ⟨w.heap.size + 1, 0, none⟩ sl rfl
  have k2 := Kp.set (N := fun i => i = w.heap.size + 1) (W.setCell ⟨w.heap.size + 1, 0, none⟩ sl) ⟨w.heap.size + 1, 1, none⟩ (.int .i64 (p : Nat)) rfl
  have k3 := Kp.set (N := fun i => i = w.heap.size + 1) ((W.setCell ⟨w.heap.size + 1, 0, none⟩ sl).setCell ⟨w.heap.size + 1, 1, none⟩ (.int .i64 (p : Nat))) ⟨w.heap.size + 1, 2, none⟩ (.int .i64 e) rfl
  have k := (k1.trans k2 (fun i h => .inl h)).trans k3 (fun i h => .inl h)
  refine ⟨?_, k.below h.bel (fun i hi => by omega), owns_kp h.row k (fun i hi e => by have := (h.row.lt i hi).1; omega)⟩
  have := ((h.rs.set 0 sl).set 1 (.int .i64 (p : Nat))).set 2 (.int .i64 e)
  simpa using this

/-- a number is taken off a list at a place -/
theorem tkN_at {l : List Nat} {p : Nat} {e least most : Int} {E : Int} {V Wd : Nat} (h : rn0 (l.drop p) e = (E, V, Wd)) : tkN (l.drop p, e) least most = (if E ≠ 0 then (0, E) else if (V : Int) < least ∨ most < (V : Int) then (0, 6) else (V, 0), (l.drop (p + Wd), E)) := by
  unfold tkN rNum
  simp only
  rw [h]
  simp only [List.drop_drop]
  by_cases h1 : E = 0
  · subst h1
    simp only [ne_eq, not_true_eq_false, if_false]
    split <;> rfl
  · simp only [ne_eq, h1, not_false_eq_true, if_true]

/-- what the document's Take answers -/
def TkR (w : World) (a : Option Addr) (n c : Nat) (l : List Nat) (R : (List (Int × Int) × Int) × (List Nat × Int)) (r : Ending) (W : World) : Prop :=
  ∃ v' p', r = .returned (.tuple #[v', .agg #[.slice a n c, .int .i64 (p' : Nat), .int .i64 R.2.2], .int .i64 R.1.2]) ∧ p' ≤ n ∧ R.2.1 = l.drop p' ∧ OwD W w.heap.size v' R.1.1 ∧ Below w.heap.size w W

set_option maxRecDepth 100000 in
set_option maxHeartbeats 4000000 in
theorem refTake_in (a : Option Addr) (n c q : Nat) (hq0 : q ≤ n) (l : List Nat) (w : World) (h : RC w (.slice a n c) n (bC l)) (hl : l.length = n) (hn : n ≤ 1000000) (hby : ∀ b ∈ l, b < 256) :
    Calls Tryz.prog 29 #[.agg #[.slice a n c, .int .i64 (q : Nat), .int .i64 0]] w (TkR w a n c l (takeV (l.drop q, 0))) := by
  obtain ⟨X, hX⟩ : ∃ X, (w.alloc (.cells #[.slice a n c, .int .i64 (q : Nat), .int .i64 0] 45)).alloc (.cells #[.slice none 0 0, .int .i64 0, .int .i64 0] 45) = X := ⟨_, rfl⟩
  have T0 : TB w X (.slice a n c) q 0 (.slice none 0 0) [] := by
    rw [← hX]
    refine ⟨(Bx.new w _ _).below (ballc (Below.refl _ _) _), bx_lastR _ _ _ _, World.ownsRow_nil _ _ _ _, ballc (ballc (Below.refl _ _) _) _⟩
  have TN := hide (fun (p : Nat) (e : Int) (W : World) (hb : Below w.heap.size w W) (hp : p ≤ n) => refTakeNumber_in a n c p e l W (h.below hb) hl hp hn hby)
  have Hl := hide hl
  obtain ⟨R, hR⟩ : ∃ R, takeV (l.drop q, 0) = R := ⟨_, rfl⟩
  rw [hR]
  have HR := hide hR
  have K := hide (unhide TN q 0 X T0.bel (by omega))
  obtain ⟨E, V, Wx, hT⟩ : ∃ E V Wd, rn0 (l.drop q) 0 = (E, V, Wd) := ⟨_, _, _, rfl⟩
  rw [hT] at K
  simp only at K
  obtain ⟨Wd, hWd⟩ : ∃ P, q + Wx = P := ⟨_, rfl⟩
  rw [hWd] at K
  have hwd : Wd ≤ n := by have := rn0_width (l.drop q) 0; rw [hT] at this; simp only [List.length_drop] at this; omega
  have HA := hide (tkN_at (least := 0) (most := 16) hT)
  rw [hWd] at HA
  have hVp : V < 9223372036854775808 := by have := rn0_lt (l.drop q) 0; rw [hT] at this; exact this
  have c0 := T0.bx.cell 0 _ rfl
  have c1 := T0.bx.cell 1 _ rfl
  have c2 := T0.bx.cell 2 _ rfl
  replace T0 := hide T0
  clear h hl hby hR hT hWd
  go_enter Tryz.func29, Tryz.ntmps29
  go_wp2_with fail
  refine (unhide K).mono ?_
  rintro r W1 ⟨rfl, hb⟩
  have T1 := (unhide T0).below hb
  obtain ⟨Y1, hY1⟩ : ∃ Y, ((W1.setCell ⟨w.heap.size, 0, none⟩ (.slice a n c)).setCell ⟨w.heap.size, 1, none⟩ (.int .i64 (Wd : Nat))).setCell ⟨w.heap.size, 2, none⟩ (.int .i64 E) = Y := ⟨_, rfl⟩
  have T2 : TB w Y1 (.slice a n c) Wd E (.slice none 0 0) [] := by rw [← hY1]; exact T1.store Wd E
  clear c0 c1 c2
  have c0 := T1.bx.cell 0 _ rfl
  have c1 := T1.bx.cell 1 _ rfl
  have c2 := T1.bx.cell 2 _ rfl
  have f0 := T1.bx.frozen 0
  have f1 := T1.bx.frozen 1
  have f2 := T1.bx.frozen 2
  have d0 := T2.bx.cell 0 _ rfl
  have d1 := T2.bx.cell 1 _ rfl
  have d2 := T2.bx.cell 2 _ rfl
  have r0 := T2.rs.cell 0 _ rfl
  have r1 := T2.rs.cell 1 _ rfl
  have r2 := T2.rs.cell 2 _ rfl
  have g0 := T2.rs.frozen 0
  have g1 := T2.rs.frozen 1
  have g2 := T2.rs.frozen 2
  have hq := T2.rs.lt
  have Fn := hide T2.fin
  replace T1 := hide T1
  replace T2 := hide T2
  clear K T0 hb hX
  have HA2 : Hid (tkN (l.drop q, 0) 0 16 = (if E ≠ 0 then (0, E) else if (V : Int) < 0 ∨ 16 < (V : Int) then (0, 6) else (V, 0), (l.drop Wd, E))) := HA
  clear HA
  by_cases hE : E = 0
  · subst hE
    by_cases hV : 16 < (V : Int)
    · have HR2 : Hid (R = (([], 6), (l.drop Wd, 0))) := by
        refine hide ?_
        rw [← unhide HR, takeV, unhide HA2]
        simp [hV]
      go_wp2
      go_region
      go_wp2
      refine bodyPost_ret (rres_tct rfl _ _ (w.heap.size + 1) _ _ _ _ rfl (unhide Fn).1 Tryz.underlying45 rfl sizeRR) rfl ?_
      unfold TkR
      rw [unhide HR2]
      exact ⟨_, Wd, rfl, by omega, rfl, World.ownsRow_nil _ _ _ _, (unhide Fn).2.1.drew⟩
    · have HR2 : Hid (tkL V 0 [] (l.drop Wd, 0) = R) := by
        refine hide ?_
        have hV2 : ¬ ((V : Int) < 0 ∨ 16 < (V : Int)) := by omega
        rw [← unhide HR, takeV, unhide HA2]
        simp only [ne_eq, not_true_eq_false, if_false]
        rw [if_neg hV2]
        simp
      have hV3 : (V : Int) ≤ 16 := by omega
      clear HA2 HR
      go_wp2
      clear c0 c1 c2 f0 f1 f2 d0 d1 d2 r0 r1 r2 g0 g1 g2 hq Fn T1 hY1
      go_loopw [6, 7, 8] (fun vv lv iv wr => ∃ (last : Int) (i : Nat) (acc : List (Int × Int)) (p : Nat), lv = .int .i64 last ∧ iv = .int .i64 (i : Nat) ∧ i ≤ V ∧ p ≤ n ∧ 0 ≤ last ∧ last ≤ 16 ∧ acc.length ≤ i ∧ Hid (tkL (V - i) last acc (l.drop p, 0) = R) ∧ Hid (TB w wr (.slice a n c) p 0 vv acc)) (fun _ _ iv _ => V - (Lib.intOf iv).toNat)
      case atStart => exact ⟨0, 0, [], Wd, rfl, rfl, by omega, hwd, by omega, by omega, by simp, HR2, T2⟩
      case round =>
        clear HR2 T2
        obtain ⟨last, i, acc, p, rfl, rfl, hiV, hpn, hl0, hl1, hal, HT, TT⟩ := hrel
        obtain ⟨av, cv, hvv⟩ := (unhide TT).row.form
        subst hvv
        by_cases hlt : i < V
        · have hlt' : (i : Int) < (V : Int) := by omega
          rw [show V - i = (V - (i + 1)) + 1 by omega] at HT
          have T1 := (unhide TT).below (ballc (Below.refl _ wr) (.cells #[.int .i64 0, .int .i64 0] 25))
          have hDq := (unhide TT).rs.lt
          have hDo : (Value.slice av acc.length cv).ownBlock ≠ some wr.heap.size := fun e => by have := ((unhide TT).row.lt _ e).2; omega
          have K := hide (unhide TN p 0 _ T1.bel hpn)
          obtain ⟨E1, V1, W1d, hT1⟩ : ∃ E V Wd, rn0 (l.drop p) 0 = (E, V, Wd) := ⟨_, _, _, rfl⟩
          rw [hT1] at K
          simp only at K
          have hw1 : p + W1d ≤ n := by have := rn0_width (l.drop p) 0; rw [hT1] at this; simp only [List.length_drop] at this; have := unhide Hl; omega
          have hV1 : V1 < 9223372036854775808 := by have := rn0_lt (l.drop p) 0; rw [hT1] at this; exact this
          have HA1 := hide (tkN_at (least := last + 1) (most := 16) hT1)
          obtain ⟨P1, hP1⟩ : ∃ P, p + W1d = P := ⟨_, rfl⟩
          rw [hP1] at K hw1 HA1
          clear hP1
          have c0 := T1.bx.cell 0 _ rfl
          have c1 := T1.bx.cell 1 _ rfl
          have c2 := T1.bx.cell 2 _ rfl
          have hDl : wr.heap.size < (wr.alloc (.cells #[.int .i64 0, .int .i64 0] 25)).heap.size := by simp
          have BD := Bx.new wr 25 #[.int .i64 0, .int .i64 0]
          replace T1 := hide T1
          replace BD := hide BD
          obtain ⟨D, hD⟩ : ∃ D, wr.heap.size = D := ⟨_, rfl⟩
          replace hD := hide hD
          clear hT1
          go_wp2_with fail
          refine (unhide K).mono ?_
          rintro r W2 ⟨rfl, hb⟩
          rw [unhide hD] at hDo hDq hDl ⊢
          have B2 := (unhide BD).below hb
          rw [unhide hD] at B2
          have T2 := (unhide T1).below hb
          have T2' := T2.other D 0 (.int .i64 (V1 : Nat)) (by omega) hDo
          obtain ⟨Y2, hY2⟩ : ∃ Y, (((W2.setCell ⟨D, 0, none⟩ (.int .i64 (V1 : Nat))).setCell ⟨w.heap.size, 0, none⟩ (.slice a n c)).setCell ⟨w.heap.size, 1, none⟩ (.int .i64 (P1 : Nat))).setCell ⟨w.heap.size, 2, none⟩ (.int .i64 E1) = Y := ⟨_, rfl⟩
          have T3 : TB w Y2 (.slice a n c) P1 E1 (.slice av acc.length cv) acc := by rw [← hY2]; exact T2'.store P1 E1
          have B3 : Bx Y2 D 25 #[.int .i64 (V1 : Nat), .int .i64 0] := by
            rw [← hY2]
            have := (((B2.set 0 (.int .i64 (V1 : Nat))).setO ⟨w.heap.size, 0, none⟩ (by show D ≠ w.heap.size; omega) (.slice a n c)).setO ⟨w.heap.size, 1, none⟩ (by show D ≠ w.heap.size; omega) (.int .i64 (P1 : Nat))).setO ⟨w.heap.size, 2, none⟩ (by show D ≠ w.heap.size; omega) (.int .i64 E1)
            simpa using this
          clear c0 c1 c2
          have c0 := T2'.bx.cell 0 _ rfl
          have c1 := T2'.bx.cell 1 _ rfl
          have c2 := T2'.bx.cell 2 _ rfl
          have f0 := T2'.bx.frozen 0
          have f1 := T2'.bx.frozen 1
          have f2 := T2'.bx.frozen 2
          have x0 := B2.cell 0 _ rfl
          have fx0 := B2.frozen 0
          have b0 := T2.bx.cell 0 _ rfl
          have b1 := T2.bx.cell 1 _ rfl
          have b2 := T2.bx.cell 2 _ rfl
          have bf0 := T2.bx.frozen 0
          have bf1 := T2.bx.frozen 1
          have bf2 := T2.bx.frozen 2
          have hDl2 := B2.lt
          have d0 := T3.bx.cell 0 _ rfl
          have d1 := T3.bx.cell 1 _ rfl
          have d2 := T3.bx.cell 2 _ rfl
          have r0 := T3.rs.cell 0 _ rfl
          have r1 := T3.rs.cell 1 _ rfl
          have r2 := T3.rs.cell 2 _ rfl
          have g0 := T3.rs.frozen 0
          have g1 := T3.rs.frozen 1
          have g2 := T3.rs.frozen 2
          have hq := T3.rs.lt
          have Fn := hide T3.fin
          have y0 := B3.cell 0 _ rfl
          have y1 := B3.cell 1 _ rfl
          have hDl3 := B3.lt
          replace T3 := hide T3
          replace B3 := hide B3
          clear K T1 BD T2 T2' B2 hb
          by_cases hE1 : E1 = 0
          · subst hE1
            by_cases hv1 : (V1 : Int) < 1
            · have HR2 : Hid (R = (([], 6), (l.drop P1, 0))) := by
                refine hide ?_
                have e1 : tkN (l.drop p, 0) (last + 1) 16 = ((0, 6), (l.drop P1, 0)) := by rw [unhide HA1]; simp only [ne_eq, not_true_eq_false, if_false]; rw [if_pos (by omega)]
                rw [← unhide HT, tkL_bad1 e1 (by decide)]
              go_wp2
              go_region
              go_wp2
              refine bodyPost_ret (rres_tct rfl _ _ (w.heap.size + 1) _ _ _ _ rfl (unhide Fn).1 Tryz.underlying45 rfl sizeRR) rfl ?_
              unfold TkR
              rw [unhide HR2]
              exact ⟨_, P1, rfl, by omega, rfl, World.ownsRow_nil _ _ _ _, (unhide Fn).2.1.drew⟩
            by_cases hv2 : (16 : Int) < (V1 : Int)
            · have HR2 : Hid (R = (([], 6), (l.drop P1, 0))) := by
                refine hide ?_
                have e1 : tkN (l.drop p, 0) (last + 1) 16 = ((0, 6), (l.drop P1, 0)) := by rw [unhide HA1]; simp only [ne_eq, not_true_eq_false, if_false]; rw [if_pos (by omega)]
                rw [← unhide HT, tkL_bad1 e1 (by decide)]
              go_wp2
              go_region
              go_wp2
              refine bodyPost_ret (rres_tct rfl _ _ (w.heap.size + 1) _ _ _ _ rfl (unhide Fn).1 Tryz.underlying45 rfl sizeRR) rfl ?_
              unfold TkR
              rw [unhide HR2]
              exact ⟨_, P1, rfl, by omega, rfl, World.ownsRow_nil _ _ _ _, (unhide Fn).2.1.drew⟩
            by_cases hv3 : (V1 : Int) ≤ last
            · have HR2 : Hid (R = (([], 6), (l.drop P1, 0))) := by
                refine hide ?_
                have e1 : tkN (l.drop p, 0) (last + 1) 16 = ((0, 6), (l.drop P1, 0)) := by rw [unhide HA1]; simp only [ne_eq, not_true_eq_false, if_false]; rw [if_pos (by omega)]
                rw [← unhide HT, tkL_bad1 e1 (by decide)]
              go_wp2
              go_region
              go_wp2
              refine bodyPost_ret (rres_tct rfl _ _ (w.heap.size + 1) _ _ _ _ rfl (unhide Fn).1 Tryz.underlying45 rfl sizeRR) rfl ?_
              unfold TkR
              rw [unhide HR2]
              exact ⟨_, P1, rfl, by omega, rfl, World.ownsRow_nil _ _ _ _, (unhide Fn).2.1.drew⟩
            have HN1 : Hid (tkN (l.drop p, 0) (last + 1) 16 = ((V1, 0), (l.drop P1, 0))) := by
              refine hide ?_
              rw [unhide HA1]
              simp only [ne_eq, not_true_eq_false, if_false]
              rw [if_neg (by omega)]
            have K := hide (unhide TN P1 0 Y2 (unhide T3).bel hw1)
            obtain ⟨E2, V2, W2d, hT2⟩ : ∃ E V Wd, rn0 (l.drop P1) 0 = (E, V, Wd) := ⟨_, _, _, rfl⟩
            rw [hT2] at K
            simp only at K
            have hw2 : P1 + W2d ≤ n := by have := rn0_width (l.drop P1) 0; rw [hT2] at this; simp only [List.length_drop] at this; have := unhide Hl; omega
            have hV2 : V2 < 9223372036854775808 := by have := rn0_lt (l.drop P1) 0; rw [hT2] at this; exact this
            have HA3 := hide (tkN_at (least := 1) (most := 2147483647) hT2)
            obtain ⟨P2, hP2⟩ : ∃ P, P1 + W2d = P := ⟨_, rfl⟩
            rw [hP2] at K hw2 HA3
            clear hP2
            clear hT2 HA1
            go_wp2_with fail
            refine (unhide K).mono ?_
            rintro r W4 ⟨rfl, hb⟩
            clear c0 c1 c2 f0 f1 f2 x0 fx0 b0 b1 b2 bf0 bf1 bf2 hDl2 d0 d1 d2 r0 r1 r2 g0 g1 g2 hq Fn y0 y1 hDl3 hY2
            have B4 := (unhide B3).below hb
            have T4 := (unhide T3).below hb
            have T4' := T4.other D 1 (.int .i64 (V2 : Nat)) (by omega) hDo
            obtain ⟨Y4, hY4⟩ : ∃ Y, (((W4.setCell ⟨D, 1, none⟩ (.int .i64 (V2 : Nat))).setCell ⟨w.heap.size, 0, none⟩ (.slice a n c)).setCell ⟨w.heap.size, 1, none⟩ (.int .i64 (P2 : Nat))).setCell ⟨w.heap.size, 2, none⟩ (.int .i64 E2) = Y := ⟨_, rfl⟩
            have T5 : TB w Y4 (.slice a n c) (P2) E2 (.slice av acc.length cv) acc := by rw [← hY4]; exact T4'.store (P2) E2
            have B5 : Bx Y4 D 25 #[.int .i64 (V1 : Nat), .int .i64 (V2 : Nat)] := by
              rw [← hY4]
              have := (((B4.set 1 (.int .i64 (V2 : Nat))).setO ⟨w.heap.size, 0, none⟩ (by show D ≠ w.heap.size; omega) (.slice a n c)).setO ⟨w.heap.size, 1, none⟩ (by show D ≠ w.heap.size; omega) (.int .i64 (P2 : Nat))).setO ⟨w.heap.size, 2, none⟩ (by show D ≠ w.heap.size; omega) (.int .i64 E2)
              simpa using this
            have x0 := B4.cell 0 _ rfl
            have x1 := B4.cell 1 _ rfl
            have fx1 := B4.frozen 1
            have b0 := T4.bx.cell 0 _ rfl
            have b1 := T4.bx.cell 1 _ rfl
            have b2 := T4.bx.cell 2 _ rfl
            have bf0 := T4.bx.frozen 0
            have bf1 := T4.bx.frozen 1
            have bf2 := T4.bx.frozen 2
            have hDl2 := B4.lt
            have d0 := T5.bx.cell 0 _ rfl
            have d1 := T5.bx.cell 1 _ rfl
            have d2 := T5.bx.cell 2 _ rfl
            have r0 := T5.rs.cell 0 _ rfl
            have r1 := T5.rs.cell 1 _ rfl
            have r2 := T5.rs.cell 2 _ rfl
            have g0 := T5.rs.frozen 0
            have g1 := T5.rs.frozen 1
            have g2 := T5.rs.frozen 2
            have hq := T5.rs.lt
            have Fn := hide T5.fin
            have y0 := B5.cell 0 _ rfl
            have y1 := B5.cell 1 _ rfl
            have hDl3 := B5.lt
            have Bel5 := hide T5.bel
            replace T5 := hide T5
            replace B5 := hide B5
            clear K T3 B3 T4 T4' B4 hb
            by_cases hE2 : E2 = 0
            · subst hE2
              by_cases hv4 : (V2 : Int) < 1
              · have HR2 : Hid (R = (([], 6), (l.drop (P2), 0))) := by
                  refine hide ?_
                  have e1 : tkN (l.drop P1, 0) 1 2147483647 = ((0, 6), (l.drop (P2), 0)) := by rw [unhide HA3]; simp only [ne_eq, not_true_eq_false, if_false]; rw [if_pos (by omega)]
                  rw [← unhide HT, tkL_bad2 (unhide HN1) e1 (by decide)]
                go_wp2
                go_region
                go_wp2
                refine bodyPost_ret (rres_tct rfl _ _ (w.heap.size + 1) _ _ _ _ rfl (unhide Fn).1 Tryz.underlying45 rfl sizeRR) rfl ?_
                unfold TkR
                rw [unhide HR2]
                exact ⟨_, P2, rfl, by omega, rfl, World.ownsRow_nil _ _ _ _, (unhide Fn).2.1.drew⟩
              by_cases hv5 : (2147483647 : Int) < (V2 : Int)
              · have HR2 : Hid (R = (([], 6), (l.drop (P2), 0))) := by
                  refine hide ?_
                  have e1 : tkN (l.drop P1, 0) 1 2147483647 = ((0, 6), (l.drop (P2), 0)) := by rw [unhide HA3]; simp only [ne_eq, not_true_eq_false, if_false]; rw [if_pos (by omega)]
                  rw [← unhide HT, tkL_bad2 (unhide HN1) e1 (by decide)]
                go_wp2
                go_region
                go_wp2
                refine bodyPost_ret (rres_tct rfl _ _ (w.heap.size + 1) _ _ _ _ rfl (unhide Fn).1 Tryz.underlying45 rfl sizeRR) rfl ?_
                unfold TkR
                rw [unhide HR2]
                exact ⟨_, P2, rfl, by omega, rfl, World.ownsRow_nil _ _ _ _, (unhide Fn).2.1.drew⟩
              have HN2 : tkN (l.drop P1, 0) 1 2147483647 = ((V2, 0), (l.drop (P2), 0)) := by
                rw [unhide HA3]
                simp only [ne_eq, not_true_eq_false, if_false]
                rw [if_neg (by omega)]
              have HT2 : Hid (tkL (V - (i + 1)) (V1 : Nat) (acc ++ [((V1 : Int), (V2 : Int))]) (l.drop (P2), 0) = R) := hide (by rw [← unhide HT, tkL_good (unhide HN1) HN2])
              obtain ⟨v', w', hr, hown, hgr, hat⟩ := append_dot Y4 27 (w.heap.size + 2) _ acc (V1 : Int) (V2 : Int) (unhide T5).row (by omega) (by omega)
              have Hr := hide hr
              have al := ballc (Below.refl Y4.heap.size Y4) (.cells #[.int .i64 (V1 : Int), .int .i64 (V2 : Int)] 25)
              have hne : ∀ k, (Value.slice av acc.length cv).ownBlock = some k → w.heap.size + 2 ≤ k := fun k hk => ((unhide T5).row.lt k hk).1
              have T6 : Hid (TB w w' (.slice a n c) (P2) 0 v' (acc ++ [((V1 : Int), (V2 : Int))])) :=
                ⟨(hgr.block _ ((unhide T5).bx.below al).lt (fun e => by have := hne _ e.symm; omega)).trans ((unhide T5).bx.below al), (hgr.block _ ((unhide T5).rs.below al).lt (fun e => by have := hne _ e.symm; omega)).trans ((unhide T5).rs.below al), hown, (ballc (unhide T5).bel _).grown hgr (ballc (unhide T5).bel _).size (fun k hk => by have := hne k hk; omega)⟩
              clear hr hown hgr hat al hne HN2
              obtain ⟨av', cv', hv'⟩ := (unhide T6).row.form
              subst hv'
              go_wp2_with (at_builtin; refine wpList_append_eq rfl _ _ 27 rfl _ _ _ _ rfl rfl (unhide Hr) ?_)
              go_roundw
              case measure => show V - ((i : Int) + 1).toNat < V - ((i : Nat) : Int).toNat; omega
              case rel => exact ⟨(V1 : Int), i + 1, _, P2, rfl, by go_num, by omega, hw2, by omega, by omega, by simp; omega, HT2, by have := unhide T6; rw [List.length_append] at this; exact hide this⟩
            · have hE2' : (E2 == 0) = false := by simpa using hE2
              have HR2 : Hid (R = (([], E2), (l.drop (P2), E2))) := by
                refine hide ?_
                have e1 : tkN (l.drop P1, 0) 1 2147483647 = ((0, E2), (l.drop (P2), E2)) := by rw [unhide HA3, if_pos hE2]
                rw [← unhide HT, tkL_bad2 (unhide HN1) e1 hE2]
              go_wp2
              go_region
              go_wp2
              refine bodyPost_ret (rres_tct rfl _ _ (w.heap.size + 1) _ _ _ _ rfl (unhide Fn).1 Tryz.underlying45 rfl sizeRR) rfl ?_
              unfold TkR
              rw [unhide HR2]
              exact ⟨_, P2, rfl, by omega, rfl, World.ownsRow_nil _ _ _ _, (unhide Fn).2.1.drew⟩
          · have hE1' : (E1 == 0) = false := by simpa using hE1
            have HR2 : Hid (R = (([], E1), (l.drop P1, E1))) := by
              refine hide ?_
              have e1 : tkN (l.drop p, 0) (last + 1) 16 = ((0, E1), (l.drop P1, E1)) := by rw [unhide HA1, if_pos hE1]
              rw [← unhide HT, tkL_bad1 e1 hE1]
            go_wp2
            go_region
            go_wp2
            refine bodyPost_ret (rres_tct rfl _ _ (w.heap.size + 1) _ _ _ _ rfl (unhide Fn).1 Tryz.underlying45 rfl sizeRR) rfl ?_
            unfold TkR
            rw [unhide HR2]
            exact ⟨_, P1, rfl, by omega, rfl, World.ownsRow_nil _ _ _ _, (unhide Fn).2.1.drew⟩
        · have hlt' : ¬ (i : Int) < (V : Int) := by omega
          have HR2 : Hid (R = ((acc, 0), (l.drop p, 0))) := hide (by rw [← unhide HT, show V - i = 0 by omega, tkL])
          have T3 := unhide TT
          have d0 := T3.bx.cell 0 _ rfl
          have d1 := T3.bx.cell 1 _ rfl
          have d2 := T3.bx.cell 2 _ rfl
          have r0 := T3.rs.cell 0 _ rfl
          have r1 := T3.rs.cell 1 _ rfl
          have r2 := T3.rs.cell 2 _ rfl
          have g0 := T3.rs.frozen 0
          have g1 := T3.rs.frozen 1
          have g2 := T3.rs.frozen 2
          have hq := T3.rs.lt
          have Fn := hide T3.fin
          clear T3
          go_wp2
          go_region
          go_wp2
          refine bodyPost_ret (rres_tct rfl _ _ (w.heap.size + 1) _ _ _ _ rfl (unhide Fn).1 Tryz.underlying45 rfl sizeRR) rfl ?_
          unfold TkR
          rw [unhide HR2]
          exact ⟨_, p, rfl, by omega, rfl, ((unhide Fn).2.2).base (by omega), (unhide Fn).2.1.drew⟩
  · have HR2 : Hid (R = (([], E), (l.drop Wd, E))) := by
      refine hide ?_
      rw [← unhide HR, takeV, unhide HA2]
      simp [hE]
    have hE' : (E == 0) = false := by simpa using hE
    go_wp2
    go_region
    go_wp2
    refine bodyPost_ret (rres_tct rfl _ _ (w.heap.size + 1) _ _ _ _ rfl (unhide Fn).1 Tryz.underlying45 rfl sizeRR) rfl ?_
    unfold TkR
    rw [unhide HR2]
    exact ⟨_, Wd, rfl, by omega, rfl, World.ownsRow_nil _ _ _ _, (unhide Fn).2.1.drew⟩

end Go.Proofs.YtbnhfbdfjnigoaaGreat

/-
  The document's own Take of an operation.
-/
set_option linter.unusedSimpArgs false
set_option linter.unusedVariables false
namespace Go.Proofs.YtbnhfbdfjnigoaaGreat
open Go.RowKit Go.Lib

theorem results_cct {P : Program} {fn : Func} {j p q : Tmp} {ty tz : TypeId} (h : fn.results = #[.cell p ty, .cell q tz, .tmp j]) (tmps : Array Value) (w : World) (g : Nat) (t : TypeId) (cs : Array Value) (fr : Nat × Nat) (d : TypeDesc) (g' : Nat) (t' : TypeId) (cs' : Array Value) (fr' : Nat × Nat) (d' : TypeDesc)
    (hp : tmps.getD p undef = .pointer (some ⟨g, 0, none⟩)) (hg : w.heap[g]? = some (.cells cs t fr)) (hu : P.underlying ty = some d) (hd : (match d with | .struct _ | .array _ _ => true | _ => false) = true) (hi : (P.info? ty).map (·.size) = some cs.size)
    (hq : tmps.getD q undef = .pointer (some ⟨g', 0, none⟩)) (hg' : w.heap[g']? = some (.cells cs' t' fr')) (hu' : P.underlying tz = some d') (hd' : (match d' with | .struct _ | .array _ _ => true | _ => false) = true) (hi' : (P.info? tz).map (·.size) = some cs'.size) :
    (results fn tmps).run P w = .ok (.tuple #[.agg cs, .agg cs', tmps.getD j undef]) w := by
  have hp' : tmps[p]?.getD undef = .pointer (some ⟨g, 0, none⟩) := by simpa using hp
  have hq' : tmps[q]?.getD undef = .pointer (some ⟨g', 0, none⟩) := by simpa using hq
  simp [results, h, hp', hq', asAddr, run_loadVar_row w g t ty cs fr d hg hu hd hi, run_loadVar_row w g' t' tz cs' fr' d' hg' hu' hd' hi']
theorem sizeOp : (Tryz.prog.info? 32).map (·.size) = some 11 := by kernel_rfl

/-- the document's Reader in its variable, the results' variables, the operation so far, its rows -/
structure TE (w W : World) (sl : Value) (p : Nat) (e : Int) (O : Array Value) (B : Nat) (vd vg : Value) (d : List (Int × Int)) (g : List ((Int × Int) × Int)) : Prop where
  bx : Bx W w.heap.size 45 #[sl, .int .i64 (p : Nat), .int .i64 e]
  ro : Bx W (w.heap.size + 1) 32 #[.int .i64 0, .int .i64 0, .slice none 0 0, .int .i64 0, .int .i64 0, .int .i64 0, .int .i64 0, .int .i64 0, .string ⟨#[]⟩, .slice none 0 0, .int .i64 0]
  rs : Bx W (w.heap.size + 2) 45 #[.slice none 0 0, .int .i64 0, .int .i64 0]
  ox : Bx W (w.heap.size + 3) 32 O
  dp : OwD W (w.heap.size + 4) vd d
  gn : OwR W B vg g
  hB : w.heap.size + 4 ≤ B
  vB : ∀ k, vd.ownBlock = some k → k < B
  sB : B ≤ W.heap.size
  bel : Below w.heap.size w W
theorem TE.below {w W W' : World} {sl : Value} {p : Nat} {e : Int} {O : Array Value} {B : Nat} {vd vg : Value} {d : List (Int × Int)} {g : List ((Int × Int) × Int)} (h : TE w W sl p e O B vd vg d g) (hb : Below W.heap.size W W') : TE w W' sl p e O B vd vg d g :=
  ⟨h.bx.below hb, h.ro.below hb, h.rs.below hb, h.ox.below hb, owns_kp (N := fun _ => False) h.dp (Kp.of_below hb) (fun _ _ h => h), owns_kp (N := fun _ => False) h.gn (Kp.of_below hb) (fun _ _ h => h), h.hB, h.vB, Nat.le_trans h.sB hb.size, bnext h.bel hb⟩
theorem TE.kp {N : Nat → Prop} {w W W' : World} {sl : Value} {p : Nat} {e : Int} {O : Array Value} {B : Nat} {vd vg : Value} {d : List (Int × Int)} {g : List ((Int × Int) × Int)} (h : TE w W sl p e O B vd vg d g) (k : Kp N W W') (hn : ∀ i, N i → w.heap.size + 3 < i ∧ vd.ownBlock ≠ some i ∧ vg.ownBlock ≠ some i) : TE w W' sl p e O B vd vg d g :=
  ⟨h.bx.kp k (fun e => by have := hn _ e; omega), h.ro.kp k (fun e => by have := hn _ e; omega), h.rs.kp k (fun e => by have := hn _ e; omega), h.ox.kp k (fun e => by have := hn _ e; omega), owns_kp h.dp k (fun i hi e => (hn i e).2.1 hi), owns_kp h.gn k (fun i hi e => (hn i e).2.2 hi), h.hB, h.vB, Nat.le_trans h.sB k.size, k.below h.bel (fun i hi => by have := hn i hi; omega)⟩
theorem TE.putO {w W : World} {sl : Value} {p : Nat} {e : Int} {O : Array Value} {B : Nat} {vd vg : Value} {d : List (Int × Int)} {g : List ((Int × Int) × Int)} (h : TE w W sl p e O B vd vg d g) (j : Nat) (x : Value) : TE w (W.setCell ⟨w.heap.size + 3, j, none⟩ x) sl p e (O.setIfInBounds j x) B vd vg d g := by
  have k := Kp.set (N := fun i => i = w.heap.size + 3) W ⟨w.heap.size + 3, j, none⟩ x rfl
  exact ⟨h.bx.kp k (by omega), h.ro.kp k (by omega), h.rs.kp k (by omega), h.ox.set j x, owns_kp h.dp k (fun i hi e => by have := (h.dp.lt i hi).1; omega), owns_kp h.gn k (fun i hi e => by have := (h.gn.lt i hi).1; have := h.hB; omega), h.hB, h.vB, Nat.le_trans h.sB k.size, k.below h.bel (fun i hi => by omega)⟩
theorem TE.putR {w W : World} {sl : Value} {p : Nat} {e : Int} {O : Array Value} {B : Nat} {vd vg : Value} {d : List (Int × Int)} {g : List ((Int × Int) × Int)} (h : TE w W sl p e O B vd vg d g) (p' : Nat) (e' : Int) :
    TE w (((W.setCell ⟨w.heap.size, 0, none⟩ sl).setCell ⟨w.heap.size, 1, none⟩ (.int .i64 (p' : Nat))).setCell ⟨w.heap.size, 2, none⟩ (.int .i64 e')) sl p' e' O B vd vg d g := by
  have k1 := Kp.set (N := fun i => i = w.heap.size) W ⟨w.heap.size, 0, none⟩ sl rfl
  have k2 := Kp.set (N := fun i => i = w.heap.size) (W.setCell ⟨w.heap.size, 0, none⟩ sl) ⟨w.heap.size, 1, none⟩ (.int .i64 (p' : Nat)) rfl
  have k3 := Kp.set (N := fun i => i = w.heap.size) ((W.setCell ⟨w.heap.size, 0, none⟩ sl).setCell ⟨w.heap.size, 1, none⟩ (.int .i64 (p' : Nat))) ⟨w.heap.size, 2, none⟩ (.int .i64 e') rfl
  have k := (k1.trans k2 (fun i h => .inl h)).trans k3 (fun i h => .inl h)
  refine ⟨?_, h.ro.kp k (by omega), h.rs.kp k (by omega), h.ox.kp k (by omega), owns_kp h.dp k (fun i hi e => by have := (h.dp.lt i hi).1; omega), owns_kp h.gn k (fun i hi e => by have := (h.gn.lt i hi).1; have := h.hB; omega), h.hB, h.vB, Nat.le_trans h.sB k.size, k.below h.bel (fun i hi => by omega)⟩
  have := ((h.bx.set 0 sl).set 1 (.int .i64 (p' : Nat))).set 2 (.int .i64 e')
  simpa using this
theorem kset {N : Nat → Prop} {W M : World} (h : Kp N W M) (a : Addr) (v : Value) (hn : N a.block) : Kp N W (M.setCell a v) := h.trans (Kp.set M a v hn) (fun i e => .inl e)
set_option maxHeartbeats 2000000 in
/-- the results' variables are stored -/
theorem TE.ret {w W : World} {sl : Value} {p : Nat} {e : Int} {O : Array Value} {B : Nat} {vd vg : Value} {d : List (Int × Int)} {g : List ((Int × Int) × Int)} (h : TE w W sl p e O B vd vg d g) (y0 y1 y2 y3 y4 y5 y6 y7 y8 y9 y10 : Value) :
    ∃ F, F = ((((((((((((((W.setCell ⟨w.heap.size + 1, 0, none⟩ (y0)).setCell ⟨w.heap.size + 1, 1, none⟩ (y1)).setCell ⟨w.heap.size + 1, 2, none⟩ (y2)).setCell ⟨w.heap.size + 1, 3, none⟩ (y3)).setCell ⟨w.heap.size + 1, 4, none⟩ (y4)).setCell ⟨w.heap.size + 1, 5, none⟩ (y5)).setCell ⟨w.heap.size + 1, 6, none⟩ (y6)).setCell ⟨w.heap.size + 1, 7, none⟩ (y7)).setCell ⟨w.heap.size + 1, 8, none⟩ (y8)).setCell ⟨w.heap.size + 1, 9, none⟩ (y9)).setCell ⟨w.heap.size + 1, 10, none⟩ (y10)).setCell ⟨w.heap.size + 2, 0, none⟩ (sl)).setCell ⟨w.heap.size + 2, 1, none⟩ (.int .i64 (p : Nat))).setCell ⟨w.heap.size + 2, 2, none⟩ (.int .i64 e)).drew ∧ Bx F (w.heap.size + 1) 32 #[y0, y1, y2, y3, y4, y5, y6, y7, y8, y9, y10] ∧ Bx F (w.heap.size + 2) 45 #[sl, .int .i64 (p : Nat), .int .i64 e] ∧ OwD F w.heap.size vd d ∧ OwR F w.heap.size vg g ∧ Below w.heap.size w F := by
  have b1 := (((((((((((h.ro).set 0 y0).set 1 y1).set 2 y2).set 3 y3).set 4 y4).set 5 y5).set 6 y6).set 7 y7).set 8 y8).set 9 y9).set 10 y10
  have k0 := kset (N := fun i => i = w.heap.size + 1) (Kp.refl _ W) ⟨w.heap.size + 1, 0, none⟩ y0 rfl
  have k1 := kset k0 ⟨w.heap.size + 1, 1, none⟩ y1 rfl
  have k2 := kset k1 ⟨w.heap.size + 1, 2, none⟩ y2 rfl
  have k3 := kset k2 ⟨w.heap.size + 1, 3, none⟩ y3 rfl
  have k4 := kset k3 ⟨w.heap.size + 1, 4, none⟩ y4 rfl
  have k5 := kset k4 ⟨w.heap.size + 1, 5, none⟩ y5 rfl
  have k6 := kset k5 ⟨w.heap.size + 1, 6, none⟩ y6 rfl
  have k7 := kset k6 ⟨w.heap.size + 1, 7, none⟩ y7 rfl
  have k8 := kset k7 ⟨w.heap.size + 1, 8, none⟩ y8 rfl
  have k9 := kset k8 ⟨w.heap.size + 1, 9, none⟩ y9 rfl
  have k := kset k9 ⟨w.heap.size + 1, 10, none⟩ y10 rfl
  have r1 := h.rs.kp k (by omega)
  have r0 := h.bx.kp k (by omega)
  have q1 := kset (N := fun i => i = w.heap.size + 2) (Kp.refl _ (((((((((((W.setCell ⟨w.heap.size + 1, 0, none⟩ (y0)).setCell ⟨w.heap.size + 1, 1, none⟩ (y1)).setCell ⟨w.heap.size + 1, 2, none⟩ (y2)).setCell ⟨w.heap.size + 1, 3, none⟩ (y3)).setCell ⟨w.heap.size + 1, 4, none⟩ (y4)).setCell ⟨w.heap.size + 1, 5, none⟩ (y5)).setCell ⟨w.heap.size + 1, 6, none⟩ (y6)).setCell ⟨w.heap.size + 1, 7, none⟩ (y7)).setCell ⟨w.heap.size + 1, 8, none⟩ (y8)).setCell ⟨w.heap.size + 1, 9, none⟩ (y9)).setCell ⟨w.heap.size + 1, 10, none⟩ (y10))) ⟨w.heap.size + 2, 0, none⟩ sl rfl
  have q2 := kset q1 ⟨w.heap.size + 2, 1, none⟩ (.int .i64 (p : Nat)) rfl
  have k2 := kset q2 ⟨w.heap.size + 2, 2, none⟩ (.int .i64 e) rfl
  have r2 := ((r1.set 0 sl).set 1 (.int .i64 (p : Nat))).set 2 (.int .i64 e)
  have g1 := b1.kp k2 (by omega)
  have g2 := owns_kp (owns_kp h.dp k (fun i hi e => by have := (h.dp.lt i hi).1; omega)) k2 (fun i hi e => by have := (h.dp.lt i hi).1; omega)
  have g3 := owns_kp (owns_kp h.gn k (fun i hi e => by have := (h.gn.lt i hi).1; have := h.hB; omega)) k2 (fun i hi e => by have := (h.gn.lt i hi).1; have := h.hB; omega)
  have g4 := k2.below (k.below h.bel (fun i hi => by omega)) (fun i hi => by omega)
  obtain ⟨F0, hF0⟩ : ∃ F0, ((((((((((((((W.setCell ⟨w.heap.size + 1, 0, none⟩ (y0)).setCell ⟨w.heap.size + 1, 1, none⟩ (y1)).setCell ⟨w.heap.size + 1, 2, none⟩ (y2)).setCell ⟨w.heap.size + 1, 3, none⟩ (y3)).setCell ⟨w.heap.size + 1, 4, none⟩ (y4)).setCell ⟨w.heap.size + 1, 5, none⟩ (y5)).setCell ⟨w.heap.size + 1, 6, none⟩ (y6)).setCell ⟨w.heap.size + 1, 7, none⟩ (y7)).setCell ⟨w.heap.size + 1, 8, none⟩ (y8)).setCell ⟨w.heap.size + 1, 9, none⟩ (y9)).setCell ⟨w.heap.size + 1, 10, none⟩ (y10)).setCell ⟨w.heap.size + 2, 0, none⟩ (sl)).setCell ⟨w.heap.size + 2, 1, none⟩ (.int .i64 (p : Nat))).setCell ⟨w.heap.size + 2, 2, none⟩ (.int .i64 e)) = F0 := ⟨_, rfl⟩
  rw [hF0] at g1 g2 g3 g4 r2 ⊢
  have bd : Below F0.heap.size F0 F0.drew := (Below.refl _ _).drew
  refine ⟨_, rfl, ?_, ?_, OwD.base (owns_kp (N := fun _ => False) g2 (Kp.of_below bd) (fun _ _ h => h)) (by omega), OwR.base (owns_kp (N := fun _ => False) g3 (Kp.of_below bd) (fun _ _ h => h)) (by have := h.hB; omega), bnext g4 bd⟩
  · have := g1.below bd
    simpa using this
  · have := r2.below bd
    simpa using this

theorem TE.deps {w W : World} {sl : Value} {p : Nat} {e : Int} {O : Array Value} {B : Nat} {vd : Value} {d : List (Int × Int)} (h : TE w W sl p e O B (.slice none 0 0) (.slice none 0 0) [] []) (hd : OwD W (w.heap.size + 4) vd d) : TE w W sl p e O W.heap.size vd (.slice none 0 0) d [] :=
  ⟨h.bx, h.ro, h.rs, h.ox, hd, World.ownsRow_nil _ _ _ _, by have := h.ox.lt; omega, fun k hk => (hd.lt k hk).2, Nat.le_refl _, h.bel⟩
/-- what the document's Take answers -/
def TkO (w : World) (a : Option Addr) (n c : Nat) (l : List Nat) (R : (Opn × Int) × (List Nat × Int)) (r : Ending) (W : World) : Prop :=
  ∃ vd vg p', r = .returned (.tuple #[opA R.1.1 vd vg, .agg #[.slice a n c, .int .i64 (p' : Nat), .int .i64 R.2.2], .int .i64 R.1.2]) ∧ p' ≤ n ∧ R.2.1 = l.drop p' ∧ OwD W w.heap.size vd R.1.1.deps ∧ OwR W w.heap.size vg R.1.1.gone ∧ Below w.heap.size w W

theorem rn0_on (l : List Nat) {e : Int} (h : e ≠ 0) : rn0 l e = (e, 0, 0) := by unfold rn0; rw [if_pos h]

end Go.Proofs.YtbnhfbdfjnigoaaGreat
