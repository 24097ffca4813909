/-
  The document's own TakeNumber, TakeText, Read, Left, End.
-/
import Derived.Test.YtgoalmkjmjikmaaZR3
import Derived.Test.YtgoalmkjmjikmaaZOp
set_option linter.unusedSimpArgs false
set_option linter.unusedVariables false
namespace Go.Proofs.Ytgoalmkjmjikmaa
open Go.RowKit Go.Lib

theorem drop_at {α : Type} {l : List α} {i : Nat} {x : α} (h : l[i]? = some x) : l.drop i = x :: l.drop (i + 1) := by
  have hil := (List.getElem?_eq_some_iff.1 h).1
  rw [List.drop_eq_getElem_cons hil]
  congr 1
  rw [List.getElem?_eq_getElem hil] at h
  simpa using h

theorem results_tc {P : Program} {fn : Func} {i p : Tmp} {ty : TypeId} (h : fn.results = #[.tmp i, .cell p ty]) (tmps : Array Value) (w : World) (g : Nat) (t : TypeId) (cs : Array Value) (fr : Nat × Nat) (d : TypeDesc)
    (hp : tmps.getD p undef = .pointer (some ⟨g, 0, none⟩)) (hg : w.heap[g]? = some (.cells cs t fr))
    (hu : P.underlying ty = some d) (hd : (match d with | .struct _ | .array _ _ => true | _ => false) = true) (hi : (P.info? ty).map (·.size) = some cs.size) :
    (results fn tmps).run P w = .ok (.tuple #[tmps.getD i undef, .agg cs]) w := by
  have hp' : tmps[p]?.getD undef = .pointer (some ⟨g, 0, none⟩) := by simpa using hp
  simp [results, h, hp', asAddr, run_loadVar_row w g t ty cs fr d hg hu hd hi]
theorem results_tct {P : Program} {fn : Func} {i j p : Tmp} {ty : TypeId} (h : fn.results = #[.tmp i, .cell p ty, .tmp j]) (tmps : Array Value) (w : World) (g : Nat) (t : TypeId) (cs : Array Value) (fr : Nat × Nat) (d : TypeDesc)
    (hp : tmps.getD p undef = .pointer (some ⟨g, 0, none⟩)) (hg : w.heap[g]? = some (.cells cs t fr))
    (hu : P.underlying ty = some d) (hd : (match d with | .struct _ | .array _ _ => true | _ => false) = true) (hi : (P.info? ty).map (·.size) = some cs.size) :
    (results fn tmps).run P w = .ok (.tuple #[tmps.getD i undef, .agg cs, tmps.getD j undef]) w := by
  have hp' : tmps[p]?.getD undef = .pointer (some ⟨g, 0, none⟩) := by simpa using hp
  simp [results, h, hp', asAddr, run_loadVar_row w g t ty cs fr d hg hu hd hi]
theorem sizeR : (Try.prog.info? 49).map (·.size) = some 3 := by kernel_rfl

theorem wraps_i63 (n : Int) (h₀ : 0 ≤ n) (h₁ : n < 2 ^ 63) : IntKind.i64.wrap n = n := IntWalk.i64_in n (by omega)
theorem or_sum64 (s c i : Nat) (hi : i ≤ 8) (hs : s < 128 ^ i) : bits .or .i64 (s : Int) (wrap64 ((c : Int) % 128 * 2 ^ (7 * i))) = ((s + c % 128 * 128 ^ i : Nat) : Int) := by
  have h1 : (2 : Nat) ^ (7 * i) = 128 ^ i := by rw [Nat.pow_mul]
  have h2 : c % 128 * 128 ^ i ≤ 127 * 128 ^ i := Nat.mul_le_mul_right _ (by omega)
  have h3 := pow128 hi
  have e1 : ((c : Int) % 128 * 2 ^ (7 * i)) = ((c % 128 * 128 ^ i : Nat) : Int) := by
    rw [← h1]
    push_cast
    rfl
  rw [e1, IntWalk.wrap64_in _ (by omega)]
  have h4 := (bits_nat .i64 63 (by decide) wraps_i63 s (c % 128 * 128 ^ i) (by omega) (by omega)).2
  rw [h4]
  congr 1
  rw [← h1, ← Nat.shiftLeft_eq, Nat.or_comm, ← Nat.shiftLeft_add_eq_or_of_lt (by rw [h1]; exact hs), Nat.add_comm]

set_option maxRecDepth 100000 in
theorem refRead_in (v : Value) (n : Nat) (w : World) (hv : ∃ a c, v = .slice a n c) : Calls Try.prog 20 #[v] w fun r W => r = .returned (.agg #[v, .int .i64 0, .int .i64 0]) ∧ Below w.heap.size w W := by
  obtain ⟨a, c, rfl⟩ := hv
  have hb := hide (Bx.new w 49 #[.slice a n c, .int .i64 0, .int .i64 0])
  go_enter Try.func20, Try.ntmps20
  go_wp2
  refine bodyPost_ret (results_cell_row rfl _ _ w.heap.size _ _ _ _ rfl (unhide hb) Try.underlying49 rfl sizeR) rfl ?_
  exact ⟨rfl, ballc (Below.refl _ _) _⟩
set_option maxRecDepth 100000 in
theorem refLeft_in (a : Option Addr) (n c at' : Nat) (e : Int) (w : World) (h : at' ≤ n) (hn : n ≤ 140737488355328) : Calls Try.prog 51 #[.agg #[.slice a n c, .int .i64 (at' : Nat), .int .i64 e]] w fun r W => r = .returned (.int .i64 ((n - at' : Nat) : Int)) ∧ Below w.heap.size w W := by
  have e1 : ((n - at' : Nat) : Int) = (n : Int) - (at' : Int) := by omega
  have e2 : wrap64 ((n : Int) - (at' : Int)) = (n : Int) - (at' : Int) := IntWalk.wrap64_in _ (by omega)
  have e3 : IntKind.i64.wrap ((n : Int) - (at' : Int)) = (n : Int) - (at' : Int) := IntWalk.i64_in _ (by omega)
  rw [e1]
  clear e1
  go_enter Try.func51, Try.ntmps51
  go_wp2
  go_ret
  exact ⟨rfl, ballc (Below.refl _ _) _⟩

theorem bx_last (w : World) (A : Obj) (vs : Array Value) (t : TypeId) : ((w.alloc A).alloc (.cells vs t)).heap[w.heap.size + 1]? = some (.cells vs t (0, 0)) := by
  have h := Bx.new (w.alloc A) t vs
  have e : (w.alloc A).heap.size = w.heap.size + 1 := by simp
  rw [e] at h
  exact h

set_option maxRecDepth 100000 in
set_option maxHeartbeats 4000000 in
theorem refTakeNumber_in (a : Option Addr) (n c p : Nat) (e : Int) (l : List Nat) (w : World) (h : RC w (.slice a n c) n (bC l)) (hl : l.length = n) (hp : p ≤ n) (hn : n ≤ 1000000) (hby : ∀ b ∈ l, b < 256) :
    Calls Try.prog 50 #[.agg #[.slice a n c, .int .i64 (p : Nat), .int .i64 e]] w fun r W => r = .returned (.tuple #[.int .i64 ((rn0 (l.drop p) e).2.1 : Nat), .agg #[.slice a n c, .int .i64 ((p + (rn0 (l.drop p) e).2.2 : Nat) : Int), .int .i64 (rn0 (l.drop p) e).1]]) ∧ Below w.heap.size w W := by
  have B2 := fun (A B : Obj) => hide (ballc (ballc (Below.refl w.heap.size w) A) B)
  by_cases he : e = 0
  · subst he
    have hr : rn0 (l.drop p) 0 = tn (l.drop p) := by unfold rn0; simp
    rw [hr]
    clear hr
    obtain ⟨E, V, Wd, hT⟩ : ∃ E V Wd, tn (l.drop p) = (E, V, Wd) := ⟨_, _, _, rfl⟩
    rw [hT]
    simp only
    have HT := hide hT
    have H := hide h
    have Hl := hide hl
    have Hby := hide hby
    clear hT h hl hby
    go_enter Try.func50, Try.ntmps50
    go_wp2
    go_loopw [4, 6] (fun sv iv wr => ∃ (i s : Nat), sv = .int .i64 (s : Nat) ∧ iv = .int .i64 (i : Nat) ∧ p + i ≤ n ∧ i ≤ 8 ∧ Hid (s < 128 ^ i) ∧ Hid (tnL i s ((l.drop p).drop i) = (E, V, Wd)) ∧ wr = (w.alloc (.cells #[.slice a n c, .int .i64 (p : Nat), .int .i64 0] 49)).alloc (.cells #[.slice none 0 0, .int .i64 0, .int .i64 0] 49)) (fun _ iv _ => n - (Lib.intOf iv).toNat)
    case atStart => exact ⟨0, 0, rfl, rfl, by omega, by omega, hide (by simp), hide (unhide HT), rfl⟩
    case round =>
      obtain ⟨i, s, rfl, rfl, hin, hi8, Hs, Ht, rfl⟩ := hrel
      have hw1 : wrap64 ((p : Int) + (i : Int)) = (p : Int) + (i : Int) := IntWalk.wrap64_in _ (by omega)
      have hw2 : IntKind.i64.wrap ((p : Int) + (i : Int)) = (p : Int) + (i : Int) := IntWalk.i64_in _ (by omega)
      by_cases hlt : p + i < n
      · have hlt' : ¬ (n : Int) ≤ (p : Int) + (i : Int) := by omega
        have hlt2 : (p : Int) + (i : Int) < (n : Int) := by omega
        have hlt0 : 0 ≤ (p : Int) + (i : Int) := by omega
        obtain ⟨cb, hcb⟩ : ∃ cb, l[p + i]? = some cb := ⟨_, List.getElem?_eq_getElem (by have := unhide Hl; omega)⟩
        obtain ⟨b0, off, rfl, hb0, hcell⟩ : ∃ b0 off, a = some ⟨b0, off, none⟩ ∧ b0 < w.heap.size ∧ w.cell? ⟨b0, off + (p + i), none⟩ = some (.int .u8 (cb : Nat)) := by
          rcases unhide H with ⟨h0, _⟩ | ⟨b, off, cap, e, h1, h2, h3⟩
          · omega
          · simp at e
            obtain ⟨rfl, _⟩ := e
            exact ⟨b, off, rfl, h2, h3 (p + i) _ (bC_get l _ cb hcb)⟩
        have hc256 : cb < 256 := unhide Hby cb (List.mem_of_getElem? hcb)
        have hdr : (l.drop p).drop i = cb :: (l.drop p).drop (i + 1) := drop_at (by rw [List.getElem?_drop]; exact hcb)
        have Hd := hide hdr
        clear hdr hcb
        obtain ⟨S, hS⟩ : ∃ S : Nat, s + cb % 128 * 128 ^ i = S := ⟨_, rfl⟩
        have hor := or_sum64 s cb i hi8 (unhide Hs)
        rw [hS] at hor
        have hSs : (S : Int) ≤ 9223372036854775807 := by
          have h1 := sum_lt (c := cb) (unhide Hs)
          have h2 := pow128 hi8
          have h3 := pow128s i
          rw [hS] at h1
          omega
        have HSl := hide (show S < 128 ^ (i + 1) by have h1 := sum_lt (c := cb) (unhide Hs); rw [hS] at h1; exact h1)
        have HS := hide hS
        have hidx : ((p : Int) + (i : Int)).toNat = p + i := by omega
        clear hS
        by_cases hc : cb < 128
        · have hc' : ¬ (128 : Int) ≤ (cb : Int) := by omega
          by_cases h8 : i = 8
          · have h8' : ((i : Int) == 8) = true := by simp [h8]
            have hi0 : 0 < i := by omega
            by_cases hz : cb = 0
            · have hz' : ((cb : Int) == 0) = true := by simp [hz]
              have hE : Hid (E = 6) := by
                have h := unhide Ht
                rw [unhide Hd, tnL, if_pos hc, if_pos ⟨hz, hi0⟩] at h
                simp at h
                exact h.1.symm
              clear h8 hz
              have hv : V = 0 ∧ Wd = 0 := by
                have := tnL_err (l.drop p) 0 0
                rw [show tnL 0 0 (l.drop p) = _ from unhide HT] at this
                exact this (by show E ≠ 0; rw [unhide hE]; decide)
              replace hv := hide hv
              go_wp2
              go_region
              go_wp2
              obtain ⟨rfl, rfl⟩ := unhide hv
              obtain rfl := unhide hE
              refine bodyPost_ret (results_tc rfl _ _ (w.heap.size + 1) _ _ _ _ rfl (bx_last _ _ _ _) Try.underlying49 rfl sizeR) rfl ?_
              exact ⟨rfl, (unhide (B2 _ _)).drew⟩
            · have hz' : ((cb : Int) == 0) = false := by simp; omega
              clear h8
              have hE : Hid (E = 0 ∧ V = S ∧ Wd = i + 1) := by
                have h := unhide Ht
                rw [unhide Hd, tnL, if_pos hc, if_neg (fun h => hz h.1), unhide HS] at h
                simp at h
                exact ⟨h.1.symm, h.2.1.symm, h.2.2.symm⟩
              have e9 : ((p + (i + 1) : Nat) : Int) = (p : Int) + (i : Int) + 1 := by omega
              replace e9 := hide e9
              go_wp2
              go_region
              go_wp2
              obtain ⟨rfl, rfl, rfl⟩ := unhide hE
              rw [unhide e9]
              refine bodyPost_ret (results_tc rfl _ _ (w.heap.size + 1) _ _ _ _ rfl (bx_last _ _ _ _) Try.underlying49 rfl sizeR) rfl ?_
              exact ⟨rfl, (unhide (B2 _ _)).drew⟩
          · have h8' : ((i : Int) == 8) = false := by simp; omega
            by_cases hi0 : 0 < i
            · by_cases hz : cb = 0
              · have hz' : ((cb : Int) == 0) = true := by simp [hz]
                have hE : Hid (E = 6) := by
                  have h := unhide Ht
                  rw [unhide Hd, tnL, if_pos hc, if_pos ⟨hz, hi0⟩] at h
                  simp at h
                  exact h.1.symm
                clear h8 hz
                have hv : V = 0 ∧ Wd = 0 := by
                  have := tnL_err (l.drop p) 0 0
                  rw [show tnL 0 0 (l.drop p) = _ from unhide HT] at this
                  exact this (by show E ≠ 0; rw [unhide hE]; decide)
                replace hv := hide hv
                go_wp2
                go_region
                go_wp2
                obtain ⟨rfl, rfl⟩ := unhide hv
                obtain rfl := unhide hE
                refine bodyPost_ret (results_tc rfl _ _ (w.heap.size + 1) _ _ _ _ rfl (bx_last _ _ _ _) Try.underlying49 rfl sizeR) rfl ?_
                exact ⟨rfl, (unhide (B2 _ _)).drew⟩
              · have hz' : ((cb : Int) == 0) = false := by simp; omega
                clear h8
                have hE : Hid (E = 0 ∧ V = S ∧ Wd = i + 1) := by
                  have h := unhide Ht
                  rw [unhide Hd, tnL, if_pos hc, if_neg (fun h => hz h.1), unhide HS] at h
                  simp at h
                  exact ⟨h.1.symm, h.2.1.symm, h.2.2.symm⟩
                have e9 : ((p + (i + 1) : Nat) : Int) = (p : Int) + (i : Int) + 1 := by omega
                replace e9 := hide e9
                go_wp2
                go_region
                go_wp2
                obtain ⟨rfl, rfl, rfl⟩ := unhide hE
                rw [unhide e9]
                refine bodyPost_ret (results_tc rfl _ _ (w.heap.size + 1) _ _ _ _ rfl (bx_last _ _ _ _) Try.underlying49 rfl sizeR) rfl ?_
                exact ⟨rfl, (unhide (B2 _ _)).drew⟩
            · have hi0' : decide (0 < i) = false := by simpa using hi0
              clear h8
              have hE : Hid (E = 0 ∧ V = S ∧ Wd = i + 1) := by
                have h := unhide Ht
                rw [unhide Hd, tnL, if_pos hc, if_neg (fun h => hi0 h.2), unhide HS] at h
                simp at h
                exact ⟨h.1.symm, h.2.1.symm, h.2.2.symm⟩
              have e9 : ((p + (i + 1) : Nat) : Int) = (p : Int) + (i : Int) + 1 := by omega
              replace e9 := hide e9
              go_wp2
              go_region
              go_wp2
              obtain ⟨rfl, rfl, rfl⟩ := unhide hE
              rw [unhide e9]
              refine bodyPost_ret (results_tc rfl _ _ (w.heap.size + 1) _ _ _ _ rfl (bx_last _ _ _ _) Try.underlying49 rfl sizeR) rfl ?_
              exact ⟨rfl, (unhide (B2 _ _)).drew⟩
        · have hc' : (128 : Int) ≤ (cb : Int) := by omega
          by_cases h8 : i = 8
          · have h8' : ((i : Int) == 8) = true := by simp [h8]
            have hE : Hid (E = 6) := by
              have h := unhide Ht
              rw [unhide Hd, tnL, if_neg hc, if_pos h8] at h
              simp at h
              exact h.1.symm
            clear h8
            have hv : V = 0 ∧ Wd = 0 := by
              have := tnL_err (l.drop p) 0 0
              rw [show tnL 0 0 (l.drop p) = _ from unhide HT] at this
              exact this (by show E ≠ 0; rw [unhide hE]; decide)
            replace hv := hide hv
            go_wp2
            go_region
            go_wp2
            obtain ⟨rfl, rfl⟩ := unhide hv
            obtain rfl := unhide hE
            refine bodyPost_ret (results_tc rfl _ _ (w.heap.size + 1) _ _ _ _ rfl (bx_last _ _ _ _) Try.underlying49 rfl sizeR) rfl ?_
            exact ⟨rfl, (unhide (B2 _ _)).drew⟩
          · have h8' : ((i : Int) == 8) = false := by simp; omega
            have Ht2 : Hid (tnL (i + 1) S ((l.drop p).drop (i + 1)) = (E, V, Wd)) := by
              have h := unhide Ht
              rw [unhide Hd, tnL, if_neg hc, if_neg h8, unhide HS] at h
              exact h
            go_wp2
            go_roundw
            case measure => show n - ((i : Int) + 1).toNat < n - ((i : Nat) : Int).toNat; omega
            case rel => exact ⟨i + 1, S, rfl, by go_num, by omega, by omega, HSl, Ht2, by trivial⟩
      · have hlt' : (n : Int) ≤ (p : Int) + (i : Int) := by omega
        have hE : Hid (E = 5) := by
          have h := unhide Ht
          rw [List.drop_drop, List.drop_eq_nil_of_le (by have := unhide Hl; omega), tnL] at h
          simp at h
          exact h.1.symm
        have hv : V = 0 ∧ Wd = 0 := by
          have := tnL_err (l.drop p) 0 0
          rw [show tnL 0 0 (l.drop p) = _ from unhide HT] at this
          exact this (by show E ≠ 0; rw [unhide hE]; decide)
        replace hv := hide hv
        go_wp2
        go_region
        go_wp2
        obtain ⟨rfl, rfl⟩ := unhide hv
        obtain rfl := unhide hE
        refine bodyPost_ret (results_tc rfl _ _ (w.heap.size + 1) _ _ _ _ rfl (bx_last _ _ _ _) Try.underlying49 rfl sizeR) rfl ?_
        exact ⟨rfl, (unhide (B2 _ _)).drew⟩
  · have hr : rn0 (l.drop p) e = (e, 0, 0) := by unfold rn0; simp [he]
    rw [hr]
    have he' : (e == 0) = false := by simpa using he
    clear hr h
    go_enter Try.func50, Try.ntmps50
    go_wp2
    go_region
    go_wp2
    refine bodyPost_ret (results_tc rfl _ _ (w.heap.size + 1) _ _ _ _ rfl (bx_last _ _ _ _) Try.underlying49 rfl sizeR) rfl ?_
    exact ⟨rfl, (unhide (B2 _ _)).drew⟩

set_option maxRecDepth 100000 in
theorem refEnd_in (a : Option Addr) (n c at' : Nat) (e : Int) (l : List Nat) (w : World) (hl : l.length = n) (h : at' ≤ n) (hn : n ≤ 140737488355328) : Calls Try.prog 52 #[.agg #[.slice a n c, .int .i64 (at' : Nat), .int .i64 e]] w fun r W => r = .returned (.int .i64 (rEnd (l.drop at') e)) ∧ Below w.heap.size w W := by
  have HL := hide (refLeft_in a n c at' e (w.alloc (.cells #[.slice a n c, .int .i64 (at' : Nat), .int .i64 e] 49)) h hn)
  have HB := hide (ballc (Below.refl w.heap.size w) (.cells #[.slice a n c, .int .i64 (at' : Nat), .int .i64 e] 49))
  by_cases he : e = 0
  · subst he
    by_cases hk : at' < n
    · have e1 : rEnd (l.drop at') 0 = 6 := by unfold rEnd; rw [if_pos]; exact ⟨rfl, by rw [List.length_drop]; omega⟩
      rw [e1]
      obtain ⟨m, hm⟩ : ∃ m, n - at' = m := ⟨_, rfl⟩
      rw [hm] at HL
      have hk' : (0 : Int) < (m : Int) := by omega
      clear e1 hm hk hl h
      go_enter Try.func52, Try.ntmps52
      go_wp2_with (go_at_call 51; refine (unhide HL).mono ?_; rintro r W ⟨rfl, hb⟩; replace hb := hide hb)
      go_ret
      exact ⟨rfl, bnext (unhide HB) (unhide hb)⟩
    · have e1 : rEnd (l.drop at') 0 = 0 := by unfold rEnd; rw [if_neg]; intro h; have := h.2; rw [List.length_drop] at this; omega
      rw [e1]
      obtain ⟨m, hm⟩ : ∃ m, n - at' = m := ⟨_, rfl⟩
      rw [hm] at HL
      have hk' : ¬ (0 : Int) < (m : Int) := by omega
      clear e1 hm hk hl h
      go_enter Try.func52, Try.ntmps52
      go_wp2_with (go_at_call 51; refine (unhide HL).mono ?_; rintro r W ⟨rfl, hb⟩; replace hb := hide hb)
      go_ret
      exact ⟨rfl, bnext (unhide HB) (unhide hb)⟩
  · have e1 : rEnd (l.drop at') e = e := by unfold rEnd; rw [if_neg]; intro h; exact he h.1
    rw [e1]
    have he' : (e == 0) = false := by simpa using he
    clear e1
    go_enter Try.func52, Try.ntmps52
    go_wp2
    go_ret
    exact ⟨rfl, unhide HB⟩

theorem put3 {W : World} {g : Nat} {T : TypeId} {u0 u1 u2 : Value} (y : Bx W g T #[u0, u1, u2]) (v0 v1 v2 : Value) : Bx (((W.setCell ⟨g, 0, none⟩ v0).setCell ⟨g, 1, none⟩ v1).setCell ⟨g, 2, none⟩ v2) g T #[v0, v1, v2] := by simpa using ((y.set 0 v0).set 1 v1).set 2 v2
theorem bput3 {w W : World} {g : Nat} (h : Below w.heap.size w W) (hg : w.heap.size ≤ g) (v0 v1 v2 : Value) : Below w.heap.size w (((W.setCell ⟨g, 0, none⟩ v0).setCell ⟨g, 1, none⟩ v1).setCell ⟨g, 2, none⟩ v2) :=
  bset (bset (bset h ⟨g, 0, none⟩ hg v0) ⟨g, 1, none⟩ hg v1) ⟨g, 2, none⟩ hg v2

/-- how many bytes a text takes, with its length -/
def rTxtW (l : List Nat) (e : Int) : Nat := if (rn0 l e).1 ≠ 0 then 0 else if l.length - (rn0 l e).2.2 < (rn0 l e).2.1 then 0 else (rn0 l e).2.2 + (rn0 l e).2.1
theorem rTxt_drop (l : List Nat) (e : Int) : (rTxt l e).2.1 = l.drop (rTxtW l e) := by
  unfold rTxt rTxtW
  split
  · rfl
  · split <;> rfl
theorem rTxtW_le (l : List Nat) (e : Int) : rTxtW l e ≤ l.length := by
  have := rn0_width l e
  unfold rTxtW
  split
  · omega
  · split <;> omega

set_option maxRecDepth 100000 in
set_option maxHeartbeats 4000000 in
theorem refTakeText_in (a : Option Addr) (n c p : Nat) (e : Int) (l : List Nat) (w : World) (h : RC w (.slice a n c) n (bC l)) (hl : l.length = n) (hp : p ≤ n) (hn : n ≤ 1000000) (hby : ∀ b ∈ l, b < 256) :
    Calls Try.prog 49 #[.agg #[.slice a n c, .int .i64 (p : Nat), .int .i64 e]] w fun r W => r = .returned (.tuple #[.string (rTxt (l.drop p) e).1, .agg #[.slice a n c, .int .i64 ((p + rTxtW (l.drop p) e : Nat) : Int), .int .i64 (rTxt (l.drop p) e).2.2]]) ∧ Below w.heap.size w W := by
  obtain ⟨w2, hw2⟩ : ∃ X, (w.alloc (.cells #[.slice a n c, .int .i64 (p : Nat), .int .i64 e] 49)).alloc (.cells #[.slice none 0 0, .int .i64 0, .int .i64 0] 49) = X := ⟨_, rfl⟩
  have b2 : Below w.heap.size w w2 := by rw [← hw2]; exact ballc (ballc (Below.refl _ _) _) _
  have x1 : Bx w2 w.heap.size 49 #[.slice a n c, .int .i64 (p : Nat), .int .i64 e] := by rw [← hw2]; exact (Bx.new w _ _).below (ballc (Below.refl _ _) _)
  have x3 : Bx w2 (w.heap.size + 1) 49 #[.slice none 0 0, .int .i64 0, .int .i64 0] := by
    rw [← hw2]; have q := Bx.new (w.alloc (.cells #[.slice a n c, .int .i64 (p : Nat), .int .i64 e] 49)) 49 #[.slice none 0 0, .int .i64 0, .int .i64 0]; simpa using q
  have hc : n ≤ c := by
    rcases h with ⟨h0, a9, c9, e9⟩ | ⟨b, off, cap, e, h1, _⟩
    · omega
    · simp at e; omega
  have HC := hide (refTakeNumber_in a n c p e l w2 (h.below b2) hl hp hn hby)
  have c10 := x1.cell 0 _ rfl
  have c11 := x1.cell 1 _ rfl
  have c12 := x1.cell 2 _ rfl
  have HWd := hide (rn0_width (l.drop p) e)
  have HV := hide (rn0_lt (l.drop p) e)
  have hld : (l.drop p).length = n - p := by rw [List.length_drop, hl]
  obtain ⟨R, hR⟩ : ∃ R, rTxt (l.drop p) e = R := ⟨_, rfl⟩
  obtain ⟨RW, hRW⟩ : ∃ R, rTxtW (l.drop p) e = R := ⟨_, rfl⟩
  rw [hR, hRW]
  unfold rTxt at hR
  unfold rTxtW at hRW
  generalize rn0 (l.drop p) e = X at *
  obtain ⟨E, V, Wd⟩ := X
  simp only at HC HWd HV hR hRW
  have wd := unhide HWd
  have vl := unhide HV
  rw [hld] at wd hR hRW
  have HR2 := hide (h.below b2)
  have Hby := hide hby
  have Hl := hide hl
  have B2 := hide b2
  have X1 := hide x1
  have X3 := hide x3
  clear h hby hl HWd HV hld x1 x3 b2
  obtain ⟨q, hq⟩ : ∃ q, p + Wd = q := ⟨_, rfl⟩
  rw [hq] at HC
  have hqn : q ≤ n := by omega
  go_enter Try.func49, Try.ntmps49
  go_wp2_with fail
  refine (unhide HC).mono ?_
  rintro r W1 ⟨rfl, hb⟩
  have y1 := (unhide X1).below hb
  have y3 := (unhide X3).below hb
  have lt1 := y1.lt
  have lt3 := y3.lt
  clear c10 c11 c12 hw2 HC
  have d10 := y1.cell 0 _ rfl
  have d11 := y1.cell 1 _ rfl
  have d12 := y1.cell 2 _ rfl
  have d30 := y3.cell 0 _ rfl
  have d31 := y3.cell 1 _ rfl
  have d32 := y3.cell 2 _ rfl
  have f10 := y1.frozen 0
  have f11 := y1.frozen 1
  have f12 := y1.frozen 2
  have f30 := y3.frozen 0
  have f31 := y3.frozen 1
  have f32 := y3.frozen 2
  have B1 := hide (bnext (unhide B2) hb)
  have Y1 := hide y1
  have Y3 := hide y3
  have RW1 := hide ((unhide HR2).below hb)
  clear y1 y3 hb
  by_cases hE : E = 0
  · subst hE
    rw [if_neg (by simp)] at hR hRW
    by_cases hlt : n - p - Wd < V
    · rw [if_pos hlt] at hR hRW
      subst hR hRW
      have hlt' : (n : Int) - (q : Int) < (V : Int) := by omega
      have hq0 : (q : Int) ≤ (n : Int) := by omega
      go_wp2
      go_region
      go_wp2
      refine bodyPost_ret (results_tc rfl _ _ (w.heap.size + 1) _ _ _ _ rfl (Bx.below (put3 ((unhide Y3).kp (Kp.set (N := fun k => k = w.heap.size) W1 ⟨w.heap.size, 2, none⟩ _ rfl) (by omega)) _ _ _) (ballc (Below.refl _ _) _).drew) Try.underlying49 rfl sizeR) rfl ?_
      exact ⟨rfl, (ballc (bput3 (bset (unhide B1) ⟨w.heap.size, 2, none⟩ (Nat.le_refl _) _) (Nat.le_succ _) _ _ _) _).drew⟩
    · rw [if_neg hlt] at hR hRW
      subst hR hRW
      have hlt' : ¬ ((n : Int) - (q : Int) < (V : Int)) := by omega
      have hq0 : (q : Int) ≤ (n : Int) := by omega
      have hsm : (q : Int) + (V : Int) ≤ 1000000 := by omega
      have hsl := fun W => sl_mid W a n c q V (by omega) hc
      have hrow := (unhide RW1).mid (k := q) (m := V) (by omega) (by rw [bC_len]; exact unhide Hl)
      rw [bC_drop, bC_take] at hrow
      have hll : ((l.drop q).take V).length = V := by rw [List.length_take, List.length_drop, unhide Hl]; omega
      obtain ⟨X, hX⟩ : ∃ X, W1.alloc (.cells #[.slice a n c, .int .i64 (q : Nat), .int .i64 0] 49) = X := ⟨_, rfl⟩
      have hcv := conv_in X _ ((l.drop q).take V) (by rw [hll, ← hX]; exact hrow.below (ballc (Below.refl _ _) _)) (fun b hb => unhide Hby b (List.mem_of_mem_drop (List.mem_of_mem_take hb)))
      generalize (if c = q then a else a.map (·.add q)) = a2 at hsl hcv
      obtain ⟨S, hS⟩ : ∃ S, txt ((l.drop q).take V) = S := ⟨_, rfl⟩
      rw [hS] at hcv
      have eS : txt (((l.drop p).drop Wd).take V) = S := by rw [List.drop_drop, hq, hS]
      have HS := hide hS
      have eq2 : ((p + (Wd + V) : Nat) : Int) = (q : Int) + (V : Int) := by omega
      have HQ := hide (show (p : Int) + ((Wd : Int) + (V : Int)) = (q : Int) + (V : Int) by omega)
      push_cast at hsl
      clear hrow hll hS eS eq2
      rw [← hX] at hcv
      clear hX
      go_wp2
      go_region
      go_wp2
      rw [unhide HS, unhide HQ]
      refine bodyPost_ret (results_tc rfl _ _ (w.heap.size + 1) _ _ _ _ rfl (Bx.below (put3 (unhide Y3) _ _ _) (ballc (Below.refl _ _) _).drew) Try.underlying49 rfl sizeR) rfl ?_
      exact ⟨rfl, (ballc (bput3 (unhide B1) (Nat.le_succ _) _ _ _) _).drew⟩
  · rw [if_pos hE] at hR hRW
    have hE' : (E == 0) = false := by simpa using hE
    subst hR hRW
    go_wp2
    go_region
    go_wp2
    refine bodyPost_ret (results_tc rfl _ _ (w.heap.size + 1) _ _ _ _ rfl (Bx.below (put3 ((unhide Y3).kp (Kp.set (N := fun k => k = w.heap.size) W1 ⟨w.heap.size, 2, none⟩ _ rfl) (by omega)) _ _ _) (ballc (Below.refl _ _) _).drew) Try.underlying49 rfl sizeR) rfl ?_
    exact ⟨rfl, (ballc (bput3 (bset (unhide B1) ⟨w.heap.size, 2, none⟩ (Nat.le_refl _) _) (Nat.le_succ _) _ _ _) _).drew⟩

end Go.Proofs.Ytgoalmkjmjikmaa
