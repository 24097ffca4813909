/-
  The document's own TakeNumber, Read, Left.
-/
import Derived.Test.YtmjhkgpbemjjkaaZU4
set_option linter.unusedSimpArgs false
set_option linter.unusedVariables false
namespace Go.Proofs.Ytmjhkgpbemjjkaa
open Go.RowKit Go.Lib

theorem results_tc {P : Program} {fn : Func} {i p : Tmp} {ty : TypeId} (h : fn.results = #[.tmp i, .cell p ty]) (tmps : Array Value) (w : World) (g : Nat) (t : TypeId) (cs : Array Value) (fr : Nat × Nat) (d : TypeDesc)
    (hp : tmps.getD p undef = .pointer (some ⟨g, 0, none⟩)) (hg : w.heap[g]? = some (.cells cs t fr))
    (hu : P.underlying ty = some d) (hd : (match d with | .struct _ | .array _ _ => true | _ => false) = true) (hi : (P.info? ty).map (·.size) = some cs.size) :
    (results fn tmps).run P w = .ok (.tuple #[tmps.getD i undef, .agg cs]) w := by
  have hp' : tmps[p]?.getD undef = .pointer (some ⟨g, 0, none⟩) := by simpa using hp
  simp [results, h, hp', asAddr, run_loadVar_row w g t ty cs fr d hg hu hd hi]
theorem results_tct {P : Program} {fn : Func} {i j p : Tmp} {ty : TypeId} (h : fn.results = #[.tmp i, .cell p ty, .tmp j]) (tmps : Array Value) (w : World) (g : Nat) (t : TypeId) (cs : Array Value) (fr : Nat × Nat) (d : TypeDesc)
    (hp : tmps.getD p undef = .pointer (some ⟨g, 0, none⟩)) (hg : w.heap[g]? = some (.cells cs t fr))
    (hu : P.underlying ty = some d) (hd : (match d with | .struct _ | .array _ _ => true | _ => false) = true) (hi : (P.info? ty).map (·.size) = some cs.size) :
    (results fn tmps).run P w = .ok (.tuple #[tmps.getD i undef, .agg cs, tmps.getD j undef]) w := by
  have hp' : tmps[p]?.getD undef = .pointer (some ⟨g, 0, none⟩) := by simpa using hp
  simp [results, h, hp', asAddr, run_loadVar_row w g t ty cs fr d hg hu hd hi]
theorem sizeR : (Try.prog.info? 59).map (·.size) = some 3 := by kernel_rfl

theorem wraps_i63 (n : Int) (h₀ : 0 ≤ n) (h₁ : n < 2 ^ 63) : IntKind.i64.wrap n = n := IntWalk.i64_in n (by omega)
theorem or_sum64 (s c i : Nat) (hi : i ≤ 8) (hs : s < 128 ^ i) : bits .or .i64 (s : Int) (wrap64 ((c : Int) % 128 * 2 ^ (7 * i))) = ((s + c % 128 * 128 ^ i : Nat) : Int) := by
  have h1 : (2 : Nat) ^ (7 * i) = 128 ^ i := by rw [Nat.pow_mul]
  have h2 : c % 128 * 128 ^ i ≤ 127 * 128 ^ i := Nat.mul_le_mul_right _ (by omega)
  have h3 := pow128 hi
  have e1 : ((c : Int) % 128 * 2 ^ (7 * i)) = ((c % 128 * 128 ^ i : Nat) : Int) := by
    rw [← h1]
    push_cast
    rfl
  rw [e1, IntWalk.wrap64_in _ (by omega)]
  have h4 := (bits_nat .i64 63 (by decide) wraps_i63 s (c % 128 * 128 ^ i) (by omega) (by omega)).2
  rw [h4]
  congr 1
  rw [← h1, ← Nat.shiftLeft_eq, Nat.or_comm, ← Nat.shiftLeft_add_eq_or_of_lt (by rw [h1]; exact hs), Nat.add_comm]

set_option maxRecDepth 100000 in
theorem refRead_in (v : Value) (n : Nat) (w : World) (hv : ∃ a c, v = .slice a n c) : Calls Try.prog 41 #[v] w fun r W => r = .returned (.agg #[v, .int .i64 0, .int .i64 0]) ∧ Below w.heap.size w W := by
  obtain ⟨a, c, rfl⟩ := hv
  have hb := hide (Bx.new w 59 #[.slice a n c, .int .i64 0, .int .i64 0])
  go_enter Try.func41, Try.ntmps41
  go_wp2
  refine bodyPost_ret (results_cell_row rfl _ _ w.heap.size _ _ _ _ rfl (unhide hb) Try.underlying59 rfl sizeR) rfl ?_
  exact ⟨rfl, ballc (Below.refl _ _) _⟩
set_option maxRecDepth 100000 in
theorem refLeft_in (a : Option Addr) (n c at' : Nat) (e : Int) (w : World) (h : at' ≤ n) (hn : n ≤ 140737488355328) : Calls Try.prog 43 #[.agg #[.slice a n c, .int .i64 (at' : Nat), .int .i64 e]] w fun r W => r = .returned (.int .i64 ((n - at' : Nat) : Int)) ∧ Below w.heap.size w W := by
  have e1 : ((n - at' : Nat) : Int) = (n : Int) - (at' : Int) := by omega
  have e2 : wrap64 ((n : Int) - (at' : Int)) = (n : Int) - (at' : Int) := IntWalk.wrap64_in _ (by omega)
  have e3 : IntKind.i64.wrap ((n : Int) - (at' : Int)) = (n : Int) - (at' : Int) := IntWalk.i64_in _ (by omega)
  rw [e1]
  clear e1
  go_enter Try.func43, Try.ntmps43
  go_wp2
  go_ret
  exact ⟨rfl, ballc (Below.refl _ _) _⟩

theorem bx_last (w : World) (A : Obj) (vs : Array Value) (t : TypeId) : ((w.alloc A).alloc (.cells vs t)).heap[w.heap.size + 1]? = some (.cells vs t (0, 0)) := by
  have h := Bx.new (w.alloc A) t vs
  have e : (w.alloc A).heap.size = w.heap.size + 1 := by simp
  rw [e] at h
  exact h

set_option maxRecDepth 100000 in
set_option maxHeartbeats 4000000 in
theorem refTakeNumber_in (a : Option Addr) (n c p : Nat) (e : Int) (l : List Nat) (w : World) (h : RC w (.slice a n c) n (bC l)) (hl : l.length = n) (hp : p ≤ n) (hn : n ≤ 1000000) (hby : ∀ b ∈ l, b < 256) :
    Calls Try.prog 58 #[.agg #[.slice a n c, .int .i64 (p : Nat), .int .i64 e]] w fun r W => r = .returned (.tuple #[.int .i64 ((rn0 (l.drop p) e).2.1 : Nat), .agg #[.slice a n c, .int .i64 ((p + (rn0 (l.drop p) e).2.2 : Nat) : Int), .int .i64 (rn0 (l.drop p) e).1]]) ∧ Below w.heap.size w W := by
  have B2 := fun (A B : Obj) => hide (ballc (ballc (Below.refl w.heap.size w) A) B)
  by_cases he : e = 0
  · subst he
    have hr : rn0 (l.drop p) 0 = tn (l.drop p) := by unfold rn0; simp
    rw [hr]
    clear hr
    obtain ⟨E, V, Wd, hT⟩ : ∃ E V Wd, tn (l.drop p) = (E, V, Wd) := ⟨_, _, _, rfl⟩
    rw [hT]
    simp only
    have HT := hide hT
    have H := hide h
    have Hl := hide hl
    have Hby := hide hby
    clear hT h hl hby
    go_enter Try.func58, Try.ntmps58
    go_wp2
    go_loopw [4, 6] (fun sv iv wr => ∃ (i s : Nat), sv = .int .i64 (s : Nat) ∧ iv = .int .i64 (i : Nat) ∧ p + i ≤ n ∧ i ≤ 8 ∧ Hid (s < 128 ^ i) ∧ Hid (tnL i s ((l.drop p).drop i) = (E, V, Wd)) ∧ wr = (w.alloc (.cells #[.slice a n c, .int .i64 (p : Nat), .int .i64 0] 59)).alloc (.cells #[.slice none 0 0, .int .i64 0, .int .i64 0] 59)) (fun _ iv _ => n - (Lib.intOf iv).toNat)
    case atStart => exact ⟨0, 0, rfl, rfl, by omega, by omega, hide (by simp), hide (unhide HT), rfl⟩
    case round =>
      obtain ⟨i, s, rfl, rfl, hin, hi8, Hs, Ht, rfl⟩ := hrel
      have hw1 : wrap64 ((p : Int) + (i : Int)) = (p : Int) + (i : Int) := IntWalk.wrap64_in _ (by omega)
      have hw2 : IntKind.i64.wrap ((p : Int) + (i : Int)) = (p : Int) + (i : Int) := IntWalk.i64_in _ (by omega)
      by_cases hlt : p + i < n
      · have hlt' : ¬ (n : Int) ≤ (p : Int) + (i : Int) := by omega
        have hlt2 : (p : Int) + (i : Int) < (n : Int) := by omega
        have hlt0 : 0 ≤ (p : Int) + (i : Int) := by omega
        obtain ⟨cb, hcb⟩ : ∃ cb, l[p + i]? = some cb := ⟨_, List.getElem?_eq_getElem (by have := unhide Hl; omega)⟩
        obtain ⟨b0, off, rfl, hb0, hcell⟩ : ∃ b0 off, a = some ⟨b0, off, none⟩ ∧ b0 < w.heap.size ∧ w.cell? ⟨b0, off + (p + i), none⟩ = some (.int .u8 (cb : Nat)) := by
          rcases unhide H with ⟨h0, _⟩ | ⟨b, off, cap, e, h1, h2, h3⟩
          · omega
          · simp at e
            obtain ⟨rfl, _⟩ := e
            exact ⟨b, off, rfl, h2, h3 (p + i) _ (bC_get l _ cb hcb)⟩
        have hc256 : cb < 256 := unhide Hby cb (List.mem_of_getElem? hcb)
        have hdr : (l.drop p).drop i = cb :: (l.drop p).drop (i + 1) := drop_at (by rw [List.getElem?_drop]; exact hcb)
        have Hd := hide hdr
        clear hdr hcb
        obtain ⟨S, hS⟩ : ∃ S : Nat, s + cb % 128 * 128 ^ i = S := ⟨_, rfl⟩
        have hor := or_sum64 s cb i hi8 (unhide Hs)
        rw [hS] at hor
        have hSs : (S : Int) ≤ 9223372036854775807 := by
          have h1 := sum_lt (c := cb) (unhide Hs)
          have h2 := pow128 hi8
          have h3 := pow128s i
          rw [hS] at h1
          omega
        have HSl := hide (show S < 128 ^ (i + 1) by have h1 := sum_lt (c := cb) (unhide Hs); rw [hS] at h1; exact h1)
        have HS := hide hS
        have hidx : ((p : Int) + (i : Int)).toNat = p + i := by omega
        clear hS
        by_cases hc : cb < 128
        · have hc' : ¬ (128 : Int) ≤ (cb : Int) := by omega
          by_cases h8 : i = 8
          · have h8' : ((i : Int) == 8) = true := by simp [h8]
            have hi0 : 0 < i := by omega
            by_cases hz : cb = 0
            · have hz' : ((cb : Int) == 0) = true := by simp [hz]
              have hE : Hid (E = 6) := by
                have h := unhide Ht
                rw [unhide Hd, tnL, if_pos hc, if_pos ⟨hz, hi0⟩] at h
                simp at h
                exact h.1.symm
              clear h8 hz
              have hv : V = 0 ∧ Wd = 0 := by
                have := tnL_err (l.drop p) 0 0
                rw [show tnL 0 0 (l.drop p) = _ from unhide HT] at this
                exact this (by show E ≠ 0; rw [unhide hE]; decide)
              replace hv := hide hv
              go_wp2
              go_region
              go_wp2
              obtain ⟨rfl, rfl⟩ := unhide hv
              obtain rfl := unhide hE
              refine bodyPost_ret (results_tc rfl _ _ (w.heap.size + 1) _ _ _ _ rfl (bx_last _ _ _ _) Try.underlying59 rfl sizeR) rfl ?_
              exact ⟨rfl, (unhide (B2 _ _)).drew⟩
            · have hz' : ((cb : Int) == 0) = false := by simp; omega
              clear h8
              have hE : Hid (E = 0 ∧ V = S ∧ Wd = i + 1) := by
                have h := unhide Ht
                rw [unhide Hd, tnL, if_pos hc, if_neg (fun h => hz h.1), unhide HS] at h
                simp at h
                exact ⟨h.1.symm, h.2.1.symm, h.2.2.symm⟩
              have e9 : ((p + (i + 1) : Nat) : Int) = (p : Int) + (i : Int) + 1 := by omega
              replace e9 := hide e9
              go_wp2
              go_region
              go_wp2
              obtain ⟨rfl, rfl, rfl⟩ := unhide hE
              rw [unhide e9]
              refine bodyPost_ret (results_tc rfl _ _ (w.heap.size + 1) _ _ _ _ rfl (bx_last _ _ _ _) Try.underlying59 rfl sizeR) rfl ?_
              exact ⟨rfl, (unhide (B2 _ _)).drew⟩
          · have h8' : ((i : Int) == 8) = false := by simp; omega
            by_cases hi0 : 0 < i
            · by_cases hz : cb = 0
              · have hz' : ((cb : Int) == 0) = true := by simp [hz]
                have hE : Hid (E = 6) := by
                  have h := unhide Ht
                  rw [unhide Hd, tnL, if_pos hc, if_pos ⟨hz, hi0⟩] at h
                  simp at h
                  exact h.1.symm
                clear h8 hz
                have hv : V = 0 ∧ Wd = 0 := by
                  have := tnL_err (l.drop p) 0 0
                  rw [show tnL 0 0 (l.drop p) = _ from unhide HT] at this
                  exact this (by show E ≠ 0; rw [unhide hE]; decide)
                replace hv := hide hv
                go_wp2
                go_region
                go_wp2
                obtain ⟨rfl, rfl⟩ := unhide hv
                obtain rfl := unhide hE
                refine bodyPost_ret (results_tc rfl _ _ (w.heap.size + 1) _ _ _ _ rfl (bx_last _ _ _ _) Try.underlying59 rfl sizeR) rfl ?_
                exact ⟨rfl, (unhide (B2 _ _)).drew⟩
              · have hz' : ((cb : Int) == 0) = false := by simp; omega
                clear h8
                have hE : Hid (E = 0 ∧ V = S ∧ Wd = i + 1) := by
                  have h := unhide Ht
                  rw [unhide Hd, tnL, if_pos hc, if_neg (fun h => hz h.1), unhide HS] at h
                  simp at h
                  exact ⟨h.1.symm, h.2.1.symm, h.2.2.symm⟩
                have e9 : ((p + (i + 1) : Nat) : Int) = (p : Int) + (i : Int) + 1 := by omega
                replace e9 := hide e9
                go_wp2
                go_region
                go_wp2
                obtain ⟨rfl, rfl, rfl⟩ := unhide hE
                rw [unhide e9]
                refine bodyPost_ret (results_tc rfl _ _ (w.heap.size + 1) _ _ _ _ rfl (bx_last _ _ _ _) Try.underlying59 rfl sizeR) rfl ?_
                exact ⟨rfl, (unhide (B2 _ _)).drew⟩
            · have hi0' : decide (0 < i) = false := by simpa using hi0
              clear h8
              have hE : Hid (E = 0 ∧ V = S ∧ Wd = i + 1) := by
                have h := unhide Ht
                rw [unhide Hd, tnL, if_pos hc, if_neg (fun h => hi0 h.2), unhide HS] at h
                simp at h
                exact ⟨h.1.symm, h.2.1.symm, h.2.2.symm⟩
              have e9 : ((p + (i + 1) : Nat) : Int) = (p : Int) + (i : Int) + 1 := by omega
              replace e9 := hide e9
              go_wp2
              go_region
              go_wp2
              obtain ⟨rfl, rfl, rfl⟩ := unhide hE
              rw [unhide e9]
              refine bodyPost_ret (results_tc rfl _ _ (w.heap.size + 1) _ _ _ _ rfl (bx_last _ _ _ _) Try.underlying59 rfl sizeR) rfl ?_
              exact ⟨rfl, (unhide (B2 _ _)).drew⟩
        · have hc' : (128 : Int) ≤ (cb : Int) := by omega
          by_cases h8 : i = 8
          · have h8' : ((i : Int) == 8) = true := by simp [h8]
            have hE : Hid (E = 6) := by
              have h := unhide Ht
              rw [unhide Hd, tnL, if_neg hc, if_pos h8] at h
              simp at h
              exact h.1.symm
            clear h8
            have hv : V = 0 ∧ Wd = 0 := by
              have := tnL_err (l.drop p) 0 0
              rw [show tnL 0 0 (l.drop p) = _ from unhide HT] at this
              exact this (by show E ≠ 0; rw [unhide hE]; decide)
            replace hv := hide hv
            go_wp2
            go_region
            go_wp2
            obtain ⟨rfl, rfl⟩ := unhide hv
            obtain rfl := unhide hE
            refine bodyPost_ret (results_tc rfl _ _ (w.heap.size + 1) _ _ _ _ rfl (bx_last _ _ _ _) Try.underlying59 rfl sizeR) rfl ?_
            exact ⟨rfl, (unhide (B2 _ _)).drew⟩
          · have h8' : ((i : Int) == 8) = false := by simp; omega
            have Ht2 : Hid (tnL (i + 1) S ((l.drop p).drop (i + 1)) = (E, V, Wd)) := by
              have h := unhide Ht
              rw [unhide Hd, tnL, if_neg hc, if_neg h8, unhide HS] at h
              exact h
            go_wp2
            go_roundw
            case measure => show n - ((i : Int) + 1).toNat < n - ((i : Nat) : Int).toNat; omega
            case rel => exact ⟨i + 1, S, rfl, by go_num, by omega, by omega, HSl, Ht2, by trivial⟩
      · have hlt' : (n : Int) ≤ (p : Int) + (i : Int) := by omega
        have hE : Hid (E = 5) := by
          have h := unhide Ht
          rw [List.drop_drop, List.drop_eq_nil_of_le (by have := unhide Hl; omega), tnL] at h
          simp at h
          exact h.1.symm
        have hv : V = 0 ∧ Wd = 0 := by
          have := tnL_err (l.drop p) 0 0
          rw [show tnL 0 0 (l.drop p) = _ from unhide HT] at this
          exact this (by show E ≠ 0; rw [unhide hE]; decide)
        replace hv := hide hv
        go_wp2
        go_region
        go_wp2
        obtain ⟨rfl, rfl⟩ := unhide hv
        obtain rfl := unhide hE
        refine bodyPost_ret (results_tc rfl _ _ (w.heap.size + 1) _ _ _ _ rfl (bx_last _ _ _ _) Try.underlying59 rfl sizeR) rfl ?_
        exact ⟨rfl, (unhide (B2 _ _)).drew⟩
  · have hr : rn0 (l.drop p) e = (e, 0, 0) := by unfold rn0; simp [he]
    rw [hr]
    have he' : (e == 0) = false := by simpa using he
    clear hr h
    go_enter Try.func58, Try.ntmps58
    go_wp2
    go_region
    go_wp2
    refine bodyPost_ret (results_tc rfl _ _ (w.heap.size + 1) _ _ _ _ rfl (bx_last _ _ _ _) Try.underlying59 rfl sizeR) rfl ?_
    exact ⟨rfl, (unhide (B2 _ _)).drew⟩

end Go.Proofs.Ytmjhkgpbemjjkaa
