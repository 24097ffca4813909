/-
  Readers: take and number.
-/
import Derived.Test.YtccggjhnjknblaaZR1
import Derived.ScopeJumps
set_option linter.unusedSimpArgs false
set_option linter.unusedVariables false
namespace Go.Proofs.Ytccggjhnjknblaa
open Go.RowKit Go.Lib

theorem RC.drop {W : World} {a : Option Addr} {n c k : Nat} {C : List Value} (h : RC W (.slice a n c) n C) (hk : k ≤ n) (hC : C.length = n) : RC W (.slice (if c = k then a else a.map (·.add k)) (n - k) (c - k)) (n - k) (C.drop k) := by
  by_cases h0 : n - k = 0
  · exact .inl ⟨h0, _, _, by rw [h0]⟩
  · rcases h with ⟨h1, _⟩ | ⟨b, off, cap, e, h1, hl, hc⟩
    · omega
    · simp at e
      obtain ⟨rfl, rfl⟩ := e
      rw [if_neg (by omega)]
      refine .inr ⟨b, off + k, c - k, by simp only [Option.map_some, Addr.add_lit], by omega, hl, fun j x hx => ?_⟩
      rw [List.getElem?_drop] at hx
      rw [Nat.add_assoc]
      exact hc (k + j) x hx

theorem own_drop {a : Option Addr} {n c k m d : Nat} {p : Nat} (h : (Value.slice a n c).ownBlock ≠ some p) : (Value.slice (if c = k then a else a.map (·.add k)) m d).ownBlock ≠ some p := by
  split
  · cases a <;> exact h
  · cases a with
    | none => exact h
    | some ad =>
      have e : (ad.add k).block = ad.block := by unfold Addr.add; split <;> rfl
      intro e'
      simp only [Option.map_some, Value.ownBlock, e] at e'
      exact h e'

theorem bC_drop (l : List Nat) (k : Nat) : (bC l).drop k = bC (l.drop k) := by simp [bC]
theorem bC_take (l : List Nat) (k : Nat) : (bC l).take k = bC (l.take k) := by simp [bC]

theorem Rd.taken {W : World} {p : Nat} {a : Option Addr} {c : Nat} {l : List Nat} {e : Int} (h : Rd W p (.slice a l.length c) l e) (k : Nat) (hk : k ≤ l.length) :
    Rd (W.setCell ⟨p, 0, none⟩ (.slice (if c = k then a else a.map (·.add k)) (l.length - k) (c - k))) p (.slice (if c = k then a else a.map (·.add k)) (l.length - k) (c - k)) (l.drop k) e := by
  have hr := h.row.drop hk (bC_len l)
  rw [bC_drop] at hr
  have hne := own_drop (k := k) (m := l.length - k) (d := c - k) h.ne
  refine ⟨by simpa using h.box.set 0 (.slice (if c = k then a else a.map (·.add k)) (l.length - k) (c - k)), ?_, hne, fun b hb => h.byte b (List.mem_of_mem_drop hb), by have := h.small; simp; omega⟩
  rw [List.length_drop]
  exact hr.kp (Kp.set (N := fun k => k = p) W ⟨p, 0, none⟩ _ rfl) (fun i hi e => hne (by rw [hi, e]))

set_option maxRecDepth 100000 in
set_option maxHeartbeats 1000000 in
theorem rTake_in {w : World} {p : Nat} {v : Value} {l : List Nat} {e : Int} (k : Nat) (h : Rd w p v l e) (hk : k ≤ l.length) :
    Calls Try.prog 41 #[.pointer (some ⟨p, 0, none⟩), .int .i64 (k : Nat)] w fun r W => r = .returned (.tuple #[]) ∧ ∃ v', Rd W p v' (l.drop k) e ∧ Kp (fun i => i = p) w W ∧ v'.ownBlock = v.ownBlock := by
  obtain ⟨a, c, rfl⟩ := h.row.form
  have hc : l.length ≤ c := by
    rcases h.row with ⟨h0, _⟩ | ⟨b, off, cap, e, h1, _⟩
    · omega
    · simp at e; omega
  have hs := fun W => sl_from W a l.length c k hk hc
  have c0 := h.box.cell 0 _ rfl
  have f0 := h.box.frozen 0
  have H := hide h
  have Hk := hide hk
  clear h hk hc
  obtain ⟨v', hv⟩ : ∃ v', (Value.slice (if c = k then a else a.map (·.add k)) (l.length - k) (c - k)) = v' := ⟨_, rfl⟩
  obtain ⟨a', hv2⟩ : ∃ a', (if c = k then a else a.map (·.add k)) = a' := ⟨_, rfl⟩
  rw [hv2] at hs hv
  have HV := hide hv2
  clear hv2 hv
  go_enter Try.func41, Try.ntmps41
  go_wp2
  go_end0
  have ht := (unhide H).taken k (unhide Hk)
  rw [unhide HV] at ht
  refine ⟨rfl, _, ht, Kp.set _ _ _ rfl, ?_⟩
  rw [← unhide HV]
  split
  · cases a <;> rfl
  · cases a with
    | none => rfl
    | some ad =>
      have e : (ad.add k).block = ad.block := by unfold Addr.add; split <;> rfl
      simp only [Option.map_some, Value.ownBlock, e]
set_option maxRecDepth 100000 in
theorem rTake_nil (w : World) (n : Int) : Calls Try.prog 41 #[.pointer none, .int .i64 n] w fun r W => r = .returned (.tuple #[]) ∧ w = W := by
  go_enter Try.func41, Try.ntmps41
  go_wp2
  go_end0
  exact ⟨rfl, rfl⟩

/-- a frame of sixty slots -/
def frN (u : Nat → Value) : Act := ⟨#[u 0, u 1, u 2, u 3, u 4, u 5, u 6, u 7, u 8, u 9, u 10, u 11, u 12, u 13, u 14, u 15, u 16, u 17, u 18, u 19, u 20, u 21, u 22, u 23, u 24, u 25, u 26, u 27, u 28, u 29, u 30, u 31, u 32, u 33, u 34, u 35, u 36, u 37, u 38, u 39, u 40, u 41, u 42, u 43, u 44, u 45, u 46, u 47, u 48, u 49, u 50, u 51, u 52, u 53, u 54, u 55, u 56, u 57, u 58, u 59], []⟩

theorem frN_ex {v0 v1 v2 v3 v4 v5 v6 v7 v8 v9 v10 v11 v12 v13 v14 v15 v16 v17 v18 v19 v20 v21 v22 v23 v24 v25 v26 v27 v28 v29 v30 v31 v32 v33 v34 v35 v36 v37 v38 v39 v40 v41 v42 v43 v44 v45 v46 v47 v48 v49 v50 v51 v52 v53 v54 v55 v56 v57 v58 v59 A B : Value} {C : Prop} (hC : C) (h0 : v0 = A) (h5 : v5 = B) : ∃ u, (⟨#[v0, v1, v2, v3, v4, v5, v6, v7, v8, v9, v10, v11, v12, v13, v14, v15, v16, v17, v18, v19, v20, v21, v22, v23, v24, v25, v26, v27, v28, v29, v30, v31, v32, v33, v34, v35, v36, v37, v38, v39, v40, v41, v42, v43, v44, v45, v46, v47, v48, v49, v50, v51, v52, v53, v54, v55, v56, v57, v58, v59], []⟩ : Act) = frN u ∧ u 0 = A ∧ u 5 = B ∧ C := ⟨fun k => #[v0, v1, v2, v3, v4, v5, v6, v7, v8, v9, v10, v11, v12, v13, v14, v15, v16, v17, v18, v19, v20, v21, v22, v23, v24, v25, v26, v27, v28, v29, v30, v31, v32, v33, v34, v35, v36, v37, v38, v39, v40, v41, v42, v43, v44, v45, v46, v47, v48, v49, v50, v51, v52, v53, v54, v55, v56, v57, v58, v59].getD k undef, rfl, h0, h5, hC⟩

theorem wraps_u64 (n : Int) (h₀ : 0 ≤ n) (h₁ : n < 2 ^ 64) : IntKind.u64.wrap n = n := IntWalk.u64_in n (by omega)

theorem or_sum (s c i : Nat) (hc : c < 256) (hi : i ≤ 8) (hs : s < 128 ^ i) : bits .or .u64 (s : Int) (IntKind.u64.wrap ((c : Int) % 128 * 2 ^ (7 * i))) = ((s + c % 128 * 128 ^ i : Nat) : Int) := by
  have h1 : (2 : Nat) ^ (7 * i) = 128 ^ i := by rw [Nat.pow_mul]
  have h2 : c % 128 * 128 ^ i ≤ 127 * 128 ^ i := Nat.mul_le_mul_right _ (by omega)
  have h3 := pow128 hi
  have e1 : ((c : Int) % 128 * 2 ^ (7 * i)) = ((c % 128 * 128 ^ i : Nat) : Int) := by
    rw [← h1]
    push_cast
    rfl
  rw [e1, IntWalk.u64_in _ (by omega)]
  have h4 := (bits_nat .u64 64 (by decide) wraps_u64 s (c % 128 * 128 ^ i) (by omega) (by omega)).2
  rw [h4]
  congr 1
  rw [← h1, ← Nat.shiftLeft_eq, Nat.or_comm, ← Nat.shiftLeft_add_eq_or_of_lt (by rw [h1]; exact hs), Nat.add_comm]

/-- what number answers -/
def rn0 (l : List Nat) (e : Int) : Int × Nat × Nat := if e ≠ 0 then (e, 0, 0) else tn l

theorem shl7 (c i : Nat) (hc : c < 256) (hi : i ≤ 8) : c % 128 * 128 ^ i < 9223372036854775808 := by
  have h1 : c % 128 * 128 ^ i ≤ 127 * 128 ^ i := Nat.mul_le_mul_right _ (by omega)
  have h2 := pow128 hi
  omega

set_option maxRecDepth 100000 in
set_option maxHeartbeats 2000000 in
theorem rnumber_in {w : World} {p : Nat} {v : Value} {l : List Nat} {e : Int} (h : Rd w p v l e) :
    Calls Try.prog 40 #[.pointer (some ⟨p, 0, none⟩)] w fun r W => r = .returned (.tuple #[.int .i64 ((rn0 l e).2.1 : Nat), .int .i64 ((rn0 l e).2.2 : Nat)]) ∧ Rd W p v l (rn0 l e).1 ∧ Kp (fun i => i = p) w W := by
  have HE := hide (rErr_in h)
  by_cases he : e = 0
  · subst he
    have hr : rn0 l 0 = tn l := by unfold rn0; simp
    rw [hr]
    clear hr
    obtain ⟨a, c, rfl⟩ := h.row.form
    have c0 := h.box.cell 0 _ rfl
    have f1 := h.box.frozen 1
    have c1 := h.box.cell 1 _ rfl
    have H := hide h
    have hsm := h.small
    clear h
    obtain ⟨E, V, Wd, hT⟩ : ∃ E V Wd, tn l = (E, V, Wd) := ⟨_, _, _, rfl⟩
    rw [hT]
    have HT := hide hT
    clear hT
    obtain ⟨n, hn⟩ : ∃ n, l.length = n := ⟨_, rfl⟩
    rw [hn] at hsm c0 H
    have Hn := hide hn
    rw [hn]
    clear hn
    go_enter Try.func40, Try.ntmps40
    go_wp2
    refine wp_scope_jumps 0 (fun a' w' => ∃ u : Nat → Value, a' = frN u ∧ u 0 = .pointer (some ⟨p, 0, none⟩) ∧ u 5 = .int .i64 E ∧ Hid (E ≠ 0 ∧ w' = w)) (fun _ _ => 0) rfl ?first ?pass
    case pass =>
      rintro a' w' ⟨u, rfl, h0, h5, H0⟩
      obtain ⟨hE, rfl⟩ := unhide H0
      have HV := hide (show V = 0 ∧ Wd = 0 by have := tnL_err l 0 0; rw [show tnL 0 0 l = _ from unhide HT] at this; exact this hE)
      have HR := hide ((unhide H).setE E)
      have HK := hide (Kp.set (N := fun i => i = p) w' ⟨p, 1, none⟩ (.int .i64 E) rfl)
      simp only [frN, h0, h5]
      go_wp2
      obtain ⟨rfl, rfl⟩ := unhide HV
      simp only [Exit.jump]
      refine bodyPost_ret (results_tmp2 rfl _ _ _) rfl ?_
      exact ⟨rfl, unhide HR, unhide HK⟩
    case first =>
      go_wp2_with (go_at_call 42; refine (unhide HE).mono ?_; rintro r W ⟨rfl, rfl⟩)
      go_loopw [4, 5, 17] (fun sv ev iv wr => ∃ (i s : Nat), sv = .int .u64 (s : Nat) ∧ ev = .int .i64 5 ∧ iv = .int .i64 (i : Nat) ∧ i ≤ n ∧ i ≤ 8 ∧ Hid (s < 128 ^ i) ∧ Hid (tnL i s (l.drop i) = (E, V, Wd)) ∧ wr = w) (fun _ _ iv _ => n - (intOf iv).toNat)
      case atStart => exact ⟨0, 0, rfl, rfl, rfl, by omega, by omega, hide (by simp), hide (unhide HT), rfl⟩
      case round =>
        obtain ⟨i, s, rfl, rfl, rfl, hin, hi8, Hs, Ht, rfl⟩ := hrel
        by_cases hlt : i < n
        · have hlt' : (i : Int) < (n : Int) := by omega
          obtain ⟨cb, hcb⟩ : ∃ cb, l[i]? = some cb := ⟨_, List.getElem?_eq_getElem (by have := unhide Hn; omega)⟩
          obtain ⟨b0, off, rfl, hcell⟩ : ∃ b0 off, a = some ⟨b0, off, none⟩ ∧ wr.cell? ⟨b0, off + i, none⟩ = some (.int .u8 (cb : Nat)) := by
            rcases (unhide H).row with ⟨h0, _⟩ | ⟨b, off, cap, e, h1, h2, h3⟩
            · have := unhide Hn; omega
            · simp at e
              obtain ⟨rfl, _⟩ := e
              exact ⟨b, off, rfl, h3 i _ (bC_get l i cb hcb)⟩
          have hc256 : cb < 256 := (unhide H).byte cb (List.mem_of_getElem? hcb)
          have hdr : l.drop i = cb :: l.drop (i + 1) := by
            have hil := (List.getElem?_eq_some_iff.1 hcb).1
            rw [List.drop_eq_getElem_cons hil]
            congr 1
            rw [List.getElem?_eq_getElem hil] at hcb
            simpa using hcb
          have Hd := hide hdr
          have Hcb := hide hcb
          clear hdr hcb
          obtain ⟨S, hS⟩ : ∃ S : Nat, s + cb % 128 * 128 ^ i = S := ⟨_, rfl⟩
          have hor := or_sum s cb i hc256 hi8 (unhide Hs)
          rw [hS] at hor
          have hSs : (S : Int) ≤ 9223372036854775807 := by
            have h1 := sum_lt (c := cb) (unhide Hs)
            have h2 := pow128 hi8
            have h3 := pow128s i
            rw [hS] at h1
            omega
          have HSl := hide (show S < 128 ^ (i + 1) by have h1 := sum_lt (c := cb) (unhide Hs); rw [hS] at h1; exact h1)
          have HS := hide hS
          clear hS
          by_cases hc : cb < 128
          · have hc' : (cb : Int) < 128 := by omega
            by_cases hz : cb = 0
            · have hz' : ((cb : Int) == 0) = true := by simp [hz]
              have Hz := hide hz
              clear hz
              by_cases hi0 : 0 < i
              · have hi0' : (0 : Int) < (i : Int) := by omega
                have hE : Hid (E = 6) := by
                  have h := unhide Ht
                  rw [unhide Hd, tnL, if_pos hc, if_pos ⟨unhide Hz, hi0⟩] at h
                  simp at h
                  exact h.1.symm
                go_wp2
                go_step3
                simp only [Exit.inBlock, Exit.then, Exit.jump]
                exact ⟨rfl, frN_ex (hide ⟨by rw [unhide hE]; decide, rfl⟩) rfl (by rw [unhide hE])⟩
              · have hi0' : ¬ (0 : Int) < (i : Int) := by omega
                have hE : Hid (E = 0 ∧ V = S ∧ Wd = i + 1) := by
                  have h := unhide Ht
                  rw [unhide Hd, tnL, if_pos hc, if_neg (fun h => hi0 h.2), unhide HS] at h
                  simp at h
                  exact ⟨h.1.symm, h.2.1.symm, h.2.2.symm⟩
                have hi00 : decide ((0 : Int) < (i : Int)) = false := by simp; omega
                have hie := hide (show i = 0 by omega)
                clear hi0 hi0'
                go_wp2
                simp only [Exit.jump]
                obtain rfl := unhide hie
                obtain ⟨rfl, rfl, rfl⟩ := unhide hE
                refine bodyPost_ret (results_tmp2 rfl _ _ _) rfl ?_
                exact ⟨rfl, unhide H, Kp.refl _ _⟩
            · have hz' : ((cb : Int) == 0) = false := by simp; omega
              have hE : Hid (E = 0 ∧ V = S ∧ Wd = i + 1) := by
                have h := unhide Ht
                rw [unhide Hd, tnL, if_pos hc, if_neg (fun h => hz h.1), unhide HS] at h
                simp at h
                exact ⟨h.1.symm, h.2.1.symm, h.2.2.symm⟩
              clear hz
              go_wp2
              simp only [Exit.jump]
              obtain ⟨rfl, rfl, rfl⟩ := unhide hE
              refine bodyPost_ret (results_tmp2 rfl _ _ _) rfl ?_
              exact ⟨rfl, unhide H, Kp.refl _ _⟩
          · have hc' : ¬ (cb : Int) < 128 := by omega
            by_cases h8 : i = 8
            · have h8' : ((i : Int) + 1 == 9) = true := by simp [h8]
              have hE : Hid (E = 6) := by
                have h := unhide Ht
                rw [unhide Hd, tnL, if_neg hc, if_pos h8] at h
                simp at h
                exact h.1.symm
              clear h8
              go_wp2
              go_step3
              simp only [Exit.inBlock, Exit.then, Exit.jump]
              exact ⟨rfl, frN_ex (hide ⟨by rw [unhide hE]; decide, rfl⟩) rfl (by rw [unhide hE])⟩
            · have h8' : ((i : Int) + 1 == 9) = false := by simp; omega
              have Ht2 : Hid (tnL (i + 1) S (l.drop (i + 1)) = (E, V, Wd)) := by
                have h := unhide Ht
                rw [unhide Hd, tnL, if_neg hc, if_neg h8, unhide HS] at h
                exact h
              go_wp2
              go_roundw
              case measure => show n - ((i : Int) + 1).toNat < n - ((i : Nat) : Int).toNat; omega
              case rel => exact ⟨i + 1, S, rfl, rfl, by go_num, by omega, by omega, HSl, Ht2, by trivial⟩
        · have hlt' : ¬ (i : Int) < (n : Int) := by omega
          have hE : Hid (E = 5) := by
            have h := unhide Ht
            rw [List.drop_eq_nil_of_le (by have := unhide Hn; omega), tnL] at h
            simp at h
            exact h.1.symm
          have HR := hide ((unhide H).setE 5)
          have HK := hide (Kp.set (N := fun i => i = p) wr ⟨p, 1, none⟩ (.int .i64 5) rfl)
          have HV := hide (show V = 0 ∧ Wd = 0 by have := tnL_err l 0 0; rw [show tnL 0 0 l = _ from unhide HT] at this; exact this (by show E ≠ 0; rw [unhide hE]; decide))
          go_wp2
          go_step3
          simp only [Exit.then]
          rename_i hKx
          refine hKx _ _ ?_
          go_wp2
          obtain ⟨rfl, rfl⟩ := unhide HV
          obtain rfl := unhide hE
          simp only [Exit.jump]
          refine bodyPost_ret (results_tmp2 rfl _ _ _) rfl ?_
          exact ⟨rfl, unhide HR, unhide HK⟩
  · have hr : rn0 l e = (e, 0, 0) := by unfold rn0; simp [he]
    rw [hr]
    have he' : (e == 0) = false := by simpa using he
    have H := hide h
    clear h
    go_enter Try.func40, Try.ntmps40
    go_wp2
    refine wp_scope_jumps 0 (fun _ _ => False) (fun _ _ => 0) rfl ?_ (fun _ _ h => h.elim)
    go_wp2_with (go_at_call 42; refine (unhide HE).mono ?_; rintro r W ⟨rfl, rfl⟩)
    simp only [Exit.jump]
    refine bodyPost_ret (results_tmp2 rfl _ _ _) rfl ?_
    exact ⟨rfl, unhide H, Kp.refl _ _⟩

set_option maxRecDepth 100000 in
theorem rnumber_nil (w : World) : Calls Try.prog 40 #[.pointer none] w fun r W => r = .returned (.tuple #[.int .i64 0, .int .i64 0]) ∧ w = W := by
  have HE := hide (rErr_nil w)
  go_enter Try.func40, Try.ntmps40
  go_wp2
  refine wp_scope_jumps 0 (fun _ _ => False) (fun _ _ => 0) rfl ?_ (fun _ _ h => h.elim)
  go_wp2_with (go_at_call 42; refine (unhide HE).mono ?_; rintro r W ⟨rfl, rfl⟩)
  simp only [Exit.jump]
  refine bodyPost_ret (results_tmp2 rfl _ _ _) rfl ?_
  exact ⟨rfl, rfl⟩

/-- a number is taken: it, what is left, the error -/
def rNum (l : List Nat) (e : Int) : Nat × List Nat × Int := ((rn0 l e).2.1, l.drop (rn0 l e).2.2, (rn0 l e).1)

theorem rn0_width (l : List Nat) (e : Int) : (rn0 l e).2.2 ≤ l.length := by
  unfold rn0
  split
  · simp
  · by_cases h : (tn l).1 = 0
    · exact tn_width h
    · have := (tnL_err l 0 0 h).2
      have h2 : (tn l).2.2 = 0 := this
      omega
theorem rn0_lt (l : List Nat) (e : Int) : (rn0 l e).2.1 < 9223372036854775808 := by
  unfold rn0
  split
  · simp
  · exact tn_lt l

set_option maxRecDepth 100000 in
set_option maxHeartbeats 1000000 in
theorem rNumber_in {w : World} {p : Nat} {v : Value} {l : List Nat} {e : Int} (h : Rd w p v l e) :
    Calls Try.prog 24 #[.pointer (some ⟨p, 0, none⟩)] w fun r W => r = .returned (.int .i64 ((rNum l e).1 : Nat)) ∧ ∃ v', Rd W p v' (rNum l e).2.1 (rNum l e).2.2 ∧ Kp (fun i => i = p) w W ∧ v'.ownBlock = v.ownBlock := by
  have HN := hide (rnumber_in h)
  have HW := hide (rn0_width l e)
  unfold rNum
  clear h
  generalize rn0 l e = X at *
  obtain ⟨E, V, Wd⟩ := X
  go_enter Try.func24, Try.ntmps24
  go_wp2_with fail
  refine (unhide HN).mono ?_
  rintro r W ⟨rfl, H, HK⟩
  have HT := hide (rTake_in Wd H (unhide HW))
  replace HK := hide HK
  clear H
  go_wp2_with fail
  refine (unhide HT).mono ?_
  rintro r W2 ⟨rfl, v', H2, HK2, hv⟩
  replace H2 := hide H2
  replace HK2 := hide HK2
  replace hv := hide hv
  go_wp2
  go_ret
  exact ⟨rfl, v', unhide H2, (unhide HK).trans (unhide HK2) (fun i h => .inl h), unhide hv⟩

set_option maxRecDepth 100000 in
theorem rNumber_nil (w : World) : Calls Try.prog 24 #[.pointer none] w fun r W => r = .returned (.int .i64 0) ∧ w = W := by
  have HN := hide (rnumber_nil w)
  have HT := hide (rTake_nil w 0)
  go_enter Try.func24, Try.ntmps24
  go_wp2_with fail
  refine (unhide HN).mono ?_
  rintro r W ⟨rfl, rfl⟩
  go_wp2_with fail
  refine (unhide HT).mono ?_
  rintro r W ⟨rfl, rfl⟩
  go_wp2
  go_ret
  exact ⟨rfl, rfl⟩

end Go.Proofs.Ytccggjhnjknblaa
