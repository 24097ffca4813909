/-
  The document's end and Windows.
-/
import Derived.Test.YtmglnaldpcmakaaZDC
set_option linter.unusedSimpArgs false
set_option linter.unusedVariables false
namespace Go.Proofs.Ytmglnaldpcmakaa
open Go.RowKit Go.Lib Go.Shelf

def mxE (e : Ev) : Int := max e.step e.sent
/-- a fair stretch can be cut to one that ends behind an event -/
theorem fair_least {es : List Ev} {lv : List Int} {s : Int} (hs : Sev lv) : ∀ (n : Nat) (u : Int), (u - s).toNat ≤ n → FairP es lv s u → ∃ u0, u0 ≤ u ∧ FairP es lv s u0 ∧ ∃ e ∈ es, s ≤ mxE e ∧ mxE e + 1 = u0
  | 0, u, hn, h => by have := h.1; omega
  | n + 1, u, hn, h => by
    by_cases hx : ∃ e ∈ es, s ≤ mxE e ∧ mxE e + 1 = u
    · exact ⟨u, Int.le_refl _, h, hx⟩
    · have key : ∀ e ∈ es, ∀ a b, Wn e a b s u → Wn e a b s (u - 1) := fun e he a b ⟨h1, h2, h3, h4, h5, h6, h7, h8⟩ => by
        have : mxE e + 1 ≠ u := fun c => hx ⟨e, he, by unfold mxE; omega, c⟩
        unfold mxE at this
        exact ⟨h1, h2, h3, h4, h5, h6, by omega, by omega⟩
      have h' : FairP es lv s (u - 1) := by
        refine ⟨?_, fun a ha b hb => (h.2 a ha b hb).imp id fun ⟨e, he, hw⟩ => ⟨e, he, key e he a b hw⟩⟩
        obtain ⟨a, ha, b, hb, hab⟩ := hs
        rcases h.2 a ha b hb with c | ⟨e, he, hw⟩
        · exact absurd c hab
        · obtain ⟨_, _, _, _, h5, _, h7, _⟩ := key e he a b hw
          omega
      obtain ⟨u0, h0, r⟩ := fair_least hs n (u - 1) (by have := h'.1; omega) h'
      exact ⟨u0, by omega, r⟩

/-- what end answers -/
def EndR (es : List Ev) (lv : List Int) (s to r : Int) : Prop := (r = -1 ∧ ∀ t, t ≤ to → ¬ FairP es lv s t) ∨ (s < r ∧ FairP es lv s r ∧ r ≤ to ∧ ∀ u, FairP es lv s u → r ≤ u)
/-- how far the search has come -/
def EndI (es : List Ev) (lv : List Int) (s to : Int) (i : Nat) (r : Int) : Prop :=
  (r = -1 ∧ ∀ (q : Nat) (e : Ev), q < i → es[q]? = some e → s ≤ mxE e → mxE e < to → ¬ FairP es lv s (mxE e + 1)) ∨
  (s < r ∧ FairP es lv s r ∧ r ≤ to ∧ ∀ (q : Nat) (e : Ev), q < i → es[q]? = some e → s ≤ mxE e → mxE e < to → FairP es lv s (mxE e + 1) → r ≤ mxE e + 1)
theorem EndI.done {es : List Ev} {lv : List Int} {s to r : Int} (hs : Sev lv) (h : EndI es lv s to es.length r) : EndR es lv s to r := by
  rcases h with ⟨h1, h2⟩ | ⟨h0, h1, h2, h3⟩
  · refine .inl ⟨h1, fun t ht hF => ?_⟩
    obtain ⟨u0, hu, hF0, e, he, h4, h5⟩ := fair_least hs _ t (Nat.le_refl _) hF
    obtain ⟨q, hq⟩ := List.mem_iff_getElem?.1 he
    exact h2 q e (List.getElem?_eq_some_iff.1 hq).1 hq h4 (by omega) (by rw [h5]; exact hF0)
  · refine .inr ⟨h0, h1, h2, fun t hF => ?_⟩
    obtain ⟨u0, hu, hF0, e, he, h4, h5⟩ := fair_least hs _ t (Nat.le_refl _) hF
    by_cases hto : mxE e < to
    · obtain ⟨q, hq⟩ := List.mem_iff_getElem?.1 he
      have := h3 q e (List.getElem?_eq_some_iff.1 hq).1 hq h4 hto (by rw [h5]; exact hF0)
      omega
    · omega
theorem EndI.skip {es : List Ev} {lv : List Int} {s to r : Int} {i : Nat} {e : Ev} (h : EndI es lv s to i r) (he : es[i]? = some e) (hn : s ≤ mxE e → mxE e < to → FairP es lv s (mxE e + 1) → s < r ∧ r ≤ mxE e + 1) (h0 : 0 ≤ s) : EndI es lv s to (i + 1) r := by
  rcases h with ⟨h1, h2⟩ | ⟨h0', h1, h2, h3⟩
  · refine .inl ⟨h1, fun q e' hq hq' a b hF => ?_⟩
    by_cases e1 : q = i
    · subst e1
      rw [hq'] at he
      simp at he
      subst he
      have := hn a b hF
      omega
    · exact h2 q e' (by omega) hq' a b hF
  · refine .inr ⟨h0', h1, h2, fun q e' hq hq' a b hF => ?_⟩
    by_cases e1 : q = i
    · subst e1
      rw [hq'] at he
      simp at he
      subst he
      exact (hn a b hF).2
    · exact h3 q e' (by omega) hq' a b hF
theorem EndI.take {es : List Ev} {lv : List Int} {s to r : Int} {i : Nat} {e : Ev} (h : EndI es lv s to i r) (he : es[i]? = some e) (a : s ≤ mxE e) (b : mxE e < to) (hF : FairP es lv s (mxE e + 1)) (hr : r < 0 ∨ mxE e + 1 < r) (h0 : 0 ≤ s) : EndI es lv s to (i + 1) (mxE e + 1) := by
  refine .inr ⟨by omega, hF, by omega, fun q e' hq hq' a' b' hF' => ?_⟩
  by_cases e1 : q = i
  · subst e1
    rw [hq'] at he
    simp at he
    subst he
    exact Int.le_refl _
  · rcases h with ⟨h1, h2⟩ | ⟨h0', h1, h2, h3⟩
    · exact absurd hF' (h2 q e' (by omega) hq' a' b')
    · have := h3 q e' (by omega) hq' a' b' hF'
      omega

set_option maxRecDepth 100000 in
set_option maxHeartbeats 8000000 in
theorem end_in (w : World) (ev sv : Value) (es : List Ev) (lv : List Int) (s to : Int) (hev : RV w ev es) (hsv : RN w sv lv) (hl : es.length ≤ 100000) (hlv : lv.length ≤ 10000) (hs : Sev lv) (h0 : 0 ≤ s) (hto : to ≤ 9223372036854775807) :
    Calls Try.prog 21 #[ev, sv, .int .i64 s, .int .i64 to] w fun e W => ∃ r, e = .returned (.int .i64 r) ∧ EndR es lv s to r ∧ Below w.heap.size w W := by
  have HFr := hide (fun W (hb : Below w.heap.size w W) t => Fair_in W ev sv es lv s t (hev.below hb) (hsv.below hb) hl hlv)
  obtain ⟨ae, ce, rfl⟩ := hev.form
  obtain ⟨av, cv, rfl⟩ := hsv.form
  have HE := hide hev
  have Hs := hide hs
  obtain ⟨n, hn⟩ : ∃ n, es.length = n := ⟨_, rfl⟩
  have Hn := hide hn
  obtain ⟨m, hm⟩ : ∃ m, lv.length = m := ⟨_, rfl⟩
  have Hm := hide hm
  rw [hn] at hl HFr ⊢
  rw [hm] at HFr ⊢
  clear hs hev hsv hn hm
  go_enter Try.func21, Try.ntmps21
  go_wp2
  go_loopw [9, 10] (fun bv iv wr => ∃ (r : Int) (i : Nat), i ≤ n ∧ bv = .int .i64 r ∧ iv = .int .i64 (i : Nat) ∧ Hid (EndI es lv s to i r ∧ Below w.heap.size w wr)) (fun _ iv _ => n - (RowKit.intOf iv).toNat)
  case atStart => exact ⟨-1, 0, by omega, rfl, rfl, hide ⟨.inl ⟨rfl, fun q e hq => absurd hq (by omega)⟩, Below.refl _ _⟩⟩
  case round =>
    obtain ⟨r, i, hi, rfl, rfl, HI⟩ := hrel
    by_cases hlt : i < n
    · have hlt' : (i : Int) < (n : Int) := by omega
      obtain ⟨e, he⟩ : ∃ e, es[i]? = some e := ⟨_, List.getElem?_eq_getElem (by rw [unhide Hn]; exact hlt)⟩
      have hre := (unhide HE).below (unhide HI).2
      rw [unhide Hn] at hre
      obtain ⟨be, oe, rfl, _, q0, q1, q2, q3, q4, q5, q6⟩ := RV.at hre he
      have hsk := hide (EndI.skip (unhide HI).1 he)
      have htk := hide (EndI.take (unhide HI).1 he)
      have Hb := hide (unhide HI).2
      have hfw := hide (fun t => unhide HFr wr (unhide Hb) t)
      obtain ⟨step, kind, copy, fr, dst, sent, bad⟩ := e
      simp only [] at q0 q5
      obtain ⟨x, hx⟩ : ∃ x, max step sent = x := ⟨_, rfl⟩
      have hmx : mxE ⟨step, kind, copy, fr, dst, sent, bad⟩ = x := hx
      rw [hmx] at hsk htk
      have hr1 : r = -1 ∨ s < r := by
        rcases (unhide HI).1 with h | h
        · exact .inl h.1
        · exact .inr h.1
      have hcase : (sent > step ∧ x = sent) ∨ (¬ sent > step ∧ x = step) := by omega
      clear hre he q1 q2 q3 q4 q6 HI hmx hx
      rcases hcase with ⟨hc, hxe⟩ | ⟨hc, hxe⟩
      · subst hxe
        by_cases h1 : x < s
        · have hres := hide (⟨unhide hsk (fun a b c => by omega) h0, unhide Hb⟩ : EndI es lv s to (i + 1) r ∧ Below w.heap.size w wr)
          clear hsk htk hfw
          go_wp2
          go_roundw
          case rel => exact ⟨r, i + 1, by omega, rfl, by go_num, hres⟩
          case measure => show n - ((i : Int) + 1).toNat < n - ((i : Nat) : Int).toNat; omega
        · by_cases h2 : to ≤ x
          · have hres := hide (⟨unhide hsk (fun a b c => by omega) h0, unhide Hb⟩ : EndI es lv s to (i + 1) r ∧ Below w.heap.size w wr)
            clear hsk htk hfw
            go_wp2
            go_roundw
            case rel => exact ⟨r, i + 1, by omega, rfl, by go_num, hres⟩
            case measure => show n - ((i : Int) + 1).toNat < n - ((i : Nat) : Int).toNat; omega
          · have h2' : ¬ x ≥ to := by omega
            by_cases h3 : r < 0
            · have hfx := unhide hfw (x + 1)
              obtain ⟨F, hF⟩ : ∃ F : Bool, decide (FairP es lv s (x + 1)) = F := ⟨_, rfl⟩
              rw [hF] at hfx
              have Hfx := hide hfx
              have HF := hide hF
              clear hfx hF
              cases F with
              | true =>
                have htr := hide (unhide htk (by omega) (by omega) (of_decide_eq_true (unhide HF)) (by omega) h0)
                clear hsk htk hfw HF
                go_wp2_with fail
                refine (unhide Hfx).mono ?_
                rintro e' W' ⟨rfl, hbw⟩
                have hres := hide (⟨unhide htr, bnext (unhide Hb) hbw⟩ : EndI es lv s to (i + 1) (x + 1) ∧ Below w.heap.size w W')
                clear hbw Hfx
                go_wp2
                go_roundw
                case rel => exact ⟨x + 1, i + 1, by omega, rfl, by go_num, hres⟩
                case measure => show n - ((i : Int) + 1).toNat < n - ((i : Nat) : Int).toNat; omega
              | false =>
                have htr := hide (unhide hsk (fun _ _ c => absurd c (of_decide_eq_false (unhide HF))) h0)
                clear hsk htk hfw HF
                go_wp2_with fail
                refine (unhide Hfx).mono ?_
                rintro e' W' ⟨rfl, hbw⟩
                have hres := hide (⟨unhide htr, bnext (unhide Hb) hbw⟩ : EndI es lv s to (i + 1) r ∧ Below w.heap.size w W')
                clear hbw Hfx
                go_wp2
                go_roundw
                case rel => exact ⟨r, i + 1, by omega, rfl, by go_num, hres⟩
                case measure => show n - ((i : Int) + 1).toNat < n - ((i : Nat) : Int).toNat; omega
            · by_cases h4 : x + 1 < r
              · have hfx := unhide hfw (x + 1)
                obtain ⟨F, hF⟩ : ∃ F : Bool, decide (FairP es lv s (x + 1)) = F := ⟨_, rfl⟩
                rw [hF] at hfx
                have Hfx := hide hfx
                have HF := hide hF
                clear hfx hF
                cases F with
                | true =>
                  have htr := hide (unhide htk (by omega) (by omega) (of_decide_eq_true (unhide HF)) (by omega) h0)
                  clear hsk htk hfw HF
                  go_wp2_with fail
                  refine (unhide Hfx).mono ?_
                  rintro e' W' ⟨rfl, hbw⟩
                  have hres := hide (⟨unhide htr, bnext (unhide Hb) hbw⟩ : EndI es lv s to (i + 1) (x + 1) ∧ Below w.heap.size w W')
                  clear hbw Hfx
                  go_wp2
                  go_roundw
                  case rel => exact ⟨x + 1, i + 1, by omega, rfl, by go_num, hres⟩
                  case measure => show n - ((i : Int) + 1).toNat < n - ((i : Nat) : Int).toNat; omega
                | false =>
                  have htr := hide (unhide hsk (fun _ _ c => absurd c (of_decide_eq_false (unhide HF))) h0)
                  clear hsk htk hfw HF
                  go_wp2_with fail
                  refine (unhide Hfx).mono ?_
                  rintro e' W' ⟨rfl, hbw⟩
                  have hres := hide (⟨unhide htr, bnext (unhide Hb) hbw⟩ : EndI es lv s to (i + 1) r ∧ Below w.heap.size w W')
                  clear hbw Hfx
                  go_wp2
                  go_roundw
                  case rel => exact ⟨r, i + 1, by omega, rfl, by go_num, hres⟩
                  case measure => show n - ((i : Int) + 1).toNat < n - ((i : Nat) : Int).toNat; omega
              · have hres := hide (⟨unhide hsk (fun a b c => by omega) h0, unhide Hb⟩ : EndI es lv s to (i + 1) r ∧ Below w.heap.size w wr)
                clear hsk htk hfw
                go_wp2
                go_roundw
                case rel => exact ⟨r, i + 1, by omega, rfl, by go_num, hres⟩
                case measure => show n - ((i : Int) + 1).toNat < n - ((i : Nat) : Int).toNat; omega
      · subst hxe
        by_cases h1 : x < s
        · have hres := hide (⟨unhide hsk (fun a b c => by omega) h0, unhide Hb⟩ : EndI es lv s to (i + 1) r ∧ Below w.heap.size w wr)
          clear hsk htk hfw
          go_wp2
          go_roundw
          case rel => exact ⟨r, i + 1, by omega, rfl, by go_num, hres⟩
          case measure => show n - ((i : Int) + 1).toNat < n - ((i : Nat) : Int).toNat; omega
        · by_cases h2 : to ≤ x
          · have hres := hide (⟨unhide hsk (fun a b c => by omega) h0, unhide Hb⟩ : EndI es lv s to (i + 1) r ∧ Below w.heap.size w wr)
            clear hsk htk hfw
            go_wp2
            go_roundw
            case rel => exact ⟨r, i + 1, by omega, rfl, by go_num, hres⟩
            case measure => show n - ((i : Int) + 1).toNat < n - ((i : Nat) : Int).toNat; omega
          · have h2' : ¬ x ≥ to := by omega
            by_cases h3 : r < 0
            · have hfx := unhide hfw (x + 1)
              obtain ⟨F, hF⟩ : ∃ F : Bool, decide (FairP es lv s (x + 1)) = F := ⟨_, rfl⟩
              rw [hF] at hfx
              have Hfx := hide hfx
              have HF := hide hF
              clear hfx hF
              cases F with
              | true =>
                have htr := hide (unhide htk (by omega) (by omega) (of_decide_eq_true (unhide HF)) (by omega) h0)
                clear hsk htk hfw HF
                go_wp2_with fail
                refine (unhide Hfx).mono ?_
                rintro e' W' ⟨rfl, hbw⟩
                have hres := hide (⟨unhide htr, bnext (unhide Hb) hbw⟩ : EndI es lv s to (i + 1) (x + 1) ∧ Below w.heap.size w W')
                clear hbw Hfx
                go_wp2
                go_roundw
                case rel => exact ⟨x + 1, i + 1, by omega, rfl, by go_num, hres⟩
                case measure => show n - ((i : Int) + 1).toNat < n - ((i : Nat) : Int).toNat; omega
              | false =>
                have htr := hide (unhide hsk (fun _ _ c => absurd c (of_decide_eq_false (unhide HF))) h0)
                clear hsk htk hfw HF
                go_wp2_with fail
                refine (unhide Hfx).mono ?_
                rintro e' W' ⟨rfl, hbw⟩
                have hres := hide (⟨unhide htr, bnext (unhide Hb) hbw⟩ : EndI es lv s to (i + 1) r ∧ Below w.heap.size w W')
                clear hbw Hfx
                go_wp2
                go_roundw
                case rel => exact ⟨r, i + 1, by omega, rfl, by go_num, hres⟩
                case measure => show n - ((i : Int) + 1).toNat < n - ((i : Nat) : Int).toNat; omega
            · by_cases h4 : x + 1 < r
              · have hfx := unhide hfw (x + 1)
                obtain ⟨F, hF⟩ : ∃ F : Bool, decide (FairP es lv s (x + 1)) = F := ⟨_, rfl⟩
                rw [hF] at hfx
                have Hfx := hide hfx
                have HF := hide hF
                clear hfx hF
                cases F with
                | true =>
                  have htr := hide (unhide htk (by omega) (by omega) (of_decide_eq_true (unhide HF)) (by omega) h0)
                  clear hsk htk hfw HF
                  go_wp2_with fail
                  refine (unhide Hfx).mono ?_
                  rintro e' W' ⟨rfl, hbw⟩
                  have hres := hide (⟨unhide htr, bnext (unhide Hb) hbw⟩ : EndI es lv s to (i + 1) (x + 1) ∧ Below w.heap.size w W')
                  clear hbw Hfx
                  go_wp2
                  go_roundw
                  case rel => exact ⟨x + 1, i + 1, by omega, rfl, by go_num, hres⟩
                  case measure => show n - ((i : Int) + 1).toNat < n - ((i : Nat) : Int).toNat; omega
                | false =>
                  have htr := hide (unhide hsk (fun _ _ c => absurd c (of_decide_eq_false (unhide HF))) h0)
                  clear hsk htk hfw HF
                  go_wp2_with fail
                  refine (unhide Hfx).mono ?_
                  rintro e' W' ⟨rfl, hbw⟩
                  have hres := hide (⟨unhide htr, bnext (unhide Hb) hbw⟩ : EndI es lv s to (i + 1) r ∧ Below w.heap.size w W')
                  clear hbw Hfx
                  go_wp2
                  go_roundw
                  case rel => exact ⟨r, i + 1, by omega, rfl, by go_num, hres⟩
                  case measure => show n - ((i : Int) + 1).toNat < n - ((i : Nat) : Int).toNat; omega
              · have hres := hide (⟨unhide hsk (fun a b c => by omega) h0, unhide Hb⟩ : EndI es lv s to (i + 1) r ∧ Below w.heap.size w wr)
                clear hsk htk hfw
                go_wp2
                go_roundw
                case rel => exact ⟨r, i + 1, by omega, rfl, by go_num, hres⟩
                case measure => show n - ((i : Int) + 1).toNat < n - ((i : Nat) : Int).toNat; omega
    · have hlt' : ¬ (i : Int) < (n : Int) := by omega
      obtain rfl : i = n := by omega
      have hI := unhide HI
      have hd := hI.1
      rw [← unhide Hn] at hd
      have hR := hide (hd.done (unhide Hs))
      have hB := hide hI.2
      clear hI hd HI
      go_wp2
      go_ret
      exact ⟨r, rfl, unhide hR, unhide hB⟩

end Go.Proofs.Ytmglnaldpcmakaa
