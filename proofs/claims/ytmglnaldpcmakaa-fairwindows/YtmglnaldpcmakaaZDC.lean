/-
  The document's Fair.
-/
import Derived.Test.YtmglnaldpcmakaaZDB
import Derived.Deep.RegionWith
set_option linter.unusedSimpArgs false
set_option linter.unusedVariables false
namespace Go.Proofs.Ytmglnaldpcmakaa
open Go.RowKit Go.Lib Go.Shelf

/-- a pair is told of -/
def Prd (es : List Ev) (s t x y : Int) : Prop := x = y ∨ ∃ e ∈ es, Wn e x y s t
def PrdU (es : List Ev) (s t x y : Int) (j : Nat) : Prop := x = y ∨ ∃ q e, q < j ∧ es[q]? = some e ∧ Wn e x y s t
theorem prdU_all {es : List Ev} {s t x y : Int} : PrdU es s t x y es.length ↔ Prd es s t x y := by
  unfold PrdU Prd
  constructor
  · rintro (h | ⟨q, e, _, h1, h2⟩)
    · exact .inl h
    · exact .inr ⟨e, List.mem_of_getElem? h1, h2⟩
  · rintro (h | ⟨e, h1, h2⟩)
    · exact .inl h
    · obtain ⟨q, hq⟩ := List.mem_iff_getElem?.1 h1
      exact .inr ⟨q, e, (List.getElem?_eq_some_iff.1 hq).1, hq, h2⟩
theorem prdU_zero {es : List Ev} {s t x y : Int} : PrdU es s t x y 0 ↔ x = y := by
  unfold PrdU
  constructor
  · rintro (h | ⟨q, e, h0, _⟩)
    · exact h
    · omega
  · exact .inl
theorem prdU_succ {es : List Ev} {s t x y : Int} {j : Nat} {e : Ev} (he : es[j]? = some e) : PrdU es s t x y (j + 1) ↔ PrdU es s t x y j ∨ Wn e x y s t := by
  unfold PrdU
  constructor
  · rintro (h | ⟨q, e', h0, h1, h2⟩)
    · exact .inl (.inl h)
    · by_cases e1 : q = j
      · subst e1
        rw [h1] at he
        simp at he
        subst he
        exact .inr h2
      · exact .inl (.inr ⟨q, e', by omega, h1, h2⟩)
  · rintro ((h | ⟨q, e', h0, h1, h2⟩) | h)
    · exact .inl h
    · exact .inr ⟨q, e', by omega, h1, h2⟩
    · exact .inr ⟨j, e, by omega, he, h⟩
theorem prdU_mono {es : List Ev} {s t x y : Int} {j j' : Nat} (h : PrdU es s t x y j) (hj : j ≤ j') : PrdU es s t x y j' := by
  rcases h with h | ⟨q, e', h0, h1, h2⟩
  · exact .inl h
  · exact .inr ⟨q, e', by omega, h1, h2⟩
theorem fairP_iff {es : List Ev} {lv : List Int} {s t : Int} : FairP es lv s t ↔ s < t ∧ ∀ (p q : Nat) (x y : Int), lv[p]? = some x → lv[q]? = some y → Prd es s t x y := by
  constructor
  · rintro ⟨h1, h2⟩
    exact ⟨h1, fun p q x y hx hy => h2 x (List.mem_of_getElem? hx) y (List.mem_of_getElem? hy)⟩
  · rintro ⟨h1, h2⟩
    refine ⟨h1, fun a ha b hb => ?_⟩
    obtain ⟨p, hp⟩ := List.mem_iff_getElem?.1 ha
    obtain ⟨q, hq⟩ := List.mem_iff_getElem?.1 hb
    exact h2 p q a b hp hq

set_option maxRecDepth 100000 in
set_option maxHeartbeats 8000000 in
theorem Fair_in (w : World) (ev sv : Value) (es : List Ev) (lv : List Int) (s t : Int) (hev : RV w ev es) (hsv : RN w sv lv) (hl : es.length ≤ 100000) (hlv : lv.length ≤ 10000) :
    Calls Try.prog 33 #[ev, sv, .int .i64 s, .int .i64 t] w fun e W => e = .returned (.bool (decide (FairP es lv s t))) ∧ Below w.heap.size w W := by
  obtain ⟨ae, ce, rfl⟩ := hev.form
  obtain ⟨av, cv, rfl⟩ := hsv.form
  obtain ⟨R, hR⟩ : ∃ R : Bool, decide (FairP es lv s t) = R := ⟨_, rfl⟩
  rw [hR]
  have HR := hide hR
  have HE := hide hev
  have HV := hide hsv
  have HWi := hide (fun e a b W => within_in e a b s t W)
  obtain ⟨n, hn⟩ : ∃ n, es.length = n := ⟨_, rfl⟩
  have Hn := hide hn
  obtain ⟨m, hm⟩ : ∃ m, lv.length = m := ⟨_, rfl⟩
  have Hm := hide hm
  rw [hn] at hl ⊢
  rw [hm] at hlv ⊢
  clear hR hev hsv hn hm
  by_cases hst : t ≤ s
  · obtain rfl : R = false := by
      rw [← unhide HR]
      exact decide_eq_false fun h => by have := h.1; omega
    go_enter Try.func33, Try.ntmps33
    go_wp2
    go_ret
    exact ⟨rfl, Below.refl _ _⟩
  · have hst' : s < t := by omega
    have Hst := hide hst'
    go_enter Try.func33, Try.ntmps33
    go_wp2
    go_loopw [9] (fun iv wr => ∃ i : Nat, i ≤ m ∧ iv = .int .i64 (i : Nat) ∧ Hid ((∀ (p q : Nat) (x y : Int), p < i → lv[p]? = some x → lv[q]? = some y → Prd es s t x y) ∧ Below w.heap.size w wr)) (fun iv _ => m - (RowKit.intOf iv).toNat)
    case atStart => exact ⟨0, by omega, rfl, hide ⟨fun p q x y hp => absurd hp (by omega), Below.refl _ _⟩⟩
    case round =>
      obtain ⟨i, hi, rfl, HI⟩ := hrel
      by_cases hlt : i < m
      · have hlt' : (i : Int) < (m : Int) := by omega
        obtain ⟨x, hx⟩ : ∃ x, lv[i]? = some x := ⟨_, List.getElem?_eq_getElem (by rw [unhide Hm]; exact hlt)⟩
        have Hx := hide hx
        clear hx
        go_wp2
        go_loopw [10] (fun kv wk => ∃ k : Nat, k ≤ m ∧ kv = .int .i64 (k : Nat) ∧ Hid ((∀ (q : Nat) (y : Int), q < k → lv[q]? = some y → Prd es s t x y) ∧ Below w.heap.size w wk)) (fun kv _ => m - (RowKit.intOf kv).toNat)
        case atStart => exact ⟨0, by omega, rfl, hide ⟨fun q y hq => absurd hq (by omega), (unhide HI).2⟩⟩
        case round =>
          obtain ⟨k, hk, rfl, HK⟩ := hrel
          by_cases hkt : k < m
          · have hkt' : (k : Int) < (m : Int) := by omega
            obtain ⟨y, hy⟩ : ∃ y, lv[k]? = some y := ⟨_, List.getElem?_eq_getElem (by rw [unhide Hm]; exact hkt)⟩
            have hbk := (unhide HK).2
            have hrk := (unhide HV).below hbk
            rw [unhide Hm] at hrk
            obtain ⟨b, off, rfl, hbl, k0⟩ := RN.at hrk (unhide Hx)
            obtain ⟨b', off', e, _, k1⟩ := RN.at hrk hy
            simp only [Option.some.injEq, Addr.mk.injEq, and_true] at e
            obtain ⟨rfl, rfl⟩ := e
            have Hy := hide hy
            have Hbk := hide hbk
            clear hy hrk hbk
            go_wp2
            go_quiet (fail)
            go_wp2
            go_loopw [11, 12] (fun fv jv wj => ∃ (f : Bool) (j : Nat), j ≤ n ∧ fv = .bool f ∧ jv = .int .i64 (j : Nat) ∧ Hid ((f = true ↔ PrdU es s t x y j) ∧ Below w.heap.size w wj)) (fun _ jv _ => n - (RowKit.intOf jv).toNat)
            case atStart => exact ⟨_, 0, by omega, rfl, rfl, hide ⟨by rw [prdU_zero]; simp, bdrew (unhide Hbk) _⟩⟩
            case round =>
              obtain ⟨f, j, hj, rfl, rfl, HJ⟩ := hrel
              cases f with
              | true =>
                have hpk : ∀ (q : Nat) (y' : Int), q < k + 1 → lv[q]? = some y' → Prd es s t x y' := by
                  intro q y' hq hy'
                  by_cases e1 : q = k
                  · subst e1
                    have h1 := unhide Hy
                    rw [hy'] at h1
                    simp at h1
                    subst h1
                    exact prdU_all.1 (prdU_mono ((unhide HJ).1.1 rfl) (by rw [unhide Hn]; exact hj))
                  · exact (unhide HK).1 q y' (by omega) hy'
                have Hpk := hide hpk
                have hbj := hide (unhide HJ).2
                clear hpk HJ
                by_cases hjt : j < n
                · have hjt' : (j : Int) < (n : Int) := by omega
                  go_wp2
                  go_roundw
                  case rel => exact ⟨k + 1, by omega, by go_num, hide ⟨unhide Hpk, unhide hbj⟩⟩
                  case measure => show m - ((k : Int) + 1).toNat < m - ((k : Nat) : Int).toNat; omega
                · have hjt' : ¬ (j : Int) < (n : Int) := by omega
                  go_wp2
                  go_roundw
                  case rel => exact ⟨k + 1, by omega, by go_num, hide ⟨unhide Hpk, unhide hbj⟩⟩
                  case measure => show m - ((k : Int) + 1).toNat < m - ((k : Nat) : Int).toNat; omega
              | false =>
                by_cases hjt : j < n
                · have hjt' : (j : Int) < (n : Int) := by omega
                  obtain ⟨e, he⟩ : ∃ e, es[j]? = some e := ⟨_, List.getElem?_eq_getElem (by rw [unhide Hn]; exact hjt)⟩
                  have hbj := (unhide HJ).2
                  have hre := (unhide HE).below hbj
                  have hrv := (unhide HV).below hbj
                  rw [unhide Hn] at hre
                  rw [unhide Hm] at hrv
                  obtain ⟨be, oe, rfl, _, q0, q1, q2, q3, q4, q5, q6⟩ := RV.at hre he
                  obtain ⟨b2, off2, e2, _, r0⟩ := RN.at hrv (unhide Hx)
                  obtain ⟨b3, off3, e3, _, r1⟩ := RN.at hrv (unhide Hy)
                  simp only [Option.some.injEq, Addr.mk.injEq, and_true] at e2 e3
                  obtain ⟨rfl, rfl⟩ := e2
                  obtain ⟨rfl, rfl⟩ := e3
                  have He := hide he
                  have Hbj := hide hbj
                  clear he hre hrv hbj
                  obtain ⟨f2, hf2⟩ : ∃ f2 : Bool, decide (Wn e x y s t) = f2 := ⟨_, rfl⟩
                  have hw := fun W => unhide HWi e x y W
                  rw [hf2] at hw
                  have Hw := hide hw
                  have Hf2 := hide hf2
                  have hiff : f2 = true ↔ PrdU es s t x y (j + 1) := by
                    rw [prdU_succ (unhide He), ← hf2, decide_eq_true_iff]
                    have h1 := (unhide HJ).1
                    constructor
                    · exact .inr
                    · rintro (h | h)
                      · have := h1.2 h; cases this
                      · exact h
                  have Hiff := hide hiff
                  clear hw hf2 hiff
                  unfold evC at Hw
                  go_wp2
                  go_region_with (go_at_call 42; refine (unhide Hw _).mono ?_; rintro e' w' ⟨rfl, hbw⟩)
                  all_goals (
                    have Hbw := hide (bnext (bdrew (unhide Hbj) _) hbw)
                    clear hbw
                    go_wp2
                    go_roundw
                    case rel => exact ⟨f2, j + 1, by omega, rfl, by go_num, hide ⟨unhide Hiff, unhide Hbw⟩⟩
                    case measure => show n - ((j : Int) + 1).toNat < n - ((j : Nat) : Int).toNat; omega)
                · have hjt' : ¬ (j : Int) < (n : Int) := by omega
                  have hnf : ¬ FairP es lv s t := by
                    intro h
                    have h1 := (fairP_iff.1 h).2 i k x y (unhide Hx) (unhide Hy)
                    obtain rfl : j = n := by omega
                    have h2 := (unhide HJ).1
                    rw [← unhide Hn, prdU_all] at h2
                    have h3 := h2.2 h1
                    cases h3
                  obtain rfl : R = false := by rw [← unhide HR]; exact decide_eq_false hnf
                  have hbj := hide (unhide HJ).2
                  clear HJ hnf
                  go_wp2
                  go_ret
                  exact ⟨rfl, unhide hbj⟩
          · have hkt' : ¬ (k : Int) < (m : Int) := by omega
            have hres : Hid ((∀ (p q : Nat) (x y : Int), p < i + 1 → lv[p]? = some x → lv[q]? = some y → Prd es s t x y) ∧ Below w.heap.size w wr) := by
              refine ⟨fun p q x' y' hp hx' hy' => ?_, (unhide HK).2⟩
              by_cases e1 : p = i
              · subst e1
                have h1 := unhide Hx
                rw [hx'] at h1
                simp at h1
                subst h1
                have := (List.getElem?_eq_some_iff.1 hy').1
                rw [unhide Hm] at this
                exact (unhide HK).1 q y' (by omega) hy'
              · exact (unhide HI).1 p q x' y' (by omega) hx' hy'
            clear HK
            go_wp2
            go_roundw
            case rel => exact ⟨i + 1, by omega, by go_num, hres⟩
            case measure => show m - ((i : Int) + 1).toNat < m - ((i : Nat) : Int).toNat; omega
      · have hlt' : ¬ (i : Int) < (m : Int) := by omega
        obtain rfl : R = true := by
          rw [← unhide HR]
          refine decide_eq_true (fairP_iff.2 ⟨unhide Hst, fun p q x y hx hy => (unhide HI).1 p q x y ?_ hx hy⟩)
          have := (List.getElem?_eq_some_iff.1 hx).1
          rw [unhide Hm] at this
          omega
        have hb := hide (unhide HI).2
        clear HI
        go_wp2
        go_ret
        exact ⟨rfl, unhide hb⟩

end Go.Proofs.Ytmglnaldpcmakaa
