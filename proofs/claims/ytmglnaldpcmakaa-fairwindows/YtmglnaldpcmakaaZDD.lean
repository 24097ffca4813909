/-
  The law's fits.
-/
import Derived.Test.YtmglnaldpcmakaaZDC
set_option linter.unusedSimpArgs false
set_option linter.unusedVariables false
namespace Go.Proofs.Ytmglnaldpcmakaa
open Go.RowKit Go.Lib Go.Shelf

set_option maxRecDepth 100000 in
set_option maxHeartbeats 8000000 in
theorem fits_in (w : World) (ev sv : Value) (es : List Ev) (lv : List Int) (s t : Int) (hev : RV w ev es) (hsv : RN w sv lv) (hl : es.length ≤ 100000) (hlv : lv.length ≤ 10000) :
    Calls Try.prog 15 #[ev, sv, .int .i64 s, .int .i64 t] w fun e W => e = .returned (.bool (decide (FairP es lv s t))) ∧ Below w.heap.size w W := by
  obtain ⟨ae, ce, rfl⟩ := hev.form
  obtain ⟨av, cv, rfl⟩ := hsv.form
  obtain ⟨R, hR⟩ : ∃ R : Bool, decide (FairP es lv s t) = R := ⟨_, rfl⟩
  rw [hR]
  have HR := hide hR
  have HE := hide hev
  have HV := hide hsv
  have HWi := hide (fun e a b W => within_in e a b s t W)
  obtain ⟨n, hn⟩ : ∃ n, es.length = n := ⟨_, rfl⟩
  have Hn := hide hn
  obtain ⟨m, hm⟩ : ∃ m, lv.length = m := ⟨_, rfl⟩
  have Hm := hide hm
  rw [hn] at hl ⊢
  rw [hm] at hlv ⊢
  clear hR hev hsv hn hm
  go_enter Try.func15, Try.ntmps15
  go_wp2
  go_loopw [9] (fun iv wr => ∃ i : Nat, i ≤ m ∧ iv = .int .i64 (i : Nat) ∧ Hid ((∀ (p q : Nat) (x y : Int), p < i → lv[p]? = some x → lv[q]? = some y → Prd es s t x y) ∧ Below w.heap.size w wr)) (fun iv _ => m - (RowKit.intOf iv).toNat)
  case atStart => exact ⟨0, by omega, rfl, hide ⟨fun p q x y hp => absurd hp (by omega), Below.refl _ _⟩⟩
  case round =>
    obtain ⟨i, hi, rfl, HI⟩ := hrel
    by_cases hlt : i < m
    · have hlt' : (i : Int) < (m : Int) := by omega
      obtain ⟨x, hx⟩ : ∃ x, lv[i]? = some x := ⟨_, List.getElem?_eq_getElem (by rw [unhide Hm]; exact hlt)⟩
      have Hx := hide hx
      clear hx
      go_wp2
      go_loopw [10] (fun kv wk => ∃ k : Nat, k ≤ m ∧ kv = .int .i64 (k : Nat) ∧ Hid ((∀ (q : Nat) (y : Int), q < k → lv[q]? = some y → Prd es s t x y) ∧ Below w.heap.size w wk)) (fun kv _ => m - (RowKit.intOf kv).toNat)
      case atStart => exact ⟨0, by omega, rfl, hide ⟨fun q y hq => absurd hq (by omega), (unhide HI).2⟩⟩
      case round =>
        obtain ⟨k, hk, rfl, HK⟩ := hrel
        by_cases hkt : k < m
        · have hkt' : (k : Int) < (m : Int) := by omega
          obtain ⟨y, hy⟩ : ∃ y, lv[k]? = some y := ⟨_, List.getElem?_eq_getElem (by rw [unhide Hm]; exact hkt)⟩
          have hbk := (unhide HK).2
          have hrk := (unhide HV).below hbk
          rw [unhide Hm] at hrk
          obtain ⟨b, off, rfl, hbl, k0⟩ := RN.at hrk (unhide Hx)
          obtain ⟨b', off', e, _, k1⟩ := RN.at hrk hy
          simp only [Option.some.injEq, Addr.mk.injEq, and_true] at e
          obtain ⟨rfl, rfl⟩ := e
          have Hy := hide hy
          have Hbk := hide hbk
          clear hy hrk hbk
          go_wp2
          go_quiet (fail)
          go_wp2
          go_loopw [11, 12] (fun fv jv wj => ∃ (f : Bool) (j : Nat), j ≤ n ∧ fv = .bool f ∧ jv = .int .i64 (j : Nat) ∧ Hid ((f = true ↔ PrdU es s t x y j) ∧ Below w.heap.size w wj)) (fun _ jv _ => n - (RowKit.intOf jv).toNat)
          case atStart => exact ⟨_, 0, by omega, rfl, rfl, hide ⟨by rw [prdU_zero]; simp, bdrew (unhide Hbk) _⟩⟩
          case round =>
            obtain ⟨f, j, hj, rfl, rfl, HJ⟩ := hrel
            by_cases hjt : j < n
            · have hjt' : (j : Int) < (n : Int) := by omega
              obtain ⟨e, he⟩ : ∃ e, es[j]? = some e := ⟨_, List.getElem?_eq_getElem (by rw [unhide Hn]; exact hjt)⟩
              have hbj := (unhide HJ).2
              have hre := (unhide HE).below hbj
              rw [unhide Hn] at hre
              obtain ⟨be, oe, rfl, _, q0, q1, q2, q3, q4, q5, q6⟩ := RV.at hre he
              obtain ⟨f2, hf2⟩ : ∃ f2 : Bool, decide (Wn e x y s t) = f2 := ⟨_, rfl⟩
              have hiff : (f || f2) = true ↔ PrdU es s t x y (j + 1) := by
                rw [prdU_succ he, ← hf2, Bool.or_eq_true, decide_eq_true_iff]
                exact or_congr (unhide HJ).1 Iff.rfl
              have Hiff := hide hiff
              obtain ⟨step, kind, copy, fr, dst, sent, bad⟩ := e
              have hF2 : f2 = (decide (kind = 2) && !bad && decide (fr = x) && decide (dst = y) && decide (s ≤ step) && decide (s ≤ sent) && decide (step < t) && decide (sent < t)) := by
                rw [← hf2]
                unfold Wn
                cases bad <;> simp [Bool.and_assoc]
              have HF2 := hide hF2
              have al := ballc (Below.refl wr.heap.size wr) (.cells #[.int .i64 step, .int .i64 kind, .int .i64 copy, .int .i64 fr, .int .i64 dst, .int .i64 sent, .bool bad] 27)
              have bx := Bx.new wr 27 #[.int .i64 step, .int .i64 kind, .int .i64 copy, .int .i64 fr, .int .i64 dst, .int .i64 sent, .bool bad]
              obtain ⟨X, hX⟩ : ∃ X, wr.alloc (.cells #[.int .i64 step, .int .i64 kind, .int .i64 copy, .int .i64 fr, .int .i64 dst, .int .i64 sent, .bool bad] 27) = X := ⟨_, rfl⟩
              rw [hX] at al bx
              have HX := hide hX
              have HbX := hide (bnext hbj al)
              have hrv := (unhide HV).below (unhide HbX)
              rw [unhide Hm] at hrv
              obtain ⟨b2, off2, e2, _, r0⟩ := RN.at hrv (unhide Hx)
              obtain ⟨b3, off3, e3, _, r1⟩ := RN.at hrv (unhide Hy)
              simp only [Option.some.injEq, Addr.mk.injEq, and_true] at e2 e3
              obtain ⟨rfl, rfl⟩ := e2
              obtain ⟨rfl, rfl⟩ := e3
              simp only [] at q0 q1 q2 q3 q4 q5 q6
              have d0 : X.cell? ⟨wr.heap.size, 0, none⟩ = some (.int .i64 step) := bx.cell 0 _ rfl
              have d1 : X.cell? ⟨wr.heap.size, 1, none⟩ = some (.int .i64 kind) := bx.cell 1 _ rfl
              have d3 : X.cell? ⟨wr.heap.size, 3, none⟩ = some (.int .i64 fr) := bx.cell 3 _ rfl
              have d4 : X.cell? ⟨wr.heap.size, 4, none⟩ = some (.int .i64 dst) := bx.cell 4 _ rfl
              have d5 : X.cell? ⟨wr.heap.size, 5, none⟩ = some (.int .i64 sent) := bx.cell 5 _ rfl
              have d6 : X.cell? ⟨wr.heap.size, 6, none⟩ = some (.bool bad) := bx.cell 6 _ rfl
              clear he hre hrv hbj hX al bx hf2 hiff hF2 HJ
              go_wp2
              rw [unhide HX]
              clear q0 q1 q2 q3 q4 q5 q6 HX
              by_cases h0 : kind = 2
              · have h0' : (kind == 2) = true := by rw [beq_iff_eq]; exact h0
                cases bad with
                | false =>
                  by_cases h2 : fr = x
                  · have h2' : (fr == x) = true := by rw [beq_iff_eq]; exact h2
                    by_cases h3 : dst = y
                    · have h3' : (dst == y) = true := by rw [beq_iff_eq]; exact h3
                      by_cases h4 : s ≤ step
                      · by_cases h5 : step < t
                        · by_cases h6 : s ≤ sent
                          · by_cases h7 : sent < t
                            · obtain rfl : f2 = true := by rw [unhide HF2]; simp [*]
                              go_quiet (fail)
                              have hb2 := hide (bdrew (unhide HbX) nq)
                              go_wp2
                              go_roundw
                              case rel => exact ⟨true, j + 1, by omega, rfl, by go_num, hide ⟨by have := unhide Hiff; simpa using this, unhide hb2⟩⟩
                              case measure => show n - ((j : Int) + 1).toNat < n - ((j : Nat) : Int).toNat; omega
                            · obtain rfl : f2 = false := by rw [unhide HF2]; simp [*]
                              go_quiet (fail)
                              have hb2 := hide (bdrew (unhide HbX) nq)
                              go_wp2
                              go_roundw
                              case rel => exact ⟨f, j + 1, by omega, rfl, by go_num, hide ⟨by have := unhide Hiff; simpa using this, unhide hb2⟩⟩
                              case measure => show n - ((j : Int) + 1).toNat < n - ((j : Nat) : Int).toNat; omega
                          · obtain rfl : f2 = false := by rw [unhide HF2]; simp [*]
                            go_quiet (fail)
                            have hb2 := hide (bdrew (unhide HbX) nq)
                            go_wp2
                            go_roundw
                            case rel => exact ⟨f, j + 1, by omega, rfl, by go_num, hide ⟨by have := unhide Hiff; simpa using this, unhide hb2⟩⟩
                            case measure => show n - ((j : Int) + 1).toNat < n - ((j : Nat) : Int).toNat; omega
                        · obtain rfl : f2 = false := by rw [unhide HF2]; simp [*]
                          go_quiet (fail)
                          have hb2 := hide (bdrew (unhide HbX) nq)
                          go_wp2
                          go_roundw
                          case rel => exact ⟨f, j + 1, by omega, rfl, by go_num, hide ⟨by have := unhide Hiff; simpa using this, unhide hb2⟩⟩
                          case measure => show n - ((j : Int) + 1).toNat < n - ((j : Nat) : Int).toNat; omega
                      · obtain rfl : f2 = false := by rw [unhide HF2]; simp [*]
                        go_quiet (fail)
                        have hb2 := hide (bdrew (unhide HbX) nq)
                        go_wp2
                        go_roundw
                        case rel => exact ⟨f, j + 1, by omega, rfl, by go_num, hide ⟨by have := unhide Hiff; simpa using this, unhide hb2⟩⟩
                        case measure => show n - ((j : Int) + 1).toNat < n - ((j : Nat) : Int).toNat; omega
                    · have h3' : (dst == y) = false := by rw [beq_eq_false_iff_ne]; exact h3
                      obtain rfl : f2 = false := by rw [unhide HF2]; simp [*]
                      go_quiet (fail)
                      have hb2 := hide (bdrew (unhide HbX) nq)
                      go_wp2
                      go_roundw
                      case rel => exact ⟨f, j + 1, by omega, rfl, by go_num, hide ⟨by have := unhide Hiff; simpa using this, unhide hb2⟩⟩
                      case measure => show n - ((j : Int) + 1).toNat < n - ((j : Nat) : Int).toNat; omega
                  · have h2' : (fr == x) = false := by rw [beq_eq_false_iff_ne]; exact h2
                    obtain rfl : f2 = false := by rw [unhide HF2]; simp [*]
                    go_quiet (fail)
                    have hb2 := hide (bdrew (unhide HbX) nq)
                    go_wp2
                    go_roundw
                    case rel => exact ⟨f, j + 1, by omega, rfl, by go_num, hide ⟨by have := unhide Hiff; simpa using this, unhide hb2⟩⟩
                    case measure => show n - ((j : Int) + 1).toNat < n - ((j : Nat) : Int).toNat; omega
                | true =>
                  obtain rfl : f2 = false := by rw [unhide HF2]; simp [*]
                  go_quiet (fail)
                  have hb2 := hide (bdrew (unhide HbX) nq)
                  go_wp2
                  go_roundw
                  case rel => exact ⟨f, j + 1, by omega, rfl, by go_num, hide ⟨by have := unhide Hiff; simpa using this, unhide hb2⟩⟩
                  case measure => show n - ((j : Int) + 1).toNat < n - ((j : Nat) : Int).toNat; omega
              · have h0' : (kind == 2) = false := by rw [beq_eq_false_iff_ne]; exact h0
                obtain rfl : f2 = false := by rw [unhide HF2]; simp [*]
                go_quiet (fail)
                have hb2 := hide (bdrew (unhide HbX) nq)
                go_wp2
                go_roundw
                case rel => exact ⟨f, j + 1, by omega, rfl, by go_num, hide ⟨by have := unhide Hiff; simpa using this, unhide hb2⟩⟩
                case measure => show n - ((j : Int) + 1).toNat < n - ((j : Nat) : Int).toNat; omega
            · have hjt' : ¬ (j : Int) < (n : Int) := by omega
              obtain rfl : j = n := by omega
              have hiff := (unhide HJ).1
              rw [← unhide Hn, prdU_all] at hiff
              have hbj := hide (unhide HJ).2
              cases f with
              | true =>
                have hpk : ∀ (q : Nat) (y' : Int), q < k + 1 → lv[q]? = some y' → Prd es s t x y' := by
                  intro q y' hq hy'
                  by_cases e1 : q = k
                  · subst e1
                    have h1 := unhide Hy
                    rw [hy'] at h1
                    simp at h1
                    subst h1
                    exact hiff.1 rfl
                  · exact (unhide HK).1 q y' (by omega) hy'
                have Hpk := hide hpk
                clear hpk HJ hiff
                go_wp2
                go_roundw
                case rel => exact ⟨k + 1, by omega, by go_num, hide ⟨unhide Hpk, unhide hbj⟩⟩
                case measure => show m - ((k : Int) + 1).toNat < m - ((k : Nat) : Int).toNat; omega
              | false =>
                have hnf : ¬ FairP es lv s t := by
                  intro h
                  have h3 := hiff.2 ((fairP_iff.1 h).2 i k x y (unhide Hx) (unhide Hy))
                  cases h3
                obtain rfl : R = false := by rw [← unhide HR]; exact decide_eq_false hnf
                clear HJ hnf hiff
                go_wp2
                go_ret
                exact ⟨rfl, unhide hbj⟩
        · have hkt' : ¬ (k : Int) < (m : Int) := by omega
          have hres : Hid ((∀ (p q : Nat) (x y : Int), p < i + 1 → lv[p]? = some x → lv[q]? = some y → Prd es s t x y) ∧ Below w.heap.size w wr) := by
            refine ⟨fun p q x' y' hp hx' hy' => ?_, (unhide HK).2⟩
            by_cases e1 : p = i
            · subst e1
              have h1 := unhide Hx
              rw [hx'] at h1
              simp at h1
              subst h1
              have := (List.getElem?_eq_some_iff.1 hy').1
              rw [unhide Hm] at this
              exact (unhide HK).1 q y' (by omega) hy'
            · exact (unhide HI).1 p q x' y' (by omega) hx' hy'
          clear HK
          go_wp2
          go_roundw
          case rel => exact ⟨i + 1, by omega, by go_num, hres⟩
          case measure => show m - ((i : Int) + 1).toNat < m - ((i : Nat) : Int).toNat; omega
    · have hlt' : ¬ (i : Int) < (m : Int) := by omega
      have hRst : R = decide (s < t) := by
        rw [← unhide HR]
        have : FairP es lv s t ↔ s < t := by
          rw [fairP_iff]
          refine ⟨fun h => h.1, fun h => ⟨h, fun p q x y hx hy => (unhide HI).1 p q x y ?_ hx hy⟩⟩
          have := (List.getElem?_eq_some_iff.1 hx).1
          rw [unhide Hm] at this
          omega
        exact decide_eq_decide.2 this
      have hb := hide (unhide HI).2
      clear HI
      by_cases hst : s < t
      · obtain rfl : R = true := by rw [hRst]; exact decide_eq_true hst
        clear hRst
        go_wp2
        go_ret
        exact ⟨by simp, unhide hb⟩
      · obtain rfl : R = false := by rw [hRst]; exact decide_eq_false hst
        clear hRst
        go_wp2
        go_ret
        exact ⟨by simp, unhide hb⟩

end Go.Proofs.Ytmglnaldpcmakaa
