/-
  What arrives.
-/
import Derived.Test.YtmglnaldpcmakaaZQC
set_option linter.unusedSimpArgs false
set_option linter.unusedVariables false
namespace Go.Proofs.Ytmglnaldpcmakaa
open Go.RowKit Go.Lib Go.Shelf

theorem arrL_snoc (ss : List Int) (frm to : Int) {es : List Ev} {j : Nat} {e : Ev} (he : es[j]? = some e) : arrL ss frm to (es.take (j + 1)) = arrL ss frm to (es.take j) ++ arrO ss frm to e := by
  rw [List.take_add_one, he]
  unfold arrL
  rw [List.flatMap_append]
  simp
theorem RN.drew {W : World} {v : Value} {l : List Int} (h : RN W v l) (q : Nat) : RN (W.drewN q) v l := h.below (bdrew (Below.refl _ _) q)

theorem owns_ge {W : World} {B E k n : Nat} {v : Value} {C : List Value} (h : W.ownsRow B E k v n C) (i : Nat) (hi : v.ownBlock = some i) : B ≤ i := by
  obtain ⟨_, (⟨rfl, _⟩ | ⟨g, cap, cur, rfl, hb, _⟩)⟩ := h
  · cases hi
  · cases hi; exact hb
theorem owns_below {W W' : World} {B E k n : Nat} {v : Value} {C : List Value} (h : W.ownsRow B E k v n C) (hb : Below W.heap.size W W') : W'.ownsRow B E k v n C := owns_kp (N := fun _ => False) h (Kp.of_below hb) (fun _ _ e => e)

set_option maxRecDepth 100000 in
set_option maxHeartbeats 4000000 in
theorem arrivals_in (w : World) (ev sv : Value) (es : List Ev) (ss : List Int) (frm to : Int) (hev : RV w ev es) (hsv : RN w sv ss) (hs : ss.Pairwise (· < ·)) (hl : es.length ≤ 1000000) (hsl : ss.length ≤ 10000) :
    Calls Try.prog 17 #[ev, sv, .int .i64 frm, .int .i64 to] w fun e W => ∃ v came, e = .returned v ∧ OwA W w.heap.size v came ∧ (∀ x, x ∈ came ↔ x ∈ arrL ss frm to es) ∧ came.Pairwise (fun x y => x.last ≤ y.last) ∧ came.length ≤ es.length ∧ Below w.heap.size w W := by
  obtain ⟨ae, ce, rfl⟩ := hev.form
  obtain ⟨n, hn⟩ : ∃ n, es.length = n := ⟨_, rfl⟩
  have Hn := hide hn
  have HE := hide hev
  have HV := hide hsv
  have HS := hide hs
  rw [hn] at hl ⊢
  clear hn hev hsv hs
  go_enter Try.func17, Try.ntmps17
  go_wp2
  go_loopw [9, 18] (fun u i wr => ∃ (j : Nat) (v : Value), j ≤ n ∧ u = v ∧ i = .int .i64 (j : Nat) ∧ Hid (OwA wr w.heap.size v (arrL ss frm to (es.take j)) ∧ Below w.heap.size w wr)) (fun u i _ => n - (RowKit.intOf i).toNat)
  case atStart => exact ⟨0, _, Nat.zero_le _, rfl, rfl, hide ⟨World.ownsRow_nil _ _ _ _, Below.refl _ _⟩⟩
  case round =>
    obtain ⟨j, v, hj, rfl, rfl, HI⟩ := hrel
    by_cases hlt : j < n
    · have hlt' : (j : Int) < (n : Int) := by omega
      obtain ⟨ho, hb⟩ := unhide HI
      have hje : j < es.length := by rw [unhide Hn]; exact hlt
      obtain ⟨e, he⟩ : ∃ e, es[j]? = some e := ⟨_, List.getElem?_eq_getElem hje⟩
      have hr := (unhide HE).below hb
      rw [unhide Hn] at hr
      obtain ⟨be, oe, rfl, _, k0, k1, k2, k3, k4, k5, k6⟩ := RV.at hr he
      have hsn := arrL_snoc ss frm to he
      have Hsn := hide hsn
      have hsv := (unhide HV).below hb
      have hol : (arrL ss frm to (es.take j)).length ≤ n := by have := arrL_len ss frm to (es.take j); rw [List.length_take] at this; omega
      have Ho := hide ho
      have Hb := hide hb
      have Hs := hide hsv
      clear ho hb hr hsn hsv HI he
      obtain ⟨step, kind, copy, fr, dst, sent, bad⟩ := e
      simp only [] at k0 k1 k2 k3 k4 k5 k6
      by_cases hc : kind = 2 ∧ bad = false
      · obtain ⟨rfl, rfl⟩ := hc
        obtain ⟨R, hR⟩ : ∃ R, R = decide (fr ∈ ss ∧ dst ∈ ss ∧ fr ≠ dst) := ⟨_, rfl⟩
        obtain ⟨X, hX⟩ : ∃ X, wr.alloc (.cells #[.int .i64 step, .int .i64 2, .int .i64 copy, .int .i64 fr, .int .i64 dst, .int .i64 sent, .bool false] 27) = X := ⟨_, rfl⟩
        have al := ballc (Below.refl wr.heap.size wr) (.cells #[.int .i64 step, .int .i64 2, .int .i64 copy, .int .i64 fr, .int .i64 dst, .int .i64 sent, .bool false] 27)
        have bx := Bx.new wr 27 #[.int .i64 step, .int .i64 2, .int .i64 copy, .int .i64 fr, .int .i64 dst, .int .i64 sent, .bool false]
        have hz : (wr.alloc (.cells #[.int .i64 step, .int .i64 2, .int .i64 copy, .int .i64 fr, .int .i64 dst, .int .i64 sent, .bool false] 27)).heap.size = wr.heap.size + 1 := by simp
        rw [hX] at al bx hz
        have pin := pairOf_in (w := X) ((unhide Hs).below al) (unhide HS) hsl fr dst R hR
        have HX := hide hX
        have Pin := hide pin
        have Bx0 := hide bx
        have Al := hide al
        have Hz := hide hz
        have HR := hide hR
        clear hX pin bx al hz hR
        go_wp2_with fail
        rw [unhide HX]
        refine (unhide Pin).mono ?_
        rintro e W1 ⟨⟨p, rfl, hpq⟩, q, rfl⟩
        have Hpq := hide hpq
        clear hpq Pin
        have bx : Bx (X.drewN q) wr.heap.size 27 _ := unhide Bx0
        have d0 : X.cell? ⟨wr.heap.size, 0, none⟩ = some (.int .i64 step) := (unhide Bx0).cell 0 _ rfl
        have d5 : X.cell? ⟨wr.heap.size, 5, none⟩ = some (.int .i64 sent) := (unhide Bx0).cell 5 _ rfl
        have c0 : (X.drewN q).cell? ⟨wr.heap.size, 0, none⟩ = some (.int .i64 step) := bx.cell 0 _ rfl
        have c5 : (X.drewN q).cell? ⟨wr.heap.size, 5, none⟩ = some (.int .i64 sent) := bx.cell 5 _ rfl
        have lx := bx.lt
        have Bx1 := hide bx
        clear bx
        obtain ⟨lo, hlo⟩ : ∃ lo, min sent step = lo := ⟨_, rfl⟩
        obtain ⟨hi, hhi⟩ : ∃ hi, max sent step = hi := ⟨_, rfl⟩
        go_wp2
        go_quiet (fail)
        have Hlo := hide hlo
        have Hhi := hide hhi
        clear hlo hhi
        have hcnt : Cnt ss frm to ⟨step, 2, copy, fr, dst, sent, false⟩ ↔ (R = true ∧ frm ≤ lo ∧ hi < to) := by
          rw [unhide HR, ← unhide Hlo, ← unhide Hhi]
          simp [Cnt]
        have Hc := hide hcnt
        clear hcnt
        have hVb : Below wr.heap.size wr (X.drewN (q + nq)) := bdrew (unhide Al) _
        have hno : Hid (¬ (R = true ∧ frm ≤ lo ∧ hi < to) → OwA (X.drewN (q + nq)) w.heap.size u9 (arrL ss frm to (es.take (j + 1))) ∧ Below w.heap.size w (X.drewN (q + nq))) := fun hn => by
          have e : arrO ss frm to ⟨step, 2, copy, fr, dst, sent, false⟩ = [] := by unfold arrO; rw [if_neg (fun c => hn ((unhide Hc).1 c))]
          rw [unhide Hsn, e, List.append_nil]
          exact ⟨owns_below (unhide Ho) hVb, bnext (unhide Hb) hVb⟩
        cases R
        · have hres := hide (unhide hno (fun c => by cases c.1))
          clear hVb hno
          go_wp2
          go_roundw
          case rel => exact ⟨j + 1, _, by omega, rfl, by go_num, hres⟩
          case measure => show n - ((j : Int) + 1).toNat < n - ((j : Nat) : Int).toNat; omega
        · by_cases h1 : frm ≤ lo
          · by_cases h2 : hi < to
            · have hoV : OwA (X.drewN (q + nq)) w.heap.size u9 (arrL ss frm to (es.take j)) := owns_below (unhide Ho) hVb
              have hsz : w.heap.size ≤ (X.drewN (q + nq)).heap.size := Nat.le_trans (unhide Hb).size hVb.size
              obtain ⟨v', W2, hr, hown, hgr, _⟩ := append_arr (X.drewN (q + nq)) 39 w.heap.size u9 _ ⟨lo, hi, p⟩ hoV hsz (by omega)
              have hR2 : Hid (OwA W2 w.heap.size v' (arrL ss frm to (es.take (j + 1))) ∧ Below w.heap.size w W2) := by
                have e : arrO ss frm to ⟨step, 2, copy, fr, dst, sent, false⟩ = [⟨lo, hi, p⟩] := by
                  unfold arrO
                  rw [if_pos ((unhide Hc).2 ⟨rfl, h1, h2⟩), unhide Hpq rfl, ← unhide Hlo, ← unhide Hhi]
                rw [unhide Hsn, e]
                refine ⟨hown, (Kp.of_grown (N := fun k => u9.ownBlock = some k) hgr (fun k e => e)).below (ballc (bnext (unhide Hb) hVb) _) (fun i e => owns_ge hoV i e)⟩
              obtain ⟨av, cv, rfl⟩ := OwA.form hoV
              obtain ⟨a', c', rfl⟩ := OwA.form hown
              have Hr := hide hr
              have e9 : (arrL ss frm to (es.take j) ++ [(⟨lo, hi, p⟩ : Arr)]).length = (arrL ss frm to (es.take j)).length + 1 := by simp
              rw [e9] at Hr hR2
              clear hr hown hgr hoV hVb hsz e9
              go_wp2_with (at_builtin; refine wpList_append_eq rfl _ _ 39 39 rfl _ _ _ _ rfl rfl (unhide Hr) ?_)
              go_roundw
              case rel => exact ⟨j + 1, _, by omega, rfl, by go_num, hR2⟩
              case measure => show n - ((j : Int) + 1).toNat < n - ((j : Nat) : Int).toNat; omega
            · have h2' : to ≤ hi := by omega
              have hres := hide (unhide hno (fun c => by omega))
              clear hVb hno
              go_wp2
              go_roundw
              case rel => exact ⟨j + 1, _, by omega, rfl, by go_num, hres⟩
              case measure => show n - ((j : Int) + 1).toNat < n - ((j : Nat) : Int).toNat; omega
          · have h1' : lo < frm := by omega
            have hres := hide (unhide hno (fun c => by omega))
            clear hVb hno
            go_wp2
            go_roundw
            case rel => exact ⟨j + 1, _, by omega, rfl, by go_num, hres⟩
            case measure => show n - ((j : Int) + 1).toNat < n - ((j : Nat) : Int).toNat; omega
      · have hno : ∀ V, V = wr.alloc (.cells #[.int .i64 step, .int .i64 kind, .int .i64 copy, .int .i64 fr, .int .i64 dst, .int .i64 sent, .bool bad] 27) → OwA V w.heap.size u9 (arrL ss frm to (es.take (j + 1))) ∧ Below w.heap.size w V := by
          rintro V rfl
          have e : arrO ss frm to ⟨step, kind, copy, fr, dst, sent, bad⟩ = [] := by unfold arrO; rw [if_neg (fun c => hc ⟨c.1, c.2.1⟩)]
          have al := ballc (Below.refl wr.heap.size wr) (.cells #[.int .i64 step, .int .i64 kind, .int .i64 copy, .int .i64 fr, .int .i64 dst, .int .i64 sent, .bool bad] 27)
          rw [unhide Hsn, e, List.append_nil]
          exact ⟨owns_below (unhide Ho) al, bnext (unhide Hb) al⟩
        have Hno := hide hno
        clear hno
        by_cases hk : kind = 2
        · subst hk
          obtain rfl : bad = true := by cases bad <;> simp_all
          clear hc
          go_wp2
          go_roundw
          case rel => exact ⟨j + 1, _, by omega, rfl, by go_num, hide (unhide Hno _ rfl)⟩
          case measure => show n - ((j : Int) + 1).toNat < n - ((j : Nat) : Int).toNat; omega
        · clear hc
          go_wp2
          go_roundw
          case rel => exact ⟨j + 1, _, by omega, rfl, by go_num, hide (unhide Hno _ rfl)⟩
          case measure => show n - ((j : Int) + 1).toNat < n - ((j : Nat) : Int).toNat; omega
    · have hlt' : ¬ (j : Int) < (n : Int) := by omega
      obtain ⟨ho, hb⟩ := unhide HI
      obtain rfl : j = n := by omega
      rw [List.take_of_length_le (by rw [unhide Hn]; exact Nat.le_refl _)] at ho
      have hll : (arrL ss frm to es).length ≤ j := by have := arrL_len ss frm to es; rw [unhide Hn] at this; exact this
      have hsA := sortA_in w.heap.size u9 _ wr ho (by omega)
      obtain ⟨av, cv, rfl⟩ := OwA.form ho
      have HsA := hide hsA
      have Hb := hide hb
      have Hll := hide hll
      clear ho hb hsA hll HI
      go_wp2_with fail
      refine (unhide HsA).mono ?_
      rintro e W ⟨rfl, l', o1, o2, o3, o4, o5⟩
      have O1 := hide o1
      have O4 := hide o4
      have O5 := hide o5
      clear o1 o4 o5
      go_wp2
      go_ret
      refine ⟨_, l', rfl, unhide O1, o2, unhide O4, by rw [o3]; exact unhide Hll, (unhide Hb).trans (unhide O5)⟩

end Go.Proofs.Ytmglnaldpcmakaa
