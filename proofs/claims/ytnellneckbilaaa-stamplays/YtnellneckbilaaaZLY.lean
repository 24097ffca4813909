/-
  The laws' own much, lay and laid.
-/
import Derived.Test.YtnellneckbilaaaZRF1
import Derived.Test.YtnellneckbilaaaZKN
import Derived.Test.YtnellneckbilaaaZOp
set_option linter.unusedSimpArgs false
set_option linter.unusedVariables false
namespace Go.Proofs.Ytnellneckbilaaa
open Go.RowKit Go.Lib

theorem RT.below {W W' : World} {v : Value} {l : List (Bool × Int × ByteArray)} (h : RT W v l) (hb : Below W.heap.size W W') : RT W' v l := RC.below h hb
theorem RT.at {W : World} {a : Option Addr} {n c : Nat} {l : List (Bool × Int × ByteArray)} (h : RT W (.slice a n c) l) {i : Nat} {x : Bool × Int × ByteArray} (hi : l[i]? = some x) : ∃ b off, a = some ⟨b, off, none⟩ ∧ b < W.heap.size ∧ W.cell? ⟨b, off + i * 3, none⟩ = some (.bool x.1) ∧ W.cell? ⟨b, off + i * 3 + 1, none⟩ = some (.int .i64 x.2.1) ∧ W.cell? ⟨b, off + i * 3 + 2, none⟩ = some (.string x.2.2) := by
  have hl := (List.getElem?_eq_some_iff.1 hi).1
  rcases h with ⟨h0, _⟩ | ⟨b, off, cap, e, h1, h2, hc⟩
  · omega
  · simp at e
    obtain ⟨rfl, _, _⟩ := e
    refine ⟨b, off, rfl, h2, ?_, ?_, ?_⟩
    · exact hc (i * 3) _ ((flat_get encT_len l i 0 x hi (by omega)).trans rfl)
    · rw [show off + i * 3 + 1 = off + (i * 3 + 1) by omega]
      exact hc (i * 3 + 1) _ ((flat_get encT_len l i 1 x hi (by omega)).trans rfl)
    · rw [show off + i * 3 + 2 = off + (i * 3 + 2) by omega]
      exact hc (i * 3 + 2) _ ((flat_get encT_len l i 2 x hi (by omega)).trans rfl)

/-- what much answers -/
def MuchR (l : List (Bool × Int × ByteArray)) (nb : Nat) (e : Ending) : Prop := ∃ b, e = .returned (.bool b) ∧ (b = false → l.length ≤ 400 ∧ nb ≤ 50000 ∧ ∀ x ∈ l, x.2.2.size ≤ 50000)

set_option maxRecDepth 100000 in
set_option maxHeartbeats 2000000 in
theorem much_in (v : Value) (l : List (Bool × Int × ByteArray)) (ab : Option Addr) (nb cb : Nat) (w : World) (h : RT w v l) :
    Calls Try.prog 27 #[v, .slice ab nb cb] w fun e W => MuchR l nb e ∧ W = w := by
  obtain ⟨a, cap, rfl⟩ := RC.form h
  have H := hide h
  obtain ⟨n, hn⟩ : ∃ n, l.length = n := ⟨_, rfl⟩
  rw [hn] at H ⊢
  have Hn := hide hn
  clear h hn
  by_cases h0 : 400 < n
  · have h0' : (400 : Int) < (n : Int) := by omega
    go_enter Try.func27, Try.ntmps27
    go_wp2
    go_ret
    exact ⟨⟨_, rfl, fun h => by cases h⟩, rfl⟩
  · have h0' : ¬ (400 : Int) < (n : Int) := by omega
    by_cases h1 : 50000 < nb
    · have h1' : (50000 : Int) < (nb : Int) := by omega
      go_enter Try.func27, Try.ntmps27
      go_wp2
      go_ret
      exact ⟨⟨_, rfl, fun h => by cases h⟩, rfl⟩
    · have h1' : ¬ (50000 : Int) < (nb : Int) := by omega
      go_enter Try.func27, Try.ntmps27
      go_wp2
      go_loopw [5, 6] (fun sv iv wr => ∃ i s : Nat, iv = .int .i64 (i : Nat) ∧ sv = .int .i64 (s : Nat) ∧ i ≤ n ∧ s ≤ i * 50000 ∧ wr = w ∧ Hid (∀ x ∈ l.take i, x.2.2.size ≤ 50000)) (fun _ iv _ => n - (Lib.intOf iv).toNat)
      case atStart => exact ⟨0, 0, rfl, rfl, by omega, by omega, rfl, hide (by simp)⟩
      case round =>
        obtain ⟨i, s, rfl, rfl, hi, hs, rfl, HS⟩ := hrel
        by_cases hlt : i < n
        · have hlt' : (i : Int) < (n : Int) := by omega
          obtain ⟨x, hx⟩ : ∃ x, l[i]? = some x := ⟨_, List.getElem?_eq_getElem (by have := unhide Hn; omega)⟩
          obtain ⟨b, off, rfl, hb, c0, c1, c2⟩ := RT.at (unhide H) hx
          obtain ⟨bt, xn, xs⟩ := x
          simp only at c0 c1 c2
          obtain ⟨z, hz⟩ : ∃ z, xs.size = z := ⟨_, rfl⟩
          by_cases hbig : 50000 < z
          · have hbig' : (50000 : Int) < (xs.size : Int) := by omega
            go_wp2
            go_ret
            exact ⟨⟨_, rfl, fun h => by cases h⟩, rfl⟩
          · have hbig' : ¬ (50000 : Int) < (xs.size : Int) := by omega
            have hbz : (xs.size : Int) ≤ 50000 := by omega
            have HS2 := hide (show ∀ x ∈ l.take (i + 1), x.2.2.size ≤ 50000 from fun x hxm => by
              rw [List.take_add_one, hx] at hxm
              simp only [Option.toList_some, List.mem_append, List.mem_singleton] at hxm
              rcases hxm with h | h
              · exact unhide HS x h
              · subst h; simp only; omega)
            have hsum : (s : Int) ≤ 20000000 := by omega
            go_wp2
            go_roundw
            case measure => show n - ((i : Int) + 1).toNat < n - ((i : Nat) : Int).toNat; omega
            case rel => exact ⟨i + 1, s + xs.size, by go_num, by go_num, by omega, by omega, by trivial, HS2⟩
        · have hlt' : ¬ (i : Int) < (n : Int) := by omega
          have HA := hide (show ∀ x ∈ l, x.2.2.size ≤ 50000 from fun x hx => unhide HS x (by rw [List.take_of_length_le (by have := unhide Hn; omega)]; exact hx))
          go_wp2
          go_ret
          exact ⟨⟨_, rfl, fun _ => ⟨by have := unhide Hn; omega, by omega, unhide HA⟩⟩, rfl⟩

/-- an item is laid behind -/
def wItm (s : List Nat × Int) (x : Bool × Int × ByteArray) : List Nat × Int := if x.1 then wTxt s x.2.2 else wNum s x.2.1
theorem wItm_len (s : List Nat × Int) (x : Bool × Int × ByteArray) (hx : x.2.2.size ≤ 50000) : (wItm s x).1.length ≤ s.1.length + 50011 := by
  unfold wItm wTxt wNum
  have h1 := num_len x.2.2.size
  have h2 := num_len x.2.1.toNat
  split
  · split
    · simp
    · simp only [List.length_append, sB_len]; omega
  · split
    · simp
    · split
      · simp
      · simp only [List.length_append]; omega

theorem num_pos (n : Nat) : 0 < (num n).length := by
  unfold num
  rw [numF]
  split <;> simp

set_option maxRecDepth 100000 in
set_option maxHeartbeats 2000000 in
theorem lay_in {w : World} {p : Nat} {v : Value} {L : List Nat} {e : Int} (bt : Bool) (n : Int) (s : ByteArray) (h : Wr w p v L e) (hn : in64 n) (hs : s.size ≤ 50000) (hL : L.length ≤ 1000000000) :
    Calls Try.prog 28 #[.pointer (some ⟨p, 0, none⟩), .agg #[.bool bt, .int .i64 n, .string s]] w fun r W => r = .returned (.tuple #[]) ∧ ∃ v', Wr W p v' (wItm (L, e) (bt, n, s)).1 (wItm (L, e) (bt, n, s)).2 ∧ Kp (wOwn p v) w W ∧ OwnAt w v v' := by
  have hb := ballc (Below.refl _ w) (.cells #[.bool bt, .int .i64 n, .string s] 57)
  have hw := h.below hb
  have HB := hide hb
  obtain ⟨n1, n2⟩ := hn
  cases bt with
  | true =>
    have HC := hide (wText_in s hw (by omega) (by omega))
    clear h hw hb
    go_enter Try.func28, Try.ntmps28
    go_wp2_with fail
    refine (unhide HC).mono ?_
    rintro r W1 ⟨rfl, v', h1, h2, h3⟩
    go_wp2
    refine bodyPost_end (results_none rfl _ _ _) rfl ?_
    exact ⟨by trivial, v', h1, (Kp.of_below (unhide HB)).trans h2 (fun i hi => .inl hi), (OwnAt.refl w v).trans h3 (unhide HB).size⟩
  | false =>
    have HC := hide (wNumber_in n hw n1 n2 (by omega))
    clear h hw hb
    go_enter Try.func28, Try.ntmps28
    go_wp2_with fail
    refine (unhide HC).mono ?_
    rintro r W1 ⟨rfl, v', h1, h2, h3⟩
    go_wp2
    refine bodyPost_end (results_none rfl _ _ _) rfl ?_
    exact ⟨by trivial, v', h1, (Kp.of_below (unhide HB)).trans h2 (fun i hi => .inl hi), (OwnAt.refl w v).trans h3 (unhide HB).size⟩

/-- whose the row is -/
def Frv (w W : World) (v v' : Value) : Prop := ∀ k, v'.ownBlock = some k → v.ownBlock = some k ∨ (w.heap.size ≤ k ∧ k < W.heap.size)

set_option maxRecDepth 100000 in
set_option maxHeartbeats 2000000 in
theorem laid_in (w : World) (v : Value) (L : List Nat) (e : Int) (bt : Bool) (n : Int) (s : ByteArray) (h : RC w v L.length (bC L)) (hn : in64 n) (hs : s.size ≤ 50000) (hL : L.length ≤ 1000000000) :
    Calls Try.prog 29 #[.agg #[v, .int .i64 e], .agg #[.bool bt, .int .i64 n, .string s]] w fun r W => ∃ v', r = .returned (.agg #[v', .int .i64 (wItm (L, e) (bt, n, s)).2]) ∧ RC W v' (wItm (L, e) (bt, n, s)).1.length (bC (wItm (L, e) (bt, n, s)).1) ∧ Frv w W v v' ∧ Below w.heap.size w W := by
  obtain ⟨n1, n2⟩ := hn
  have b1 := ballc (Below.refl _ w) (.cells #[v, .int .i64 e] 54)
  have b2 := ballc b1 (.cells #[.bool bt, .int .i64 n, .string s] 57)
  have b3 := ballc b2 (.cells #[.slice none 0 0, .int .i64 0] 54)
  have xA : Bx (((w.alloc (.cells #[v, .int .i64 e] 54)).alloc (.cells #[.bool bt, .int .i64 n, .string s] 57)).alloc (.cells #[.slice none 0 0, .int .i64 0] 54)) w.heap.size 54 #[v, .int .i64 e] := ((Bx.new w _ _).below (ballc (Below.refl _ _) _)).below (ballc (Below.refl _ _) _)
  have xB := (Bx.new (w.alloc (.cells #[v, .int .i64 e] 54)) 57 #[.bool bt, .int .i64 n, .string s]).below (ballc (Below.refl _ _) (.cells #[.slice none 0 0, .int .i64 0] 54))
  have xC := Bx.new ((w.alloc (.cells #[v, .int .i64 e] 54)).alloc (.cells #[.bool bt, .int .i64 n, .string s] 57)) 54 #[.slice none 0 0, .int .i64 0]
  rw [show (w.alloc (.cells #[v, .int .i64 e] 54)).heap.size = w.heap.size + 1 by simp] at xB
  rw [show ((w.alloc (.cells #[v, .int .i64 e] 54)).alloc (.cells #[.bool bt, .int .i64 n, .string s] 57)).heap.size = w.heap.size + 2 by simp] at xC
  obtain ⟨W3, hW3⟩ : ∃ X, (((w.alloc (.cells #[v, .int .i64 e] 54)).alloc (.cells #[.bool bt, .int .i64 n, .string s] 57)).alloc (.cells #[.slice none 0 0, .int .i64 0] 54)) = X := ⟨_, rfl⟩
  rw [hW3] at xA xB xC b3
  have cA0 := xA.cell 0 _ rfl
  have cA1 := xA.cell 1 _ rfl
  have cB0 := xB.cell 0 _ rfl
  have cB1 := xB.cell 1 _ rfl
  have cB2 := xB.cell 2 _ rfl
  have XC := hide xC
  have HB3 := hide b3
  have hR := h.below b3
  have h0 := hide h
  obtain ⟨S, hS⟩ : ∃ S, wItm (L, e) (bt, n, s) = S := ⟨_, rfl⟩
  rw [hS]
  have hfin : ∀ (W4 : World) (v' : Value), Below W3.heap.size W3 W4 → RC W4 v' S.1.length (bC S.1) → (v' = v ∧ S.1 = L ∨ W4.ownsRow W3.heap.size 5 1 v' S.1.length (bC S.1)) →
      Bx W4 (w.heap.size + 2) 54 #[.slice none 0 0, .int .i64 0] ∧ RC ((W4.setCell ⟨w.heap.size + 2, 0, none⟩ v').setCell ⟨w.heap.size + 2, 1, none⟩ (.int .i64 S.2)) v' S.1.length (bC S.1) ∧ Frv w ((W4.setCell ⟨w.heap.size + 2, 0, none⟩ v').setCell ⟨w.heap.size + 2, 1, none⟩ (.int .i64 S.2)) v v' ∧ Below w.heap.size w ((W4.setCell ⟨w.heap.size + 2, 0, none⟩ v').setCell ⟨w.heap.size + 2, 1, none⟩ (.int .i64 S.2)) ∧ Bx ((W4.setCell ⟨w.heap.size + 2, 0, none⟩ v').setCell ⟨w.heap.size + 2, 1, none⟩ (.int .i64 S.2)) (w.heap.size + 2) 54 #[v', .int .i64 S.2] := by
    intro W4 v' hb hrc hor
    have x4 := (unhide XC).below hb
    have hlt := (unhide XC).lt
    have b4 := bnext (unhide HB3) hb
    have b6 := bset (bset b4 ⟨w.heap.size + 2, 0, none⟩ (by show w.heap.size ≤ w.heap.size + 2; omega) v') ⟨w.heap.size + 2, 1, none⟩ (by show w.heap.size ≤ w.heap.size + 2; omega) (.int .i64 S.2)
    have hx6 : Bx ((W4.setCell ⟨w.heap.size + 2, 0, none⟩ v').setCell ⟨w.heap.size + 2, 1, none⟩ (.int .i64 S.2)) (w.heap.size + 2) 54 #[v', .int .i64 S.2] := by simpa using (x4.set 0 v').set 1 (.int .i64 S.2)
    refine ⟨x4, ?_, ?_, b6, hx6⟩
    · rcases hor with ⟨e1, e2⟩ | ho
      · rw [e1, e2]; rw [e1] at b6; exact (unhide h0).below b6
      · have p1 := Kp.set (N := fun k => k = w.heap.size + 2) W4 ⟨w.heap.size + 2, 0, none⟩ v' rfl
        have p2 := Kp.set (N := fun k => k = w.heap.size + 2) (W4.setCell ⟨w.heap.size + 2, 0, none⟩ v') ⟨w.heap.size + 2, 1, none⟩ (.int .i64 S.2) rfl
        exact RC.of_owns (owns_kp ho (p1.trans p2 (fun i h => .inl h)) (fun i hi e => by have := (ho.lt i hi).1; omega))
    · intro k hk
      rcases hor with ⟨e1, e2⟩ | ho
      · rw [e1] at hk; exact .inl hk
      · have h1 := ho.lt k hk
        have h2 : ((W4.setCell ⟨w.heap.size + 2, 0, none⟩ v').setCell ⟨w.heap.size + 2, 1, none⟩ (.int .i64 S.2)).heap.size = W4.heap.size := by simp
        have h4 := (unhide HB3).size
        exact .inr ⟨by omega, by rw [h2]; exact h1.2⟩
  have Hfin := hide hfin
  obtain ⟨a, c, rfl⟩ := RC.form h
  cases bt with
  | true =>
    have HC := hide (refText_in W3 _ L e s hR (by omega) hL)
    have hS' : wTxt (L, e) s = S := hS
    rw [hS'] at HC
    have HS := hide (show ∀ v', v' = Value.slice a L.length c → wTxt (L, e) s = S → True from fun _ _ _ => trivial)
    have hE := hide hS'
    clear h hR b1 b2 b3 xA xB xC hfin hS hS' HS
    go_enter Try.func29, Try.ntmps29
    go_wp2_with fail
    refine (unhide HC).mono ?_
    rintro r W4 ⟨v', rfl, h1, h2, h3⟩
    have hcases : (v' = .slice a L.length c ∧ S.1 = L ∨ W4.ownsRow W3.heap.size 5 1 v' S.1.length (bC S.1)) := by
      rcases h2 with h2 | h2
      · have h4 := h1.form
        rw [h2] at h4
        obtain ⟨a9, c9, h4⟩ := h4
        simp only [Value.slice.injEq] at h4
        have h6 := h4.2.1
        refine .inl ⟨h2, ?_⟩
        have h5 := unhide hE
        unfold wTxt at h5
        split at h5
        · rw [← h5]
        · exfalso
          rw [← h5] at h6
          have := num_pos s.size
          simp only [List.length_append] at h6
          omega
      · exact .inr h2
    obtain ⟨q1, q2, q3, q4, q5⟩ := unhide Hfin W4 v' h3 h1 hcases
    have c0 := q1.cell 0 _ rfl
    have c1 := q1.cell 1 _ rfl
    have f0 := q1.frozen 0
    have f1 := q1.frozen 1
    obtain ⟨a', c', hv'⟩ := RC.form h1
    subst hv'
    replace q1 := hide q1
    replace q2 := hide q2
    replace q3 := hide q3
    replace q4 := hide q4
    replace q5 := hide q5
    clear h1 h2 h3 hcases Hfin hW3 cA0 cA1 cB0 cB1 cB2
    go_wp2
    refine bodyPost_ret (results_cell_row rfl _ _ (w.heap.size + 2) _ _ _ _ rfl (unhide q5) Try.underlying54 rfl sizeW) rfl ?_
    exact ⟨_, rfl, unhide q2, unhide q3, unhide q4⟩
  | false =>
    have HC := hide (refNumber_in W3 _ L e n hR n1 n2 (by omega))
    have hS' : wNum (L, e) n = S := hS
    rw [hS'] at HC
    have hE := hide hS'
    clear h hR b1 b2 b3 xA xB xC hfin hS hS'
    go_enter Try.func29, Try.ntmps29
    go_wp2_with fail
    refine (unhide HC).mono ?_
    rintro r W4 ⟨v', rfl, h1, h2, h2', h3⟩
    have hcases : (v' = .slice a L.length c ∧ S.1 = L ∨ W4.ownsRow W3.heap.size 5 1 v' S.1.length (bC S.1)) := by
      have h5 := unhide hE
      unfold wNum at h5
      by_cases he : e = 0
      · by_cases hn : n < 0
        · refine .inl ⟨h2' (.inr hn), ?_⟩
          rw [← h5]
          simp [he, hn]
        · exact .inr (h2 he (by omega))
      · refine .inl ⟨h2' (.inl he), ?_⟩
        rw [← h5]
        simp [he]
    obtain ⟨q1, q2, q3, q4, q5⟩ := unhide Hfin W4 v' h3 h1 hcases
    have c0 := q1.cell 0 _ rfl
    have c1 := q1.cell 1 _ rfl
    have f0 := q1.frozen 0
    have f1 := q1.frozen 1
    obtain ⟨a', c', hv'⟩ := RC.form h1
    subst hv'
    replace q1 := hide q1
    replace q2 := hide q2
    replace q3 := hide q3
    replace q4 := hide q4
    replace q5 := hide q5
    clear h1 h2 h3 hcases Hfin hW3 cA0 cA1 cB0 cB1 cB2
    go_wp2
    refine bodyPost_ret (results_cell_row rfl _ _ (w.heap.size + 2) _ _ _ _ rfl (unhide q5) Try.underlying54 rfl sizeW) rfl ?_
    exact ⟨_, rfl, unhide q2, unhide q3, unhide q4⟩

end Go.Proofs.Ytnellneckbilaaa
