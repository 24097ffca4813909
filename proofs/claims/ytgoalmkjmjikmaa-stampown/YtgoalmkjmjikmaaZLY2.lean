/-
  The laws' own much, lay and laid.
-/
import Derived.Test.YtgoalmkjmjikmaaZRF0
import Derived.Test.YtgoalmkjmjikmaaZKN
import Derived.Test.YtgoalmkjmjikmaaZOp
set_option linter.unusedSimpArgs false
set_option linter.unusedVariables false
namespace Go.Proofs.Ytgoalmkjmjikmaa
open Go.RowKit Go.Lib

theorem RT.below {W W' : World} {v : Value} {l : List (Bool × Int × ByteArray)} (h : RT W v l) (hb : Below W.heap.size W W') : RT W' v l := RC.below h hb
theorem RT.at {W : World} {a : Option Addr} {n c : Nat} {l : List (Bool × Int × ByteArray)} (h : RT W (.slice a n c) l) {i : Nat} {x : Bool × Int × ByteArray} (hi : l[i]? = some x) : ∃ b off, a = some ⟨b, off, none⟩ ∧ b < W.heap.size ∧ W.cell? ⟨b, off + i * 3, none⟩ = some (.bool x.1) ∧ W.cell? ⟨b, off + i * 3 + 1, none⟩ = some (.int .i64 x.2.1) ∧ W.cell? ⟨b, off + i * 3 + 2, none⟩ = some (.string x.2.2) := by
  have hl := (List.getElem?_eq_some_iff.1 hi).1
  rcases h with ⟨h0, _⟩ | ⟨b, off, cap, e, h1, h2, hc⟩
  · omega
  · simp at e
    obtain ⟨rfl, _, _⟩ := e
    refine ⟨b, off, rfl, h2, ?_, ?_, ?_⟩
    · exact hc (i * 3) _ ((flat_get encT_len l i 0 x hi (by omega)).trans rfl)
    · rw [show off + i * 3 + 1 = off + (i * 3 + 1) by omega]
      exact hc (i * 3 + 1) _ ((flat_get encT_len l i 1 x hi (by omega)).trans rfl)
    · rw [show off + i * 3 + 2 = off + (i * 3 + 2) by omega]
      exact hc (i * 3 + 2) _ ((flat_get encT_len l i 2 x hi (by omega)).trans rfl)

/-- what much answers -/
def MuchR (l : List (Bool × Int × ByteArray)) (nb : Nat) (e : Ending) : Prop := ∃ b, e = .returned (.bool b) ∧ (b = false → l.length ≤ 400 ∧ nb ≤ 50000 ∧ ∀ x ∈ l, x.2.2.size ≤ 50000)

set_option maxRecDepth 100000 in
set_option maxHeartbeats 2000000 in
theorem much_in (v : Value) (l : List (Bool × Int × ByteArray)) (ab : Option Addr) (nb cb : Nat) (w : World) (h : RT w v l) :
    Calls Try.prog 19 #[v, .slice ab nb cb] w fun e W => MuchR l nb e ∧ W = w := by
  obtain ⟨a, cap, rfl⟩ := RC.form h
  have H := hide h
  obtain ⟨n, hn⟩ : ∃ n, l.length = n := ⟨_, rfl⟩
  rw [hn] at H ⊢
  have Hn := hide hn
  clear h hn
  by_cases h0 : 400 < n
  · have h0' : (400 : Int) < (n : Int) := by omega
    go_enter Try.func19, Try.ntmps19
    go_wp2
    go_ret
    exact ⟨⟨_, rfl, fun h => by cases h⟩, rfl⟩
  · have h0' : ¬ (400 : Int) < (n : Int) := by omega
    by_cases h1 : 50000 < nb
    · have h1' : (50000 : Int) < (nb : Int) := by omega
      go_enter Try.func19, Try.ntmps19
      go_wp2
      go_ret
      exact ⟨⟨_, rfl, fun h => by cases h⟩, rfl⟩
    · have h1' : ¬ (50000 : Int) < (nb : Int) := by omega
      go_enter Try.func19, Try.ntmps19
      go_wp2
      go_loopw [5, 6] (fun sv iv wr => ∃ i s : Nat, iv = .int .i64 (i : Nat) ∧ sv = .int .i64 (s : Nat) ∧ i ≤ n ∧ s ≤ i * 50000 ∧ wr = w ∧ Hid (∀ x ∈ l.take i, x.2.2.size ≤ 50000)) (fun _ iv _ => n - (Lib.intOf iv).toNat)
      case atStart => exact ⟨0, 0, rfl, rfl, by omega, by omega, rfl, hide (by simp)⟩
      case round =>
        obtain ⟨i, s, rfl, rfl, hi, hs, rfl, HS⟩ := hrel
        by_cases hlt : i < n
        · have hlt' : (i : Int) < (n : Int) := by omega
          obtain ⟨x, hx⟩ : ∃ x, l[i]? = some x := ⟨_, List.getElem?_eq_getElem (by have := unhide Hn; omega)⟩
          obtain ⟨b, off, rfl, hb, c0, c1, c2⟩ := RT.at (unhide H) hx
          obtain ⟨bt, xn, xs⟩ := x
          simp only at c0 c1 c2
          obtain ⟨z, hz⟩ : ∃ z, xs.size = z := ⟨_, rfl⟩
          by_cases hbig : 50000 < z
          · have hbig' : (50000 : Int) < (xs.size : Int) := by omega
            go_wp2
            go_ret
            exact ⟨⟨_, rfl, fun h => by cases h⟩, rfl⟩
          · have hbig' : ¬ (50000 : Int) < (xs.size : Int) := by omega
            have hbz : (xs.size : Int) ≤ 50000 := by omega
            have HS2 := hide (show ∀ x ∈ l.take (i + 1), x.2.2.size ≤ 50000 from fun x hxm => by
              rw [List.take_add_one, hx] at hxm
              simp only [Option.toList_some, List.mem_append, List.mem_singleton] at hxm
              rcases hxm with h | h
              · exact unhide HS x h
              · subst h; simp only; omega)
            have hsum : (s : Int) ≤ 20000000 := by omega
            go_wp2
            go_roundw
            case measure => show n - ((i : Int) + 1).toNat < n - ((i : Nat) : Int).toNat; omega
            case rel => exact ⟨i + 1, s + xs.size, by go_num, by go_num, by omega, by omega, by trivial, HS2⟩
        · have hlt' : ¬ (i : Int) < (n : Int) := by omega
          have HA := hide (show ∀ x ∈ l, x.2.2.size ≤ 50000 from fun x hx => unhide HS x (by rw [List.take_of_length_le (by have := unhide Hn; omega)]; exact hx))
          go_wp2
          go_ret
          exact ⟨⟨_, rfl, fun _ => ⟨by have := unhide Hn; omega, by omega, unhide HA⟩⟩, rfl⟩

/-- an item is laid behind -/
def wItm (s : List Nat × Int) (x : Bool × Int × ByteArray) : List Nat × Int := if x.1 then wTxt s x.2.2 else wNum s x.2.1
theorem wItm_len (s : List Nat × Int) (x : Bool × Int × ByteArray) (hx : x.2.2.size ≤ 50000) : (wItm s x).1.length ≤ s.1.length + 50011 := by
  unfold wItm wTxt wNum
  have h1 := num_len x.2.2.size
  have h2 := num_len x.2.1.toNat
  split
  · split
    · simp
    · simp only [List.length_append, sB_len]; omega
  · split
    · simp
    · split
      · simp
      · simp only [List.length_append]; omega

theorem num_pos (n : Nat) : 0 < (num n).length := by
  unfold num
  rw [numF]
  split <;> simp

set_option maxRecDepth 100000 in
set_option maxHeartbeats 2000000 in
theorem lay_in {w : World} {p : Nat} {v : Value} {L : List Nat} {e : Int} (bt : Bool) (n : Int) (s : ByteArray) (h : Wr w p v L e) (hn : in64 n) (hs : s.size ≤ 50000) (hL : L.length ≤ 1000000000) :
    Calls Try.prog 21 #[.pointer (some ⟨p, 0, none⟩), .agg #[.bool bt, .int .i64 n, .string s]] w fun r W => r = .returned (.tuple #[]) ∧ ∃ v', Wr W p v' (wItm (L, e) (bt, n, s)).1 (wItm (L, e) (bt, n, s)).2 ∧ Kp (wOwn p v) w W ∧ OwnAt w v v' := by
  have hb := ballc (Below.refl _ w) (.cells #[.bool bt, .int .i64 n, .string s] 53)
  have hw := h.below hb
  have HB := hide hb
  obtain ⟨n1, n2⟩ := hn
  cases bt with
  | true =>
    have HC := hide (wText_in s hw (by omega) (by omega))
    clear h hw hb
    go_enter Try.func21, Try.ntmps21
    go_wp2_with fail
    refine (unhide HC).mono ?_
    rintro r W1 ⟨rfl, v', h1, h2, h3⟩
    go_wp2
    refine bodyPost_end (results_none rfl _ _ _) rfl ?_
    exact ⟨by trivial, v', h1, (Kp.of_below (unhide HB)).trans h2 (fun i hi => .inl hi), (OwnAt.refl w v).trans h3 (unhide HB).size⟩
  | false =>
    have HC := hide (wNumber_in n hw n1 n2 (by omega))
    clear h hw hb
    go_enter Try.func21, Try.ntmps21
    go_wp2_with fail
    refine (unhide HC).mono ?_
    rintro r W1 ⟨rfl, v', h1, h2, h3⟩
    go_wp2
    refine bodyPost_end (results_none rfl _ _ _) rfl ?_
    exact ⟨by trivial, v', h1, (Kp.of_below (unhide HB)).trans h2 (fun i hi => .inl hi), (OwnAt.refl w v).trans h3 (unhide HB).size⟩

end Go.Proofs.Ytgoalmkjmjikmaa
