/-
  slices.BinarySearch; the number of the pair that two sites make.
-/
import Derived.Test.YtmglnaldpcmakaaZPF
import Derived.Test.YtmglnaldpcmakaaZPG
import Derived.Test.YtmglnaldpcmakaaZSh5
set_option linter.unusedSimpArgs false
set_option linter.unusedVariables false
namespace Go.Proofs.Ytmglnaldpcmakaa
open Go.RowKit Go.Lib Go.Shelf

set_option maxRecDepth 100000 in
theorem search_nil (a : Option Addr) (c : Nat) (x : Int) (w : World) : Calls Try.prog 37 #[.slice a 0 c, .int .i64 x] w fun e W => e = .returned (.tuple #[.int .i64 0, .bool false]) ∧ ∃ q, W = w.drewN q := by
  go_enter Try.func37, Try.ntmps37
  go_wp2
  go_loopw [7, 8] (fun s7 s8 wr => s7 = .int .i64 0 ∧ s8 = .int .i64 0 ∧ wr = w) (fun _ _ _ => 0)
  case atStart => exact ⟨rfl, rfl, rfl⟩
  case round =>
    obtain ⟨rfl, rfl, rfl⟩ := hrel
    go_wp2
    refine bodyPost_ret (results_tmp2 rfl _ _ _) rfl ?_
    exact ⟨rfl, 0, rfl⟩

theorem search_in {w : World} {v : Value} {ss : List Int} (h : RN w v ss) (hs : ss.Pairwise (· < ·)) (hl : ss.length ≤ 1000000) (x : Int) :
    Calls Try.prog 37 #[v, .int .i64 x] w fun e W => e = .returned (.tuple #[.int .i64 ((rk ss x : Nat) : Int), .bool (ss.contains x)]) ∧ ∃ q, W = w.drewN q := by
  rcases h with ⟨h0, a, c, rfl⟩ | ⟨b, off, cap, rfl, hn, hb, hc⟩
  · obtain rfl : ss = [] := List.eq_nil_of_length_eq_zero h0
    exact search_nil a c x w
  · refine (Any.slices_BinarySearch_int shSearch b off ss.length cap ss x w (Nat.le_refl _) (by omega) (fun j hj => hc j _ (by simp [nC, hj])) (by rw [List.take_length]; exact hs.imp (fun h => Int.le_of_lt h))).mono ?_
    rintro e W ⟨rfl, q, rfl⟩
    rw [List.take_length]
    exact ⟨rfl, q, rfl⟩

def PQ (ss : List Int) (x y : Int) (R : Bool) (p : Nat) : Prop := R = true → p = pnum ss x y
set_option maxRecDepth 100000 in
set_option maxHeartbeats 4000000 in
theorem pairOf_in {w : World} {v : Value} {ss : List Int} (h : RN w v ss) (hs : ss.Pairwise (· < ·)) (hl : ss.length ≤ 10000) (x y : Int) :
    ∀ R : Bool, R = decide (x ∈ ss ∧ y ∈ ss ∧ x ≠ y) → Calls Try.prog 25 #[v, .int .i64 x, .int .i64 y] w fun e W => (∃ p : Nat, e = .returned (.tuple #[.int .i64 (p : Nat), .bool R]) ∧ PQ ss x y R p) ∧ ∃ q, W = w.drewN q := by
  intro R hR
  have HRR := hide hR
  clear hR
  have s1 := search_in h hs (by omega) x
  have HS := hide (fun q => search_in (w := w.drewN q) (h.below (bdrew (Below.refl _ _) q)) hs (by omega) y)
  obtain ⟨a, c, rfl⟩ := h.form
  have HR := hide h
  have hx : ss.contains x = decide (x ∈ ss) := by simp
  have hy : ss.contains y = decide (y ∈ ss) := by simp
  rw [hx] at s1
  rw [hy] at HS
  have bx : rk ss x ≤ 10000 := by have := List.countP_le_length (p := (· < x)) (l := ss); unfold rk; omega
  have by' : rk ss y ≤ 10000 := by have := List.countP_le_length (p := (· < y)) (l := ss); unfold rk; omega
  clear h hx hy
  go_enter Try.func25, Try.ntmps25
  go_wp2_with fail
  refine s1.mono ?_
  rintro e W1 ⟨rfl, q1, rfl⟩
  clear s1
  have s2 := unhide HS q1
  go_wp2_with fail
  refine s2.mono ?_
  rintro e W1 ⟨rfl, q2, rfl⟩
  clear s2
  have hr : x ∈ ss → y ∈ ss → (rk ss x = rk ss y ↔ x = y) := fun h1 h2 => ⟨rk_inj hs h1 h2, fun e => by rw [e]⟩
  have hp : pnum ss x y = pnK ss.length (rk ss x) (rk ss y) := rfl
  have hm1 : x ∈ ss → rk ss x < ss.length := fun h1 => (rk_mem hs h1).1
  have hm2 : y ∈ ss → rk ss y < ss.length := fun h1 => (rk_mem hs h1).1
  clear HS HR hs
  obtain ⟨n, hn⟩ : ∃ n, ss.length = n := ⟨_, rfl⟩
  rw [hn] at hl hp hm1 hm2 ⊢
  have HP := hide hp
  clear hp hn
  generalize rk ss x = i at *
  generalize rk ss y = k at *
  by_cases hx : x ∈ ss
  · by_cases hy : y ∈ ss
    · have hik := hr hx hy
      have h1 := hm1 hx
      have h2 := hm2 hy
      clear hr hm1 hm2
      by_cases he : i = k
      · have hxy := hik.1 he
        subst he
        subst hxy
        obtain rfl : R = false := by rw [unhide HRR]; simp
        simp only [hx, decide_true]
        go_wp2
        refine bodyPost_ret (results_tmp2 rfl _ _ _) rfl ?_
        exact ⟨⟨0, rfl, fun h => by cases h⟩, _, rfl⟩
      · have hxy : x ≠ y := fun e => he (hik.2 e)
        obtain rfl : R = true := by rw [unhide HRR]; simp [hx, hy, hxy]
        simp only [hx, hy, decide_true]
        clear hik hxy
        have he' : ((i : Nat) : Int) ≠ (k : Nat) := by omega
        have em : (i : Int) * ((n : Int) - 1) = ((i * (n - 1) : Nat) : Int) := by
          rw [Int.natCast_mul, Int.natCast_sub (by omega)]; rfl
        have hm9 : i * (n - 1) ≤ 10000 * 10000 := Nat.mul_le_mul (by omega) (by omega)
        have hpn := unhide HP
        unfold pnK at hpn
        generalize i * (n - 1) = m at *
        clear HP
        have hm8 : (m : Int) ≤ 100000000 := by omega
        by_cases hki : k > i
        · have hki' : (k : Int) > (i : Int) := by omega
          rw [if_pos hki] at hpn
          have Hpn := hide hpn
          clear hpn
          have e9 : (m : Int) + ((k : Int) - 1) = ((m + (k - 1) : Nat) : Int) := by omega
          go_wp2
          refine bodyPost_ret (results_tmp2 rfl _ _ _) rfl ?_
          exact ⟨⟨m + (k - 1), by rw [Int.natCast_add]; rfl, fun _ => (unhide Hpn).symm⟩, _, rfl⟩
        · have hki' : ¬ (k : Int) > (i : Int) := by omega
          rw [if_neg hki] at hpn
          have Hpn := hide hpn
          clear hpn
          go_wp2
          refine bodyPost_ret (results_tmp2 rfl _ _ _) rfl ?_
          exact ⟨⟨m + k, by rw [Int.natCast_add]; rfl, fun _ => (unhide Hpn).symm⟩, _, rfl⟩
    · obtain rfl : R = false := by rw [unhide HRR]; simp [hy]
      simp only [hy, decide_false]
      go_wp2
      refine bodyPost_ret (results_tmp2 rfl _ _ _) rfl ?_
      exact ⟨⟨0, rfl, fun h => by cases h⟩, _, rfl⟩
  · obtain rfl : R = false := by rw [unhide HRR]; simp [hx]
    simp only [hx, decide_false]
    go_wp2
    refine bodyPost_ret (results_tmp2 rfl _ _ _) rfl ?_
    exact ⟨⟨0, rfl, fun h => by cases h⟩, _, rfl⟩

end Go.Proofs.Ytmglnaldpcmakaa
