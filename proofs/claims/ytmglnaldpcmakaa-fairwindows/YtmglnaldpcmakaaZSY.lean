/-
  The iterator of windows; fair.windows; Bound.
-/
import Derived.Test.YtmglnaldpcmakaaZSX
set_option linter.unusedSimpArgs false
set_option linter.unusedVariables false
namespace Go.Proofs.Ytmglnaldpcmakaa
open Go.RowKit Go.Lib Go.Shelf
namespace Sk

set_option maxRecDepth 100000 in
set_option maxHeartbeats 2000000 in
theorem windows_none (yv : Value) (bp bc bf : Nat) (N m : Nat) (a : Option Addr) (c : Nat) (W : World) (hN : N = 0 ∨ m < N) (hm : m ≤ 1000000) (hN9 : N ≤ 1000000000) (cp : W.cell? ⟨bp, 0, none⟩ = some (.int .i64 (N : Nat))) (cc : W.cell? ⟨bc, 0, none⟩ = some (.slice a m c)) :
    Calls Try.prog 29 #[yv, .pointer (some ⟨bp, 0, none⟩), .pointer (some ⟨bc, 0, none⟩), .pointer (some ⟨bf, 0, none⟩)] W fun e W' => e = .returned (.tuple #[]) ∧ W' = W := by
  by_cases h0 : N = 0
  · subst h0
    go_enter Try.func29, Try.ntmps29
    go_step3
    go_wp2
    first | simp only [Exit.noGoto] | skip
    refine bodyPost_ret (results_none rfl _ _ _) rfl ?_
    exact ⟨rfl, rfl⟩
  · have h1 : m < N := by omega
    have h2 : (m : Int) < (N : Int) := by omega
    have h3 : ((N : Int) == 0) = false := by rw [beq_eq_false_iff_ne]; omega
    clear hN h0
    go_enter Try.func29, Try.ntmps29
    go_step3
    go_wp2
    first | simp only [Exit.noGoto] | skip
    refine bodyPost_ret (results_none rfl _ _ _) rfl ?_
    exact ⟨rfl, rfl⟩

/-- what the windows are, by how many pairs and arrivals there are -/
def LsW (N : Nat) (frm : Int) (came : List Arr) (L : List (Int × Int)) : Prop := (N = 0 ∨ came.length < N) ∧ L = [] ∨ 0 < N ∧ N ≤ came.length ∧ IsP N frm came L

def argW (x : Int × Int) : Array Value := #[.agg #[.int .i64 x.1, .int .i64 x.2]]
theorem windows_seq (bp bc bf : Nat) (N : Nat) (frm : Int) (cv : Value) (came : List Arr) (L : List (Int × Int)) (w0 : World) (hN9 : N ≤ 1000000000) (hl : came.length ≤ 1000000) (hpr : ∀ x ∈ came, x.pair < N) (hla : ∀ x ∈ came, -9223372036854775808 ≤ x.last ∧ x.last + 1 ≤ 9223372036854775807) (hL : LsW N frm came L) :
    SeqK (Kw bp bc bf N frm cv came) 3 29 #[.pointer (some ⟨bp, 0, none⟩), .pointer (some ⟨bc, 0, none⟩), .pointer (some ⟨bf, 0, none⟩)] argW L w0 := by
  intro l J Jx W hW hJ hJx hK hY h0 n
  refine callsIn_wide.2 ?_
  rcases hL with ⟨hn, rfl⟩ | ⟨h1, h2, h3⟩
  · have k := hK _ _ h0
    obtain ⟨a, c, rfl⟩ := k.row.form
    refine (windows_none _ bp bc bf N came.length a c W hn hl hN9 k.cp k.cc).mono ?_
    rintro e W' ⟨rfl, rfl⟩
    exact ⟨⟨_, rfl⟩, .inl ⟨h0, Nat.le_refl _⟩⟩
  · refine (windows_yl l bp bc bf N frm cv came L (fun pre W1 => J pre W1 ∧ W.heap.size ≤ W1.heap.size) Jx W h1 h2 hl hpr hla h3 (fun pre W1 h => hK pre W1 h.1) ?_ ?_ ⟨h0, Nat.le_refl _⟩).mono ?_
    · rintro s A B row ⟨hA, hz⟩ hg hr
      exact ⟨hJ s A B row hA hg hr, Nat.le_trans hz hg.size⟩
    · rintro pre x rest W1 hp hz ⟨h, hz2⟩ m
      obtain ⟨fn, tmps, assign, body, h1, h2⟩ := hY pre x rest W1 hp hz h m
      refine ⟨fn, tmps, assign, body, h1, h2.mono ?_⟩
      rintro e W' ⟨b, rfl, hb, hq⟩
      refine ⟨b, rfl, ?_, hq⟩
      cases b with
      | true => exact ⟨hb, Nat.le_trans hz2 hq.size⟩
      | false => exact hb
    · rintro e W' ⟨rfl, (h | h)⟩
      · exact ⟨⟨_, rfl⟩, .inl h⟩
      · exact ⟨⟨_, rfl⟩, .inr h⟩

set_option maxRecDepth 100000 in
theorem windows_in (w : World) (a : Option Addr) (n c : Nat) (N : Nat) (frm : Int) : Calls Try.prog 18 #[.slice a n c, .int .i64 (N : Nat), .int .i64 frm] w fun e W => e = .returned (.func (.func 29) #[] #[.pointer (some ⟨w.heap.size + 1, 0, none⟩), .pointer (some ⟨w.heap.size, 0, none⟩), .pointer (some ⟨w.heap.size + 2, 0, none⟩)]) ∧
    Bx W w.heap.size 39 #[.slice a n c] ∧ Bx W (w.heap.size + 1) 3 #[.int .i64 (N : Nat)] ∧ Bx W (w.heap.size + 2) 3 #[.int .i64 frm] ∧ Below w.heap.size w W ∧ W.heap.size = w.heap.size + 3 := by
  have hmf : ∀ (fn : Fn) (first cap : Array Value) (w : World), (Instr.makeFunc fn first cap).run Try.prog w = .ok (.func fn first cap) w := fun _ _ _ _ => rfl
  go_enter Try.func18, Try.ntmps18
  go_wp2
  go_ret
  have x0 := Bx.new w 39 #[.slice a n c]
  have b0 := ballc (Below.refl w.heap.size w) (.cells #[.slice a n c] 39)
  have z0 : (w.alloc (.cells #[.slice a n c] 39)).heap.size = w.heap.size + 1 := by simp
  generalize w.alloc (.cells #[.slice a n c] 39) = X at *
  have x1 := Bx.new X 3 #[.int .i64 (N : Nat)]
  have b1 := ballc (Below.refl X.heap.size X) (.cells #[.int .i64 (N : Nat)] 3)
  have z1 : (X.alloc (.cells #[.int .i64 (N : Nat)] 3)).heap.size = X.heap.size + 1 := by simp
  generalize X.alloc (.cells #[.int .i64 (N : Nat)] 3) = Y at *
  have x2 := Bx.new Y 3 #[.int .i64 frm]
  have b2 := ballc (Below.refl Y.heap.size Y) (.cells #[.int .i64 frm] 3)
  have z2 : (Y.alloc (.cells #[.int .i64 frm] 3)).heap.size = Y.heap.size + 1 := by simp
  generalize Y.alloc (.cells #[.int .i64 frm] 3) = Z at *
  rw [z0] at x1
  rw [z1, z0] at x2
  exact ⟨rfl, (x0.below b1).below b2, x1.below b2, x2, bnext (bnext b0 b1) b2, by omega⟩

theorem Bound_in (x : Int) (w : World) : Calls Try.prog 13 #[.int .i64 x] w fun e W => e = .returned (.int .i64 (2 * min (max x 0) 2147483647)) ∧ W = w := by
  have h1 : 0 ≤ min (max x 0) 2147483647 := by omega
  have h2 : min (max x 0) 2147483647 ≤ 2147483647 := by omega
  go_enter Try.func13, Try.ntmps13
  go_wp2
  go_ret
  exact ⟨rfl, rfl⟩

end Sk
end Go.Proofs.Ytmglnaldpcmakaa
