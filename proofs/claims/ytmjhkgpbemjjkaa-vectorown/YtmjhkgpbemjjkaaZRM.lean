/-
  A list with a mark behind it: room, stands.
-/
import Derived.Test.YtmjhkgpbemjjkaaZV8
import Derived.Test.YtmjhkgpbemjjkaaZRF1
set_option linter.unusedSimpArgs false
set_option linter.unusedVariables false
namespace Go.Proofs.Ytmjhkgpbemjjkaa
open Go.RowKit Go.Lib

def mk1 (l : List (Int × Int)) : List (Int × Int) := l ++ [(901, 902)]
theorem mk1_len (l : List (Int × Int)) : (mk1 l).length = l.length + 1 := by simp [mk1]
/-- a row of one's own, and a mark behind it -/
def Rm (W : World) (B : Nat) (a : Option Addr) (c : Nat) (l : List (Int × Int)) : Prop := OwD W B (.slice a (mk1 l).length c) (mk1 l)
theorem Rm.row {W : World} {B : Nat} {a : Option Addr} {c : Nat} {l : List (Int × Int)} (h : Rm W B a c l) : RI W (.slice a l.length c) l := RI.take (OwD.row h)
theorem Rm.below {W W' : World} {B : Nat} {a : Option Addr} {c : Nat} {l : List (Int × Int)} (h : Rm W B a c l) (hb : Below W.heap.size W W') : Rm W' B a c l := owns_kp (N := fun _ => False) h (Kp.of_below hb) (fun _ _ h => h)
theorem Rm.cap {W : World} {B : Nat} {a : Option Addr} {c : Nat} {l : List (Int × Int)} (h : Rm W B a c l) : l.length + 1 ≤ c := by
  have e := mk1_len l
  obtain ⟨_, (⟨e1, _⟩ | ⟨g, cap, cur, e1, _, _, h1, _⟩)⟩ := h
  · simp at e1; omega
  · simp at e1
    omega
theorem sl_toD (w : World) (a : Option Addr) (n c k : Nat) (hk : k ≤ c) :
    (Instr.sliceAt 23 (.slice a n c) none (some (.int .i64 (k : Nat))) none).run Try.prog w = .ok (.slice a k c) w := by
  obtain ⟨i0, hi, hz0, hz1, hz2⟩ := info_parts infoD
  have h1 : (k : Int) ≤ (c : Int) := by omega
  simp [Instr.sliceAt, Instr.slice, run_underlying Try.underlying23, sizeOf, typeInfo, hi, hz1, go_sem, h1, hk]

theorem flat_one (l : List (Int × Int)) : ∀ u ∈ flat encI l, u.oneCell' = true := fun u hu => by
  obtain ⟨x, _, hx⟩ := flat_mem hu
  simp [encI] at hx
  rcases hx with rfl | rfl <;> rfl

set_option maxRecDepth 100000 in
set_option maxHeartbeats 1000000 in
theorem room_in (v : Value) (l : List (Int × Int)) (w : World) (h : RI w v l) (hl : l.length ≤ 4000) :
    Calls Try.prog 10 #[v] w fun e W => ∃ a c, e = .returned (.slice a l.length c) ∧ Rm W w.heap.size a c l ∧ Below w.heap.size w W := by
  obtain ⟨v1, w1, hap1, ho1, hg1⟩ := app_nil 23 25 2 16 _ undV infoD rfl (by omega) w w.heap.size 23 v l.length (flat encI l) h (by rw [flat_len encI_len]) (flat_one l) (Nat.le_refl _) (by unfold maxLen; omega) (by omega)
  have b1 : Below w.heap.size w w1 := (Below.refl _ w).grown hg1 (Nat.le_refl _) (fun k hk => by cases hk)
  obtain ⟨v2, w2, hap2, ho2, hg2, _⟩ := append_dot w1 23 w.heap.size v1 l 901 902 ho1 b1.size (by omega)
  have b2 : Below w.heap.size w w2 := (ballc b1 _).grown hg2 (ballc b1 _).size (fun k hk => (ho1.lt k hk).1)
  obtain ⟨a1, c1, rfl⟩ := owns_form ho1
  obtain ⟨a2, c2, rfl⟩ := owns_form ho2
  have HR : Rm w2 w.heap.size a2 c2 l := ho2
  have hc := HR.cap
  obtain ⟨a, c, rfl⟩ := h.form
  have hs := fun W => sl_toD W a2 (l ++ [((901 : Int), (902 : Int))]).length c2 l.length (by omega)
  replace HR := hide HR
  replace b2 := hide b2
  replace hap1 := hide hap1
  replace hap2 := hide hap2
  generalize (l ++ [((901 : Int), (902 : Int))]).length = n2 at *
  clear h ho1 ho2 hg1 hg2 b1 hc
  go_enter Try.func10, Try.ntmps10
  go_wp2_with (at_builtin; first | refine wpList_append_eq rfl _ _ 23 rfl _ _ _ _ rfl rfl (unhide hap1) ?_ | refine wpList_append_eq rfl _ _ 23 rfl _ _ _ _ rfl rfl (unhide hap2) ?_)
  go_ret
  exact ⟨a2, c2, rfl, unhide HR, unhide b2⟩

set_option maxRecDepth 100000 in
set_option maxHeartbeats 1000000 in
theorem stands_in (a : Option Addr) (c : Nat) (l : List (Int × Int)) (B : Nat) (u : Value) (w : World) (h : Rm w B a c l) (k : RI w u l) (hl : l.length ≤ 4000) :
    Calls Try.prog 28 #[.slice a l.length c, u] w fun e W => e = .returned (.bool true) ∧ Below w.heap.size w W := by
  have HS := hide (Same_in l l _ _ w h.row k (by omega) (by omega))
  rw [show decide (l = l) = true by simp] at HS
  have hc := h.cap
  obtain ⟨b, off, rfl, hb, q0, q1⟩ := RI.at (OwD.row h) (i := l.length) (x := (901, 902)) (by simp [mk1])
  obtain ⟨a', c', rfl⟩ := k.form
  clear h k
  have hs := fun W => sl_toD W (some ⟨b, off, none⟩) l.length c (l.length + 1) (by omega)
  have hq := fun W => eqD 901 902 901 902 W
  rw [show decide (((901 : Int), (902 : Int)) = (901, 902)) = true by simp] at hq
  generalize l.length = n at *
  have hn1 : (n : Int) < (n : Int) + 1 := by omega
  push_cast at hs
  go_enter Try.func28, Try.ntmps28
  go_wp2_with fail
  refine (unhide HS).mono ?_
  rintro e W1 ⟨rfl, kk, rfl⟩
  go_wp2
  go_ret
  exact ⟨rfl, bdrew (Below.refl _ _) kk⟩

end Go.Proofs.Ytmjhkgpbemjjkaa
