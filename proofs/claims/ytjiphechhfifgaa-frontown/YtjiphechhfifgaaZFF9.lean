/-
  Frontier.
-/
import Derived.Test.YtjiphechhfifgaaZFF8
import Derived.Test.YtjiphechhfifgaaZVC
set_option linter.unusedSimpArgs false
set_option linter.unusedVariables false
namespace Go.Proofs.Ytjiphechhfifgaa
open Go.RowKit Go.Lib

def FnA (w : World) (L : List (Int × Int)) (e : Ending) (W : World) : Prop := ∃ v', e = .returned v' ∧ OwD W w.heap.size v' L ∧ Below w.heap.size w W
def OthB (w W : World) (ms : List Int) (self : Int) (e : Ending) (W' : World) : Prop := ∃ a' c' l', e = .returned (.slice a' l'.length c') ∧ Hid (OwN W' w.heap.size (.slice a' l'.length c') l' ∧ l'.length ≤ ms.length ∧ ∀ x, x ∈ l' ↔ x ∈ ms ∧ x ≠ self) ∧ Hid (Below W.heap.size W W') ∧ Hid (Below w.heap.size w W')
def ClB (w W : World) (l : List (Int × Int)) (e : Ending) (W' : World) : Prop := ∃ a' c', e = .returned (.slice a' l.length c') ∧ Hid (OwD W' w.heap.size (.slice a' l.length c') l) ∧ Hid (Below W.heap.size W W') ∧ Hid (Below w.heap.size w W')

set_option maxRecDepth 100000 in
set_option maxHeartbeats 8000000 in
theorem Frontier_in {P : Nat → Prop} {w : World} {b n : Nat} {S : StF} (h : FR P w b n S) (mv : Value) (ms : List Int) (hm : RN w mv ms) (hms : ms.length ≤ 1000000) (h64 : ∀ x ∈ ms, in64 x) (self : Int) (v : Value) (l : List (Int × Int)) (hv : RI w v l) (hl : l.length ≤ 1000000) :
    Calls Try.prog 19 #[.pointer (some ⟨b, 0, none⟩), mv, .int .i64 self, v] w (FnA w (Fro S ms self l)) := by
  have hG := fun k => (h.good k).2
  obtain ⟨hpb, pv, hbx, hq⟩ := h
  obtain ⟨a, c, rfl⟩ := hv.form
  obtain ⟨am, cm, rfl⟩ := hm.form
  have HC := hide (Check_in _ l w hv (by omega))
  obtain ⟨ck, hck⟩ : ∃ ck, chk l = ck := ⟨_, rfl⟩
  rw [hck] at HC
  have Hck := hide hck
  have Hv := hide hv
  have Hm := hide hm
  have Hbx := hide hbx
  have Hq := hide hq
  have H64 := hide h64
  have HG := hide hG
  obtain ⟨L, hL⟩ : ∃ L, Fro S ms self l = L := ⟨_, rfl⟩
  rw [hL]
  replace hL := hide hL
  clear hv hm hbx hq h64 hG hck
  by_cases h0 : ck = 0
  rotate_left
  · have h0' : (ck == 0) = false := by simpa using h0
    have h0'' : (ck != 0) = true := by simpa using h0
    go_enter Try.func19, Try.ntmps19
    go_wp2_with fail
    refine (unhide HC).mono ?_
    rintro e W1 ⟨rfl, hb⟩
    have R : Hid (FnA w L (.returned (.slice none 0 0)) W1) := by
      refine ⟨_, rfl, ?_, hb⟩
      rw [← unhide hL]
      unfold Fro
      rw [if_neg (by rw [unhide Hck]; exact h0)]
      exact World.ownsRow_nil _ _ _ _
    clear hb HC
    go_wp2
    go_ret
    exact unhide R
  subst h0
  go_enter Try.func19, Try.ntmps19
  go_wp2_with fail
  refine (unhide HC).mono ?_
  rintro e W1 ⟨rfl, hb⟩
  have HB := hide hb
  have HBd := hide (hb.drew)
  have HO : Hid (∀ W, Hid (Below w.heap.size w W) → Calls Try.prog 38 #[.slice am ms.length cm, .int .i64 self] W (OthB w W ms self)) := fun W hW => by
    refine (others_in W _ ms self ((unhide Hm).below (unhide hW)) hms).mono ?_
    rintro e W' ⟨v', l', rfl, ho, hb', h1, h2⟩
    obtain ⟨a', c', rfl⟩ := ho.form
    refine ⟨a', c', l', rfl, ⟨?_, h1, h2⟩, hb', bnext (unhide hW) hb'⟩
    obtain ⟨q1, q2⟩ := ho
    refine ⟨q1, q2.imp id ?_⟩
    rintro ⟨g, cap, cur, e1, e2, e3⟩
    exact ⟨g, cap, cur, e1, by have := (unhide hW).size; omega, e3⟩
  have HL : Hid (∀ W, Hid (Below w.heap.size w W) → Calls Try.prog 33 #[.slice a l.length c] W (ClB w W l)) := fun W hW => by
    refine (Clone_in _ l W ((unhide Hv).below (unhide hW)) hl).mono ?_
    rintro e W' ⟨v', rfl, ho, hb'⟩
    obtain ⟨a', c', rfl⟩ := OwD.form ho
    exact ⟨a', c', rfl, OwD.base ho (unhide hW).size, hb', bnext (unhide hW) hb'⟩
  have HFo : Hid (∀ W, Hid (Below w.heap.size w W) → ∀ (a' : Option Addr) (c' : Nat) (l' : List Int) (a2 : Option Addr) (c2 : Nat), Hid (OwN W w.heap.size (.slice a' l'.length c') l' ∧ l'.length ≤ ms.length ∧ ∀ x, x ∈ l' ↔ x ∈ ms ∧ x ≠ self) → Hid (OwD W w.heap.size (.slice a2 l.length c2) l) → Calls Try.prog 37 #[.slice a' l'.length c', .slice a2 l.length c2, .func (.func 39) #[pv] #[]] W (FnA w L)) := fun W hW a' c' l' a2 c2 hO hD => by
    obtain ⟨h1, h2, h3⟩ := unhide hO
    refine (fold_in ((unhide Hq).below (unhide hW)) _ l' h1.row (by omega) (fun x hx => unhide H64 x ((h3 x).1 hx).1) _ l (unhide hD) (unhide hW).size hl).mono ?_
    rintro e W' ⟨v', rfl, ho, hb'⟩
    refine ⟨v', rfl, ?_, bnext (unhide hW) hb'⟩
    have e0 : vec (sy l) = l := vec_of_chk (unhide Hck)
    have e1 : frL S l' l = L := by
      rw [← unhide hL]
      unfold Fro
      rw [if_pos (unhide Hck)]
      conv => lhs; rw [← e0]
      rw [frL_vec (unhide HG) l' (sy_good l)]
      congr 1
      refine frR_set S (fun x => ?_) _
      rw [h3 x, List.mem_filter]
      simp
    rw [e1] at ho
    exact ho
  have c0 := hide (fun W (hW : Below w.heap.size w W) => ((unhide Hbx).below hW).cell 0 _ rfl)
  have c1 := unhide c0 W1 hb
  have hmf : ∀ (fn : Fn) (first cap : Array Value) (w : World), (Instr.makeFunc fn first cap).run Try.prog w = .ok (.func fn first cap) w := fun _ _ _ _ => rfl
  clear hb HC
  go_wp2
  go_region_with (first
    | (go_at_call 38; refine (unhide HO _ (by first | assumption | exact (unhide HBd))).mono ?_; rintro e W8 ⟨a8, c8, l8, rfl, hO8, hI8, hX8⟩; have k8 := unhide c0 W8 (unhide hX8); clear HO)
    | (go_at_call 33; refine (unhide HL _ (by first | assumption | exact (unhide HBd))).mono ?_; rintro e W9 ⟨a9, c9, rfl, hO9, hI9, hX9⟩; have k9 := unhide c0 W9 (unhide hX9); clear HL)
    | (go_at_call 37; refine (unhide HFo _ (by assumption) _ _ _ _ _ (by first | exact hO8 | exact hide ⟨owns_kp (N := fun _ => False) (unhide hO8).1 (Kp.of_below (unhide hI9)) (fun _ _ e => e), (unhide hO8).2⟩) (by first | exact hO9 | exact hide (owd_below (unhide hO9) (unhide hI8)))).mono ?_; rintro e W7 ⟨v7, rfl, hO7, hB7⟩; have R := hide (show FnA w L (.returned v7) W7 from ⟨v7, rfl, hO7, hB7⟩); obtain ⟨a7, c7, rfl⟩ := OwD.form hO7; clear hO7 hB7 HFo))
  all_goals
    go_wp2
    go_ret
    exact unhide R

theorem Frontier_nil (mv : Value) (self : Int) (a : Option Addr) (n c : Nat) (w : World) : Calls Try.prog 19 #[.pointer none, mv, .int .i64 self, .slice a n c] w fun e W => e = .returned (.slice none 0 0) ∧ w = W := by
  go_enter Try.func19, Try.ntmps19
  go_wp2
  go_ret
  exact ⟨rfl, rfl⟩

end Go.Proofs.Ytjiphechhfifgaa
