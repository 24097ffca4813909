/-
  narrow, fold, Frontier.
-/
import Derived.Test.YtjiphechhfifgaaZXF5
import Derived.Deep.RegionWith
set_option linter.unusedSimpArgs false
set_option linter.unusedVariables false
namespace Go.Proofs.Ytjiphechhfifgaa
open Go.RowKit Go.Lib

set_option maxRecDepth 100000 in
set_option maxHeartbeats 2000000 in
theorem narrow_in {P : Nat → Prop} {w : World} {pv : Value} {n : Nat} {S : StF} (h : FQ P w pv n S) (k : Int) (hk : in64 k) (v : Value) (l : List (Int × Int)) (hv : RI w v l) (hl : l.length ≤ 1000000) :
    Calls Try.prog 39 #[pv, v, .int .i64 k] w fun e W => ∃ v', e = .returned v' ∧ OwD W w.heap.size v' (vec (lst (sy l) (usR S k))) ∧ Below w.heap.size w W := by
  have HF := hide (find_in h k hk)
  obtain ⟨a, c, rfl⟩ := hv.form
  have Hv := hide hv
  obtain ⟨L, hL⟩ : ∃ L, vec (lst (sy l) (usR S k)) = L := ⟨_, rfl⟩
  rw [hL]
  replace hL := hide hL
  generalize (S k).isSome = is at *
  clear h hv
  go_enter Try.func39, Try.ntmps39
  go_wp2_with fail
  refine (unhide HF).mono ?_
  rintro e W1 ⟨⟨⟨p1, n1, c1⟩, ⟨p2, n2, c2⟩⟩, rfl, e1, e2, hb⟩
  unfold rowV
  simp only
  have HC := hide (fun o => Least_in _ _ l (vec (usR S k)) (W1.alloc o) (((unhide Hv).below hb).below (ballc (Below.refl _ _) o)) ((owd_below e2.row (ballc (Below.refl _ _) o)).row) (by omega) (by have := vec_len (usR S k); omega))
  rw [sy_vec e2.good, unhide hL] at HC
  replace hb := hide hb
  clear e1 e2 HF
  unfold sv at HC
  simp only at HC
  go_wp2_with fail
  refine (unhide HC _).mono ?_
  rintro e W2 ⟨v', rfl, ho, hb2⟩
  replace ho := hide ho
  replace hb2 := hide hb2
  go_wp2
  go_ret
  refine ⟨v', rfl, OwD.base (unhide ho) ?_, bnext (ballc (unhide hb) _) (unhide hb2)⟩
  have := (unhide hb).size
  simp
  omega

/-- what of a list all of these have -/
def frL (S : StF) (ms : List Int) (l : List (Int × Int)) : List (Int × Int) := ms.foldl (fun acc k => vec (lst (sy acc) (usR S k))) l
theorem frL_snoc (S : StF) (ms : List Int) (k : Int) (l : List (Int × Int)) : frL S (ms ++ [k]) l = vec (lst (sy (frL S ms l)) (usR S k)) := by simp [frL]
theorem frL_len (S : StF) : ∀ (ms : List Int) (l : List (Int × Int)), l.length ≤ 1000000 → (frL S ms l).length ≤ 1000000
  | [], l, h => h
  | k :: ms, l, h => by
    have := vec_len (lst (sy l) (usR S k))
    exact frL_len S ms _ (show (vec (lst (sy l) (usR S k))).length ≤ 1000000 by omega)

set_option maxRecDepth 100000 in
set_option maxHeartbeats 2000000 in
theorem fold_in {P : Nat → Prop} {w : World} {pv : Value} {n B : Nat} {S : StF} (h : FQ P w pv n S) (lv : Value) (ms : List Int) (hm : RN w lv ms) (hms : ms.length ≤ 1000000) (h64 : ∀ x ∈ ms, in64 x) (v : Value) (l : List (Int × Int)) (hv : OwD w B v l) (hB : B ≤ w.heap.size) (hl : l.length ≤ 1000000) :
    Calls Try.prog 37 #[lv, v, .func (.func 39) #[pv] #[]] w fun e W => ∃ v', e = .returned v' ∧ OwD W B v' (frL S ms l) ∧ Below w.heap.size w W := by
  obtain ⟨a, c, rfl⟩ := hm.form
  obtain ⟨av, cv, rfl⟩ := OwD.form hv
  have Hm := hide hm
  have H := hide h
  have H64 := hide h64
  have Hv := hide hv
  obtain ⟨len, hlen⟩ : ∃ len, ms.length = len := ⟨_, rfl⟩
  have Hlen := hide hlen
  rw [hlen] at hms Hm ⊢
  obtain ⟨L, hL⟩ : ∃ L, frL S ms l = L := ⟨_, rfl⟩
  rw [hL]
  replace hL := hide hL
  clear hm h h64 hv hlen
  go_enter Try.func37, Try.ntmps37
  go_wp2
  go_loopw [1, 11] (fun vv iv wr => ∃ (i : Nat) (a' : Option Addr) (n' c' : Nat), iv = .int .i64 (i : Nat) ∧ i ≤ len ∧ vv = .slice a' n' c' ∧ Hid (OwD wr B (.slice a' n' c') (frL S (ms.take i) l)) ∧ Hid (Below w.heap.size w wr)) (fun _ iv _ => len - (Lib.intOf iv).toNat)
  case atStart => exact ⟨0, _, _, _, rfl, by omega, rfl, Hv, hide (Below.refl _ _)⟩
  case round =>
    obtain ⟨i, a', n', c', rfl, hi, rfl, HO, HB⟩ := hrel
    by_cases hlt : i < len
    · have hlt' : (i : Int) < (len : Int) := by omega
      have hkz : i < ms.length := by rw [unhide Hlen]; exact hlt
      obtain ⟨b, off, rfl, hb0, hc⟩ := RN.at ((unhide Hm).below (unhide HB)) (List.getElem?_eq_getElem hkz)
      have hz := (unhide HB).size
      have HN := hide (narrow_in ((unhide H).below (unhide HB)) ms[i] (unhide H64 _ (List.getElem_mem hkz)) _ _ (OwD.row (unhide HO)) (frL_len S _ l hl))
      rw [← frL_snoc, show ms.take i ++ [ms[i]] = ms.take (i + 1) by rw [List.take_add_one, List.getElem?_eq_getElem hkz]; rfl] at HN
      generalize ms[i] = x at *
      clear Hv
      go_wp2_with fail
      refine (unhide HN).mono ?_
      rintro e W1 ⟨v', rfl, ho, hb⟩
      obtain ⟨a2, c2, rfl⟩ := OwD.form ho
      have HO2 := hide (OwD.base ho (show B ≤ wr.heap.size by omega))
      have HB2 := hide (bnext (unhide HB) hb)
      clear ho hb HN HO
      go_wp2
      go_roundw
      case measure => show len - ((i : Int) + 1).toNat < len - ((i : Nat) : Int).toNat; omega
      case rel => exact ⟨i + 1, _, _, _, by go_num, by omega, rfl, HO2, HB2⟩
    · obtain rfl : i = len := by omega
      have hlt' : ¬ (i : Int) < (i : Int) := by omega
      have HO2 : Hid (OwD wr B (.slice a' n' c') L) := by
        have := unhide HO
        rw [List.take_of_length_le (by rw [unhide Hlen]; exact Nat.le_refl _), unhide hL] at this
        exact this
      clear HO
      go_wp2
      go_ret
      exact ⟨_, rfl, unhide HO2, unhide HB⟩


/-- the frontier as a row of sites -/
def frR (S : StF) (ms : List Int) (s : Nat → Int) : Nat → Int := ms.foldl (fun acc k => lst acc (usR S k)) s
theorem frR_good {S : StF} (hS : ∀ k, Good (usR S k)) : ∀ (ms : List Int) {s : Nat → Int}, Good s → Good (frR S ms s)
  | [], s, h => h
  | k :: ms, s, h => frR_good hS ms (h.lst (hS k))
theorem frR_le (S : StF) : ∀ (ms : List Int) (s : Nat → Int) (i : Nat) (x : Int), x ≤ frR S ms s i ↔ x ≤ s i ∧ ∀ k ∈ ms, x ≤ usR S k i
  | [], s, i, x => by simp [frR]
  | k :: ms, s, i, x => by
    have := frR_le S ms (lst s (usR S k)) i x
    show x ≤ frR S ms (lst s (usR S k)) i ↔ _
    rw [this]
    unfold lst
    simp only [List.mem_cons, forall_eq_or_imp]
    constructor
    · rintro ⟨h1, h2⟩; exact ⟨by omega, by omega, h2⟩
    · rintro ⟨h1, h2, h3⟩; exact ⟨by omega, h3⟩
theorem frR_set (S : StF) {ms ms' : List Int} (h : ∀ x, x ∈ ms ↔ x ∈ ms') (s : Nat → Int) : frR S ms s = frR S ms' s := by
  funext i
  have a := (frR_le S ms s i (frR S ms s i)).1 (Int.le_refl _)
  have b := (frR_le S ms' s i (frR S ms' s i)).1 (Int.le_refl _)
  have a' := (frR_le S ms' s i (frR S ms s i)).2 ⟨a.1, fun k hk => a.2 k ((h k).2 hk)⟩
  have b' := (frR_le S ms s i (frR S ms' s i)).2 ⟨b.1, fun k hk => b.2 k ((h k).1 hk)⟩
  omega
theorem frL_vec {S : StF} (hS : ∀ k, Good (usR S k)) : ∀ (ms : List Int) {s : Nat → Int}, Good s → frL S ms (vec s) = vec (frR S ms s)
  | [], s, h => rfl
  | k :: ms, s, h => by
    show frL S ms (vec (lst (sy (vec s)) (usR S k))) = vec (frR S ms (lst s (usR S k)))
    rw [sy_vec h]
    exact frL_vec hS ms (h.lst (hS k))
/-- the frontier -/
def Fro (S : StF) (ms : List Int) (self : Int) (l : List (Int × Int)) : List (Int × Int) := if chk l = 0 then vec (frR S (ms.filter fun x => !(x == self)) (sy l)) else []

end Go.Proofs.Ytjiphechhfifgaa
