/-
  CausalOrder: what holds from step to step.
-/
import Derived.Test.YtkkolefionbbcaaGreatZCO2
import Derived.Test.YtkkolefionbbcaaGreatZXV6
set_option linter.unusedSimpArgs false
set_option linter.unusedVariables false
namespace Go.Proofs.YtkkolefionbbcaaGreat
open Go.RowKit Go.Lib

theorem chk_TkI : ∀ (d acc : List (Int × Int)) (site : Int), TkI acc site → chkF site d = 0 → ∃ s', TkI (acc ++ d) s'
  | [], acc, site, h, _ => ⟨site, by simpa using h⟩
  | x :: d, acc, site, hI, h => by
    obtain ⟨x0, x1⟩ := x
    rw [chkF] at h
    by_cases h1 : 1 ≤ x0 ∧ x0 ≤ 16
    · rw [if_neg (by simpa using h1)] at h
      by_cases h2 : 1 ≤ x1 ∧ x1 ≤ 2147483647
      · rw [if_neg (by simpa using h2)] at h
        by_cases h3 : x0 ≤ site
        · rw [if_pos h3] at h; simp at h
        · rw [if_neg h3] at h
          obtain ⟨a, rfl⟩ : ∃ a : Nat, x0 = (a : Int) := ⟨x0.toNat, by omega⟩
          obtain ⟨b, rfl⟩ : ∃ b : Nat, x1 = (b : Int) := ⟨x1.toNat, by omega⟩
          have := chk_TkI d (acc ++ [((a : Int), (b : Int))]) a (hI.next (by omega) (by omega) (by omega) (by omega)) h
          simpa using this
      · rw [if_pos (by simpa using h2)] at h; simp at h
    · rw [if_pos (by simpa using h1)] at h; simp at h
theorem vec_of_chk {l : List (Int × Int)} (h : chk l = 0) : vec (sy l) = l := by
  obtain ⟨s, hI⟩ := chk_TkI l [] 0 TkI.none h
  have := hI.same
  simpa using this
theorem vec_mrg {l : List (Int × Int)} (h : chk l = 0) : vec (mrg (sy l) (sy [])) = l := by
  have e : mrg (sy l) (sy []) = sy l := by
    funext i
    unfold mrg
    rw [sy_nil]
    have := (sy_good l).lo i
    show max (sy l i) 0 = sy l i
    omega
  rw [e, vec_of_chk h]
/-- what waits behind i steps -/
structure OI (hold : Int) (hv : List (Int × Int)) (ws : List Opn) (ss : List Stp) (i : Nat) : Prop where
  wt : Wt hv ws
  can : ∀ x ∈ ws, canO hv x = false
  len : (ws.length : Int) ≤ hold
  from_ : ∀ x ∈ ws, ∃ j s, j < i ∧ ss[j]? = some s ∧ s.op = x
theorem OI.start (hold : Int) (h : 0 ≤ hold) (hv : List (Int × Int)) (ss : List Stp) : OI hold hv [] ss 0 := ⟨⟨DD.nil, fun o ho => (by cases ho), fun o ho => (by cases ho)⟩, fun o ho => (by cases ho), by simpa using h, fun o ho => (by cases ho)⟩
theorem OI.step {hold : Int} {hv hv' : List (Int × Int)} {ws ws' rd' : List Opn} {ss : List Stp} {i : Nat} {s : Stp} {r e : Int} (h : OI hold hv ws ss i) (hs : ss[i]? = some s) (k : OfS hold hv ws s.op r e hv' ws' rd') : OI hold hv' ws' ss (i + 1) := by
  refine ⟨k.wt, k.can, k.len, fun x hx => ?_⟩
  rcases k.sub x hx with h1 | h1
  · obtain ⟨j, s', h2, h3, h4⟩ := h.from_ x h1
    exact ⟨j, s', by omega, h3, h4⟩
  · exact ⟨i, s, by omega, hs, h1.symm⟩
/-- the Dots that wait, in their order -/
theorem OI.dots {hold : Int} {hv : List (Int × Int)} {ws : List Opn} {ss : List Stp} {i : Nat} (h : OI hold hv ws ss i) {k : Nat} {d : Int × Int} (hd : (sortI (ws.map dotO))[k]? = some d) : hasV hv d = false ∧ (∃ s ∈ ss.take i, Bad d hv s) := by
  have hm : d ∈ ws.map dotO := (sortI_perm _).mem_iff.1 (List.mem_of_getElem? hd)
  obtain ⟨x, hx, rfl⟩ := List.mem_map.1 hm
  refine ⟨h.wt.no x hx, ?_⟩
  obtain ⟨j, s, h2, h3, h4⟩ := h.from_ x hx
  refine ⟨s, List.mem_of_getElem? (i := j) (by rw [List.getElem?_take_of_lt h2]; exact h3), ?_, ?_, ?_⟩
  · rw [h4]
  · rw [h4]; exact h.wt.ok x hx
  · rw [h4]; exact h.can x hx
theorem OI.rise {hold : Int} {hv : List (Int × Int)} {ws : List Opn} {ss : List Stp} {i : Nat} (h : OI hold hv ws ss i) {k : Nat} {d d' : Int × Int} (hd : (sortI (ws.map dotO))[k]? = some d) (hd' : (sortI (ws.map dotO))[k + 1]? = some d') : d.1 < d'.1 ∨ (d.1 = d'.1 ∧ d.2 < d'.2) := by
  have hs := sortI_sorted (ws.map dotO)
  have hn : (sortI (ws.map dotO)).Nodup := (sortI_perm _).nodup_iff.2 h.wt.dd
  have l1 := (List.getElem?_eq_some_iff.1 hd).1
  have l2 := (List.getElem?_eq_some_iff.1 hd').1
  have e1 := (List.getElem?_eq_some_iff.1 hd).2
  have e2 := (List.getElem?_eq_some_iff.1 hd').2
  have h1 := List.pairwise_iff_getElem.1 hs k (k + 1) l1 l2 (by omega)
  have h2 := List.pairwise_iff_getElem.1 hn k (k + 1) l1 l2 (by omega)
  rw [e1, e2] at h1 h2
  rcases lex_tri d d' with q | q | q
  · exact q
  · exact absurd q h2
  · exact absurd q h1
theorem sl_toS (w : World) (a : Option Addr) (n c k : Nat) (hk : k ≤ c) :
    (Instr.sliceAt 24 (.slice a n c) none (some (.int .i64 (k : Nat))) none).run Tryz.prog w = .ok (.slice a k c) w := by
  have hi : Tryz.prog.info? 44 = some (Tryz.t44) := by kernel_rfl
  have hz1 : (Tryz.t44).size = 13 := by kernel_rfl
  have h1 : (k : Int) ≤ (c : Int) := by omega
  simp [Instr.sliceAt, Instr.slice, run_underlying Tryz.underlying24, sizeOf, typeInfo, hi, hz1, go_sem, h1, hk]
/-- a beginning of the script -/
theorem rs_take {W : World} {a : Option Addr} {n c k : Nat} {ss : List Stp} (h : RC W (.slice a n c) ss.length (flat encS ss)) (hn : ss.length = n) (hk : k ≤ n) : RC W (.slice a k c) (ss.take k).length (flat encS (ss.take k)) := by
  have hl : (ss.take k).length = k := by rw [List.length_take]; omega
  rw [hl]
  by_cases h0 : k = 0
  · subst h0; exact .inl ⟨rfl, _, _, rfl⟩
  rcases h with ⟨h1, _⟩ | ⟨b, off, cap, e, h1, h2, h3⟩
  · omega
  · simp only [Value.slice.injEq] at e
    obtain ⟨rfl, _, rfl⟩ := e
    refine .inr ⟨b, off, c, rfl, by omega, h2, fun j x hx => h3 j x ?_⟩
    rw [flat_take encS_len] at hx
    have := (List.getElem?_eq_some_iff.1 hx).1
    rw [List.length_take] at this
    rwa [List.getElem?_take_of_lt (by omega)] at hx
theorem rs_cap {W : World} {a : Option Addr} {n c : Nat} {ss : List Stp} (h : RC W (.slice a n c) ss.length (flat encS ss)) (hn : ss.length = n) (h0 : 0 < n) : n ≤ c := by
  rcases h with ⟨h1, _⟩ | ⟨b, off, cap, e, h1, h2, h3⟩
  · omega
  · simp only [Value.slice.injEq] at e
    omega

end Go.Proofs.YtkkolefionbbcaaGreat
