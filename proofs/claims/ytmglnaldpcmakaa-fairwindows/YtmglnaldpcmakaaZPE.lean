/-
  Pure: the numbers of pairs; what arrives, told of the events.
-/
import Derived.Test.YtmglnaldpcmakaaZPB
set_option linter.unusedSimpArgs false
set_option linter.unusedVariables false
namespace Go.Proofs.Ytmglnaldpcmakaa
open Go.RowKit Go.Lib

/-- how many of some are less -/
def rk (ss : List Int) (x : Int) : Nat := ss.countP (· < x)
theorem rk_at : ∀ {ss : List Int}, ss.Pairwise (· < ·) → ∀ {i : Nat} {x : Int}, ss[i]? = some x → rk ss x = i
  | [], _, i, x, h => by simp at h
  | y :: r, hs, 0, x, h => by
    simp at h; subst h
    unfold rk
    rw [List.countP_eq_zero]
    intro z hz
    rcases List.mem_cons.1 hz with rfl | hz
    · simp
    · have := (List.pairwise_cons.1 hs).1 z hz
      simp; omega
  | y :: r, hs, i + 1, x, h => by
    rw [List.getElem?_cons_succ] at h
    have hx : x ∈ r := List.mem_of_getElem? h
    have hy := (List.pairwise_cons.1 hs).1 x hx
    have ih := rk_at (List.pairwise_cons.1 hs).2 h
    unfold rk at ih ⊢
    rw [List.countP_cons, ih]
    simp [hy]
theorem rk_mem {ss : List Int} (hs : ss.Pairwise (· < ·)) {x : Int} (h : x ∈ ss) : rk ss x < ss.length ∧ ss[rk ss x]? = some x := by
  obtain ⟨i, hi⟩ := List.mem_iff_getElem?.1 h
  rw [rk_at hs hi]
  exact ⟨(List.getElem?_eq_some_iff.1 hi).1, hi⟩
theorem rk_inj {ss : List Int} (hs : ss.Pairwise (· < ·)) {x y : Int} (hx : x ∈ ss) (hy : y ∈ ss) (h : rk ss x = rk ss y) : x = y := by
  have h1 := (rk_mem hs hx).2
  have h2 := (rk_mem hs hy).2
  rw [h] at h1
  rw [h1] at h2
  simpa using h2

/-- the number of the pair i, k of n -/
def pnK (n i k : Nat) : Nat := i * (n - 1) + (if k > i then k - 1 else k)
theorem pnK_lt {n i k : Nat} (hi : i < n) (hk : k < n) (hik : i ≠ k) : pnK n i k < n * (n - 1) := by
  unfold pnK
  have : (if k > i then k - 1 else k) < n - 1 := by split <;> omega
  have h2 : i * (n - 1) + (n - 1) = (i + 1) * (n - 1) := by rw [Nat.add_mul, Nat.one_mul]
  have h3 : (i + 1) * (n - 1) ≤ n * (n - 1) := Nat.mul_le_mul_right _ hi
  omega
theorem pnK_inj {n i k i' k' : Nat} (hi : i < n) (hk : k < n) (hik : i ≠ k) (hi' : i' < n) (hk' : k' < n) (hik' : i' ≠ k') (h : pnK n i k = pnK n i' k') : i = i' ∧ k = k' := by
  unfold pnK at h
  have h1 : (if k > i then k - 1 else k) < n - 1 := by split <;> omega
  have h2 : (if k' > i' then k' - 1 else k') < n - 1 := by split <;> omega
  have d : ∀ a r, r < n - 1 → (a * (n - 1) + r) / (n - 1) = a ∧ (a * (n - 1) + r) % (n - 1) = r := fun a r hr => by
    rw [Nat.mul_comm, Nat.mul_add_div (by omega), Nat.div_eq_of_lt hr, Nat.mul_add_mod, Nat.mod_eq_of_lt hr]
    exact ⟨Nat.add_zero _, rfl⟩
  have a1 := d i _ h1
  have a2 := d i' _ h2
  rw [h] at a1
  have e1 : i = i' := a1.1.symm.trans a2.1
  have e2 := a1.2.symm.trans a2.2
  subst e1
  refine ⟨rfl, ?_⟩
  split at e2 <;> split at e2 <;> omega
theorem pnK_onto {n p : Nat} (hp : p < n * (n - 1)) : ∃ i k, i < n ∧ k < n ∧ i ≠ k ∧ pnK n i k = p := by
  have h0 : 0 < n - 1 := by
    rcases Nat.eq_zero_or_pos (n - 1) with h | h
    · rw [h] at hp; omega
    · exact h
  have h1 : p / (n - 1) < n := Nat.div_lt_of_lt_mul (by rw [Nat.mul_comm]; exact hp)
  have h2 : p % (n - 1) < n - 1 := Nat.mod_lt _ h0
  have h3 := Nat.div_add_mod p (n - 1)
  rw [Nat.mul_comm] at h3
  by_cases h : p % (n - 1) < p / (n - 1)
  · refine ⟨p / (n - 1), p % (n - 1), h1, by omega, by omega, ?_⟩
    unfold pnK
    rw [if_neg (by omega)]
    exact h3
  · refine ⟨p / (n - 1), p % (n - 1) + 1, h1, by omega, by omega, ?_⟩
    unfold pnK
    rw [if_pos (by omega)]
    exact h3
def pnum (ss : List Int) (a b : Int) : Nat := pnK ss.length (rk ss a) (rk ss b)

/-- an event that may count in a window -/
abbrev Cnt (ss : List Int) (frm to : Int) (e : Ev) : Prop := e.kind = 2 ∧ e.bad = false ∧ (e.frm ∈ ss ∧ e.dst ∈ ss ∧ e.frm ≠ e.dst) ∧ frm ≤ min e.sent e.step ∧ max e.sent e.step < to
def arrO (ss : List Int) (frm to : Int) (e : Ev) : List Arr := if Cnt ss frm to e then [⟨min e.sent e.step, max e.sent e.step, pnum ss e.frm e.dst⟩] else []
def arrL (ss : List Int) (frm to : Int) (es : List Ev) : List Arr := es.flatMap (arrO ss frm to)
theorem arrL_mem {ss : List Int} {frm to : Int} {es : List Ev} {x : Arr} : x ∈ arrL ss frm to es ↔ ∃ e ∈ es, Cnt ss frm to e ∧ x = ⟨min e.sent e.step, max e.sent e.step, pnum ss e.frm e.dst⟩ := by
  unfold arrL
  rw [List.mem_flatMap]
  constructor
  · rintro ⟨e, he, hx⟩
    unfold arrO at hx
    split at hx
    · rename_i hc
      exact ⟨e, he, hc, by simpa using hx⟩
    · simp at hx
  · rintro ⟨e, he, hc, rfl⟩
    exact ⟨e, he, by unfold arrO; rw [if_pos hc]; simp⟩
theorem arrL_len (ss : List Int) (frm to : Int) : ∀ es : List Ev, (arrL ss frm to es).length ≤ es.length
  | [] => Nat.le_refl _
  | e :: es => by
    have := arrL_len ss frm to es
    unfold arrL at this ⊢
    rw [List.flatMap_cons, List.length_append, List.length_cons]
    have : (arrO ss frm to e).length ≤ 1 := by unfold arrO; split <;> simp
    omega

theorem sev_two {lv ss : List Int} (hs : ss.Pairwise (· < ·)) (hm : ∀ a, a ∈ ss ↔ a ∈ lv) : Sev lv ↔ 2 ≤ ss.length := by
  constructor
  · rintro ⟨a, ha, b, hb, e⟩
    have h1 := rk_mem hs ((hm a).2 ha)
    have h2 := rk_mem hs ((hm b).2 hb)
    by_cases h : ss.length ≤ 1
    · exact absurd (rk_inj hs ((hm a).2 ha) ((hm b).2 hb) (by omega)) e
    · omega
  · intro h
    have h0 : ss[0]? = some (ss[0]'(by omega)) := List.getElem?_eq_getElem _
    have h1 : ss[1]? = some (ss[1]'(by omega)) := List.getElem?_eq_getElem _
    refine ⟨ss[0]'(by omega), (hm _).1 (List.getElem_mem _), ss[1]'(by omega), (hm _).1 (List.getElem_mem _), fun e => ?_⟩
    have r0 := rk_at hs h0
    have r1 := rk_at hs h1
    rw [e] at r0
    omega
theorem pos_two {n : Nat} (h : 2 ≤ n) : 0 < n * (n - 1) := Nat.mul_pos (by omega) (by omega)

theorem cameP_of {es : List Ev} {lv ss : List Int} {frm to : Int} {came : List Arr} (hs : ss.Pairwise (· < ·)) (hm : ∀ a, a ∈ ss ↔ a ∈ lv) (hn : 2 ≤ ss.length) (hp : ∀ x, x ∈ came ↔ x ∈ arrL ss frm to es) (ho : came.Pairwise (fun x y => x.last ≤ y.last)) :
    CameP es lv (ss.length * (ss.length - 1)) frm to came := by
  have hc : ∀ x ∈ came, ∃ e ∈ es, Cnt ss frm to e ∧ x = ⟨min e.sent e.step, max e.sent e.step, pnum ss e.frm e.dst⟩ := fun x hx => arrL_mem.1 ((hp x).1 hx)
  refine ⟨pos_two hn, fun x hx => ?_, fun x hx => ?_, fun x hx => ?_, ho, fun f t hf ht => ⟨fun h p hpn => ?_, fun h => ?_⟩⟩
  · obtain ⟨e, _, _, rfl⟩ := hc x hx
    show min e.sent e.step ≤ max e.sent e.step
    omega
  · obtain ⟨e, _, ⟨_, _, _, h, _⟩, rfl⟩ := hc x hx
    exact h
  · obtain ⟨e, _, ⟨_, _, _, _, h⟩, rfl⟩ := hc x hx
    exact h
  · obtain ⟨i, k, hi, hk, hik, rfl⟩ := pnK_onto hpn
    have gi : ss[i]? = some ss[i] := List.getElem?_eq_getElem hi
    have gk : ss[k]? = some ss[k] := List.getElem?_eq_getElem hk
    have mi : ss[i] ∈ ss := List.getElem_mem _
    have mk : ss[k] ∈ ss := List.getElem_mem _
    have ri := rk_at hs gi
    have rk' := rk_at hs gk
    have hne : ss[i] ≠ ss[k] := fun e => hik (by rw [← ri, ← rk', e])
    rcases h.2 _ ((hm _).1 mi) _ ((hm _).1 mk) with e | ⟨e, he, h1, h2, h3, h4, h5, h6, h7, h8⟩
    · exact absurd e hne
    · refine ⟨_, (hp _).2 (arrL_mem.2 ⟨e, he, ⟨h1, h2, ⟨by rw [h3]; exact mi, by rw [h4]; exact mk, by rw [h3, h4]; exact hne⟩, by omega, by omega⟩, rfl⟩), ?_, ?_, ?_⟩
      · show pnum ss e.frm e.dst = _
        rw [h3, h4]
        unfold pnum
        rw [ri, rk']
      · show f ≤ min e.sent e.step
        omega
      · show max e.sent e.step < t
        omega
  · have lt : f < t := by
      obtain ⟨x, hx, _, h1, h2⟩ := h 0 (pos_two hn)
      obtain ⟨e, _, _, rfl⟩ := hc x hx
      simp only [] at h1 h2
      omega
    refine ⟨lt, fun a ha b hb => ?_⟩
    by_cases hab : a = b
    · exact .inl hab
    · right
      have ma := (hm a).2 ha
      have mb := (hm b).2 hb
      have ra := rk_mem hs ma
      have rb := rk_mem hs mb
      have hne : rk ss a ≠ rk ss b := fun e => hab (rk_inj hs ma mb e)
      obtain ⟨x, hx, h1, h2, h3⟩ := h (pnum ss a b) (pnK_lt ra.1 rb.1 hne)
      obtain ⟨e, he, ⟨k1, k2, ⟨k3, k4, k5⟩, _, _⟩, rfl⟩ := hc x hx
      simp only [] at h1 h2 h3
      have re := rk_mem hs k3
      have rd := rk_mem hs k4
      obtain ⟨q1, q2⟩ := pnK_inj re.1 rd.1 (fun e' => k5 (rk_inj hs k3 k4 e')) ra.1 rb.1 hne h1
      exact ⟨e, he, k1, k2, rk_inj hs k3 ma q1, rk_inj hs k4 mb q2, by omega, by omega, by omega, by omega⟩

end Go.Proofs.Ytmglnaldpcmakaa
