/-
  What Due leaves, of each timer by itself; what it answers, by Next and Off (pure).
-/
import Derived.Test.YtknomhgglmgciaaZAK1
set_option linter.unusedSimpArgs false
set_option linter.unusedVariables false
namespace Go.Proofs.Ytknomhgglmgciaa

/-- a timer behind Due -/
def aft (ms now : Int) (x : Tm) : Tm := if x.due ≤ now then again ms now x else x
def afterL (ms now : Int) (L : List Tm) : List Tm := L.map (aft ms now)
theorem aft_key (ms now : Int) (x : Tm) : (aft ms now x).key = x.key := by
  unfold aft
  split
  · rfl
  · rfl
theorem cnt_zero {now : Int} {L : List Tm} (h : cntL now L = 0) : ∀ x ∈ L, now < x.due := by
  intro x hx
  by_cases hd : x.due ≤ now
  · have := cnt_pos hx hd; omega
  · omega
theorem after_same {ms now : Int} {L : List Tm} (h : ∀ x ∈ L, now < x.due) : afterL ms now L = L := by
  unfold afterL
  conv => rhs; rw [← List.map_id L]
  refine List.map_congr_left fun x hx => ?_
  unfold aft
  rw [if_neg (by have := h x hx; omega)]
  rfl
theorem min_all {now : Int} {L : List Tm} {x : Tm} (hm : minL L = some x) (h : now < x.due) : ∀ y ∈ L, now < y.due := by
  intro y hy
  have := (minL_some hm).2 y hy
  rw [ltT_no] at this
  omega
theorem dueL_spec {ls ms now : Int} (hw : 0 ≤ now ∧ now ≤ 2147483647) : ∀ (f : Nat) (L : List Tm), GL ls ms L → cntL now L ≤ f → (dueL ms now f L).2 = afterL ms now L ∧ ∀ k, k ∈ (dueL ms now f L).1 ↔ ∃ x ∈ L, x.key = k ∧ x.due ≤ now
  | 0, L, g, hc => by
    have h0 := cnt_zero (by omega : cntL now L = 0)
    refine ⟨(after_same h0).symm, fun k => ?_⟩
    constructor
    · intro h; cases h
    · rintro ⟨x, hx, _, hd⟩
      have := h0 x hx
      omega
  | f + 1, L, g, hc => by
    rw [dueL]
    split
    · rename_i e
      rw [minL_none e]
      exact ⟨rfl, fun k => ⟨fun h => (by cases h), fun ⟨x, hx, _⟩ => (by cases hx)⟩⟩
    · rename_i x e
      have hx := (minL_some e).1
      split
      · rename_i hd
        have hcu := cntL_upd g.nod hx hd (y := again ms now x) rfl (again_due g hx now)
        obtain ⟨h1, h2⟩ := dueL_spec hw f (updL L (again ms now x)) (g.again hx hw) (by omega)
        simp only
        refine ⟨?_, fun k => ?_⟩
        · rw [h1]
          unfold afterL updL
          rw [List.map_map]
          refine List.map_congr_left fun y hy => ?_
          simp only [Function.comp]
          by_cases ek : y.key = (again ms now x).key
          · rw [if_pos ek]
            have : y = x := nod_eq g.nod hy hx ek
            subst this
            unfold aft
            rw [if_pos hd, if_neg (by have := again_due g hx now; omega)]
          · rw [if_neg ek]
        · rw [List.mem_cons, h2]
          constructor
          · rintro (rfl | ⟨y, hy, e1, e2⟩)
            · exact ⟨x, hx, rfl, hd⟩
            · rcases updL_mem hy with rfl | ⟨hy, _⟩
              · have := again_due g hx now; omega
              · exact ⟨y, hy, e1, e2⟩
          · rintro ⟨y, hy, e1, e2⟩
            by_cases ek : y.key = x.key
            · exact .inl (by rw [← e1, ek])
            · exact .inr ⟨y, List.mem_map.2 ⟨y, hy, by rw [if_neg (show ¬ y.key = (again ms now x).key from ek)]⟩, e1, e2⟩
      · rename_i hd
        have h0 := min_all e (by omega : now < x.due)
        refine ⟨(after_same h0).symm, fun k => ?_⟩
        constructor
        · intro h; cases h
        · rintro ⟨y, hy, _, hd'⟩
          have := h0 y hy
          omega
theorem du_spec {ls ms now : Int} {L : List Tm} (hw : 0 ≤ now ∧ now ≤ 2147483647) (g : GL ls ms L) : (duA ms now L).2 = afterL ms now L ∧ ∀ k, k ∈ (duA ms now L).1 ↔ ∃ x ∈ L, x.key = k ∧ x.due ≤ now := by
  unfold duA
  rw [if_pos (show tickB now = true by unfold tickB; simp; exact hw)]
  exact dueL_spec hw L.length L g (cntL_le _ _)
theorem after_len (ms now : Int) (L : List Tm) : (afterL ms now L).length = L.length := by unfold afterL; simp
theorem after_gt {ls ms now : Int} {L : List Tm} (g : GL ls ms L) : ∀ x ∈ afterL ms now L, now < x.due := by
  intro x hx
  obtain ⟨y, hy, rfl⟩ := List.mem_map.1 hx
  unfold aft
  split
  · exact again_due g hy now
  · omega
theorem du_again {ms now : Int} {L : List Tm} (h : ∀ x ∈ L, now < x.due) : duA ms now L = ([], L) := by
  unfold duA
  split
  · exact dueL_end (fun x hx => h x (minL_some hx).1)
  · rfl

/-- taken away one by one: the others wait as Due's loop has them -/
structure TkI (ls ms now : Int) (L : List Tm) (ks : List Int) (B : List Tm) (M : List Tm) : Prop where
  du : DuI ms now L ks M
  gl : GL ls ms M
  same : ∀ x, x.due ≤ now → (x ∈ M ↔ x ∈ B)
theorem TkI.start {ls ms now : Int} {L : List Tm} (g : GL ls ms L) : TkI ls ms now L [] L L := ⟨DuI.start _ _ _, g, fun _ _ => Iff.rfl⟩
theorem TkI.more {ls ms now : Int} {L B M : List Tm} {ks : List Int} (hw : 0 ≤ now ∧ now ≤ 2147483647) (h : TkI ls ms now L ks B M) (gB : GL ls ms B) {x : Tm} (hm : minL B = some x) (hd : x.due ≤ now) : ∃ M', TkI ls ms now L (ks ++ [x.key]) (offL B x.key) M' := by
  have hxB := (minL_some hm).1
  have hxM := (h.same x hd).2 hxB
  have hmM : minL M = some x := by
    refine minL_is h.gl.nod hxM fun y hy => ?_
    by_cases hy2 : y.due ≤ now
    · exact (minL_some hm).2 y ((h.same y hy2).1 hy)
    · rw [ltT_no]; omega
  refine ⟨updL M (again ms now x), h.du.more h.gl hmM hd, h.gl.again hxM hw, fun y hy => ?_⟩
  rw [offL_mem]
  constructor
  · intro hu
    rcases updL_mem hu with rfl | ⟨h1, h2⟩
    · have := again_due h.gl hxM now; omega
    · exact ⟨(h.same y hy).1 h1, h2⟩
  · rintro ⟨h1, h2⟩
    exact List.mem_map.2 ⟨y, (h.same y hy).2 h1, by rw [if_neg (show ¬ y.key = (again ms now x).key from h2)]⟩
theorem TkI.fin {ls ms now : Int} {L B M : List Tm} {ks : List Int} (hw : 0 ≤ now ∧ now ≤ 2147483647) (h : TkI ls ms now L ks B M) (hend : ∀ x, minL B = some x → now < x.due) : (duA ms now L).1 = ks := by
  have hB : ∀ x ∈ B, now < x.due := by
    intro x hx
    cases e : minL B with
    | none => rw [minL_none e] at hx; cases hx
    | some y => exact min_all e (hend y e) x hx
  have := h.du.fin (fun x hx => by
    by_cases hd : x.due ≤ now
    · have := hB x ((h.same x hd).1 (minL_some hx).1); omega
    · omega)
  unfold duA
  rw [if_pos (show tickB now = true by unfold tickB; simp; exact hw), this]

end Go.Proofs.Ytknomhgglmgciaa
