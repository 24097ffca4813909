/-
  What glyph.Mend answers: the text's runes encoded.
-/
import Derived.Test.YtlbgfcbhpmhhpaaZUtf
import Derived.Test.YtlbgfcbhpmhhpaaZBad
import Derived.Test.YtlbgfcbhpmhhpaaZShelf
set_option linter.unusedSimpArgs false
set_option linter.unusedVariables false
namespace Go.Proofs.Ytlbgfcbhpmhhpaa
open Go.RowKit Go.Lib Go.Shelf

attribute [local go_sem] Oper.semAt_some

theorem builderAtF_kept {T e : TypeId} {B b : Nat} {p : Value} {bs : List Value} {W W' : World} {row : Option Nat} (h : BuilderAtF T e B b p bs W) (hg : W.grownBy W' row)
    (hr : ∀ r, row = some r → ∃ o : Obj, W.heap[r]? = some o ∧ o.isCells = false) : BuilderAtF T e B b p bs W' := by
  obtain ⟨hB, v, hb, hown, hne⟩ := h
  have keep : ∀ {k : Nat} {c : Array Value} {t : TypeId} {fz : Nat × Nat}, W.heap[k]? = some (.cells c t fz) → W'.heap[k]? = some (.cells c t fz) := by
    intro k c t fz hk
    have hlt : k < W.heap.size := (Array.getElem?_eq_some_iff.1 hk).1
    refine (hg.block k hlt (fun e1 => ?_)).trans hk
    obtain ⟨o, ho, hc⟩ := hr k e1.symm
    rw [hk] at ho
    cases ho
    cases hc
  refine ⟨hB, v, keep hb, ⟨hown.1, ?_⟩, hne⟩
  rcases hown.2 with hn | ⟨g, cap, cur, fz, hv, hbg, hgg, rest⟩
  · exact .inl hn
  · exact .inr ⟨g, cap, cur, fz, hv, hbg, keep hgg, rest⟩

theorem isBuilderF_own {β : Type} (T e : TypeId) (B b : Nat) (f : β → List Value) : Own (fun s W => IsBuilderF T e B b (f s) W) := fun s W W' row hs hg hr =>
  hs.elim (fun x => .inl (builderAtF_kept x hg hr)) (fun x => .inr (builderAtF_kept x hg hr))

theorem others_keeps {e : TypeId} {b : Nat} {W W' : World} (h : OthersKept e (some b) W W') (hs : W.heap.size ≤ W'.heap.size) (hb : ∃ c t fz, W.heap[b]? = some (.cells c t fz)) : KeepsOthers W W' :=
  ⟨hs, fun k o hk ho => h k o hk (fun e1 => by
    obtain ⟨c, t, fz, hb⟩ := hb
    cases e1
    rw [hb] at hk
    cases hk
    cases ho) (fun c fz e1 => by subst e1; cases ho)⟩

theorem builder_block {T e : TypeId} {B b : Nat} {bs : List Value} {W : World} (h : IsBuilderF T e B b bs W) : ∃ c t fz, W.heap[b]? = some (.cells c t fz) := by
  rcases h with ⟨_, v, hb, _⟩ | ⟨_, v, hb, _⟩
  · exact ⟨_, _, _, hb⟩
  · exact ⟨_, _, _, hb⟩

theorem encL_le (r : Int) : (encL r).length ≤ 4 := by have := encode_size_le r; simpa [encL, bL] using this
theorem encP_le (s : ByteArray) (l : List Nat) : (encP s l).length ≤ 4 * l.length := by
  induction l with
  | nil => simp [encP]
  | cons i l ih =>
    have := encL_le (rn s i : Nat)
    simp [encP] at ih ⊢
    omega
theorem encP_snoc (s : ByteArray) (l : List Nat) (i : Nat) : encP s (l ++ [i]) = encP s l ++ encL (rn s i : Nat) := by simp [encP]

set_option maxRecDepth 100000 in
set_option maxHeartbeats 2000000 in
theorem mend_in (s : ByteArray) (hs : s.size ≤ 35184372088832) (w : World) :
    Calls Try.prog 24 #[.string s] w fun e W' => e = .returned (.string (runesBytes (runeL s))) ∧ Below w.heap.size w W' := by
  refine (callsIn_wide (n := 6)).1 ?_
  have hlen := allL_length s
  by_cases hbad : firstBad s (allL s) < 0
  · have hgood : ∀ i ∈ allL s, okR s i = true := by
      intro i hi
      cases ho : okR s i with
      | true => rfl
      | false =>
        exfalso
        unfold firstBad at hbad
        cases hf : (allL s).find? (fun i => !okR s i) with
        | none => have := List.find?_eq_none.1 hf i hi; rw [ho] at this; simp at this
        | some j => rw [hf] at hbad; simp at hbad; omega
    have he := hide (mend_good s hgood)
    clear hgood
    refine callsIn_of_wp_marks Try.func24 rfl trivial ?_ rfl
    simp only [Try.ntmps24, List.size_toArray, List.length_cons, List.length_nil, Nat.reduceAdd, Nat.reduceSub, Array.replicate_succ, Array.replicate_zero, List.push_toArray, List.append_toArray, List.nil_append, List.cons_append]
    gi_wp2_with (refine ⟨trivial, ?_⟩; gi_at_call 21; refine (callsIn_wide.2 (badAt_in s (by omega) _)).mono ?_; rintro e w' ⟨rfl, hB⟩)
    exact ⟨_, results_tmp rfl _ _ _, by rw [unhide he]; rfl, hB⟩
  · refine callsIn_of_wp_marks Try.func24 rfl trivial ?_ rfl
    simp only [Try.ntmps24, List.size_toArray, List.length_cons, List.length_nil, Nat.reduceAdd, Nat.reduceSub, Array.replicate_succ, Array.replicate_zero, List.push_toArray, List.append_toArray, List.nil_append, List.cons_append]
    gi_wp2_with (first | (refine ⟨trivial, ?_⟩; gi_at_call 21; refine (callsIn_wide.2 (badAt_in s (by omega) _)).mono ?_; rintro e W1 ⟨rfl, hB1⟩) | (refine ⟨trivial, ?_⟩; gi_at_call 40; refine (all_in Fence.wide _ trivial rfl _ _).mono ?_; rintro e w' ⟨rfl, rfl⟩))
    clear hbad
    have hsz := hB1.size
    have I0 : IsBuilderF 63 5 W1.heap.size W1.heap.size [] (W1.alloc (.cells #[.pointer none, .slice none 0 0] 63)) := IsBuilderF.of (fresh_isBuilder 63 5 W1)
    have bN := Boxed.new (W1.alloc (.cells #[.pointer none, .slice none 0 0] 63)) 9 (.string s)
    rw [World.size_alloc] at bN
    have hB0 : Below W1.heap.size W1 ((W1.alloc (.cells #[.pointer none, .slice none 0 0] 63)).alloc (.cells #[.string s] 9)) := ((Below.refl _ W1).alloc (Nat.le_refl _) _).alloc (by simp) _
    refine wpIn_rangeFunc_ownG rfl (by decide) (gf := 52) (lb := #[.pointer (some ⟨W1.heap.size + 1, 0, none⟩)]) rfl trivial (enters_of Try.func52 (by kernel_rfl) rfl)
      (all_stops Fence.wide 5 trivial rfl (by decide) (W1.heap.size + 1) s _ (by simp) bN.cell) walksK_t walksK_b (Below.refl _ _) (fun _ => rfl)
      (fun pre W => IsBuilderF 63 5 W1.heap.size W1.heap.size (byteCells (encP s (pre.map (·.1)))) W ∧ Below W1.heap.size W1 W)
      (fun _ _ _ => False)
      (OwnFrom.and (Own.from (isBuilderF_own 63 5 W1.heap.size W1.heap.size (fun pre : List (Pl s) => byteCells (encP s (pre.map (·.1))))) _) (ownFrom_below (Nat.le_refl _) (by simp; omega)))
      (fun _ _ _ _ _ hs _ _ => hs)
      ⟨I0.alloc _, hB0⟩
      (fun x => { tmps := #[.string s, undef, .string ⟨#[]⟩, .pointer (some ⟨W1.heap.size, 0, none⟩), undef, .int .i32 (rn s x.1 : Nat), .string s, .int .i64 (firstBad s (allL s)), .bool (decide (firstBad s (allL s) < 0)), undef, .string s, .func (.func 52) #[] #[.pointer (some ⟨W1.heap.size + 1, 0, none⟩)], .int .i64 (x.1 : Nat), .int .i32 (rn s x.1 : Nat), undef, undef, undef, undef], defers := [] }) ?assign ?body ?done ?stop
    case assign =>
      intro l x W K hK
      gi_wp2
      exact hK
    case body =>
      rintro l pre x W ⟨hI, hB⟩ hlt
      have hel := encP_le s (pre.map (·.1))
      have hle := encode_size_le (rn s x.1 : Nat)
      have hbs : (byteCells (encP s (pre.map (·.1)))).length + (Utf8.encode (rn s x.1 : Nat)).size ≤ 140737488355328 := by
        rw [byteCells_length]; rw [List.length_map] at hel; omega
      have Hbs := hide hbs
      clear hbs hel hle
      gi_wp2_with (first | (refine ⟨trivial, ?_⟩; gi_at_call 42; refine (CallsIn.inRound l (callsIn_wide.2 (encode_any _ _))).mono ?_; rintro e w' ⟨rfl, rfl⟩) | (refine ⟨trivial, ?_⟩; gi_at_call 34; refine (CallsIn.inRound l (callsIn_wide.2 (writeString_k W1.heap.size W1.heap.size _ _ _ hI (unhide Hbs) hB.size))).mono ?_; rintro e w' ⟨rfl, hI', hB', hK'⟩))
      have hko := others_keeps hK' hB'.size (builder_block hI)
      refine ⟨hko.from _, hko.walks, ?_, hB.trans hB'⟩
      refine Or.inr ?_
      rw [List.map_append, List.map_singleton, encP_snoc, byteCells_append]
      exact hI'
    case done =>
      rintro D ys W hD hys ⟨hI, hB⟩ hK
      rw [hys] at hI
      have he : runesBytes (runeL s) = ⟨(encP s (allL s)).toArray⟩ := by rw [runesBytes_eq, runeL_bytes]
      have He := hide he
      clear he
      gi_wp2_with (refine ⟨trivial, ?_⟩; gi_at_call 35; refine (callsIn_wide.2 (string_any_k W1.heap.size W1.heap.size _ _ hI hB.size)).mono ?_; rintro e w' ⟨rfl, hB', hK'⟩)
      have hKD := hK' D _ hK (by intro e1; cases e1; simp at hD; omega) (fun c fz e1 => by cases e1)
      refine ⟨by simp, .inl ⟨_, _, rfl, run_takeDeferred hKD, ?_⟩⟩
      exact ⟨_, results_tmp rfl _ _ _, by rw [unhide He]; rfl, (hB1.trans ((hB.trans hB').mono hsz)).trans (belowK_b (w := w) (Nat.le_refl _) _ D _ _ (by simp at hD; omega) hKD rfl rfl)⟩
    case stop =>
      rintro D c pre W _ _ h _
      exact h.elim

end Go.Proofs.Ytlbgfcbhpmhhpaa
