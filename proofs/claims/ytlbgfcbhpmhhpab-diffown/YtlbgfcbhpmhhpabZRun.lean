/-
  What glyph.Encode, glyph.Runes and glyph.Text answer, and how two lists of runes are held against each other.
-/
import Derived.Test.YtlbgfcbhpmhhpabZIter
import Derived.Laws.Cover4
import Derived.Laws.IdiomStrings
import Derived.Deep.QuietTactic
import Derived.BigQuiet
import Derived.OpenShut
set_option linter.unusedSimpArgs false
set_option linter.unusedVariables false
namespace Go.Proofs.Ytlbgfcbhpmhhpab
open Go.RowKit Go.Lib

/-- the runes of a text -/
def runeL (s : ByteArray) : List Int := (allL s).map fun i => (rn s i : Int)

theorem runesFrom_eq (s : ByteArray) : ∀ (f i : Nat) (acc : Array Value), Conv.runesFrom s f i acc = acc ++ (((posL s f i).map fun i => Value.int .i32 (rn s i : Int)).toArray)
  | 0, i, acc => by simp [Conv.runesFrom, posL]
  | f + 1, i, acc => by
    unfold Conv.runesFrom
    by_cases h : i < s.size
    · rw [if_pos h, posL_step s f i h]
      have := runesFrom_eq s f (i + (Utf8.decode s i).2) (acc.push (.int .i32 (Int.ofNat (Utf8.decode s i).1)))
      simp only [this]
      simp [rn, wd]
    · rw [if_neg h, posL_end s _ i h]; simp

theorem runesFrom_all (s : ByteArray) : Conv.runesFrom s s.size 0 #[] = ((runeL s).map (Value.int .i32)).toArray := by
  rw [runesFrom_eq]; simp [runeL, allL]

theorem runeL_length (s : ByteArray) : (runeL s).length = (allL s).length := by simp [runeL]

set_option maxHeartbeats 400000 in
/-- glyph.Runes: a new row of the text's runes -/
theorem runes_in (s : ByteArray) (hs : s.size ≤ 70368744177664) (w : World) :
    Calls Try.prog 13 #[.string s] w fun e W' => ∃ v, e = .returned v ∧ W'.ownsRow w.heap.size 21 1 v (runeL s).length ((runeL s).map (Value.int .i32)) ∧ Below w.heap.size w W' ∧ (∃ cap, v = .slice (some ⟨w.heap.size, 0, none⟩) (runeL s).length cap) := by
  have hlen := allL_length s
  have hl2 := runeL_length s
  have hconv := run_runes_of_string (P := Try.prog) w 9 39 21 s Try.underlying9 Try.underlying39 Try.underlying21 (by rw [runesFrom_all]; simp; omega)
  have hsz : (Conv.runesFrom s s.size 0 #[]).size = (runeL s).length := by rw [runesFrom_all]; simp
  rw [hsz] at hconv
  have hcap := grownCap_ge w (runeL s).length 0 21
  have hcl : grownCap w (runeL s).length 0 21 ≤ maxLen := by
    have e : grownCap w (runeL s).length 0 21 = (runeL s).length + (w.tape w.drawn (Question.appendCap (runeL s).length 0 21)) % (2 ^ 63 - (runeL s).length) := rfl
    have h0 : 0 < 2 ^ 63 - (runeL s).length := by omega
    have := Nat.mod_lt (w.tape w.drawn (Question.appendCap (runeL s).length 0 21)) h0
    rw [e]
    unfold maxLen
    omega
  generalize hC : grownCap w (runeL s).length 0 21 = C at hconv hcap hcl
  clear hC
  generalize hR : Conv.runesFrom s s.size 0 #[] ++ Array.replicate (C - (runeL s).length) (Value.int .i32 0) = R at hconv
  have hRs : R.size = C * 1 := by rw [← hR]; simp [hsz]; omega
  have hRt : R.toList.take ((runeL s).length * 1) = (runeL s).map (Value.int .i32) := by rw [← hR, runesFrom_all]; simp
  have HR := hide hRs
  have HT := hide hRt
  clear hR hRs hRt hsz hl2 hlen
  go_enter Try.func13, Try.ntmps13
  go_wp2_with (simp only [hconv])
  go_ret
  refine ⟨_, rfl, ⟨by simp, .inr ⟨w.heap.size, C, R, rfl, Nat.le_refl _, ?_, hcap, hcl, unhide HR, unhide HT⟩⟩, (Below.refl _ w).drew.alloc (Nat.le_refl _) _, C, rfl⟩
  exact World.alloc_heap_new w.drew _

/-- a slice holds these numbers -/
def RS (W : World) (v : Value) (zs : List Int) : Prop :=
  (zs = [] ∧ ∃ a cap, v = .slice a 0 cap) ∨ ∃ b off cap, v = .slice (some ⟨b, off, none⟩) zs.length cap ∧ ∀ j, j < zs.length → W.cell? ⟨b, off + j, none⟩ = some (.int .i32 (zs[j]?.getD 0))

theorem RS.below {W W' : World} {v : Value} {zs : List Int} (h : Below W.heap.size W W') : RS W v zs → RS W' v zs
  | .inl e => .inl e
  | .inr ⟨b, off, cap, e, hc⟩ => .inr ⟨b, off, cap, e, fun j hj => by
      have hcj := hc j hj
      have hb : b < W.heap.size := by
        unfold World.cell? at hcj
        by_cases hlt : b < W.heap.size
        · exact hlt
        · have : W.heap[b]? = none := by simp; omega
          simp [this] at hcj
      exact (h.cell (p := ⟨b, off + j, none⟩) hb).trans hcj⟩

theorem RS.of_owns {W : World} {B e : Nat} {v : Value} {zs : List Int} (h : W.ownsRow B e 1 v zs.length (zs.map (Value.int .i32))) : RS W v zs := by
  have h0 := h
  obtain ⟨hl, (⟨rfl, hn⟩ | ⟨g, cap, cur, rfl, hbg, hg, hc1, hc2, hc3, hc4⟩)⟩ := h
  · exact .inl ⟨List.eq_nil_of_length_eq_zero hn, _, _, rfl⟩
  · refine .inr ⟨g, 0, cap, rfl, fun j hj => ?_⟩
    have := h0.cellAt j (by omega)
    rw [Nat.zero_add, this]
    simp [hj]

/-- what Go makes of a list of runes -/
theorem text_in (v : Value) (zs : List Int) (w : World) (h : RS w v zs) :
    Calls Try.prog 34 #[v] w fun e w' => e = .returned (.string (runesBytes zs)) ∧ w = w' := by
  rcases h with ⟨rfl, a, cap, rfl⟩ | ⟨b, off, cap, rfl, hc⟩
  · have hcv : (convert 39 9 (.slice a 0 cap)).run Try.prog w = .ok (.string (runesBytes [])) w := by
      cases a with
      | none => exact run_convert_runes_nil w 39 9 21 0 cap Try.underlying39 Try.underlying21 Try.underlying9
      | some x => exact run_convert_runes w 39 9 21 x 0 cap [] (Nat.le_refl _) Try.underlying39 Try.underlying21 Try.underlying9 (fun j hj => by cases hj)
    go_enter Try.func34, Try.ntmps34
    go_wp2_with (simp only [hcv])
    all_goals (go_ret; exact ⟨rfl, rfl⟩)
  · have hcv : (convert 39 9 (.slice (some ⟨b, off, none⟩) zs.length cap)).run Try.prog w = .ok (.string (runesBytes (zs.take zs.length))) w := run_convert_runes w 39 9 21 ⟨b, off, none⟩ zs.length cap zs (Nat.le_refl _) Try.underlying39 Try.underlying21 Try.underlying9 (fun j hj => by
      have := hc j hj
      by_cases hj0 : j = 0
      · subst hj0; simpa [Addr.add, List.getD] using this
      · simpa [Addr.add, List.getD, hj0] using this)
    rw [List.take_length] at hcv
    clear hc
    go_enter Try.func34, Try.ntmps34
    go_wp2_with (simp only [hcv])
    all_goals (go_ret; exact ⟨rfl, rfl⟩)

/-- what the walk is told of a slice of runes that came in -/
def IsRow (k : IntKind) (w : World) (a : Option Addr) (len cap : Nat) (zs : List Int) : Prop :=
  (a = none ∧ len = 0 ∧ cap = 0 ∧ zs = []) ∨
  ∃ x, a = some x ∧ len ≤ cap ∧ cap ≤ maxLen ∧ zs.length = cap ∧ (∀ i, i < zs.length → w.cell? (x.add i) = some (.int k (zs.getD i 0))) ∧ ∀ n ∈ zs, (Lit.int k n).wf = true

theorem IsRow.rs {w : World} {a : Option Addr} {len cap : Nat} {zs : List Int} (h : IsRow .i32 w a len cap zs) : RS w (.slice a len cap) (zs.take len) ∧ (zs.take len).length = len ∧ ∀ n ∈ zs.take len, (Lit.int .i32 n).wf = true := by
  rcases h with ⟨rfl, rfl, rfl, rfl⟩ | ⟨x, rfl, hl, hm, hz, hc, hw⟩
  · exact ⟨.inl ⟨rfl, _, _, rfl⟩, rfl, fun n hn => by cases hn⟩
  · have hlen : (zs.take len).length = len := by rw [List.length_take]; omega
    refine ⟨?_, hlen, fun n hn => hw n (List.mem_of_mem_take hn)⟩
    by_cases h0 : len = 0
    · subst h0; exact .inl ⟨by simp, _, _, rfl⟩
    · obtain ⟨b, off, rfl, hc'⟩ := ints_at hc (by omega)
      refine .inr ⟨b, off, cap, by rw [hlen], fun j hj => ?_⟩
      rw [hlen] at hj
      rw [hc' j (by omega)]
      simp [List.getD, List.getElem?_take, hj]

end Go.Proofs.Ytlbgfcbhpmhhpab
