/-
  What glyph.All and glyph.Back go through when a function is handed to them.
-/
import Derived.Test.YtnejgbjidonpiaaIter
import Derived.Test.YtnejgbjidonpiaaSync
set_option linter.unusedSimpArgs false
set_option linter.unusedVariables false
namespace Go.Proofs.Ytnejgbjidonpiaa
open Go.RowKit Go.Lib Go.Shelf

/-- a function handed in, at a piece: it goes on, or says no more -/
def GoesOn (fc : Nat) (caps : Array Value) (s : ByteArray) (L : List Nat) (J Jx : List Nat → World → Prop) : Prop :=
  ∀ pre i rest W1, pre ++ i :: rest = L → i < s.size → J pre W1 → Calls Try.prog fc (#[.int .i64 (i : Nat), .int .i32 (rn s i : Nat)] ++ caps) W1 fun e W' =>
    (e = .returned (.bool true) ∧ J (pre ++ [i]) W' ∧ KeepsWalks W1 W') ∨ (e = .returned (.bool false) ∧ Jx (pre ++ [i]) W')

set_option maxRecDepth 100000 in
set_option maxHeartbeats 2000000 in
theorem all1_clo (fc : Nat) (caps : Array Value) (Bs : Nat) (s : ByteArray) (J Jx : List Nat → World → Prop) (W : World) (hJ : AbidesFrom W.heap.size J)
    (he : ∀ args w, (callFunc fc args).run Try.prog w = .ok (.enter fc args) w)
    (hY : GoesOn fc caps s (allL s) J Jx) (hBs : W.cell? ⟨Bs, 0, none⟩ = some (.string s)) (h0 : J [] W) :
    Calls Try.prog 41 #[.func (.func fc) #[] caps, .pointer (some ⟨Bs, 0, none⟩)] W fun e W' => e = .returned (.tuple #[]) ∧ (J (allL s) W' ∨ ∃ pre, (∃ rest, pre ++ rest = allL s) ∧ Jx pre W') := by
  go_enter Try.func41, Try.ntmps41
  go_wp2
  go_loopw [] (fun wr => ∃ (pos f : Nat) (pre : List Nat), wr.heap[W.heap.size]? = some (.stringIter s pos) ∧ Hid (pre ++ posL s f pos = allL s) ∧ s.size ≤ pos + f ∧ J pre wr)
    (fun wr => s.size - wr.iterPos W.heap.size)
  case atStart =>
    exact ⟨0, s.size, [], World.iter_heap W s 0, hide rfl, by omega, hJ _ _ _ none h0 (World.grownBy_alloc W _ none) (fun r e => by cases e)⟩
  case round =>
    obtain ⟨pos, f, pre, hit, hacc, hfu, hJs⟩ := hrel
    by_cases hp : pos < s.size
    · have hnx : ∀ ty, (Instr.next (.pointer (some ⟨W.heap.size, 0, none⟩)) true ty).run Try.prog wr = .ok (.tuple #[.bool true, .int .i64 (pos : Nat), .int .i32 (rn s pos : Nat)]) (wr.iterAt W.heap.size s (pos + wd s pos)) := fun ty => Lib.run_next_any_at wr W.heap.size s pos ty hit hp
      have hwd := wd_pos s pos hp
      have hit2 := Lib.iterAt_heap wr W.heap.size s pos (pos + wd s pos) hit
      obtain ⟨g, rfl⟩ : ∃ g, f = g + 1 := ⟨f - 1, by omega⟩
      have hacc2 : Hid (pre ++ pos :: posL s g (pos + wd s pos) = allL s) := by rw [← posL_step s g pos hp]; exact hacc
      clear hacc
      have hJ2 : J pre (wr.iterAt W.heap.size s (pos + wd s pos)) := hJ _ _ _ _ hJs (iterAt_grown wr _ s _) (fun r e => by cases e; exact ⟨Nat.le_refl _, _, hit, rfl⟩)
      have hcall := hide (hY pre pos _ _ (unhide hacc2) hp hJ2)
      clear hJ2 hJs
      go_wp2_with fail
      refine (unhide hcall).mono ?_
      rintro e W3 (⟨rfl, hJ3, hk3⟩ | ⟨rfl, hJx3⟩)
      · have hit3 := hk3.same _ _ hit2 rfl
        go_wp2
        go_roundw
        case rel => exact ⟨pos + wd s pos, g, pre ++ [pos], hit3, hide (by rw [← unhide hacc2]; simp), by omega, hJ3⟩
        case measure =>
          simp only [World.iterPos, hit3, hit]
          omega
      · go_wp2
        refine bodyPost_ret (results_none rfl _ _ _) rfl ?_
        exact ⟨rfl, .inr ⟨_, ⟨posL s g (pos + wd s pos), by rw [← unhide hacc2]; simp⟩, hJx3⟩⟩
    · have hnx : ∀ ty, (Instr.next (.pointer (some ⟨W.heap.size, 0, none⟩)) true ty).run Try.prog wr = .ok (.tuple #[.bool false]) wr := fun ty => Lib.run_next_end_at wr W.heap.size s pos ty hit hp
      have hpre : pre = allL s := by rw [← unhide hacc, posL_end s f pos hp]; simp
      subst hpre
      go_wp2
      go_end0
      exact ⟨rfl, .inl hJs⟩

/-- a text's cut up to a place, with its chain -/
theorem chain_all (s : ByteArray) : ∀ (f pos : Nat) (l : List Nat), Chain s l pos → pos ≤ s.size → s.size ≤ pos + f → ∃ q, Chain s (l ++ posL s f pos) q ∧ q = s.size
  | 0, pos, l, h, h1, h2 => ⟨pos, by simpa [posL] using h, by omega⟩
  | f + 1, pos, l, h, h1, h2 => by
    by_cases hp : pos < s.size
    · have hw := wd_pos s pos hp
      have hl := wd_le s pos hp
      have ih := chain_all s f (pos + wd s pos) (l ++ [pos]) (chain_next h hp) (by omega) (by omega)
      rw [posL_step s f pos hp]
      simpa using ih
    · rw [posL_end s _ pos hp]
      exact ⟨pos, by simpa using h, by omega⟩

theorem chain_full (s : ByteArray) : Chain s (allL s) s.size := by
  obtain ⟨q, h, rfl⟩ := chain_all s s.size 0 [] (chain_nil s) (by omega) (by omega)
  simpa [allL] using h

/-- the piece that ends where a chain goes on -/
theorem chain_last {s : ByteArray} {l : List Nat} {st pos : Nat} (h : Chain s (l ++ [st]) pos) : st < s.size ∧ Sync s st ∧ st + wd s st = pos := by
  obtain ⟨_, h2, h3, _⟩ := h
  obtain ⟨a, b⟩ := h2 st (by simp)
  refine ⟨a, b, ?_⟩
  have := h3 l.length (by simp)
  simp [endsL] at this
  omega

theorem chain_prefix {s : ByteArray} {l : List Nat} {st pos : Nat} (h : Chain s (l ++ [st]) pos) : Chain s l st := by
  obtain ⟨h1, h2, h3, h4⟩ := h
  refine ⟨(h2 st (by simp)).2, fun i hi => h2 i (List.mem_append_left _ hi), fun k hk => ?_, ?_⟩
  · have := h3 k (by simp; omega)
    rw [endsL, List.map_append, List.getElem?_append_left (by simpa using hk)] at this
    rw [endsL, this]
    by_cases hk2 : k + 1 < l.length
    · rw [List.getElem?_append_left hk2, List.getElem?_eq_getElem hk2]; rfl
    · rw [List.getElem?_append_right (by omega), List.getElem?_eq_none (l := l) (by omega)]
      simp [show k + 1 - l.length = 0 from by omega]
  · cases l with
    | nil => simpa using h4
    | cons a l => simpa using h4

set_option maxRecDepth 100000 in
set_option maxHeartbeats 2000000 in
theorem back1_clo (fc : Nat) (caps : Array Value) (Bs : Nat) (s : ByteArray) (hs : s.size ≤ maxLen) (J Jx : List Nat → World → Prop) (W : World)
    (he : ∀ args w, (callFunc fc args).run Try.prog w = .ok (.enter fc args) w)
    (hK : ∀ pre W1, J pre W1 → W1.cell? ⟨Bs, 0, none⟩ = some (.string s))
    (hY : GoesOn fc caps s (allL s).reverse J Jx) (h0 : J [] W) :
    Calls Try.prog 42 #[.func (.func fc) #[] caps, .pointer (some ⟨Bs, 0, none⟩)] W fun e W' => e = .returned (.tuple #[]) ∧ (J (allL s).reverse W' ∨ ∃ pre, (∃ rest, pre ++ rest = (allL s).reverse) ∧ Jx pre W') := by
  have hs0 := hs
  unfold maxLen at hs
  have hBs := hK [] W h0
  go_enter Try.func42, Try.ntmps42
  go_wp2
  go_loopw [3] (fun ev wr => ∃ (pos : Nat) (l pre : List Nat), ev = .int .i64 pos ∧ pos ≤ s.size ∧ Hid (Chain s l pos) ∧ Hid (pre ++ l.reverse = (allL s).reverse) ∧ J pre wr)
    (fun ev _ => (RowKit.intOf ev).toNat)
  case atStart => exact ⟨s.size, allL s, [], rfl, Nat.le_refl _, hide (chain_full s), hide rfl, h0⟩
  case round =>
    obtain ⟨pos, l, pre, rfl, hps, hch, hacc, hJs⟩ := hrel
    have hcs := hK pre wr hJs
    rcases List.eq_nil_or_concat l with rfl | ⟨l', st, rfl⟩
    · have hp0 : pos = 0 := by have := (unhide hch).2.2.2; simpa using this
      subst hp0
      have hpre : pre = (allL s).reverse := by have := unhide hacc; simpa using this
      subst hpre
      go_wp2
      go_end0
      exact ⟨rfl, .inl hJs⟩
    · rw [List.concat_eq_append] at hch hacc
      obtain ⟨h1, h2, h3⟩ := chain_last (unhide hch)
      have hw := wd_pos s st h1
      subst h3
      have X1 := hide (lR_sync h2 h1)
      have X2 := hide (lN_sync h2 h1)
      have X3 := hide (lK_sync h2 h1)
      have hacc2 : Hid (pre ++ st :: l'.reverse = (allL s).reverse) := hide (by have := unhide hacc; simpa using this)
      clear hacc
      have hcall := hide (hY pre st _ _ (unhide hacc2) h1 hJs)
      have i1 : (0 : Int) < (st : Int) + (wd s st : Int) := by omega
      clear hJs
      go_wp2_with fail
      refine (last_any _ _ _ hs0).mono ?_
      rintro e w' ⟨rfl, rfl⟩
      rw [unhide X1, unhide X2, unhide X3]
      go_wp2_with fail
      try simp only [show (((st + wd s st : Nat) : Int) - (wd s st : Int)) = (st : Int) from by omega]
      refine (unhide hcall).mono ?_
      rintro e W3 (⟨rfl, hJ3, hk3⟩ | ⟨rfl, hJx3⟩)
      · go_wp2
        go_roundw
        case rel => exact ⟨st, l', pre ++ [st], rfl, by omega, hide (chain_prefix (unhide hch)), hide (by rw [← unhide hacc2]; simp), hJ3⟩
        case measure => simp [RowKit.intOf]; omega
      · go_wp2
        refine bodyPost_ret (results_none rfl _ _ _) rfl ?_
        exact ⟨rfl, .inr ⟨_, ⟨l'.reverse, by rw [← unhide hacc2]; simp⟩, hJx3⟩⟩

end Go.Proofs.Ytnejgbjidonpiaa
