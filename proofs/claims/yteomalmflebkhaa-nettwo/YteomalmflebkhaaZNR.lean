/-
  All copies: Copies.
-/
import Derived.Test.YteomalmflebkhaaZNI
import Derived.Test.YteomalmflebkhaaZShK
set_option linter.unusedSimpArgs false
set_option linter.unusedVariables false
namespace Go.Proofs.Yteomalmflebkhaa
open Go.RowKit Go.Lib Go.Shelf

variable {P N : Nat → Prop} {w W W' : World} {b p f m : Nat} {c : Cp} {s : Stn} {mo : Option Nat} {pb : Int → Nat} {vc vs : Value} {frm to sent : Int} {cl : List Int}
theorem sortsK (m : Nat) : AnyZI.SortsIn Try.prog shSorted_ren Fence.wide m :=
  ⟨fun blk off cap ss W hH hblk hsz => callsIn_wide.2 (AnyM.slices_Sort_int shSort blk off cap ss W hH hblk hsz),
   fun p cap W => callsIn_wide.2 (AnyM.slices_Sort_int_none shSort p cap W)⟩
def keysV (b : Nat) : Value := .func (.func 53) #[] #[.pointer (some ⟨b, 0, none⟩)]
theorem Keys_in (mb : Option Nat) (W : World) : Calls Try.prog 34 #[.map mb] W fun e w' => e = .returned (keysV W.heap.size) ∧ w' = W.alloc (.cells #[.map mb] 36) :=
  (callsIn_wide (n := 5)).1 (AnyZI.keys_in shKeys Fence.wide 5 trivial rfl mb W)
/-- the numbers, sorted -/
theorem Sorted_in {n : Nat} (h : MP w m n (gO pb s.ls)) (gd : Gd s) {bx : Nat} (hbx : Bx w bx 36 #[.map (some m)]) : Calls Try.prog 33 #[keysV bx] w fun e W => ∃ a k, e = .returned (.slice a (numsOf s).length k) ∧ OwN W w.heap.size (.slice a (numsOf s).length k) (numsOf s) ∧ Below w.heap.size w W := by
  refine (callsIn_wide (n := 5)).1 ?_
  obtain ⟨D0, hown, hg⟩ := h
  have hp := MP.nums hown hg gd
  have hsz := size_keys D0 hown.isMap
  rw [← hp.length_eq] at hsz
  have hlen : (numsOf s).length = s.ls.length := by unfold numsOf; rw [List.length_map]
  have hle := gd.len'
  have hseq : SeqGives Fence.wide 2 Try.prog 53 #[.pointer (some ⟨bx, 0, none⟩)] encZ (fun ss => ss.Perm (intKeys D0)) (Maps.size D0) w :=
    AnyZI.keys_gives (ρ := shKeys_ren) { shKeys with } Fence.wide _ trivial rfl (by omega) bx m n D0 _ (by exact hbx.lt) (hbx.cell 0 _ rfl) hown
  have cS := AnyZI.sorted_in shSorted Fence.wide 5 trivial trivial trivial trivial rfl (by omega) (sortsK _) (enters_of Try.func52 (by kernel_rfl) rfl) 53 #[.pointer (some ⟨bx, 0, none⟩)] trivial (enters_of Try.func53 (by kernel_rfl) rfl) _ _ (by unfold maxLen; omega) (by omega) _ hseq
  change CallsIn _ _ Try.prog 33 _ _ _ at cS
  refine cS.mono ?_
  rintro e W ⟨v, ss, rfl, hS, hrow, hnil, hb⟩
  have e1 : ss.mergeSort (fun x y => decide (x ≤ y)) = numsOf s := sort_keys gd.nums (hS.trans hp.symm)
  have e2 : ss.length = (numsOf s).length := (hS.trans hp.symm).length_eq
  rw [e1, e2] at hrow
  have hrow' : OwN W w.heap.size v (numsOf s) := hrow
  obtain ⟨a, k, rfl⟩ := hrow'.form
  exact ⟨a, k, rfl, hrow', hb⟩
theorem Sorted_nil {bx : Nat} (hbx : Bx w bx 36 #[.map none]) : Calls Try.prog 33 #[keysV bx] w fun e W => e = .returned (.slice none 0 0) ∧ Below w.heap.size w W := by
  refine (callsIn_wide (n := 5)).1 ?_
  have hseq : SeqGives Fence.wide 2 Try.prog 53 #[.pointer (some ⟨bx, 0, none⟩)] encZ (fun ss : List Int => ss = []) 0 w :=
    AnyZI.keys_gives_nil (ρ := shKeys_ren) { shKeys with } Fence.wide _ trivial rfl bx _ (by exact hbx.lt) (hbx.cell 0 _ rfl)
  have cS := AnyZI.sorted_in shSorted Fence.wide 5 trivial trivial trivial trivial rfl (by omega) (sortsK _) (enters_of Try.func52 (by kernel_rfl) rfl) 53 #[.pointer (some ⟨bx, 0, none⟩)] trivial (enters_of Try.func53 (by kernel_rfl) rfl) _ 0 (Nat.zero_le _) (by omega) _ hseq
  change CallsIn _ _ Try.prog 33 _ _ _ at cS
  refine cS.mono ?_
  rintro e W ⟨v, ss, rfl, rfl, hrow, hnil, hb⟩
  obtain rfl : v = .slice none 0 0 := hnil.2 rfl
  exact ⟨rfl, hb⟩

end Go.Proofs.Yteomalmflebkhaa
