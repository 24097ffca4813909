/-
  Plain facts: texts laid of runes, one behind the other; cut in front of a rune.
-/
import Derived.Test.YtlbgfcbhpmhhpabZRt
import Derived.Test.YtlbgfcbhpmhhpabZCut
import Derived.Lib.Strings
set_option linter.unusedSimpArgs false
set_option linter.unusedVariables false
namespace Go.Proofs.Ytlbgfcbhpmhhpab
open Go.RowKit Go.Lib

theorem toList_inj {x y : ByteArray} (h : x.toList = y.toList) : x = y := by
  rw [toList_data, toList_data] at h
  rw [← mk_data x, ← mk_data y, h]

theorem data_inj {x y : ByteArray} (h : x.data.toList = y.data.toList) : x = y := toList_inj (by rw [toList_data, toList_data]; exact h)

theorem runesBytes_append (x y : List Int) : runesBytes (x ++ y) = runesBytes x ++ runesBytes y := by
  apply data_inj
  rw [runesBytes_list, List.flatMap_append]
  simp [runesBytes_list]

theorem startsL_get : ∀ (ns : List Int) (i k : Nat), k < ns.length → (startsL i ns)[k]? = some (i + ((ns.take k).flatMap encL).length)
  | [], i, k, h => by cases h
  | n :: ns, i, 0, h => by simp [startsL]
  | n :: ns, i, k + 1, h => by
    have ih := startsL_get ns (i + (encL n).length) k (by simpa using h)
    simp [startsL, ih]; omega

theorem cut_laid (ns : List Int) (n : Int) : cutL (runesBytes ns) n = runesBytes (ns.take n.toNat) ∧ cutR (runesBytes ns) n = runesBytes (ns.drop n.toNat) := by
  unfold cutL cutR
  rw [allL_laid]
  have hsplit : ns.flatMap encL = (ns.take n.toNat).flatMap encL ++ (ns.drop n.toNat).flatMap encL := by rw [← List.flatMap_append, List.take_append_drop]
  by_cases h : n.toNat < ns.length
  · rw [startsL_get ns 0 n.toNat h, Nat.zero_add]
    have hsz : (runesBytes ns).size = (ns.flatMap encL).length := by rw [← runesBytes_list]; exact size_eq _
    constructor
    · apply data_inj
      show ((runesBytes ns).extract 0 _).data.toList = _
      rw [extract_data, runesBytes_list, runesBytes_list, hsplit]
      simp
    · apply data_inj
      show ((runesBytes ns).extract _ (runesBytes ns).size).data.toList = _
      rw [extract_data, hsz, runesBytes_list, runesBytes_list, hsplit]
      generalize (ns.take n.toNat).flatMap encL = X
      generalize (ns.drop n.toNat).flatMap encL = Y
      simp
  · rw [List.getElem?_eq_none (by rw [startsL_length]; omega)]
    constructor
    · rw [List.take_of_length_le (by omega)]
    · rw [List.drop_eq_nil_of_le (by omega)]; rfl

theorem fixed_laid (s : ByteArray) : runeL (runesBytes (runeL s)) = runeL s := by rw [runeL_laid, runeL_fix]

end Go.Proofs.Ytlbgfcbhpmhhpab
