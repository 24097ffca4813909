/-
  What clump.Class answers: the class of every number.
-/
import Derived.Test.YtiakhpfljjfaeaaZRIn
import Derived.WalkMore
import Derived.Laws.Tables
set_option linter.unusedSimpArgs false
set_option linter.unusedVariables false
namespace Go.Proofs.Ytiakhpfljjfaeaa
open Go.RowKit Go.Lib

/-- what a row of literals leaves in the slots -/
def putsB (P : Program) : List Oper → Array Value → Option (Array Value)
  | [], t => some t
  | o :: os, t => match o.guard, o.dst, o.op with
    | none, some d, .build ty parts => match P.built ty (parts.map fun (i, x) => (i, Act.eval ⟨t, []⟩ x)).toList with
      | some cells => putsB P os (t.setIfInBounds d (.agg cells))
      | none => none
    | none, some d, .move x => putsB P os (t.setIfInBounds d (Act.eval ⟨t, []⟩ x))
    | _, _, _ => none

theorem eval_tmps (t : Array Value) (ds ds' : List Deferred) (x : Operand) : Act.eval ⟨t, ds⟩ x = Act.eval ⟨t, ds'⟩ x := by cases x <;> rfl

theorem wpList_puts {P : Program} {ops : Array Oper} {Q : Exit → Act → World → Prop} {w : World} {ds : List Deferred} {t' : Array Value} (hQ : Q .normal ⟨t', ds⟩ w) : ∀ (l : List Oper) (t : Array Value), putsB P l t = some t' → wpList P ops Q l ⟨t, ds⟩ w
  | [], t, h => by
    simp [putsB] at h; subst h; exact hQ
  | o :: os, t, h => by
    unfold putsB at h
    split at h
    · rename_i d ty parts hg hd ho
      split at h
      · rename_i cells hc
        have ih := wpList_puts (ops := ops) hQ os _ h
        have hev : (Act.eval ⟨t, ds⟩ : Operand → Value) = Act.eval ⟨t, []⟩ := funext fun x => eval_tmps t ds [] x
        refine BigFrame.wpList_want (by simp [Region.wanted, hg]) (fun K hK => ?_)
        refine wp_build ty parts ho (by rw [hev, hc]; rfl) ?_
        rw [hev, hc, hd]
        exact hK _ _ ih
      · cases h
    · rename_i d x hg hd ho
      have ih := wpList_puts (ops := ops) hQ os _ h
      refine BigFrame.wpList_want (by simp [Region.wanted, hg]) (fun K hK => ?_)
      refine BigFrame.wp_move x ho ?_
      rw [hd]
      rw [eval_tmps t ds []]
      exact hK _ _ ih
    · cases h

/-- the table's rows: class, from, to, step -/
def sp : List (Int × Int × Int × Int) := [(1, 13, 13, 0), (2, 10, 10, 0), (3, 0, 31, 0), (3, 127, 159, 0), (3, 8232, 8233, 0), (4, 8205, 8205, 0),
  (5, 768, 879, 0), (5, 1155, 1161, 0), (5, 1425, 1469, 0), (5, 1611, 1631, 0), (5, 6832, 6911, 0), (5, 7616, 7679, 0), (5, 8204, 8204, 0), (5, 8400, 8447, 0),
  (5, 12330, 12335, 0), (5, 12441, 12442, 0), (5, 65024, 65039, 0), (5, 65056, 65071, 0), (5, 127995, 127999, 0), (5, 917536, 917631, 0), (5, 917760, 917999, 0),
  (6, 127462, 127487, 0), (7, 4352, 4447, 0), (7, 43360, 43388, 0), (8, 4448, 4519, 0), (8, 55216, 55238, 0), (9, 4520, 4607, 0), (9, 55243, 55291, 0),
  (10, 44032, 55203, 28), (11, 44032, 55203, 0),
  (12, 169, 169, 0), (12, 174, 174, 0), (12, 8252, 8252, 0), (12, 8265, 8265, 0), (12, 8482, 8482, 0), (12, 8505, 8505, 0), (12, 8592, 8703, 0), (12, 8960, 9215, 0),
  (12, 9728, 10175, 0), (12, 11008, 11263, 0), (12, 12336, 12336, 0), (12, 12349, 12349, 0), (12, 12951, 12951, 0), (12, 12953, 12953, 0), (12, 126976, 127461, 0), (12, 127488, 129791, 0)]

def svC (x : Int × Int × Int × Int) : List Value := [.int .i64 x.1, .int .i32 x.2.1, .int .i32 x.2.2.1, .int .i32 x.2.2.2]
def sv (k : Nat) : Value := .agg (svC (sp.getD k (0, 0, 0, 0))).toArray
def tabV : Value := .agg (sp.flatMap svC).toArray

/-- a row holds a number -/
def hit (r : Int) (x : Int × Int × Int × Int) : Bool := decide (x.2.1 ≤ r) && decide (r ≤ x.2.2.1) && (x.2.2.2 == 0 || (r - x.2.1) % x.2.2.2 == 0)
/-- the class of the first row that holds a number -/
def fst (r : Int) : List (Int × Int × Int × Int) → Int
  | [] => 0
  | x :: l => if hit r x then x.1 else fst r l

theorem fst_cons (r : Int) (x : Int × Int × Int × Int) (l : List (Int × Int × Int × Int)) : fst r (x :: l) = if hit r x then x.1 else fst r l := rfl
def seg (c : Int) : List Int → List (Int × Int × Int × Int)
  | lo :: hi :: l => (c, lo, hi, 0) :: seg c l
  | _ => []
theorem fst_seg (r c : Int) (rest : List (Int × Int × Int × Int)) : ∀ es : List Int, fst r (seg c es ++ rest) = if inP r es then c else fst r rest
  | [] => by simp [seg, inP]
  | [a] => by simp [seg, inP]
  | lo :: hi :: l => by
    have ih := fst_seg r c rest l
    show fst r ((c, lo, hi, 0) :: (seg c l ++ rest)) = _
    rw [fst_cons, ih, show inP r (lo :: hi :: l) = ((decide (lo ≤ r) && decide (r ≤ hi)) || inP r l) from rfl]
    unfold hit
    by_cases h1 : lo ≤ r <;> by_cases h2 : r ≤ hi <;> simp [h1, h2]
theorem inP_one (r c : Int) : inP r [c, c] = decide (r = c) := by
  unfold inP
  by_cases h : r = c
  · subst h; simp
  · simp [inP, h]; omega

theorem fst_cls (r : Int) : fst r sp = cls r := by
  have e : sp = seg 1 [13, 13] ++ (seg 2 [10, 10] ++ (seg 3 eCtl ++ (seg 4 [8205, 8205] ++ (seg 5 eMk ++ (seg 6 eFl ++ (seg 7 eL ++ (seg 8 eV ++ (seg 9 eT ++ ((10, 44032, 55203, 28) :: (11, 44032, 55203, 0) :: (seg 12 ePc ++ [])))))))))) := rfl
  rw [e]
  simp only [fst_seg, inP_one]
  unfold cls
  simp only [decide_eq_true_eq]
  have h2 : ∀ rest : Int, (if hit r (10, 44032, 55203, 28) = true then (10 : Int) else if hit r (11, 44032, 55203, 0) = true then 11 else rest) = if 44032 ≤ r ∧ r ≤ 55203 then (if (r - 44032) % 28 = 0 then 10 else 11) else rest := by
    intro rest
    unfold hit
    by_cases h1 : 44032 ≤ r <;> by_cases h3 : r ≤ 55203 <;> simp [h1, h3]
  have h3 : fst r ((10, 44032, 55203, 28) :: (11, 44032, 55203, 0) :: (seg 12 ePc ++ [])) = if 44032 ≤ r ∧ r ≤ 55203 then (if (r - 44032) % 28 = 0 then 10 else 11) else if inP r ePc then 12 else 0 := by
    rw [← h2]
    rw [fst_cons, fst_cons, fst_seg]; rfl
  rw [h3]

theorem fst_drop {r : Int} {k : Nat} {x : Int × Int × Int × Int} (h : sp[k]? = some x) : fst r (sp.drop k) = if hit r x then x.1 else fst r (sp.drop (k + 1)) := by
  obtain ⟨hk, e⟩ := List.getElem?_eq_some_iff.1 h
  rw [List.drop_eq_getElem_cons hk, e]; rfl

end Go.Proofs.Ytiakhpfljjfaeaa
