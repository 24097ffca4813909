/-
  A queue: what can be delivered, what is the farthest (pure).
-/
import Derived.Test.YtkkolefionbbcaaGreatZO0
set_option linter.unusedSimpArgs false
set_option linter.unusedVariables false
namespace Go.Proofs.YtkkolefionbbcaaGreat

def dotO (o : Opn) : Int × Int := (o.ds, o.dq)
/-- can an operation be delivered? -/
def canO (hv : List (Int × Int)) (o : Opn) : Bool := decide (getV hv o.ds + 1 = o.dq) && cov (sy hv) (sy o.deps)
/-- is a Dot there already? -/
def knwO (hv : List (Int × Int)) (ws : List Opn) (d : Int × Int) : Bool := hasV hv d || ws.any fun o => decide (dotO o = d)
/-- is one farther than another? -/
def farO (a b : Opn) : Bool := decide (sum (sy b.deps) < sum (sy a.deps) ∨ (sum (sy b.deps) = sum (sy a.deps) ∧ (b.ds < a.ds ∨ (b.ds = a.ds ∧ b.dq < a.dq))))
theorem farO_iff (a b : Opn) : farO a b = true ↔ (sum (sy b.deps) < sum (sy a.deps) ∨ (sum (sy b.deps) = sum (sy a.deps) ∧ (b.ds < a.ds ∨ (b.ds = a.ds ∧ b.dq < a.dq)))) := by unfold farO; simp
/-- the place of the farthest of a list that is not empty: at, when those below i are looked at -/
def farF (ws : List Opn) : Nat → Nat → Nat → Nat
  | 0, _, at_ => at_
  | f + 1, i, at_ => match ws[i]?, ws[at_]? with
    | some a, some b => farF ws f (i + 1) (if farO a b = true then i else at_)
    | _, _ => at_
def farI (ws : List Opn) : Nat := farF ws ws.length 0 0
/-- the list without a place -/
def cutI {α : Type} (l : List α) (i : Nat) : List α := l.take i ++ l.drop (i + 1)
theorem cutI_len {α : Type} (l : List α) (i : Nat) (h : i < l.length) : (cutI l i).length + 1 = l.length := by
  unfold cutI
  rw [List.length_append, List.length_take, List.length_drop]
  omega
theorem cutI_map {α β : Type} (f : α → β) (l : List α) (i : Nat) : (cutI l i).map f = cutI (l.map f) i := by
  unfold cutI
  rw [List.map_append, List.map_take, List.map_drop]
theorem cutI_mem {α : Type} {l : List α} {i : Nat} {x : α} (h : x ∈ cutI l i) : x ∈ l := by
  unfold cutI at h
  rcases List.mem_append.1 h with h | h
  · exact List.mem_of_mem_take h
  · exact List.mem_of_mem_drop h
theorem cutI_subl {α : Type} (l : List α) (i : Nat) : (cutI l i).Sublist l := by
  unfold cutI
  have h := List.drop_sublist_drop_left l (show i ≤ i + 1 by omega)
  have h2 := (List.Sublist.refl (l.take i)).append h
  rwa [List.take_append_drop] at h2
theorem cutI_perm {α : Type} {l : List α} {i : Nat} {x : α} (h : l[i]? = some x) : l.Perm (x :: cutI l i) := by
  have hi := (List.getElem?_eq_some_iff.1 h).1
  have e : l = l.take i ++ x :: l.drop (i + 1) := by
    have := List.take_append_drop i l
    rw [List.drop_eq_getElem_cons hi, (List.getElem?_eq_some_iff.1 h).2] at this
    exact this.symm
  unfold cutI
  have p : (l.take i ++ x :: l.drop (i + 1)).Perm (x :: (l.take i ++ l.drop (i + 1))) := List.perm_middle
  have q : l.Perm (l.take i ++ x :: l.drop (i + 1)) := by rw [← e]
  exact q.trans p
/-- the first that can be delivered -/
def nxtI (hv : List (Int × Int)) (ws : List Opn) : Option Nat := ws.findIdx? (canO hv)
/-- all that can be delivered is, one behind the other -/
def relF : Nat → List (Int × Int) → List Opn → List Opn → List (Int × Int) × List Opn × List Opn
  | 0, hv, ws, rd => (hv, ws, rd)
  | f + 1, hv, ws, rd => match nxtI hv ws with
    | none => (hv, ws, rd)
    | some i => match ws[i]? with
      | none => (hv, ws, rd)
      | some o => relF f (addV hv (dotO o)).1 (cutI ws i) (rd ++ [o])
/-- what Offer answers -/
def offA (hold : Int) (hv : List (Int × Int)) (ws rd : List Opn) (o : Opn) : (Int × Int) × List (Int × Int) × List Opn × List Opn :=
  if chkO o ≠ 0 then ((0, chkO o), hv, ws, rd)
  else if knwO hv ws (dotO o) = true then ((3, 0), hv, ws, rd)
  else if canO hv o = true then ((1, 0), relF ws.length (addV hv (dotO o)).1 ws (rd ++ [o]))
  else if (ws.length : Int) < hold then ((2, 0), hv, ws ++ [o], rd)
  else (((if farI (ws ++ [o]) = ws.length then 4 else 2), 0), hv, cutI (ws ++ [o]) (farI (ws ++ [o])), rd)

end Go.Proofs.YtkkolefionbbcaaGreat
