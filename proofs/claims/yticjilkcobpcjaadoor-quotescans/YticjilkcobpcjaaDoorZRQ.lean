/-
  What the document's own Quote answers: the same text in quotes.
-/
import Derived.Test.YticjilkcobpcjaaDoorZRf
import Derived.Test.YticjilkcobpcjaaDoorZRefPcs
import Derived.Lib.AppendStr
import Derived.OwnWalk
import Derived.Maps.AppendAt
import Derived.Laws.EntriesVeiled
import Derived.Test.YticjilkcobpcjaaDoorZXReg
set_option linter.unusedSimpArgs false
set_option linter.unusedVariables false
namespace Go.Proofs.YticjilkcobpcjaaDoor
open Go.RowKit Go.Lib

theorem infoByte : (Tryd.prog.info? 5).map (fun i => (i.zero, i.size, i.bytes)) = some (some (.int .u8 0), 1, 1) := by kernel_rfl
theorem conv_own {W : World} {B n : Nat} {v : Value} {l : List UInt8} (h : W.ownsRow B 5 1 v n (byteCells l)) (hn : n = l.length) (hne : l ≠ []) :
    (convert 60 9 v).run Tryd.prog W = .ok (.string (ofL l)) W := by
  have h0 := h
  subst hn
  rcases h.2 with ⟨rfl, e⟩ | ⟨g, cap, cur, rfl, _⟩
  · exact absurd (List.eq_nil_of_length_eq_zero e) hne
  · have hc := conv_bytes W ⟨g, 0, none⟩ l.length cap (l.map fun b => ((b.toNat : Nat) : Int)) (by simp) (fun j hj => by
      have hj' : j < l.length := by simpa using hj
      refine h0.cells rfl j _ ?_
      simp [byteCells, List.getElem?_eq_getElem hj'])
    rw [u8_back] at hc
    exact hc
theorem pcs_cell {W : World} {B g cap : Nat} {s : ByteArray} {l : List Nat} (h : W.ownsRow B 115 4 (.slice (some ⟨g, 0, none⟩) l.length cap) l.length (pcsC s l)) {k i : Nat} (hk : l[k]? = some i) (q : Nat) (hq : q < 4) :
    W.cell? ⟨g, k * 4 + q, none⟩ = (pcC s i)[q]? := by
  have hlt : k < l.length := (List.getElem?_eq_some_iff.1 hk).1
  rw [h.cellAt (k * 4 + q) (by omega), pcsC_get s l k q i hk hq]
theorem owns4_below {W W' : World} {B n : Nat} {v : Value} {xs : List Value} (h : W.ownsRow B 115 4 v n xs) (hb : Below W.heap.size W W') : W'.ownsRow B 115 4 v n xs := by
  refine ⟨h.1, ?_⟩
  rcases h.2 with h2 | ⟨g, cap, cur, e1, e2, e3, rest⟩
  · exact .inl h2
  · exact .inr ⟨g, cap, cur, e1, e2, (hb.block g (Array.getElem?_eq_some_iff.1 e3).1).trans e3, rest⟩
theorem owns1_below {W W' : World} {B n : Nat} {v : Value} {xs : List Value} (h : W.ownsRow B 5 1 v n xs) (hb : Below W.heap.size W W') : W'.ownsRow B 5 1 v n xs := by
  refine ⟨h.1, ?_⟩
  rcases h.2 with h2 | ⟨g, cap, cur, e1, e2, e3, rest⟩
  · exact .inl h2
  · exact .inr ⟨g, cap, cur, e1, e2, (hb.block g (Array.getElem?_eq_some_iff.1 e3).1).trans e3, rest⟩
theorem new_two (W : World) (c0 c1 : Value) (t : TypeId) : ∀ j u, ([c0, c1] : List Value)[j]? = some u → (W.alloc (.cells #[c0, c1] t)).cell? ((⟨W.heap.size, 0, none⟩ : Addr).add j) = some u := by
  intro j u h
  have hb : (W.alloc (.cells #[c0, c1] t)).heap[W.heap.size]? = some (.cells #[c0, c1] t) := by show (W.heap.push _)[W.heap.size]? = _; simp
  rcases (by have := (List.getElem?_eq_some_iff.1 h).1; simp at this; omega : j = 0 ∨ j = 1) with rfl | rfl
  · simp at h; subst h
    show World.cell? _ ⟨W.heap.size, 0, none⟩ = _
    unfold World.cell?
    simp only [hb]
    rfl
  · simp at h; subst h
    show World.cell? _ ⟨W.heap.size, 0 + 1, none⟩ = _
    unfold World.cell?
    simp only [hb]
    rfl

theorem wrap64_nat (n : Nat) (h : n ≤ 4000000000) : wrap64 (n : Int) = (n : Int) := by unfold wrap64; omega
theorem wrap64_two (n m : Nat) (h : n + m ≤ 4000000000) : IntKind.i64.wrap ((n : Int) + (m : Int)) = (n : Int) + (m : Int) := by rw [IntKind.wrap_i64]; omega
theorem subL_len (s : ByteArray) (i n : Nat) (h : i + n ≤ s.size) : (subL s i n).length = n := by
  have : s.data.toList.length = s.size := by simp
  unfold subL; rw [List.length_take, List.length_drop]; omega
theorem ext_sub (s : ByteArray) (i n : Nat) : (s.extract i (i + n)).data.toList = subL s i n := by
  unfold subL; simp
theorem strCells_sub (s : ByteArray) (i n : Nat) (h : i + n ≤ s.size) : strCells (s.extract i (i + n)) = byteCells (subL s i n) := by
  unfold strCells; rw [ext_sub]; rfl
theorem run_append2 {P : Program} {o : Oper} {ρ : Operand → Value} {w : World} {v' : Value} {w' : World} (s x : Operand) (t t2 : TypeId)
    (ho : o.op = .call { callee := .builtin .append, args := #[s, x], argTypes := #[t, t2] }) {v u : Value} (hs : ρ s = v) (hx : ρ x = u) (hr : (Builtin.append_ #[t, t2] o.type #[v, u]).run P w = .ok v' w') : (execOp ρ o).run P w = .ok (.value v') w' := by
  unfold execOp
  simp only [ho, resolve, invoke, builtin, Sem.run_bind, Sem.run_pure, Result.andThen_ok, List.map_toArray, List.map_cons, List.map_nil, hs, hx, hr]

theorem ltN_none {r : Nat} (h1 : r ≠ 34) (h2 : r ≠ 92) (h3 : r ≠ 10) (h4 : r ≠ 13) (h5 : r ≠ 9) : ltN r = 0 := by unfold ltN; simp [h1, h2, h3, h4, h5]

end Go.Proofs.YticjilkcobpcjaaDoor
