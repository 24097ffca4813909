/-
  A copy is taken off the way.
-/
import Derived.Test.YteomalmflebkhaaZNH
import Derived.Test.YteomalmflebkhaaZNF
set_option linter.unusedSimpArgs false
set_option linter.unusedVariables false
namespace Go.Proofs.Yteomalmflebkhaa
open Go.RowKit Go.Lib

theorem results_ct {P : Program} {fn : Func} {j p : Tmp} {ty : TypeId} (h : fn.results = #[.cell p ty, .tmp j]) (tmps : Array Value) (w : World) (g : Nat) (t : TypeId) (cs : Array Value) (fr : Nat × Nat) (d : TypeDesc)
    (hp : tmps.getD p undef = .pointer (some ⟨g, 0, none⟩)) (hg : w.heap[g]? = some (.cells cs t fr))
    (hu : P.underlying ty = some d) (hd : (match d with | .struct _ | .array _ _ => true | _ => false) = true) (hi : (P.info? ty).map (·.size) = some cs.size) :
    (results fn tmps).run P w = .ok (.tuple #[.agg cs, tmps.getD j undef]) w := by
  have hp' : tmps[p]?.getD undef = .pointer (some ⟨g, 0, none⟩) := by simpa using hp
  simp [results, h, hp', asAddr, run_loadVar_row w g t ty cs fr d hg hu hd hi]
variable {P N : Nat → Prop} {w W W' : World} {b p f m : Nat} {c : Cp} {s : Stn} {mo : Option Nat} {pb : Int → Nat} {vc vs : Value} {frm to sent : Int} {cl : List Int}
def numsOf (s : Stn) : List Int := s.ls.map Cp.num
theorem Gd.nums (h : Gd s) : (numsOf s).Pairwise (· < ·) := List.pairwise_map.2 h.ris
theorem nodup_of_rise {l : List Int} (h : l.Pairwise (· < ·)) : l.Nodup := h.imp fun {a b} hab e => by omega
theorem gO_some (pb : Int → Nat) (l : List Cp) (k : Int) : (gO pb l k).isSome = true ↔ k ∈ l.map Cp.num := by
  unfold gO
  constructor
  · intro h
    split at h
    · rename_i hf
      obtain ⟨c, hc⟩ := Option.isSome_iff_exists.1 hf
      exact List.mem_map.2 ⟨c, fnd_mem hc, fnd_num hc⟩
    · cases h
  · intro h
    obtain ⟨c, hc, rfl⟩ := List.mem_map.1 h
    rw [if_pos]
    · rfl
    · cases hf : fnd l c.num with
      | none => exact absurd rfl (fnd_none hf c hc)
      | some d => rfl
theorem in64_num (h : Gd s) (hc : c ∈ s.ls) : in64 c.num := by
  have h1 := h.le c hc
  have h2 := h.l1
  unfold in64
  omega
/-- a map's keys are the numbers -/
theorem MP.nums {n : Nat} {D : DataW Value} (h : W.ownsMap Try.prog 3 asPtr m n D) (hg : GM D (gO pb s.ls)) (gd : Gd s) : (numsOf s).Perm (intKeys D) :=
  MP.perm h hg (nodup_of_rise gd.nums) (fun x => (gO_some pb s.ls x).symm) (fun x hx => by obtain ⟨c, hc, rfl⟩ := List.mem_map.1 hx; exact in64_num gd hc)
theorem MP.len {n : Nat} (h : MP W m n (gO pb s.ls)) (gd : Gd s) (ty : TypeId) : (Builtin.len_ #[36] ty #[.map (some m)]).run Try.prog W = .ok (.int .i64 (s.ls.length : Nat)) W := by
  obtain ⟨D, h, hg⟩ := h
  have hp := MP.nums h hg gd
  have hz := size_keys D h.isMap
  rw [← hp.length_eq] at hz
  have hz' : Maps.size D = s.ls.length := by rw [← hz]; unfold numsOf; rw [List.length_map]
  have := h.len undM ty
  rw [hz'] at this
  exact this

theorem wpList_len_eq {w : World} {ops : Array Oper} {rest : List Oper} {o : Oper} {a : Act} {Q : Exit → Act → World → Prop} (hgd : o.guard = none) (s : Operand) (t : TypeId)
    (ho : o.op = .call { callee := .builtin .len, args := #[s], argTypes := #[t] }) (v v' : Value) (hs : a.eval s = v) (hr : (Builtin.len_ #[t] o.type #[v]).run Try.prog w = .ok v' w)
    (h : wpList Try.prog ops Q rest (a.put o.dst v') w) : wpList Try.prog ops Q (o :: rest) a w := by
  refine wpList_plain hgd fun K hK => ?_
  unfold Oper.wp execOp
  simp only [ho, resolve, invoke, builtin, Sem.run_bind, Sem.run_pure, Result.andThen_ok, List.map_toArray, List.map_cons, List.map_nil, hs, hr]
  exact hK _ _ h
theorem fnd_filter (l : List Cp) (k j : Int) : fnd (l.filter fun c => !(c.num == k)) j = if j = k then none else fnd l j := by
  induction l with
  | nil => split <;> rfl
  | cons x l ih =>
    unfold fnd at *
    by_cases hx : x.num = k
    · have e : (!(x.num == k)) = false := by simp [hx]
      rw [List.filter_cons_of_neg (by simp [hx]), ih]
      by_cases hj : j = k
      · rw [if_pos hj, if_pos hj]
      · rw [if_neg hj, if_neg hj, List.find?_cons_of_neg (by simp [hx]; omega)]
    · rw [List.filter_cons_of_pos (by simp [hx])]
      by_cases hxj : x.num = j
      · rw [List.find?_cons_of_pos (by simp [hxj]), List.find?_cons_of_pos (by simp [hxj]), if_neg (by omega)]
      · rw [List.find?_cons_of_neg (by simp [hxj]), List.find?_cons_of_neg (by simp [hxj]), ih]
/-- a copy is off the way -/
theorem NM.less (h : NM P W b (some m) pb s) {k : Int} (hk : in64 k) (hf : fnd s.ls k = some c) (hp : PR P W c (pb k) f vc vs) (ty : TypeId) : ∃ Y, (Builtin.delete_ #[36, 3] ty #[.map (some m), .int .i64 k]).run Try.prog W = .ok (.tuple #[]) Y ∧ NM P Y b (some m) pb (tkS s k) ∧ PR P Y c (pb k) f vc vs ∧ Kp P W Y := by
  obtain ⟨m', n, e, hm, hmp, hn⟩ : ∃ m' n, some m = some m' ∧ P m' ∧ MP W m' n (gO pb s.ls) ∧ (n : Int) ≤ s.la := by
    rcases h.mp with ⟨e, _⟩ | h
    · cases e
    · exact h
  cases e
  obtain ⟨Y, hr, hmY, hgr, hz⟩ := hmp.del hk ty
  have kY : Kp (fun i => i = m) W Y := Kp.of_grown hgr (fun i hi => by cases hi; rfl)
  have nr : ∀ i, i = m → NoR W i := fun i hi => by rw [hi]; exact NoR.map hmp
  refine ⟨Y, hr, ⟨h.p0, h.bx.kp kY (hmp.ne h.bx), .inr ⟨m, n, rfl, hm, hmY.congr (fun j _ => ?_), hn⟩, fun d hd => ?_, fun d hd d' hd' e => ?_, h.gd.tk k⟩, hp.kpw kY (hmp.ne hp.bp) nr, kY.wk (fun i hi => by rw [hi]; exact hm)⟩
  · unfold dropG gO tkS
    simp only
    rw [fnd_filter]
    by_cases e : j = k
    · rw [if_pos e, if_pos e]; rfl
    · rw [if_neg e, if_neg e]
  · have hd' := (List.mem_filter.1 hd).1
    obtain ⟨cs, hb⟩ := (h.pr d hd').bx
    exact (h.pr d hd').kpw kY (hmp.ne hb) nr
  · exact h.inj d (List.mem_filter.1 hd).1 d' (List.mem_filter.1 hd').1 e
/-- its room goes -/
theorem NM.off (h : NM P W b (some m) pb s) (h0 : s.ls = []) (hp : PR P W c p f vc vs) {Y : World} (hY : W.setCell ⟨b, 1, none⟩ (.map none) = Y) : NM P Y b none pb s ∧ PR P Y c p f vc vs ∧ Kp P W Y := by
  have kY : Kp (fun i => i = b) W Y := by rw [← hY]; exact Kp.set _ ⟨b, 1, none⟩ _ rfl
  have nr : ∀ i, i = b → NoR W i := fun i hi => by rw [hi]; exact NoR.of h.bx (by decide) (by decide) (by decide)
  refine ⟨⟨h.p0, ?_, .inl ⟨rfl, h0⟩, fun d hd => (by rw [h0] at hd; cases hd), fun d hd => (by rw [h0] at hd; cases hd), h.gd⟩, hp.kpw kY (hp.bp.apart h.bx (by decide)) nr, kY.wk (fun i hi => by rw [hi]; exact h.p0)⟩
  rw [← hY]
  simpa using h.bx.set 1 (.map none)
theorem NM.hasmap (h : NM P W b mo pb s) {k : Int} (hf : fnd s.ls k = some c) : ∃ m n, mo = some m ∧ P m ∧ MP W m n (gO pb s.ls) ∧ (n : Int) ≤ s.la := by
  rcases h.mp with ⟨_, e⟩ | h
  · have := fnd_mem hf
    rw [e] at this
    cases this
  · exact h
/-- what Deliver and Drop answer -/
def TkA (P : Nat → Prop) (w : World) (b : Nat) (s : Stn) (k : Int) (e : Ending) (W : World) : Prop := ∃ a n, e = .returned (.tuple #[cpV (tkC s k) (.slice a (tkC s k).dat.length n), .int .i64 (tkE s k)]) ∧ OwB W w.heap.size 5 (.slice a (tkC s k).dat.length n) (tkC s k).dat ∧ NL P W b (tkS s k) ∧ Kp P w W
def nilC : Value := .agg #[.int .i64 0, .int .i64 0, .int .i64 0, .slice none 0 0, .int .i64 0, .bool false]
set_option maxRecDepth 100000 in
set_option maxHeartbeats 2000000 in
theorem take_nil (k : Int) (w : World) : Calls Try.prog 40 #[.pointer none, .int .i64 k] w fun e W => e = .returned (.tuple #[nilC, .int .i64 1]) ∧ Below w.heap.size w W := by
  have HF := hide (fun X => find_nil k X)
  unfold nilC
  obtain ⟨X0, hX0⟩ : ∃ X0, w.alloc (.cells #[.int .i64 0, .int .i64 0, .int .i64 0, .slice none 0 0, .int .i64 0, .bool false] 44) = X0 := ⟨_, rfl⟩
  have bx : Bx X0 w.heap.size 44 #[.int .i64 0, .int .i64 0, .int .i64 0, .slice none 0 0, .int .i64 0, .bool false] := by rw [← hX0]; exact Bx.new _ _ _
  have bel : Below w.heap.size w X0 := by rw [← hX0]; exact ballc (Below.refl _ _) _
  obtain ⟨Y, hY⟩ : ∃ Y, (((((X0.setCell ⟨w.heap.size, 0, none⟩ (.int .i64 0)).setCell ⟨w.heap.size, 1, none⟩ (.int .i64 0)).setCell ⟨w.heap.size, 2, none⟩ (.int .i64 0)).setCell ⟨w.heap.size, 3, none⟩ (.slice none 0 0)).setCell ⟨w.heap.size, 4, none⟩ (.int .i64 0)).setCell ⟨w.heap.size, 5, none⟩ (.bool false) = Y := ⟨_, rfl⟩
  obtain ⟨bY, kY⟩ := set6 bx _ _ _ _ _ _ hY
  have HbY := hide bY
  have HB := hide (kY.below bel (fun i e => by omega))
  have z0 := bx.cell 0 _ rfl
  have f0 := bx.frozen 0
  have z1 := bx.cell 1 _ rfl
  have f1 := bx.frozen 1
  have z2 := bx.cell 2 _ rfl
  have f2 := bx.frozen 2
  have z3 := bx.cell 3 _ rfl
  have f3 := bx.frozen 3
  have z4 := bx.cell 4 _ rfl
  have f4 := bx.frozen 4
  have z5 := bx.cell 5 _ rfl
  have f5 := bx.frozen 5
  clear bY kY bel bx
  go_enter Try.func40, Try.ntmps40
  go_wp2_with fail
  refine (unhide HF _).mono ?_
  rintro e W1 ⟨rfl, rfl⟩
  clear HF
  go_wp2
  refine bodyPost_ret (results_ct rfl _ _ w.heap.size _ _ _ _ rfl (unhide HbY) Try.underlying44 rfl sizeC) rfl ?_
  exact ⟨rfl, unhide HB⟩

end Go.Proofs.Yteomalmflebkhaa
