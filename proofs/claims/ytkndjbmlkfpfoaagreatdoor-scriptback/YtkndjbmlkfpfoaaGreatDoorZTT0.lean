/-
  A copy, in memory and as words; what stays while a line is laid.
-/
import Derived.Test.YtkndjbmlkfpfoaaGreatDoorZTM
import Derived.Test.YtkndjbmlkfpfoaaGreatDoorZLaidToTI
import Derived.Test.YtkndjbmlkfpfoaaGreatDoorZRegToRegV

set_option linter.unusedSimpArgs false
set_option linter.unusedVariables false
namespace Go.Proofs.YtkndjbmlkfpfoaaGreatDoor
open Go Go.RowKit Go.Lib

structure Cpy where
  num : Int
  frm : Int
  to_ : Int
  sent : Int
  bad : Bool
  data : List UInt8
/-- a copy's cells, of its row's value -/
def cpC (c : Cpy) (dv : Value) : Array Value := #[.int .i64 c.num, .int .i64 c.frm, .int .i64 c.to_, dv, .int .i64 c.sent, .bool c.bad]
def enP (e : Cpy × Value) : List Value := (cpC e.1 e.2).toList
theorem enP_len (e : Cpy × Value) : (enP e).length = 6 := rfl
structure CpW (c : Cpy) : Prop where
  num : in64 c.num
  frm : in64 c.frm
  to_ : in64 c.to_
  sent : in64 c.sent
  data : c.data.length ≤ 1000000
/-- a row of copies -/
structure RCpy (W : World) (v : Value) (l : List (Cpy × Value)) : Prop where
  row : RC W v l.length (flat enP l)
  by_ : ∀ e ∈ l, RBy W e.2 e.1.data
theorem RCpy.below {W W' : World} {v : Value} {l : List (Cpy × Value)} (h : RCpy W v l) (hb : Below W.heap.size W W') : RCpy W' v l := ⟨RC.below h.row hb, fun e he => RC.below (h.by_ e he) hb⟩
theorem RCpy.at {W : World} {a : Option Addr} {n c : Nat} {l : List (Cpy × Value)} (h : RCpy W (.slice a n c) l) {i : Nat} {e : Cpy × Value} (hi : l[i]? = some e) :
    ∃ b off, a = some ⟨b, off, none⟩ ∧ b < W.heap.size ∧ ∀ (q : Nat) u, (enP e)[q]? = some u → W.cell? ⟨b, off + i * 6 + q, none⟩ = some u := by
  rcases h.row with ⟨h0, _⟩ | ⟨b, off, cap, e2, hn, hlt, hc⟩
  · have := (List.getElem?_eq_some_iff.1 hi).1; omega
  · simp at e2
    refine ⟨b, off, e2.1, hlt, fun q u hu => ?_⟩
    have hq := (List.getElem?_eq_some_iff.1 hu).1
    rw [enP_len] at hq
    rw [Nat.add_assoc]
    exact hc _ _ ((flat_get enP_len l i q e hi hq).trans hu)
def cyT : List UInt8 := [32, 32, 99, 111, 112, 121]
def frT : List UInt8 := [102, 114, 111, 109]
def toT : List UInt8 := [116, 111]
def seT : List UInt8 := [115, 101, 110, 116]
def baT : List UInt8 := [98, 97, 100]
def cpW (c : Cpy) : List (List (List UInt8)) := [[itoa c.num], frT :: [c.frm].map itoa, toT :: [c.to_].map itoa, seT :: [c.sent].map itoa, if c.bad then [baT] else [], [(qT (ofL c.data)).data.toList]]
def cpT (c : Cpy) : List UInt8 := lnT cyT (cpW c).flatten
def csT (l : List (Cpy × Value)) : List UInt8 := l.flatMap fun e => cpT e.1
theorem cpW_len (c : Cpy) : (cpW c).flatten.length ≤ 9 := by unfold cpW; cases c.bad <;> simp
theorem csT_take {l : List (Cpy × Value)} {j : Nat} {e : Cpy × Value} (h : l[j]? = some e) : csT (l.take (j + 1)) = csT (l.take j) ++ cpT e.1 := by
  unfold csT
  rw [List.take_add_one, h]
  simp
theorem csT_le {l : List (Cpy × Value)} {j : Nat} : (csT (l.take j)).length ≤ (csT l).length := by
  conv => rhs; rw [← List.take_append_drop j l]
  unfold csT
  simp only [List.flatMap_append, List.length_append]
  omega

def I1 (x : Int) : World → Value → Prop := fun W v => ∃ k, v = .slice (some ⟨k, 0, none⟩) 1 1 ∧ Bq W k 3 #[.int .i64 x]
theorem I1.nm {x : Int} {W : World} {k : Nat} (h : Bq W k 3 #[.int .i64 x]) : RNm W (.slice (some ⟨k, 0, none⟩) 1 1) [x] := by
  refine .inr ⟨k, 0, 1, rfl, Nat.le_refl _, h.lt, fun j u hu => ?_⟩
  rw [Nat.zero_add]
  exact h.cell j u (by simpa [flat, enN] using hu)
def OtV (N : Nat) (l : List (List UInt8)) : World → Value → Prop := fun W v => OT W N v l
def RrV (n : Nat) (ls : List (List (List UInt8))) : World → Value → Prop := fun W v => RR W v ls ∧ ∃ b, v = .slice (some ⟨b, 0, none⟩) n n
def TbV : World → Value → Prop := fun W v => ∃ tb bs, Tb W v tb bs

/-- what a region knows of the world in which operation n writes a line -/
structure LnJ (c b B : Nat) (L M : List UInt8) (n : Nat) (X : World) (f : Nat → Bool) (W : World) : Prop where
  ln : LnP c b B (if f n then M else L) W
  wr : Wrt B b X W
  be : f n = false → Below X.heap.size X W ∧ X.heap.size ≤ W.heap.size
theorem LnJ.one {c b B : Nat} {L M : List UInt8} {n : Nat} {X W : World} {f : Nat → Bool} (h : LnJ c b B L M n X f W) (i : Nat) (hi : n ≠ i) : LnJ c b B L M n X (fun q => f q || q == i) W := by
  have e : (f n || n == i) = f n := by
    have : (n == i) = false := by rw [beq_eq_false_iff_ne]; exact hi
    rw [this, Bool.or_false]
  exact ⟨by show LnP c b B (if (f n || n == i) then M else L) W; rw [e]; exact h.ln, h.wr, fun q => h.be (by rw [← e]; exact q)⟩
theorem LnJ.grow {c b B : Nat} {L M : List UInt8} {n : Nat} {X W W' : World} {f : Nat → Bool} (h : LnJ c b B L M n X f W) (i : Nat) (hi : n ≠ i) (hf : f n = false) (hb : Below W.heap.size W W') : LnJ c b B L M n X (fun q => f q || q == i) W' :=
  (show LnJ c b B L M n X f W' from ⟨h.ln.below hb, h.wr.trans (Wrt.of_below hb h.ln.sz), fun _ => ⟨(h.be hf).1.trans (hb.mono (h.be hf).2), Nat.le_trans (h.be hf).2 hb.size⟩⟩).one i hi
theorem LnJ.put {c b B : Nat} {L M : List UInt8} {n : Nat} {X W W' : World} {f : Nat → Bool} (h : LnJ c b B L M n X f W) (hp : LnP c b B M W') (hw : Wrt B b W W') : LnJ c b B L M n X (fun q => f q || q == n) W' :=
  ⟨by show LnP c b B (if (f n || n == n) then M else L) W'; simpa using hp, h.wr.trans hw, fun e => by simp at e⟩
theorem LnJ.at0 {c b B : Nat} {L M : List UInt8} {n : Nat} {X W : World} {f : Nat → Bool} (h : LnJ c b B L M n X f W) (hf : f n = false) : LnP c b B L W := by
  have := h.ln
  rw [hf] at this
  exact this
theorem LnJ.fin {c b B : Nat} {L M : List UInt8} {n : Nat} {X W : World} {f : Nat → Bool} (h : LnJ c b B L M n X f W) (hf : f n = true) : LnP c b B M W ∧ Wrt B b X W := by
  have := h.ln
  rw [hf] at this
  exact ⟨this, h.wr⟩
theorem stT' {c b B : Nat} {L : List UInt8} {W W' : World} {v : Value} (hl : LnP c b B L W) (hG : Wrt B b W W') (h : TbV W v) : TbV W' v := by
  obtain ⟨tb, bs, h⟩ := h
  obtain ⟨y, fb, hB⟩ := hl.bld
  exact ⟨tb, bs, h.wrt hG hB⟩
theorem run_call_clo {P : Program} {ρ : Operand → Value} {o : Oper} {f : FuncId} {caps : Array Value} {c : Operand} {xs : Array Operand} {ts : Array TypeId} (hop : o.op = .call { callee := .value c, args := xs, argTypes := ts }) (hc : ρ c = .func (.func f) #[] caps) (he : ∀ args w, (callFunc f args).run P w = .ok (.enter f args) w) (w : World) : (execOp ρ o).run P w = .ok (.enter f (xs.map ρ ++ caps)) w := by
  unfold execOp
  rw [hop]
  simp [resolve, hc, Deferred.ofValue, invoke, he]
theorem step_clo {P : Program} {o : Oper} {ρ : Operand → Value} {w : World} {R : Value → World → Prop} (f : FuncId) (caps : Array Value) (c : Operand) (xs : Array Operand) (ts : Array TypeId) (args : Array Value) (hop : o.op = .call { callee := .value c, args := xs, argTypes := ts }) (hc : ρ c = .func (.func f) #[] caps) (he : ∀ args w, (callFunc f args).run P w = .ok (.enter f args) w) (ha : xs.map ρ ++ caps = args) (hq : Calls P f args w fun e w'' => ∃ v, e = .returned v ∧ R v w'') : StepOK P o ρ w R :=
  .inr ⟨f, args, w, ha ▸ run_call_clo hop hc he w, hq⟩
theorem run_load_agg {P : Program} {ρ : Operand → Value} {o : Oper} {w : World} (ty : TypeId) (x : Operand) (ho : o.op = .load ty x) {g : Nat} (hx : ρ x = .pointer (some ⟨g, 0, none⟩)) {t : TypeId} {cs : Array Value} {fr : Nat × Nat} {d : TypeDesc} (hg : w.heap[g]? = some (.cells cs t fr))
    (hu : P.underlying ty = some d) (hd : (match d with | .struct _ | .array _ _ => true | _ => false) = true) (hi : (P.info? ty).map (·.size) = some cs.size) : (execOp ρ o).run P w = .ok (.value (.agg cs)) w := by
  unfold execOp
  simp only [ho, hx, Instr.loadAt, Instr.sureAddr, Sem.run_bind, Sem.run_pure, Result.andThen_ok, run_loadVar_row w g t ty cs fr d hg hu hd hi]
theorem run_conv {P : Program} {ρ : Operand → Value} {o : Oper} {w : World} {a b : TypeId} {x : Operand} (ho : o.op = .convert a b x) {v u : Value} (hx : ρ x = v) (h : (convert a b v).run P w = .ok u w) : (execOp ρ o).run P w = .ok (.value u) w := by
  unfold execOp
  simp only [ho, hx, Sem.run_bind, Sem.run_pure, h, Result.andThen_ok]
theorem put_sz {a : Act} {k N : Nat} {v : Value} (hs : a.tmps.size = N) : (a.put (some k) v).tmps.size = N := by
  rw [← hs]
  simp [Act.put]
theorem put_df {a : Act} {k : Nat} {v : Value} (hd : a.defers = []) : (a.put (some k) v).defers = [] := hd
theorem put_base {a : Act} {k : Nat} {v : Value} {base : List (Nat × Value)} (hk : base.all (fun p => p.1 != k) = true) (hb : ∀ p ∈ base, a.eval (.tmp p.1) = p.2) : ∀ p ∈ base, (a.put (some k) v).eval (.tmp p.1) = p.2 := fun p hp => by
  have := List.all_eq_true.1 hk p hp
  rw [Act.eval_put (fun d hd e => by simp at hd e; rw [e, ← hd] at this; simp at this)]
  exact hb p hp
theorem rr6 {W : World} {N : Nat} {u0 u1 u2 u3 u4 u5 : Value} {l0 l1 l2 l3 l4 l5 : List (List UInt8)} (h0 : OT W N u0 l0) (h1 : OT W N u1 l1) (h2 : OT W N u2 l2) (h3 : OT W N u3 l3) (h4 : OT W N u4 l4) (h5 : OT W N u5 l5) : RR (W.alloc (.cells #[u0, u1, u2, u3, u4, u5] 96)) (.slice (some ⟨W.heap.size, 0, none⟩) 6 6) [l0, l1, l2, l3, l4, l5] :=
  RR.new W [u0, u1, u2, u3, u4, u5] [l0, l1, l2, l3, l4, l5] rfl (fun j l hj => by
    match j, hj with
    | 0, hj => cases hj; exact ⟨u0, rfl, h0.rt, h0.ty⟩
    | 1, hj => cases hj; exact ⟨u1, rfl, h1.rt, h1.ty⟩
    | 2, hj => cases hj; exact ⟨u2, rfl, h2.rt, h2.ty⟩
    | 3, hj => cases hj; exact ⟨u3, rfl, h3.rt, h3.ty⟩
    | 4, hj => cases hj; exact ⟨u4, rfl, h4.rt, h4.ty⟩
    | 5, hj => cases hj; exact ⟨u5, rfl, h5.rt, h5.ty⟩
    | n + 6, hj => simp at hj) 6 rfl
end Go.Proofs.YtkndjbmlkfpfoaaGreatDoor
