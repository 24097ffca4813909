/-
  A copy, in memory and as words; what stays while a line is laid.
-/
import Derived.Test.YtkndjbmlkfpfoaaGreatDoorZTJToTM
import Derived.Test.YtkndjbmlkfpfoaaGreatDoorZTRToTS0
import Derived.Test.YtkndjbmlkfpfoaaGreatDoorZRegUToTO
import Derived.Test.YtkndjbmlkfpfoaaGreatDoorZLN0ToRegT

set_option linter.unusedSimpArgs false
set_option linter.unusedVariables false
namespace Go.Proofs.YtkndjbmlkfpfoaaGreatDoor
open Go Go.RowKit Go.Lib

structure Cpy where
  num : Int
  frm : Int
  to_ : Int
  sent : Int
  bad : Bool
  data : List UInt8
/-- a copy's cells, of its row's value -/
def cpC (c : Cpy) (dv : Value) : Array Value := #[.int .i64 c.num, .int .i64 c.frm, .int .i64 c.to_, dv, .int .i64 c.sent, .bool c.bad]
def enP (e : Cpy × Value) : List Value := (cpC e.1 e.2).toList
theorem enP_len (e : Cpy × Value) : (enP e).length = 6 := rfl
structure CpW (c : Cpy) : Prop where
  num : in64 c.num
  frm : in64 c.frm
  to_ : in64 c.to_
  sent : in64 c.sent
  data : c.data.length ≤ 1000000
/-- a row of copies -/
structure RCpy (W : World) (v : Value) (l : List (Cpy × Value)) : Prop where
  row : RC W v l.length (flat enP l)
  by_ : ∀ e ∈ l, RBy W e.2 e.1.data
theorem RCpy.below {W W' : World} {v : Value} {l : List (Cpy × Value)} (h : RCpy W v l) (hb : Below W.heap.size W W') : RCpy W' v l := ⟨RC.below h.row hb, fun e he => RC.below (h.by_ e he) hb⟩
theorem RCpy.at {W : World} {a : Option Addr} {n c : Nat} {l : List (Cpy × Value)} (h : RCpy W (.slice a n c) l) {i : Nat} {e : Cpy × Value} (hi : l[i]? = some e) :
    ∃ b off, a = some ⟨b, off, none⟩ ∧ b < W.heap.size ∧ ∀ (q : Nat) u, (enP e)[q]? = some u → W.cell? ⟨b, off + i * 6 + q, none⟩ = some u := by
  rcases h.row with ⟨h0, _⟩ | ⟨b, off, cap, e2, hn, hlt, hc⟩
  · have := (List.getElem?_eq_some_iff.1 hi).1; omega
  · simp at e2
    refine ⟨b, off, e2.1, hlt, fun q u hu => ?_⟩
    have hq := (List.getElem?_eq_some_iff.1 hu).1
    rw [enP_len] at hq
    rw [Nat.add_assoc]
    exact hc _ _ ((flat_get enP_len l i q e hi hq).trans hu)
def cyT : List UInt8 := [32, 32, 99, 111, 112, 121]
def frT : List UInt8 := [102, 114, 111, 109]
def toT : List UInt8 := [116, 111]
def seT : List UInt8 := [115, 101, 110, 116]
def baT : List UInt8 := [98, 97, 100]
def cpW (c : Cpy) : List (List (List UInt8)) := [[itoa c.num], frT :: [c.frm].map itoa, toT :: [c.to_].map itoa, seT :: [c.sent].map itoa, if c.bad then [baT] else [], [(qT (ofL c.data)).data.toList]]
def cpT (c : Cpy) : List UInt8 := lnT cyT (cpW c).flatten
def csT (l : List (Cpy × Value)) : List UInt8 := l.flatMap fun e => cpT e.1
theorem cpW_len (c : Cpy) : (cpW c).flatten.length ≤ 9 := by unfold cpW; cases c.bad <;> simp
theorem csT_take {l : List (Cpy × Value)} {j : Nat} {e : Cpy × Value} (h : l[j]? = some e) : csT (l.take (j + 1)) = csT (l.take j) ++ cpT e.1 := by
  unfold csT
  rw [List.take_add_one, h]
  simp
theorem csT_le {l : List (Cpy × Value)} {j : Nat} : (csT (l.take j)).length ≤ (csT l).length := by
  conv => rhs; rw [← List.take_append_drop j l]
  unfold csT
  simp only [List.flatMap_append, List.length_append]
  omega

/-- what is kept where a Builder alone is written -/
def anyV : World → Value → Prop := fun _ _ => True
def I1 (x : Int) : World → Value → Prop := fun W v => ∃ k, v = .slice (some ⟨k, 0, none⟩) 1 1 ∧ Bq W k 3 #[.int .i64 x]
theorem I1.nm {x : Int} {W : World} {k : Nat} (h : Bq W k 3 #[.int .i64 x]) : RNm W (.slice (some ⟨k, 0, none⟩) 1 1) [x] := by
  refine .inr ⟨k, 0, 1, rfl, Nat.le_refl _, h.lt, fun j u hu => ?_⟩
  rw [Nat.zero_add]
  exact h.cell j u (by simpa [flat, enN] using hu)
theorem Wrt.bq' {B b : Nat} {W W' : World} (h : Wrt B b W W') {x : Array Value} {fb : Nat × Nat} (hB : W.heap[b]? = some (.cells x 86 fb)) {k : Nat} {t : TypeId} {vs : Array Value} (hb : Bq W k t vs) (h1 : t ≠ 86) (h2 : t ≠ 5) : Bq W' k t vs :=
  h.bq hb (fun e => by subst e; unfold Bq at hb; rw [hB] at hb; cases hb; exact h1 rfl) h2
def OtV (N : Nat) (l : List (List UInt8)) : World → Value → Prop := fun W v => OT W N v l
def RrV (n : Nat) (ls : List (List (List UInt8))) : World → Value → Prop := fun W v => RR W v ls ∧ ∃ b, v = .slice (some ⟨b, 0, none⟩) n n
def TbV : World → Value → Prop := fun W v => ∃ tb bs, Tb W v tb bs

/-- what a region knows of the world in which operation n writes a line -/
structure LnJ (c b B : Nat) (L M : List UInt8) (n : Nat) (X : World) (f : Nat → Bool) (W : World) : Prop where
  ln : LnP c b B (if f n then M else L) W
  wr : Wrt B b X W
  be : f n = false → Below X.heap.size X W ∧ X.heap.size ≤ W.heap.size
theorem LnJ.one {c b B : Nat} {L M : List UInt8} {n : Nat} {X W : World} {f : Nat → Bool} (h : LnJ c b B L M n X f W) (i : Nat) (hi : n ≠ i) : LnJ c b B L M n X (fun q => f q || q == i) W := by
  have e : (f n || n == i) = f n := by
    have : (n == i) = false := by rw [beq_eq_false_iff_ne]; exact hi
    rw [this, Bool.or_false]
  exact ⟨by show LnP c b B (if (f n || n == i) then M else L) W; rw [e]; exact h.ln, h.wr, fun q => h.be (by rw [← e]; exact q)⟩
theorem LnJ.grow {c b B : Nat} {L M : List UInt8} {n : Nat} {X W W' : World} {f : Nat → Bool} (h : LnJ c b B L M n X f W) (i : Nat) (hi : n ≠ i) (hf : f n = false) (hb : Below W.heap.size W W') : LnJ c b B L M n X (fun q => f q || q == i) W' :=
  (show LnJ c b B L M n X f W' from ⟨h.ln.below hb, h.wr.trans (Wrt.of_below hb h.ln.sz), fun _ => ⟨(h.be hf).1.trans (hb.mono (h.be hf).2), Nat.le_trans (h.be hf).2 hb.size⟩⟩).one i hi
theorem LnJ.put {c b B : Nat} {L M : List UInt8} {n : Nat} {X W W' : World} {f : Nat → Bool} (h : LnJ c b B L M n X f W) (hp : LnP c b B M W') (hw : Wrt B b W W') : LnJ c b B L M n X (fun q => f q || q == n) W' :=
  ⟨by show LnP c b B (if (f n || n == n) then M else L) W'; simpa using hp, h.wr.trans hw, fun e => by simp at e⟩
theorem LnJ.at0 {c b B : Nat} {L M : List UInt8} {n : Nat} {X W : World} {f : Nat → Bool} (h : LnJ c b B L M n X f W) (hf : f n = false) : LnP c b B L W := by
  have := h.ln
  rw [hf] at this
  exact this
theorem LnJ.fin {c b B : Nat} {L M : List UInt8} {n : Nat} {X W : World} {f : Nat → Bool} (h : LnJ c b B L M n X f W) (hf : f n = true) : LnP c b B M W ∧ Wrt B b X W := by
  have := h.ln
  rw [hf] at this
  exact ⟨this, h.wr⟩
/-- what stays -/
theorem stI {c b B : Nat} {L : List UInt8} {W W' : World} {x : Int} {v : Value} (hl : LnP c b B L W) (hG : Wrt B b W W') (h : I1 x W v) : I1 x W' v := by
  obtain ⟨k, e, hk⟩ := h
  obtain ⟨y, fb, hB⟩ := hl.bld
  exact ⟨k, e, hG.bq' hB hk (by decide) (by decide)⟩
theorem stR {c b B n : Nat} {L : List UInt8} {W W' : World} {ls : List (List (List UInt8))} {v : Value} (hl : LnP c b B L W) (hG : Wrt B b W W') (h : RrV n ls W v) : RrV n ls W' v := by
  obtain ⟨y, fb, hB⟩ := hl.bld
  exact ⟨h.1.wrt hG hB, h.2⟩
theorem stT' {c b B : Nat} {L : List UInt8} {W W' : World} {v : Value} (hl : LnP c b B L W) (hG : Wrt B b W W') (h : TbV W v) : TbV W' v := by
  obtain ⟨tb, bs, h⟩ := h
  obtain ⟨y, fb, hB⟩ := hl.bld
  exact ⟨tb, bs, h.wrt hG hB⟩
theorem run_call_clo {P : Program} {ρ : Operand → Value} {o : Oper} {f : FuncId} {caps : Array Value} {c : Operand} {xs : Array Operand} {ts : Array TypeId} (hop : o.op = .call { callee := .value c, args := xs, argTypes := ts }) (hc : ρ c = .func (.func f) #[] caps) (he : ∀ args w, (callFunc f args).run P w = .ok (.enter f args) w) (w : World) : (execOp ρ o).run P w = .ok (.enter f (xs.map ρ ++ caps)) w := by
  unfold execOp
  rw [hop]
  simp [resolve, hc, Deferred.ofValue, invoke, he]
theorem step_clo {P : Program} {o : Oper} {ρ : Operand → Value} {w : World} {R : Value → World → Prop} (f : FuncId) (caps : Array Value) (c : Operand) (xs : Array Operand) (ts : Array TypeId) (args : Array Value) (hop : o.op = .call { callee := .value c, args := xs, argTypes := ts }) (hc : ρ c = .func (.func f) #[] caps) (he : ∀ args w, (callFunc f args).run P w = .ok (.enter f args) w) (ha : xs.map ρ ++ caps = args) (hq : Calls P f args w fun e w'' => ∃ v, e = .returned v ∧ R v w'') : StepOK P o ρ w R :=
  .inr ⟨f, args, w, ha ▸ run_call_clo hop hc he w, hq⟩
theorem run_load_agg {P : Program} {ρ : Operand → Value} {o : Oper} {w : World} (ty : TypeId) (x : Operand) (ho : o.op = .load ty x) {g : Nat} (hx : ρ x = .pointer (some ⟨g, 0, none⟩)) {t : TypeId} {cs : Array Value} {fr : Nat × Nat} {d : TypeDesc} (hg : w.heap[g]? = some (.cells cs t fr))
    (hu : P.underlying ty = some d) (hd : (match d with | .struct _ | .array _ _ => true | _ => false) = true) (hi : (P.info? ty).map (·.size) = some cs.size) : (execOp ρ o).run P w = .ok (.value (.agg cs)) w := by
  unfold execOp
  simp only [ho, hx, Instr.loadAt, Instr.sureAddr, Sem.run_bind, Sem.run_pure, Result.andThen_ok, run_loadVar_row w g t ty cs fr d hg hu hd hi]
theorem run_conv {P : Program} {ρ : Operand → Value} {o : Oper} {w : World} {a b : TypeId} {x : Operand} (ho : o.op = .convert a b x) {v u : Value} (hx : ρ x = v) (h : (convert a b v).run P w = .ok u w) : (execOp ρ o).run P w = .ok (.value u) w := by
  unfold execOp
  simp only [ho, hx, Sem.run_bind, Sem.run_pure, h, Result.andThen_ok]
theorem put_sz {a : Act} {k N : Nat} {v : Value} (hs : a.tmps.size = N) : (a.put (some k) v).tmps.size = N := by
  rw [← hs]
  simp [Act.put]
theorem put_df {a : Act} {k : Nat} {v : Value} (hd : a.defers = []) : (a.put (some k) v).defers = [] := hd
theorem put_base {a : Act} {k : Nat} {v : Value} {base : List (Nat × Value)} (hk : base.all (fun p => p.1 != k) = true) (hb : ∀ p ∈ base, a.eval (.tmp p.1) = p.2) : ∀ p ∈ base, (a.put (some k) v).eval (.tmp p.1) = p.2 := fun p hp => by
  have := List.all_eq_true.1 hk p hp
  rw [Act.eval_put (fun d hd e => by simp at hd e; rw [e, ← hd] at this; simp at this)]
  exact hb p hp
theorem rr6 {W : World} {N : Nat} {u0 u1 u2 u3 u4 u5 : Value} {l0 l1 l2 l3 l4 l5 : List (List UInt8)} (h0 : OT W N u0 l0) (h1 : OT W N u1 l1) (h2 : OT W N u2 l2) (h3 : OT W N u3 l3) (h4 : OT W N u4 l4) (h5 : OT W N u5 l5) : RR (W.alloc (.cells #[u0, u1, u2, u3, u4, u5] 96)) (.slice (some ⟨W.heap.size, 0, none⟩) 6 6) [l0, l1, l2, l3, l4, l5] :=
  RR.new W [u0, u1, u2, u3, u4, u5] [l0, l1, l2, l3, l4, l5] rfl (fun j l hj => by
    match j, hj with
    | 0, hj => cases hj; exact ⟨u0, rfl, h0.rt, h0.ty⟩
    | 1, hj => cases hj; exact ⟨u1, rfl, h1.rt, h1.ty⟩
    | 2, hj => cases hj; exact ⟨u2, rfl, h2.rt, h2.ty⟩
    | 3, hj => cases hj; exact ⟨u3, rfl, h3.rt, h3.ty⟩
    | 4, hj => cases hj; exact ⟨u4, rfl, h4.rt, h4.ty⟩
    | 5, hj => cases hj; exact ⟨u5, rfl, h5.rt, h5.ty⟩
    | n + 6, hj => simp at hj) 6 rfl
end Go.Proofs.YtkndjbmlkfpfoaaGreatDoor

/-
  What the document fixes, as texts. Pure.
-/
set_option linter.unusedSimpArgs false
set_option linter.unusedVariables false
namespace Go.Proofs.YtkndjbmlkfpfoaaGreatDoor
open Go Go.RowKit Go.Lib

def kt1 : ByteArray := ⟨#[105, 110, 115, 101, 114, 116, 32, 49, 32, 48, 32, 34, 104, 92, 117, 123, 101, 57, 125, 34, 10, 35, 32, 120, 10, 116, 105, 99, 107, 32, 50, 32, 45, 49, 10]⟩
def kt2 : ByteArray := ⟨#[10, 108, 101, 97, 118, 101, 10]⟩
def ks1 : Sp := ⟨1, 1, 0, 0, 0, 0, ⟨#[104, 195, 169]⟩, [], []⟩
def ks2 : Sp := ⟨6, 0, 0, 0, 0, 0, ⟨#[]⟩, [2, -1], []⟩
def ks3 : Sp := ⟨8, 0, 0, 0, 0, 7, ⟨#[]⟩, [], []⟩
def kc1 : Cpy := ⟨7, 1, 2, 4, true, [1]⟩
set_option maxRecDepth 100000
theorem kp_1 : prL (scL kt1) = .inl ([ks1, ks2], []) := by kernel_rfl
theorem kp_2 : prL (scL kt2) = .inr (2, 19) := by kernel_rfl
theorem kp_3 : stT ks1 ++ stT ks2 = [105, 110, 115, 101, 114, 116, 32, 49, 32, 48, 32, 34, 104, 195, 169, 34, 10, 116, 105, 99, 107, 32, 50, 32, 45, 49, 10] := by kernel_rfl
theorem kp_4 : stT ks3 ++ cpT kc1 = [100, 114, 111, 112, 32, 55, 10, 32, 32, 99, 111, 112, 121, 32, 55, 32, 102, 114, 111, 109, 32, 49, 32, 116, 111, 32, 50, 32, 115, 101, 110, 116, 32, 52, 32, 98, 97, 100, 32, 34, 92, 120, 48, 49, 34, 10] := by kernel_rfl
end Go.Proofs.YtkndjbmlkfpfoaaGreatDoor

/-
  A region that draws its order, by an invariant over what has been done; its last operation, behind all others, is walked by itself, whatever it is (no fence).
-/
set_option linter.unusedSimpArgs false
set_option linter.unusedVariables false
namespace Go.Proofs.YtkndjbmlkfpfoaaGreatDoor
open Go

theorem region_cl {P : Program} {ops : Array Oper} {Q : Exit → Act → World → Prop} (N : Nat) (D : Nat → Nat) (base : List (Nat × Value)) (J : (Nat → Bool) → World → Prop) (V : Nat → World → Value → Prop) (G : World → World → Prop) (ds : List Deferred) (hpos : 0 < ops.size)
    (hfit : fitsS ops N D (base.map (·.1)) = true)
    (hlast : lastLast ops = true) (hV : ∀ j f w w' v, J f w → V j w v → G w w' → V j w' v)
    (hstep : StepsAll (fun i o => i < ops.size - 1 → ∀ f ρ w, (∀ q, q = i ∨ depOn ops q i = true → f q = false) → (∀ (k : Nat) (e : Edge), o.after[k]? = some e → Region.binds .any e = true → f e.on = true) → FrameLike ρ → J f w → (∀ p ∈ base, ρ (.tmp p.1) = p.2) → (∀ (k : Nat) (e : Edge), o.after[k]? = some e → Region.binds .any e = true → V e.on w (ρ (.tmp (D e.on)))) → StepOK P o ρ w (fun v w' => G w w' ∧ J (fun q => f q || q == i) w' ∧ V i w' v)) 0 ops.toList)
    (hfin : ∀ (a : Act) (w : World) (o : Oper), ops[ops.size - 1]? = some o → a.tmps.size = N → a.defers = ds → (∀ p ∈ base, a.eval (.tmp p.1) = p.2) → (∃ f, (∀ q, q < ops.size - 1 → f q = true) ∧ f (ops.size - 1) = false ∧ J f w) → (∀ j, j < ops.size - 1 → V j w (a.eval (.tmp (D j)))) → StepOK P o a.eval w (fun v w' => Q .normal (a.put o.dst v) w')) :
    ∀ a w, a.tmps.size = N → a.defers = ds → (∀ p ∈ base, a.eval (.tmp p.1) = p.2) → J (fun _ => false) w → wpAny P .any ops Q ops.size (Array.replicate ops.size false) a w := by
  have fits0 : ∀ (i : Nat) (o : Oper), ops[i]? = some o → o.guard = none ∧ ∀ e ∈ o.after, e.on < i := by
    intro i o ho
    have hi := (Array.getElem?_eq_some_iff.1 ho).1
    have h := List.all_eq_true.1 hfit i (List.mem_range.2 hi)
    simp only [ho, Bool.and_eq_true] at h
    refine ⟨by simpa using h.1.1, fun e he => ?_⟩
    have := Array.all_eq_true_iff_forall_mem.1 h.1.2 e he
    simpa using this
  have fits : ∀ (i : Nat) (o : Oper), i ≠ ops.size - 1 → ops[i]? = some o → o.dst = some (D i) ∧ D i < N ∧ (∀ p ∈ base, p.1 ≠ D i) ∧ (∀ j, j < ops.size - 1 → D j = D i → j = i) := by
    intro i o hne ho
    have hi := (Array.getElem?_eq_some_iff.1 ho).1
    have h := List.all_eq_true.1 hfit i (List.mem_range.2 hi)
    simp only [ho, Bool.and_eq_true] at h
    have h2 := h.2
    rw [show (i == ops.size - 1) = false by simpa using hne, Bool.false_or] at h2
    simp only [Bool.and_eq_true] at h2
    obtain ⟨⟨⟨h1, h2⟩, h3⟩, h4⟩ := h2
    refine ⟨by simpa using h1, by simpa using h2, fun p hp e => ?_, fun j hj e => ?_⟩
    · simp at h3
      exact h3 p.2 (by rw [← e]; exact hp)
    · have := List.all_eq_true.1 h4 j (List.mem_range.2 hj)
      simp [e] at this
      exact this
  have ready_none : ∀ (listed : Array Bool), listed.size = ops.size → Region.ready .any ops listed = [] → ∀ j, j < ops.size → listed.getD j false = true := by
    intro listed hls hr j hj
    have all : ∀ q j, j < q → j < ops.size → listed.getD j false = true := by
      intro q
      induction q with
      | zero => intro j h; omega
      | succ q ih =>
        intro j _ hj
        by_cases hjm : j < q
        · exact ih j hjm hj
        · obtain ⟨o, ho⟩ : ∃ o, ops[j]? = some o := ⟨_, Array.getElem?_eq_getElem hj⟩
          by_cases hl : listed.getD j true = false
          · exfalso
            have : j ∈ Region.ready .any ops listed := by
              refine mem_ready.2 ⟨hl, o, ho, fun e he hb => ?_⟩
              have := (fits0 j o ho).2 e he
              exact ih e.on (by omega) (by omega)
            rw [hr] at this
            cases this
          · have hl2 : j < listed.size := by rw [hls]; exact hj
            simp [hl2] at hl ⊢
            exact hl
    exact all (j + 1) j (by omega) hj
  have none_ready : ∀ (listed : Array Bool), listed.size = ops.size → (∀ j, j < ops.size → listed.getD j false = true) → Region.ready .any ops listed = [] := by
    intro listed hls hall
    cases h : Region.ready .any ops listed with
    | nil => rfl
    | cons i rs =>
      exfalso
      obtain ⟨o, ho, h0, _⟩ := ready_lt (md := .any) (ops := ops) (listed := listed) (i := i) (by rw [h]; simp)
      have hi := (Array.getElem?_eq_some_iff.1 ho).1
      have := hall i hi
      have hi3 : i < listed.size := by rw [hls]; exact hi
      simp [hi3] at h0 this
      rw [this] at h0; cases h0
  have fin : ∀ fuel (listed : Array Bool) a w, listed.size = ops.size → (∀ j, j < ops.size → listed.getD j false = true) → Q .normal a w → wpAny P .any ops Q fuel listed a w := by
    intro fuel listed a w hls hall hq
    have hr := none_ready listed hls hall
    cases fuel with
    | zero => exact ⟨hr, hq⟩
    | succ fuel => exact ⟨fun _ => hq, fun i hi => by rw [hr] at hi; cases hi⟩
  have main : ∀ fuel listed a w, unlisted listed ≤ fuel → RInvS ops N D base ds J V listed a w → wpAny P .any ops Q fuel listed a w := by
    intro fuel
    induction fuel with
    | zero =>
      intro listed a w hf hI
      exfalso
      have hl3 : ops.size - 1 < listed.size := by rw [hI.lsize]; omega
      have h0 : listed.getD (ops.size - 1) true = false := by
        have := hI.open_
        simp [hl3] at this ⊢
        exact this
      have := unlisted_set h0
      omega
    | succ fuel ih =>
      intro listed a w hf hI
      refine ⟨fun hr => ?_, fun i hi => ?_⟩
      · exfalso
        have := ready_none listed hI.lsize hr (ops.size - 1) (by omega)
        rw [hI.open_] at this; cases this
      obtain ⟨o, ho, h0, hall⟩ := ready_lt hi
      obtain ⟨f0, f5⟩ := fits0 i o ho
      have hii := (Array.getElem?_eq_some_iff.1 ho).1
      have hi3 : i < listed.size := by rw [hI.lsize]; exact hii
      have hil : listed.getD i false = false := by
        simp [hi3] at h0 ⊢
        exact h0
      have hw : Region.wanted o (yielded ops a.tmps) = true := by
        unfold Region.wanted
        rw [f0]
      unfold wpOp
      simp only [ho, hw, if_true]
      have up : ∀ q, listed.getD q false = true → (listed.setIfInBounds i true).getD q false = true := fun q hq => by
        by_cases hqi : q = i
        · subst hqi; rw [hil] at hq; cases hq
        · rw [getD_set_ne false (Ne.symm hqi)]; exact hq
      have hdown : ∀ (i' : Nat) (o' : Oper), ops[i']? = some o' → (listed.setIfInBounds i true).getD i' false = true → ∀ e ∈ o'.after, Region.binds .any e = true → (listed.setIfInBounds i true).getD e.on false = true := by
        intro i' o' ho' hl' e he hb
        by_cases hii' : i' = i
        · subst hii'
          rw [ho] at ho'; cases ho'
          exact up _ (hall e he hb)
        · rw [getD_set_ne false (Ne.symm hii')] at hl'
          exact up _ (hI.down i' o' ho' hl' e he hb)
      by_cases hil2 : i = ops.size - 1
      · have hself : (listed.setIfInBounds i true).getD (ops.size - 1) false = true := by rw [← hil2]; simp [hi3]
        have hall2 : ∀ q, q < ops.size → (listed.setIfInBounds i true).getD q false = true := fun q hq => last_all hlast hdown hself (ops.size - 1 - q) q (by omega)
        have hall3 : ∀ q, q < ops.size - 1 → listed.getD q false = true := fun q hq => by
          have := hall2 q (by omega)
          rwa [getD_set_ne false (by omega)] at this
        have hso := hfin a w o (by rw [← hil2]; exact ho) hI.size hI.defers hI.base ⟨_, hall3, hI.open_, hI.world⟩ (fun j hj => hI.vals j hj (hall3 j hj))
        refine .inl (StepOK.wp hso fun v w' hq => ?_)
        exact fin _ _ _ _ (by simpa using hI.lsize) hall2 hq
      · obtain ⟨f1, f2, f3, f4⟩ := fits i o hil2 ho
        have hS := hstep.get (j := i) (o := o) (by simpa using ho)
        rw [Nat.zero_add] at hS
        have hlast2 : ∀ e ∈ o.after, e.on < ops.size - 1 := fun e he => by have := f5 e he; omega
        have hdep : ∀ (k : Nat) (e : Edge), o.after[k]? = some e → Region.binds .any e = true → V e.on w (a.eval (.tmp (D e.on))) := fun k e he hb => hI.vals e.on (hlast2 e (Array.mem_of_getElem? he)) (hall e (Array.mem_of_getElem? he) hb)
        have hmf : ∀ q, q = i ∨ depOn ops q i = true → listed.getD q false = false := by
          rintro q (e | hdp)
          · rw [e]; exact hil
          · unfold depOn at hdp
            cases hom : ops[q]? with
            | none => simp [hom] at hdp
            | some om =>
              simp only [hom] at hdp
              obtain ⟨e, he, hb⟩ := Array.any_eq_true'.1 hdp
              simp at hb
              cases hx : listed.getD q false with
              | false => rfl
              | true =>
                have := hI.down q om hom hx e he hb.1
                rw [hb.2, hil] at this
                cases this
        have hst := hS (by omega) (fun q => listed.getD q false) a.eval w hmf (fun k e he hb => hall e (Array.mem_of_getElem? he) hb) ⟨fun _ => rfl, fun _ => rfl⟩ hI.world hI.base hdep
        refine .inl (StepOK.wp hst fun v w' hR => ?_)
        obtain ⟨hG, hJi, hVi⟩ := hR
        refine ih _ _ _ (by have := unlisted_set h0; omega) ?_
        have hDi : D i < a.tmps.size := by rw [hI.size]; exact f2
        rw [f1]
        refine ⟨by simpa using hI.lsize, by simpa [Act.put] using hI.size, by simpa [Act.put] using hI.defers, fun p hp => ?_, ?_, hdown, ?_, fun j hjn hj => ?_⟩
        · rw [Act.eval_put (fun d hd e => f3 p hp (by simp at hd e; rw [e, hd]))]
          exact hI.base p hp
        · rw [getD_set_ne false hil2]; exact hI.open_
        · have ef : (fun q => (listed.setIfInBounds i true).getD q false) = fun q => (fun q => listed.getD q false) q || q == i := by
            funext q
            by_cases hqi : q = i
            · subst hqi
              simp [hi3]
            · rw [getD_set_ne false (Ne.symm hqi)]
              simp [hqi]
          rw [ef]; exact hJi
        · by_cases hji : j = i
          · subst hji
            rw [eval_put_self hDi]
            exact hVi
          · rw [getD_set_ne false (Ne.symm hji)] at hj
            rw [Act.eval_put (fun d hd e => hji (f4 j hjn (by simp at hd e; rw [e, hd])))]
            exact hV j _ w w' _ hI.world (hI.vals j hjn hj) hG
  have none' : ∀ j, (Array.replicate ops.size false).getD j false = false := fun j => by
    by_cases h : j < ops.size
    · simp [h]
    · simp [h]
  intro a w h1 h2 h3 h4
  refine main ops.size _ a w ?_ ⟨by simp, h1, h2, h3, none' _, fun i o _ hl => ?_, by rw [show (fun q => (Array.replicate ops.size false).getD q false) = fun _ => false from funext none']; exact h4, fun j _ hj => ?_⟩
  · have : unlisted (Array.replicate ops.size false) ≤ ops.size := by
      unfold unlisted
      refine Nat.le_trans (List.countP_le_length) (by simp)
    exact this
  · rw [none'] at hl; cases hl
  · rw [none'] at hj; cases hj

end Go.Proofs.YtkndjbmlkfpfoaaGreatDoor
