/-
  A row of the table reads a line's words.
-/
import Derived.Test.YtkndjbmlkfpfoaaGreatDoorZTOToTP
import Derived.Deep.QuietTactic
import Derived.BigQuiet
import Derived.Test.YtkndjbmlkfpfoaaGreatDoorZSn0ToWw

set_option linter.unusedSimpArgs false
set_option linter.unusedVariables false
namespace Go.Proofs.YtkndjbmlkfpfoaaGreatDoor
open Go.RowKit Go.Lib

/-- the fields take, one behind the other -/
def rdFs : List Nat → Sp → List It → Option (Sp × List It)
  | [], s, l => some (s, l)
  | f :: fs, s, l => match tkF s f l with
    | none => none
    | some (s', n) => rdFs fs s' (l.drop n)
def sp0 (k : Int) : Sp := ⟨k, 0, 0, 0, 0, 0, ⟨#[]⟩, [], []⟩
/-- what row i of the table reads -/
def rdRw (i : Nat) (l : List It) : Option Sp := match l with
  | [] => none
  | x :: l => if x.w.k = 1 ∧ x.w.t = ofL (tnm.getD i []) then (match rdFs (tfl.getD i []) (sp0 ((i : Int) + 1)) l with
      | some (s, []) => some s
      | _ => none) else none
theorem rdFs_snoc : ∀ (fs : List Nat) (f : Nat) (s : Sp) (l : List It), rdFs (fs ++ [f]) s l = match rdFs fs s l with
    | none => none
    | some (s', l') => match tkF s' f l' with
      | none => none
      | some (s2, n) => some (s2, l'.drop n) := by
  intro fs
  induction fs with
  | nil =>
    intro f s l
    show (match tkF s f l with | none => none | some (s', n) => rdFs [] s' (l.drop n)) = _
    cases h : tkF s f l with
    | none => simp [rdFs, h]
    | some p => obtain ⟨s', n⟩ := p; simp [rdFs, h]
  | cons g fs ih =>
    intro f s l
    show (match tkF s g l with | none => none | some (s', n) => rdFs (fs ++ [f]) s' (l.drop n)) = _
    cases h : tkF s g l with
    | none => simp [rdFs, h]
    | some p => obtain ⟨s', n⟩ := p; simp [rdFs, h, ih]
theorem rdFs_none : ∀ (fs gs : List Nat) (s : Sp) (l : List It), rdFs fs s l = none → rdFs (fs ++ gs) s l = none := by
  intro fs
  induction fs with
  | nil => intro gs s l h; cases h
  | cons g fs ih =>
    intro gs s l h
    show (match tkF s g l with | none => none | some (s', n) => rdFs (fs ++ gs) s' (l.drop n)) = none
    have h' : (match tkF s g l with | none => none | some (s', n) => rdFs fs s' (l.drop n)) = none := h
    cases h2 : tkF s g l with
    | none => rfl
    | some p => obtain ⟨s', n⟩ := p; rw [h2] at h'; exact ih gs s' _ h'
theorem tkF_cnt {s : Sp} {f : Nat} {l : List It} {s2 : Sp} {n2 : Nat} (h : tkF s f l = some (s2, n2)) : n2 ≤ l.length ∧ s2.draws.length + (l.drop n2).length ≤ s.draws.length + l.length := by
  unfold tkF at h
  split at h
  · split at h
    · cases h
      refine ⟨Nat.le_refl _, ?_⟩
      simp [Sp.dr]
    · cases h
  · split at h
    · cases h
    · rename_i x l2
      split at h
      · split at h
        · cases h
          refine ⟨by simp, ?_⟩
          have : (s.num f x.w.n).draws = s.draws := by unfold Sp.num; split <;> rfl
          rw [this]
          simp
        · cases h
      · split at h
        · cases h
          refine ⟨by simp, ?_⟩
          have : (if f = 5 then s.txt x.w.t else s.dat x.w.t.data.toList).draws = s.draws := by split <;> rfl
          rw [this]
          simp
        · cases h
/-- a Step out of new memory: its two rows -/
def StV (W : World) (N : Nat) (s : Sp) (dv bv : Value) : Prop := W.ownsRow N 3 1 dv s.draws.length (flat enN s.draws) ∧ OwB W N bv s.data
/-- what read answers -/
def RdA (W : World) (r : Option Sp) (e : Ending) (W' : World) : Prop :=
  match r with
  | some s => ∃ dv bv, e = .returned (.tuple #[.agg (spC s dv bv), .bool true]) ∧ StV W' W.heap.size s dv bv ∧ Below W.heap.size W W'
  | none => ∃ (s : Sp) (a1 : Option Addr) (n1 c1 : Nat) (a2 : Option Addr) (n2 c2 : Nat), e = .returned (.tuple #[.agg (spC s (.slice a1 n1 c1) (.slice a2 n2 c2)), .bool false]) ∧ Below W.heap.size W W'

theorem results_ctS {P : Program} {fn : Func} {j p : Tmp} {ty : TypeId} (h : fn.results = #[.cell p ty, .tmp j]) (tmps : Array Value) (w : World) (g : Nat) (t : TypeId) (cs : Array Value) (fr : Nat × Nat) (d : TypeDesc)
    (hp : tmps.getD p undef = .pointer (some ⟨g, 0, none⟩)) (hg : w.heap[g]? = some (.cells cs t fr))
    (hu : P.underlying ty = some d) (hd : (match d with | .struct _ | .array _ _ => true | _ => false) = true) (hi : (P.info? ty).map (·.size) = some cs.size) :
    (results fn tmps).run P w = .ok (.tuple #[.agg cs, tmps.getD j undef]) w := by
  have hp' : tmps[p]?.getD undef = .pointer (some ⟨g, 0, none⟩) := by simpa using hp
  simp [results, h, hp', asAddr, run_loadVar_row w g t ty cs fr d hg hu hd hi]
theorem sizeSt : (Tryz.prog.info? 40).map (·.size) = some 9 := by kernel_rfl
theorem wpl_storeS {w : World} {ops : Array Oper} {rest : List Oper} {o : Oper} {a : Act} {Q : Exit → Act → World → Prop} (hgd : o.guard = none) (x y : Operand) (ho : o.op = .store 40 x y)
    {g : Nat} (hx : a.eval x = .pointer (some ⟨g, 0, none⟩)) {cs : Array Value} (hy : a.eval y = .agg cs) {t : TypeId} {old : Array Value} (hg : Bq w g t old) (h1 : old.size = 9) (h2 : cs.size = 9) (h3 : cs.all (·.oneCell') = true) (h : wpList Tryz.prog ops Q rest (a.put o.dst undef) (w.setRow g cs)) : wpList Tryz.prog ops Q (o :: rest) a w :=
  wpList_store_row hgd _ x y ho g cs hx hy t old hg (by rw [h2]; exact sizeSt) (by rw [h1, h2]) h3 h
theorem kp_setRow (w : World) (g : Nat) (cs : Array Value) : Kp (fun i => i = g) w (w.setRow g cs) := ⟨rfl, rfl, rfl, by simp, fun k _ hk => setRow_other _ _ k _ hk⟩
theorem flat_drop {α : Type} {enc : α → List Value} {k : Nat} (hk : ∀ x, (enc x).length = k) : ∀ (l : List α) (n : Nat), flat enc (l.drop n) = (flat enc l).drop (n * k) := by
  intro l
  induction l with
  | nil => intro n; simp [flat]
  | cons x l ih =>
    intro n
    cases n with
    | zero => simp
    | succ n =>
      have e : (n + 1) * k = (enc x).length + n * k := by rw [hk, Nat.add_mul, Nat.one_mul, Nat.add_comm]
      rw [List.drop_succ_cons, ih, flat_cons, e, ← List.drop_drop, List.drop_left']
      rfl
theorem RW.drop {W : World} {b off n c : Nat} {l : List It} (h : RW W (.slice (some ⟨b, off, none⟩) n c) l) (k : Nat) (hk : k ≤ l.length) : RW W (.slice (some ⟨b, off + k * 5, none⟩) (n - k) (c - k)) (l.drop k) := by
  have hn := RC.len h
  unfold RW at h ⊢
  rw [List.length_drop, ← hn]
  rcases h with ⟨h0, a, cap, e⟩ | ⟨b', off', cap, e, h1, h2, h3⟩
  · exact .inl ⟨by omega, _, _, by rw [hn, h0, Nat.zero_sub]⟩
  · simp at e
    obtain ⟨⟨rfl, rfl⟩, _, rfl⟩ := e
    refine .inr ⟨b, off + k * 5, c - k, rfl, by omega, h2, fun j x hx => ?_⟩
    rw [flat_drop encW_len, List.getElem?_drop] at hx
    have := h3 _ _ hx
    rwa [← Nat.add_assoc] at this

theorem wpl_loadS {w : World} {ops : Array Oper} {rest : List Oper} {o : Oper} {a : Act} {Q : Exit → Act → World → Prop} (hgd : o.guard = none) (x : Operand) (ho : o.op = .load 40 x)
    {g : Nat} (hx : a.eval x = .pointer (some ⟨g, 0, none⟩)) {t : TypeId} {cs : Array Value} (hg : Bq w g t cs) (hs : cs.size = 9) (h : wpList Tryz.prog ops Q rest (a.put o.dst (.agg cs)) w) : wpList Tryz.prog ops Q (o :: rest) a w :=
  wpList_load_row hgd _ x ho g hx t cs (0, 0) _ hg Tryz.underlying40 rfl (by rw [hs]; exact sizeSt) h
theorem RW.dropI {W : World} {la : Option Addr} {ln lc : Nat} {l : List It} (h : RW W (.slice la ln lc) l) (k : Nat) (hk : k ≤ l.length) (hlc : ln ≤ lc) : RW W (.slice (if lc = k then la else Option.map (fun x => x.add (k * 5)) la) (ln - k) (lc - k)) (l.drop k) := by
  have hn := RC.len h
  by_cases hck : lc = k
  · have h0 : ln - k = 0 := by omega
    have hd : l.drop k = [] := List.drop_eq_nil_of_le (by omega)
    rw [h0, hd]
    exact RC.nil _ _ _
  · rw [if_neg hck]
    have h' := h
    rcases h with ⟨h0, _⟩ | ⟨b', off', cap, e, h1, h2, h3⟩
    · have h0' : ln - k = 0 := by omega
      have hd : l.drop k = [] := List.drop_eq_nil_of_le (by omega)
      rw [h0', hd]
      exact RC.nil _ _ _
    · simp at e
      obtain ⟨rfl, e2, rfl⟩ := e
      show RW W (.slice (some ((⟨b', off', none⟩ : Addr).add (k * 5))) (ln - k) (lc - k)) (l.drop k)
      rw [Addr.add_lit]
      exact h'.drop k hk
def zSt : Array Value := #[.int .i64 0, .int .i64 0, .int .i64 0, .int .i64 0, .int .i64 0, .int .i64 0, .string ⟨#[]⟩, .slice none 0 0, .slice none 0 0]
theorem zSt_one : zSt.all (·.oneCell') = true := by simp [zSt, Value.oneCell']
theorem Bq.setRow' {w : World} {g b : Nat} {t : TypeId} {cs vs : Array Value} (h : Bq w b t vs) (hn : b ≠ g) : Bq (w.setRow g cs) b t vs := by
  unfold Bq at h ⊢
  rw [setRow_other _ _ b _ hn]
  exact h

set_option maxRecDepth 100000 in
set_option maxHeartbeats 4000000 in
theorem rowRead_in {W : World} {v wv : Value} {b0 : Nat} {bs : Nat → Nat} {i : Nat} {l : List It} (ht : Tb W v b0 bs) (hi : i < 14) (hr : RW W wv l) (hne : l ≠ []) (hl : l.length ≤ 1000000) (hts : ∀ x ∈ l, x.w.t.size ≤ 1000000) :
    Calls Tryz.prog 25 #[.agg (rwC bs i).toArray, wv] W (RdA W (rdRw i l)) := by
  obtain ⟨fa, fe, hfl⟩ := ht.fields hi
  unfold rwC
  rw [fe]
  obtain ⟨x, l1, rfl⟩ : ∃ x l1, l = x :: l1 := by cases l with | nil => exact absurd rfl hne | cons x l1 => exact ⟨x, l1, rfl⟩
  obtain ⟨a0, c0, rfl⟩ := hr.form
  obtain ⟨g, off, rfl, hglt, w0, w1, w2, w3, w4⟩ := hr.at (i := 0) (x := x) rfl
  rw [Nat.zero_mul, Nat.add_zero] at w0 w1
  obtain ⟨N, hN⟩ : ∃ N, (x :: l1).length = N := ⟨_, rfl⟩
  rw [hN] at hr hl ⊢
  have hN0 : (0 : Int) < (N : Int) := by rw [← hN, List.length_cons]; omega
  obtain ⟨nm, hnm⟩ : ∃ nm, ofL (tnm.getD i []) = nm := ⟨_, rfl⟩
  obtain ⟨fl, hfl0⟩ : ∃ fl, tfl.getD i [] = fl := ⟨_, rfl⟩
  rw [hfl0] at hfl ⊢
  rw [hnm]
  obtain ⟨n, hn⟩ : ∃ n, fl.length = n := ⟨_, rfl⟩
  rw [hn]
  obtain ⟨X, hX⟩ : ∃ X, (W.alloc (.cells #[.string nm, .int .i64 ((i : Int) + 1), .slice fa n n] 76)).alloc (.cells zSt 40) = X := ⟨_, rfl⟩
  have hbX : Below W.heap.size W X := by rw [← hX]; exact ballc (ballc (Below.refl _ _) _) _
  have hrow : Bq X W.heap.size 76 #[.string nm, .int .i64 ((i : Int) + 1), .slice fa n n] := by
    rw [← hX]
    exact (Bq.new W _ _).keep (ballc (Below.refl _ _) _) (Bq.new W _ _).lt
  have hres : Bq X (W.heap.size + 1) 40 zSt := by
    rw [← hX]
    have := Bq.new (W.alloc (.cells #[.string nm, .int .i64 ((i : Int) + 1), .slice fa n n] 76)) 40 zSt
    rw [World.size_alloc] at this
    exact this
  have q0 := hrow.cell 0 (.string nm) rfl
  have q1 := hrow.cell 1 (.int .i64 ((i : Int) + 1)) rfl
  have q2 := hrow.cell 2 (.slice fa n n) rfl
  have d0 := cell_below w0 hbX
  have d1 := cell_below w1 hbX
  have HX := hide hX
  have fail_ : ∀ (Y : World), rdRw i (x :: l1) = none → Below W.heap.size W Y → RdA W (rdRw i (x :: l1)) (.returned (.tuple #[.agg zSt, .bool false])) Y := fun Y hz hb => by rw [hz]; exact ⟨sp0 0, none, 0, 0, none, 0, 0, rfl, hb⟩
  unfold zSt at hX hres
  by_cases hk : x.w.k = 1
  · have kx : ((x.w.k : Int) != 1) = false := by rw [hk]; rfl
    by_cases htx : x.w.t = nm
    · have kt : (x.w.t.toList == nm.toList) = true := by rw [htx, lists_beq]; simp
      have hrd : rdRw i (x :: l1) = match rdFs fl (sp0 ((i : Int) + 1)) l1 with | some (s, []) => some s | _ => none := by
        show (if x.w.k = 1 ∧ x.w.t = ofL (tnm.getD i []) then _ else none) = _
        rw [if_pos ⟨hk, htx.trans hnm.symm⟩, hfl0]
      have hi7 := tfl_lt i hi
      rw [hfl0] at hi7
      have hl3 := tfl_le i hi
      rw [hfl0, hn] at hl3
      have hr1 : RW W (.slice (some ⟨g, off + 5, none⟩) (N - 1) (c0 - 1)) l1 := hr.drop 1 (by rw [List.length_cons]; omega)
      have hN1 : N - 1 = l1.length := by rw [← hN, List.length_cons]; omega
      have hcN : N ≤ c0 := by
        rcases hr with ⟨h0, _⟩ | ⟨_, _, _, e9, hn9, _⟩
        · simp at h0
        · simp at e9; rw [e9.2.2, ← hN]; exact hn9
      have HRD := hide hrd
      have HFL := hide hfl
      have HI7 := hide hi7
      have HR1 := hide hr1
      have HROW := hide hrow
      have HRES := hide hres
      have HBX := hide hbX
      have HN1 := hide hN1
      have HTS := hide hts
      have HNn := hide hn
      have kcN : (N : Int) ≤ (c0 : Int) := by omega
      have k1N : (1 : Int) ≤ (N : Int) := by omega
      clear hrd hfl hi7 hr1 hrow hres hbX hN1 hts hn hr w0 w1 w2 w3 w4 fail_ htx hk hne hN hfl0 hnm fe hcN
      go_enter Tryz.func25, Tryz.ntmps25
      go_upto_region 1 with fail
      go_quiet (fail)
      have hrowq := (show Bq (X.drewN nq) W.heap.size 76 #[.string nm, .int .i64 ((i : Int) + 1), .slice fa n n] from unhide HROW)
      have p0 := hrowq.cell 0 (.string nm) rfl
      have p1 := hrowq.cell 1 (.int .i64 ((i : Int) + 1)) rfl
      have p2 := hrowq.cell 2 (.slice fa n n) rfl
      obtain ⟨Y, hY⟩ : ∃ Y, X.drewN nq = Y := ⟨_, rfl⟩
      rw [hY] at p0 p1 p2 hrowq ⊢
      go_upto_region 5 with fail
      obtain ⟨la, hla⟩ : ∃ la, (if c0 = 1 then some (⟨g, off, none⟩ : Addr) else some ⟨g, off + 5, none⟩) = la := ⟨_, rfl⟩
      have hR0 : RW W (.slice la (N - 1) (c0 - 1)) l1 := by
        rw [← hla]
        by_cases hc1 : c0 = 1
        · rw [if_pos hc1]
          have h0 : N - 1 = 0 := by omega
          have := unhide HN1
          rw [h0] at this ⊢
          obtain rfl := List.eq_nil_of_length_eq_zero this.symm
          exact RC.nil _ _ _
        · rw [if_neg hc1]; exact unhide HR1
      rw [hla]
      have hYX : Below W.heap.size W Y := by rw [← hY]; exact bdrew (unhide HBX) nq
      have hzY : Y.heap.size = W.heap.size + 2 := by rw [← hY]; show X.heap.size = _; rw [← hX]; simp
      have hresY : Bq Y (W.heap.size + 1) 40 zSt := by rw [← hY]; exact unhide HRES
      have hbZ := ballc (Below.refl _ Y) (.cells (spC (sp0 ((i : Int) + 1)) (.slice none 0 0) (.slice none 0 0)) 40)
      have hstZ : StO W.heap.size (Y.alloc (.cells (spC (sp0 ((i : Int) + 1)) (.slice none 0 0) (.slice none 0 0)) 40)) Y.heap.size (sp0 ((i : Int) + 1)) (.slice none 0 0) (.slice none 0 0) := ⟨Bq.new _ _ _, World.ownsRow_nil _ _ _ _, .inl ⟨rfl, rfl⟩⟩
      have HS0 := hide (show rdFs (fl.take 0) (sp0 ((i : Int) + 1)) l1 = some (sp0 ((i : Int) + 1), l1) ∧ RW W (.slice la (N - 1) (c0 - 1)) l1 ∧ StO W.heap.size (Y.alloc (.cells (spC (sp0 ((i : Int) + 1)) (.slice none 0 0) (.slice none 0 0)) 40)) Y.heap.size (sp0 ((i : Int) + 1)) (.slice none 0 0) (.slice none 0 0) ∧ Bq (Y.alloc (.cells (spC (sp0 ((i : Int) + 1)) (.slice none 0 0) (.slice none 0 0)) 40)) W.heap.size 76 #[.string nm, .int .i64 ((i : Int) + 1), .slice fa n n] ∧ Bq (Y.alloc (.cells (spC (sp0 ((i : Int) + 1)) (.slice none 0 0) (.slice none 0 0)) 40)) (W.heap.size + 1) 40 zSt ∧ Below W.heap.size W (Y.alloc (.cells (spC (sp0 ((i : Int) + 1)) (.slice none 0 0) (.slice none 0 0)) 40)) ∧ 0 + l1.length ≤ 1000000 ∧ (∀ y ∈ l1, y.w.t.size ≤ 1000000) from ⟨rfl, hR0, hstZ, hrowq.keep hbZ hrowq.lt, hresY.keep hbZ hresY.lt, bnext hYX hbZ, by have := unhide HN1; omega, fun y hy => unhide HTS y (List.mem_cons_of_mem _ hy)⟩)
      unfold spC sp0 at HS0
      have hp2 := cell_below p2 hbZ
      unfold spC sp0 at hp2
      obtain ⟨b, hb⟩ : ∃ b, Y.heap.size = b := ⟨_, rfl⟩
      rw [hb] at HS0 hzY ⊢
      have hbW : W.heap.size + 1 < b := by omega
      obtain ⟨Z, hZ⟩ : ∃ Z, Y.alloc (.cells #[.int .i64 ((i : Int) + 1), .int .i64 0, .int .i64 0, .int .i64 0, .int .i64 0, .int .i64 0, .string ⟨#[]⟩, .slice none 0 0, .slice none 0 0] 40) = Z := ⟨_, rfl⟩
      rw [hZ] at HS0 hp2 ⊢
      have HSP := HS0
      clear HS0 hla hR0 hYX hzY hresY hbZ hstZ hY hX q0 q1 q2 p0 p1 p2 hrowq HR1 HROW HRES HBX HX hZ hb d0 d1 kx kt
      go_wp2_with fail
      go_loopw [7, 9, 10, 11, 35] (fun v7 v9 v10 v11 v35 wr => ∃ (j ln lc : Nat) (la : Option Addr), v35 = .int .i64 (j : Int) ∧ v7 = .slice la ln lc ∧ j ≤ n ∧ Hid (∃ (s' : Sp) (l' : List It) (dv bv : Value), rdFs (fl.take j) (sp0 ((i : Int) + 1)) l1 = some (s', l') ∧ RW W (.slice la ln lc) l' ∧ StO W.heap.size wr b s' dv bv ∧ Bq wr W.heap.size 76 #[.string nm, .int .i64 ((i : Int) + 1), .slice fa n n] ∧ Bq wr (W.heap.size + 1) 40 zSt ∧ Below W.heap.size W wr ∧ s'.draws.length + l'.length ≤ 1000000 ∧ (∀ y ∈ l', y.w.t.size ≤ 1000000))) (fun _ _ _ _ v35 _ => n - (RowKit.intOf v35).toNat)
      case atStart => exact ⟨0, N - 1, c0 - 1, la, rfl, by go_num, Nat.zero_le _, hide ⟨_, _, _, _, unhide HSP⟩⟩
      case round =>
        clear HSP
        obtain ⟨j, ln, lc, la2, rfl, rfl, hj, H⟩ := hrel
        obtain ⟨s', l', dv, bv, h1, h2, h3, h4, h5, h6, h7, h8⟩ := unhide H
        by_cases hjl : j < n
        · obtain ⟨f, hf⟩ : ∃ f, fl[j]? = some f := ⟨_, List.getElem?_eq_getElem (by rw [unhide HNn]; exact hjl)⟩
          obtain ⟨gf, rfl, hglt2, hcs⟩ := unhide HFL j f hf
          obtain ⟨u0, u1, u2, u3, hu, -⟩ := fC_four f
          rw [hu] at hcs
          have d0 := cell_below (hcs 0 u0 rfl) h6
          rw [Nat.add_zero] at d0
          have d1 := cell_below (hcs 1 u1 rfl) h6
          have d2 := cell_below (hcs 2 u2 rfl) h6
          have d3 := cell_below (hcs 3 u3 rfl) h6
          have k5 : (j : Int) < (n : Int) := by omega
          have k6 : (0 : Int) ≤ (j : Int) := by omega
          have hf7 := unhide HI7 f (List.mem_of_getElem? hf)
          have hb3 := ballc (Below.refl _ wr) (.cells #[u0, u1, u2, u3] 117)
          have hbx := Bq.new wr 117 #[u0, u1, u2, u3]
          have h3' := h3.below hb3
          have h4' := h4.keep hb3 h4.lt
          have h5' := h5.keep hb3 h5.lt
          have h6' := bnext h6 hb3
          have htk := hide (take_in (W0 := W) h6' h3' (by omega) h2 (by omega) (by omega) h8 f hf7)
          rw [hu] at htk
          have e0 := hbx.cell 0 u0 rfl
          have e1 := hbx.cell 1 u1 rfl
          have e2 := hbx.cell 2 u2 rfl
          have e3 := hbx.cell 3 u3 rfl
          have HU := hide hu
          have HF := hide hf
          have hln := hide (RC.len h2)
          have HST := hide (show rdFs (fl.take j) (sp0 ((i : Int) + 1)) l1 = some (s', l') ∧ RW W (.slice la2 ln lc) l' ∧ StO W.heap.size (wr.alloc (.cells #[u0, u1, u2, u3] 117)) b s' dv bv ∧ Bq (wr.alloc (.cells #[u0, u1, u2, u3] 117)) W.heap.size 76 #[.string nm, .int .i64 ((i : Int) + 1), .slice (some ⟨gf, 0, none⟩) n n] ∧ Bq (wr.alloc (.cells #[u0, u1, u2, u3] 117)) (W.heap.size + 1) 40 zSt ∧ Below W.heap.size W (wr.alloc (.cells #[u0, u1, u2, u3] 117)) ∧ s'.draws.length + l'.length ≤ 1000000 ∧ (∀ y ∈ l', y.w.t.size ≤ 1000000) from ⟨h1, h2, h3', h4', h5', h6', h7, h8⟩)
          clear h1 h2 h3 h4 h5 h6 h7 h8 h3' h4' h5' h6' hcs hu hf hb3 hbx hglt2 H
          go_upto_region 7 with fail
          go_cut [9] from 37 to 38 (fun v wx => v = .pointer (some ⟨wr.heap.size, 0, none⟩) ∧ wx = wr.alloc (.cells #[u0, u1, u2, u3] 117))
          case first =>
            have hu := unhide HU
            have hi2 : f = 0 ∨ f = 1 ∨ f = 2 ∨ f = 3 ∨ f = 4 ∨ f = 5 ∨ f = 6 := by omega
            clear htk e0 e1 e2 e3 HF HST HU
            rcases hi2 with rfl | rfl | rfl | rfl | rfl | rfl | rfl <;> (simp only [fC, List.cons.injEq, and_true] at hu; obtain ⟨rfl, rfl, rfl, rfl⟩ := hu; go_wp2; go_meet; exact ⟨rfl, rfl⟩)
          case rest =>
          obtain ⟨rfl, rfl⟩ := hcut
          go_wp2_with fail
          refine (unhide htk).mono ?_
          rintro e W4 ⟨s2, n2, dv2, bv2, rfl, hr2, hs2, hk2⟩
          obtain ⟨h1, h2, h3, h4, h5, h6, h7, h8⟩ := unhide HST
          have hnw : ∀ q t vs, Bq (wr.alloc (.cells #[u0, u1, u2, u3] 117)) q t vs → q ≠ b → t ≠ 3 → Bq W4 q t vs := fun q t vs hq hqb hqt => hq.kp hk2 (fun hh => by
            rcases hh with hh | hh
            · exact hqb hh
            · exact owns_ty h3.dr hq hqt hh)
          have g4 := hnw _ _ _ h4 (by omega) (by decide)
          have g5 := hnw _ _ _ h5 (by omega) (by decide)
          have g6 : Below W.heap.size W W4 := hk2.below h6 (fun q hq => by
            rcases hq with rfl | hq
            · omega
            · exact (World.ownsRow.lt h3.dr q hq).1)
          cases hr : tkF s' f l' with
          | none =>
            have hz : rdRw i (x :: l1) = none := by
              have e := rdFs_none (fl.take (j + 1)) (fl.drop (j + 1)) (sp0 ((i : Int) + 1)) l1 (by rw [List.take_add_one, unhide HF]; show rdFs (fl.take j ++ [f]) _ l1 = none; rw [rdFs_snoc, h1]; simp [hr])
              rw [List.take_append_drop] at e
              rw [unhide HRD, e]
            have hb2 := hide (show Bq W4 (W.heap.size + 1) 40 zSt ∧ RdA W (rdRw i (x :: l1)) (.returned (.tuple #[.agg zSt, .bool false])) (W4.setRow (W.heap.size + 1) zSt) from ⟨g5, by rw [hz]; exact ⟨sp0 0, none, 0, 0, none, 0, 0, rfl, (kp_setRow W4 (W.heap.size + 1) zSt).below g6 (fun i e => by omega)⟩⟩)
            clear h1 h2 h3 h4 h5 h6 h7 h8 hnw g4 g5 g6 hz hr hr2 hs2 hk2 htk HST HF HU
            rw [show (none : Option (Sp × Nat)).isSome = false from rfl]
            go_wp2_with (refine wpl_storeS (cs := zSt) rfl _ _ rfl rfl rfl (unhide hb2).1 rfl rfl zSt_one ?_)
            refine bodyPost_ret (results_ctS rfl _ _ (W.heap.size + 1) _ zSt _ _ rfl (setRow_heap _ _ _ zSt _ _ (unhide hb2).1) Tryz.underlying40 rfl sizeSt) rfl ?_
            exact (unhide hb2).2
          | some p =>
            have hp := hr2 p hr
            subst hp
            obtain ⟨hc1, hc2⟩ := tkF_cnt hr
            have hl2 := unhide hln
            have kn1 : (n2 : Int) ≤ (ln : Int) := by rw [hl2]; omega
            have kn0 : (0 : Int) ≤ (n2 : Int) := by omega
            have hlc : ln ≤ lc := by
              rcases h2 with ⟨h0, _⟩ | ⟨_, _, _, e9, h9, _⟩
              · omega
              · simp at e9; omega
            have klc : (ln : Int) ≤ (lc : Int) := by omega
            have HSN := hide (show StO W.heap.size W4 b s2 dv2 bv2 ∧ Bq W4 W.heap.size 76 #[.string nm, .int .i64 ((i : Int) + 1), .slice (some ⟨gf, 0, none⟩) n n] ∧ Bq W4 (W.heap.size + 1) 40 zSt ∧ Below W.heap.size W W4 ∧ s2.draws.length + (l'.drop n2).length ≤ 1000000 ∧ (∀ y ∈ l'.drop n2, y.w.t.size ≤ 1000000) from ⟨hs2, g4, g5, g6, Nat.le_trans hc2 h7, fun y hy => h8 y (List.mem_of_mem_drop hy)⟩)
            have HR2 := hide h2
            have HRF := hide (show rdFs (fl.take (j + 1)) (sp0 ((i : Int) + 1)) l1 = some (s2, l'.drop n2) from by rw [List.take_add_one, unhide HF]; show rdFs (fl.take j ++ [f]) _ l1 = _; rw [rdFs_snoc, h1]; simp [hr])
            have HC1 := hide hc1
            clear h1 h2 h3 h4 h5 h6 h7 h8 hnw g4 g5 g6 hr hr2 hs2 hk2 htk HST HF HU hc1 hc2 hl2 hlc
            rw [show (some (s2, n2) : Option (Sp × Nat)).isSome = true from rfl]
            have hdr := (unhide HR2).dropI n2 (unhide HC1) (by omega)
            have HNX := hide (show ∃ (s' : Sp) (l' : List It) (dv bv : Value), rdFs (fl.take (j + 1)) (sp0 ((i : Int) + 1)) l1 = some (s', l') ∧ RW W (.slice (if lc = n2 then la2 else Option.map (fun x => x.add (n2 * 5)) la2) (ln - n2) (lc - n2)) l' ∧ StO W.heap.size W4 b s' dv bv ∧ Bq W4 W.heap.size 76 #[.string nm, .int .i64 ((i : Int) + 1), .slice (some ⟨gf, 0, none⟩) n n] ∧ Bq W4 (W.heap.size + 1) 40 zSt ∧ Below W.heap.size W W4 ∧ s'.draws.length + l'.length ≤ 1000000 ∧ (∀ y ∈ l', y.w.t.size ≤ 1000000) from ⟨_, _, _, _, unhide HRF, hdr, unhide HSN⟩)
            clear hdr HR2 HRF HSN HC1
            go_wp2
            go_roundw
            case rel =>
              refine ⟨j + 1, ln - n2, lc - n2, if lc = n2 then la2 else Option.map (fun x => x.add (n2 * 5)) la2, by go_num, ?_, by omega, HNX⟩
              rfl
            case measure =>
              simp [RowKit.intOf]
              omega
        · have hjn : j = n := by omega
          have e1 : fl.take j = fl := List.take_of_length_le (by rw [unhide HNn, hjn]; exact Nat.le_refl _)
          rw [e1] at h1
          have kd : decide ((j : Int) < (n : Int)) = false := by rw [decide_eq_false_iff_not]; omega
          obtain ⟨a1, c1, f1⟩ := owns_form h3.dr
          obtain ⟨n1, hn1⟩ : ∃ n1, s'.draws.length = n1 := ⟨_, rfl⟩
          obtain ⟨a2, n2, c2, f2⟩ : ∃ a n c, bv = .slice a n c := by
            rcases h3.by_ with ⟨e, _⟩ | ⟨_, _, _, _, e, _⟩
            · exact ⟨_, _, _, e⟩
            · exact ⟨_, _, _, e⟩
          rw [hn1] at f1
          subst f1 f2
          have hone : (spC s' (.slice a1 n1 c1) (.slice a2 n2 c2)).all (·.oneCell') = true := by simp [spC, Value.oneCell']
          have kS := kp_setRow wr (W.heap.size + 1) (spC s' (.slice a1 n1 c1) (.slice a2 n2 c2))
          have hln := RC.len h2
          have hSV : StV (wr.setRow (W.heap.size + 1) (spC s' (.slice a1 n1 c1) (.slice a2 n2 c2))) W.heap.size s' (.slice a1 n1 c1) (.slice a2 n2 c2) := ⟨owns_kp h3.dr kS (fun q hq e => owns_ty h3.dr h5 (by decide) (by rw [hq, e])), ownsF_kp h3.by_ kS (fun q hq e => ownsF_ty h3.by_ h5 (by decide) (by rw [hq, e]))⟩
          have hBS : Below W.heap.size W (wr.setRow (W.heap.size + 1) (spC s' (.slice a1 n1 c1) (.slice a2 n2 c2))) := kS.below h6 (fun q hq => by omega)
          have hz : ∀ bb, bb = ((ln : Int) == 0) → RdA W (rdRw i (x :: l1)) (.returned (.tuple #[.agg (spC s' (.slice a1 n1 c1) (.slice a2 n2 c2)), .bool bb])) (wr.setRow (W.heap.size + 1) (spC s' (.slice a1 n1 c1) (.slice a2 n2 c2))) := fun bb hbb => by
            rw [unhide HRD, h1]
            cases l' with
            | nil =>
              have : ln = 0 := hln
              rw [hbb, this]
              exact ⟨_, _, rfl, hSV, hBS⟩
            | cons y l2 =>
              have : ((ln : Int) == 0) = false := by rw [beq_eq_false_iff_ne, hln, List.length_cons]; omega
              rw [hbb, this]
              exact ⟨s', a1, n1, c1, a2, n2, c2, rfl, hBS⟩
          have HG := hide (show Bq wr b 40 (spC s' (.slice a1 n1 c1) (.slice a2 n2 c2)) ∧ Bq wr (W.heap.size + 1) 40 zSt from ⟨h3.bx, h5⟩)
          have HZ := hide (hz _ rfl)
          have HO := hide hone
          clear h1 h2 h3 h4 h5 h6 h7 h8 hone kS hln hSV hBS hz hn1 H e1
          go_wp2_with (first | refine wpl_loadS rfl _ rfl rfl (unhide HG).1 rfl ?_ | refine wpl_storeS (cs := spC s' (.slice a1 n1 c1) (.slice a2 n2 c2)) rfl _ _ rfl rfl rfl (unhide HG).2 rfl rfl (unhide HO) ?_)
          refine bodyPost_ret (results_ctS rfl _ _ (W.heap.size + 1) _ (spC s' (.slice a1 n1 c1) (.slice a2 n2 c2)) _ _ rfl (setRow_heap _ _ _ (spC s' (.slice a1 n1 c1) (.slice a2 n2 c2)) _ _ (unhide HG).2) Tryz.underlying40 rfl sizeSt) rfl ?_
          exact unhide HZ
    · have kt : (x.w.t.toList == nm.toList) = false := by rw [lists_beq]; exact decide_eq_false (fun e => htx (toList_inj e))
      have hz : rdRw i (x :: l1) = none := by show (if x.w.k = 1 ∧ x.w.t = ofL (tnm.getD i []) then _ else none) = none; exact if_neg (fun h => htx (h.2.trans hnm))
      have hbad := fun nq => hide (show Bq (X.drewN nq) (W.heap.size + 1) 40 zSt ∧ RdA W (rdRw i (x :: l1)) (.returned (.tuple #[.agg zSt, .bool false])) ((X.drewN nq).setRow (W.heap.size + 1) zSt) from ⟨hres, fail_ _ hz ((kp_setRow (X.drewN nq) (W.heap.size + 1) zSt).below (bdrew hbX nq) (fun i e => by omega))⟩)
      clear hfl hr w0 w1 w2 w3 w4 fail_ hz htx hk hrow hbX hres
      go_enter Tryz.func25, Tryz.ntmps25
      go_upto_region 1 with fail
      go_quiet (fail)
      have hb2 := hbad nq
      unfold zSt at hb2
      go_wp2_with (refine wpl_storeS (cs := zSt) rfl _ _ rfl rfl rfl (unhide hb2).1 rfl rfl zSt_one ?_)
      refine bodyPost_ret (results_ctS rfl _ _ (W.heap.size + 1) _ zSt _ _ rfl (setRow_heap _ _ _ zSt _ _ (unhide hb2).1) Tryz.underlying40 rfl sizeSt) rfl ?_
      exact (unhide hb2).2
  · have kx : ((x.w.k : Int) != 1) = true := by rw [bne_iff_ne]; omega
    have hz : rdRw i (x :: l1) = none := by show (if x.w.k = 1 ∧ x.w.t = ofL (tnm.getD i []) then _ else none) = none; exact if_neg (fun h => hk h.1)
    have hbad := fun nq => hide (show Bq (X.drewN nq) (W.heap.size + 1) 40 zSt ∧ RdA W (rdRw i (x :: l1)) (.returned (.tuple #[.agg zSt, .bool false])) ((X.drewN nq).setRow (W.heap.size + 1) zSt) from ⟨hres, fail_ _ hz ((kp_setRow (X.drewN nq) (W.heap.size + 1) zSt).below (bdrew hbX nq) (fun i e => by omega))⟩)
    clear hfl hr w0 w1 w2 w3 w4 fail_ hz hk hrow hbX hres
    go_enter Tryz.func25, Tryz.ntmps25
    go_upto_region 1 with fail
    go_quiet (fail)
    have hb2 := hbad nq
    unfold zSt at hb2
    go_wp2_with (refine wpl_storeS (cs := zSt) rfl _ _ rfl rfl rfl (unhide hb2).1 rfl rfl zSt_one ?_)
    refine bodyPost_ret (results_ctS rfl _ _ (W.heap.size + 1) _ zSt _ _ rfl (setRow_heap _ _ _ zSt _ _ (unhide hb2).1) Tryz.underlying40 rfl sizeSt) rfl ?_
    exact (unhide hb2).2
end Go.Proofs.YtkndjbmlkfpfoaaGreatDoor

/-
  Rows of Steps of one's own; how a script is read, item by item.
-/
set_option linter.unusedSimpArgs false
set_option linter.unusedVariables false
namespace Go.Proofs.YtkndjbmlkfpfoaaGreatDoor
open Go.RowKit Go.Lib

/-- Steps of one's own, their rows from N on -/
structure OwT (W : World) (N : Nat) (v : Value) (l : List (Sp × Value × Value)) : Prop where
  row : W.ownsRow N 40 9 v l.length (flat encS l)
  rows : ∀ x ∈ l, StV W N x.1 x.2.1 x.2.2
theorem StV.kp {M : Nat → Prop} {W W' : World} {N : Nat} {s : Sp} {dv bv : Value} (h : StV W N s dv bv) (k : Kp M W W') (h1 : ∀ i, dv.ownBlock = some i → ¬ M i) (h2 : ∀ i, bv.ownBlock = some i → ¬ M i) : StV W' N s dv bv := ⟨owns_kp h.1 k h1, ownsF_kp h.2 k h2⟩
theorem StV.below {W W' : World} {N : Nat} {s : Sp} {dv bv : Value} (h : StV W N s dv bv) (hb : Below W.heap.size W W') : StV W' N s dv bv := h.kp (M := fun _ => False) (Kp.of_below hb) (fun _ _ e => e) (fun _ _ e => e)
theorem ownsF_wk {W : World} {N N' : Nat} {v : Value} {l : List UInt8} (h : OwB W N v l) (hn : N' ≤ N) : OwB W N' v l := by
  rcases h with h | ⟨g, cap, cur, fz, e, hbg, hr⟩
  · exact .inl h
  · exact .inr ⟨g, cap, cur, fz, e, Nat.le_trans hn hbg, hr⟩
theorem StV.wk {W : World} {N N' : Nat} {s : Sp} {dv bv : Value} (h : StV W N s dv bv) (hn : N' ≤ N) : StV W N' s dv bv := ⟨owns_wk h.1 hn, ownsF_wk h.2 hn⟩
/-- what is written to a block of another type lets the Steps' rows be -/
theorem StV.put {W W' : World} {N b : Nat} {s : Sp} {dv bv : Value} {t : TypeId} {vs : Array Value} (h : StV W N s dv bv) (k : Kp (fun i => i = b) W W') (hb : Bq W b t vs) (h1 : t ≠ 3) (h2 : t ≠ 5) : StV W' N s dv bv :=
  h.kp k (fun i hi e => owns_ty h.1 hb h1 (by rw [hi, e])) (fun i hi e => ownsF_ty h.2 hb h2 (by rw [hi, e]))
theorem OwT.kp {W W' : World} {N : Nat} {v : Value} {l : List (Sp × Value × Value)} (h : OwT W N v l) {b : Nat} {t : TypeId} {vs : Array Value} (k : Kp (fun i => i = b) W W') (hb : Bq W b t vs) (h0 : t ≠ 40) (h1 : t ≠ 3) (h2 : t ≠ 5) : OwT W' N v l :=
  ⟨owns_kp h.row k (fun i hi e => owns_ty h.row hb h0 (by rw [hi, e])), fun x hx => (h.rows x hx).put k hb h1 h2⟩
theorem OwT.below {W W' : World} {N : Nat} {v : Value} {l : List (Sp × Value × Value)} (h : OwT W N v l) (hb : Below W.heap.size W W') : OwT W' N v l :=
  ⟨owns_kp (N := fun _ => False) h.row (Kp.of_below hb) (fun _ _ e => e), fun x hx => (h.rows x hx).below hb⟩
theorem StV.forms {W : World} {N : Nat} {s : Sp} {dv bv : Value} (h : StV W N s dv bv) : (∃ a n c, dv = .slice a n c) ∧ ∃ a n c, bv = .slice a n c := by
  obtain ⟨a, c, e⟩ := owns_form h.1
  refine ⟨⟨_, _, _, e⟩, ?_⟩
  rcases h.2 with ⟨e, _⟩ | ⟨g, cap, cur, fz, e, _⟩
  · exact ⟨_, _, _, e⟩
  · exact ⟨_, _, _, e⟩
theorem infoSt : (Tryz.prog.info? 40).map (fun i => (i.zero, i.size, i.bytes)) = some (some (.agg zSt), 9, 112) := by kernel_rfl
/-- append(l, s) of a Step -/
theorem append_stp (w : World) (ty : TypeId) (N : Nat) (v : Value) (l : List (Sp × Value × Value)) (s : Sp) (dv bv : Value) (nb : Nat) (h : OwT w N v l) (hbx : Bq w nb 40 (spC s dv bv)) (hs : StV w N s dv bv) (hN : N ≤ w.heap.size) (hl : l.length ≤ 1000000) :
    ∃ v' w', (Builtin.append_ #[23, 23] ty #[v, .slice (some ⟨nb, 0, none⟩) 1 1]).run Tryz.prog w = .ok v' w' ∧ OwT w' N v' (l ++ [(s, dv, bv)]) ∧ w.grownBy w' v.ownBlock ∧ (v'.ownBlock = v.ownBlock ∨ v'.ownBlock = some w.heap.size) := by
  obtain ⟨i0, hi, hz0, hz1, hz2⟩ := info_parts5 infoSt
  obtain ⟨⟨a1, n1, c1, e1⟩, a2, n2, c2, e2⟩ := hs.forms
  obtain ⟨v', w', h1, h2, h3, h4, h5⟩ := run_append_own_at (P := Tryz.prog) w N 23 ty 40 i0 _ 9 112 Tryz.underlying23 hi hz0 hz1 hz2 rfl (by decide) v l.length _ h.row ⟨nb, 0, none⟩ 1 1 (encS (s, dv, bv)) rfl (fun j u hu => by
    rw [Addr.add_lit, Nat.zero_add]
    exact hbx.cell j u (by rw [← hu]; simp [encS])) (fun u hu => by simp [encS, spC] at hu; rcases hu with rfl | rfl | rfl | rfl | rfl | rfl | rfl | rfl | rfl <;> first | rfl | (rw [e1]; rfl) | (rw [e2]; rfl)) (by unfold maxLen; omega) (by omega) (by first | omega | (simp; omega))
  have k : Kp (fun i => v.ownBlock = some i) w w' := Kp.of_grown h3 (fun k hk => hk)
  have hty : ∀ q t vs, Bq w q t vs → t ≠ 40 → v.ownBlock ≠ some q := fun q t vs hq ht => owns_ty h.row hq ht
  have keep : ∀ x dv bv, StV w N x dv bv → StV w' N x dv bv := fun x dv bv hx => by
    refine hx.kp k ?_ ?_
    · intro i hi' e
      obtain ⟨_, (⟨rfl, _⟩ | ⟨g, cap, cur, rfl, _, hg, _⟩)⟩ := hx.1
      · cases hi'
      · cases hi'; exact hty _ _ _ hg (by decide) e
    · intro i hi' e
      rcases hx.2 with ⟨rfl, _⟩ | ⟨g, cap, cur, fz, rfl, _, hg, _⟩
      · cases hi'
      · cases hi'
        obtain ⟨_, (⟨e9, _⟩ | ⟨g9, _, cur9, e9, _, hg9, _⟩)⟩ := h.row
        · rw [e9] at e; cases e
        · rw [e9] at e; cases e; rw [hg] at hg9; cases hg9
  refine ⟨v', w', h1, ⟨?_, fun x hx => ?_⟩, h3, h5⟩
  · rw [flat_append, List.length_append]
    simpa [flat] using h2
  · rcases List.mem_append.1 hx with hx | hx
    · exact keep _ _ _ (h.rows x hx)
    · simp at hx; subst hx; exact keep _ _ _ hs

/-- which row of the table reads the words -/
def fstR (l : List It) : Option Sp := (List.range 14).findSome? (fun i => rdRw i l)
abbrev Pr : Type := (List Sp × List It) ⊕ (Nat × Nat)
/-- one item of a script -/
def prI (p : Pr) (x : It) : Pr := match p with
  | .inr (a, b) => .inr (a, b)
  | .inl (s, l) => if x.w.e ≠ 0 then .inr (x.ln, x.w.e) else if x.w.k ≠ 4 then .inl (s, l ++ [x]) else match fstR l with
    | some t => .inl (s ++ [t], [])
    | none => .inr (x.ln, 19)
def prL (l : List It) : Pr := l.foldl prI (.inl ([], []))
theorem prL_snoc (l : List It) (x : It) : prL (l ++ [x]) = prI (prL l) x := by simp [prL]
theorem prI_no (l : List It) (a b : Nat) : l.foldl prI (.inr (a, b)) = .inr (a, b) := by
  induction l with
  | nil => rfl
  | cons x l ih => exact ih
end Go.Proofs.YtkndjbmlkfpfoaaGreatDoor
