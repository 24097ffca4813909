/-
  each and list: the sites of a word.
-/
import Derived.Test.YtjcdfjnlpfineaaZRge
set_option linter.unusedSimpArgs false
set_option linter.unusedVariables false
namespace Go.Proofs.Ytjcdfjnlpfineaa
open Go.RowKit Go.Lib Go.Shelf

attribute [local go_sem] Oper.semAt_some

theorem uI_shr (m : Wd) (n : Nat) : uI m / 2 ^ n = uI (m >>> n) := by
  unfold uI
  rw [BitVec.toNat_ushiftRight, Nat.shiftRight_eq_div_pow]
  simp
theorem one_at (m : Wd) (n : Nat) : (uI ((m >>> n) &&& 1#32) != 0) = m.getLsbD n := by
  rw [Bool.eq_iff_iff, bne_iff_ne]
  constructor
  · intro h
    by_cases hm : m.getLsbD n = true
    · exact hm
    · exfalso
      apply h
      have : (m >>> n) &&& 1#32 = 0#32 := wd_ext fun i => by
        rw [BitVec.getLsbD_and, BitVec.getLsbD_ushiftRight]
        cases i with
        | zero => simp [hm]
        | succ i => simp
      rw [this]; rfl
  · intro h e
    have e0 : (m >>> n) &&& 1#32 = 0#32 := uI_inj (by rw [e]; rfl)
    have := congrArg (fun z => z.getLsbD 0) e0
    simp [h] at this
theorem shr_none {m : Wd} {n : Nat} (h : uI (m >>> n) = 0) (i : Nat) (hi : n ≤ i) : m.getLsbD i = false := by
  have e0 : m >>> n = 0#32 := uI_inj (by rw [h]; rfl)
  have := congrArg (fun z => z.getLsbD (i - n)) e0
  simp only [BitVec.getLsbD_ushiftRight] at this
  rw [show n + (i - n) = i by omega] at this
  simpa using this
theorem shr_far {m : Wd} (h : OkW m) : uI (m >>> 17) = 0 := by
  have : m >>> 17 = 0#32 := wd_ext fun i => by
    rw [BitVec.getLsbD_ushiftRight]
    by_cases e : m.getLsbD (17 + i) = true
    · have := h _ e; omega
    · simp [e]
  rw [this]; rfl
theorem lsN_stop {m : Wd} : ∀ (d k : Nat), (∀ i, k < i → m.getLsbD i = false) → lsN m (k + d) = lsN m k
  | 0, k, h => rfl
  | d + 1, k, h => by rw [← Nat.add_assoc, lsN_succ, lsN_stop d k h, h _ (by omega)]; simp
theorem lsN_pre (m : Wd) : ∀ (d k : Nat), ∃ r, lsN m (k + d) = lsN m k ++ r
  | 0, k => ⟨[], by simp⟩
  | d + 1, k => by
    obtain ⟨r, h⟩ := lsN_pre m d k
    exact ⟨r ++ _, by rw [← Nat.add_assoc, lsN_succ, h, List.append_assoc]⟩

set_option maxRecDepth 100000 in
set_option maxHeartbeats 4000000 in
theorem each_seq (Bs : Nat) (m : Wd) (hm : OkW m) : SeqE 47 #[.pointer (some ⟨Bs, 0, none⟩)] (fun (x : Int) _ args => args = #[.int .i64 x]) (lsW m) (fun W => W.cell? ⟨Bs, 0, none⟩ = some (.int .u32 (uI m))) := by
  rintro l J Jx W hJ hS hY h0 n
  have HY := hide hY
  have HS := hide hS
  have c00 := hS _ _ h0
  clear hY hS hJ
  refine callsIn_of_wp Try.func47 rfl trivial ?_ rfl
  simp only [Try.ntmps47, List.size_toArray, List.length_cons, List.length_nil, Nat.reduceAdd, Nat.reduceSub, Array.replicate_succ, Array.replicate_zero, List.push_toArray, List.append_toArray, List.nil_append, List.cons_append]
  gi_wp2
  gi_loopw [3] (fun i wr => ∃ k : Nat, k ≤ 16 ∧ i = .int .i64 ((k + 1 : Nat) : Int) ∧ Hid (J (lsN m k) wr)) (fun i _ => 20 - (RowKit.intOf i).toNat)
  case atStart => exact ⟨0, Nat.zero_le _, rfl, hide h0⟩
  case round =>
    obtain ⟨k, hk, rfl, hJs⟩ := hrel
    have c0 := unhide HS _ _ (unhide hJs)
    have hsh := uI_shr m (k + 1)
    by_cases hz : uI (m >>> (k + 1)) = 0
    · have hz' : uI m / 2 ^ (k + 1) = 0 := by rw [hsh, hz]
      have hfin : Hid (J (lsW m) wr) := by
        have h1 := unhide hJs
        have h2 := lsN_stop (16 - k) k (fun i hi => shr_none hz i (by omega))
        rw [show k + (16 - k) = 16 by omega] at h2
        unfold lsW
        rw [h2]
        exact h1
      clear hsh hz hJs
      obtain ⟨q, hq⟩ : ∃ q : Nat, k + 1 = q := ⟨_, rfl⟩
      rw [hq] at hz' ⊢
      gi_wp2
      go_end0
      exact ⟨⟨_, rfl⟩, .inl ⟨unhide hfin, trivial⟩⟩
    · have hk6 : k < 16 := by
        refine Nat.lt_of_le_of_ne hk ?_
        rintro rfl
        exact hz (shr_far hm)
      have hb := u_and (m >>> (k + 1)) 1#32
      have hone := one_at m (k + 1)
      rw [← hsh] at hz
      rw [← hsh, show uI 1#32 = 1 from rfl] at hb
      have hz2 : (uI m / 2 ^ (k + 1) != 0) = true := by rw [bne_iff_ne]; exact hz
      have hsucc := lsN_succ m k
      obtain ⟨r, hr⟩ := lsN_pre m (15 - k) (k + 1)
      rw [show k + 1 + (15 - k) = 16 by omega] at hr
      have hL : Hid (lsW m = lsN m (k + 1) ++ r) := hr
      generalize uI ((m >>> (k + 1)) &&& 1#32) = q at *
      clear hr
      cases hbit : m.getLsbD (k + 1) with
      | false =>
        rw [hbit] at hone hsucc
        have hJ2 : Hid (J (lsN m (k + 1)) wr) := by
          rw [hsucc]; simp only [Bool.false_eq_true, if_false, List.append_nil]; exact hJs
        clear hsucc hL hJs hbit hz hsh
        obtain ⟨y, hy⟩ : ∃ y : Nat, k + 1 = y := ⟨_, rfl⟩
        rw [hy] at hb hz2 hJ2 ⊢
        gi_wp2
        refine ⟨fun f h => (by cases h), ?_⟩
        gi_wp2
        go_roundw
        case rel => exact ⟨y, by omega, by go_num, hJ2⟩
        case measure => show 20 - ((y : Int) + 1).toNat < 20 - ((y : Nat) : Int).toNat; omega
      | true =>
        rw [hbit] at hone hsucc
        simp only [if_true] at hsucc
        have hyy := unhide HY (lsN m k) ((k + 1 : Nat) : Int) r wr _ (by rw [unhide hL, hsucc]; simp) (unhide hJs) rfl (n - 1)
        rw [← hsucc] at hyy
        obtain ⟨fn, tmps, assign, body, hy, hR⟩ := hyy
        clear hsucc hJs hbit hz hsh
        obtain ⟨y, hyk⟩ : ∃ y : Nat, k + 1 = y := ⟨_, rfl⟩
        rw [hyk] at hb hz2 hR hL hy ⊢
        gi_wp2
        refine ⟨fun h => (by cases h), hR.mono ?_⟩
        rintro e W3 ⟨bb, rfl, hj⟩
        cases bb
        · simp only [Bool.false_eq_true, if_false] at hj
          have hj' := hide hj
          clear hj
          gi_wp2
          refine bodyPost_ret (results_none rfl _ _ _) rfl ?_
          exact ⟨⟨_, rfl⟩, .inr ⟨_, r, (unhide hL).symm, unhide hj'⟩⟩
        · simp only [if_true] at hj
          have hj' := hide hj
          clear hj
          gi_wp2
          go_roundw
          case rel => exact ⟨y, by omega, by go_num, hj'⟩
          case measure => show 20 - ((y : Int) + 1).toNat < 20 - ((y : Nat) : Int).toNat; omega

theorem wpListIn_append_eq {F : Fence} {n : Nat} {w w' : World} {ops : Array Oper} {rest : List Oper} {o : Oper} {a : Act} {Q : Exit → Act → World → Prop} (hg : o.guard = none) (s x : Operand) (t : TypeId)
    (hop : o.op = .call { callee := .builtin .append, args := #[s, x], argTypes := #[t, t] }) (v u v' : Value) (hs : a.eval s = v) (hx : a.eval x = u) (hrun : (Builtin.append_ #[t, t] o.type #[v, u]).run Try.prog w = .ok v' w')
    (hK : wpListIn F n Try.prog ops Q rest (a.put o.dst v') w') : wpListIn F n Try.prog ops Q (o :: rest) a w := by
  refine wpListIn_plain hg fun K hK' => ?_
  unfold Oper.wpIn
  refine ⟨?_, ?_⟩
  · simp [Oper.about, hop, resolve, Target.leads, Sem.run_pure]
  · rw [Oper.semAt_plain F _ _ (by rw [hop]; intro c hc'; cases hc')]
    simp [execOp, hop, resolve, invoke, builtin, hs, hx, hrun, Result.andThen]
    exact hK' _ _ hK

theorem each_in (m : Int) (w : World) : Calls Try.prog 46 #[.int .u32 m] w fun e W => e = .returned (.func (.func 47) #[] #[.pointer (some ⟨w.heap.size, 0, none⟩)]) ∧ W = w.alloc (.cells #[.int .u32 m] 42) := by
  go_enter Try.func46, Try.ntmps46
  go_wp2
  go_ret
  exact ⟨rfl, rfl⟩

structure AQ (w W : World) (m : Wd) (v : Value) (pre : List Int) : Prop where
  box : Bx W w.heap.size 34 #[v]
  wb : Bx W (w.heap.size + 1) 42 #[.int .u32 (uI m)]
  row : OwN W w.heap.size v pre
  hi : ∀ i, v.ownBlock = some i → w.heap.size + 4 ≤ i
  bel : Below w.heap.size w W

set_option maxRecDepth 100000 in
set_option maxHeartbeats 4000000 in
theorem list_in (m : Wd) (hm : OkW m) (w : World) : Calls Try.prog 44 #[.int .u32 (uI m)] w fun e W => ∃ v, e = .returned v ∧ OwN W w.heap.size v (lsW m) ∧ Below w.heap.size w W := by
  have HE := hide (fun W => each_in (uI m) W)
  refine (callsIn_wide (n := 6)).1 ?_
  refine callsIn_of_wp_marks Try.func44 rfl trivial ?_ rfl
  simp only [Try.ntmps44, List.size_toArray, List.length_cons, List.length_nil, Nat.reduceAdd, Nat.reduceSub, Array.replicate_succ, Array.replicate_zero, List.push_toArray, List.append_toArray, List.nil_append, List.cons_append]
  gi_wp2
  refine ⟨trivial, (callsIn_wide.2 (unhide HE _)).mono ?_⟩
  rintro r W1 ⟨rfl, hW1⟩
  have hz0 : (w.alloc (.cells #[.slice none 0 0] 34)).heap.size = w.heap.size + 1 := by simp
  rw [hz0]
  have wb1 := Bx.new (w.alloc (.cells #[.slice none 0 0] 34)) 42 #[.int .u32 (uI m)]
  rw [← hW1, hz0] at wb1
  have bb := ballc (Below.refl (w.alloc (.cells #[.slice none 0 0] 34)).heap.size _) (.cells #[.int .u32 (uI m)] 42)
  rw [← hW1] at bb
  have al := bnext (ballc (Below.refl w.heap.size w) (.cells #[.slice none 0 0] 34)) bb
  have bx1 := (Bx.new w 34 #[.slice none 0 0]).below bb
  have hsz : W1.heap.size = w.heap.size + 2 := by rw [hW1]; simp
  clear hW1 bb HE
  gi_wp2
  refine range_E (gf := 47) (lb := #[.pointer (some ⟨w.heap.size + 1, 0, none⟩)]) rfl (enters_of Try.func47 (by kernel_rfl) rfl) (each_seq (w.heap.size + 1) m hm) (fun x W args h => by subst h; rfl)
    (fun pre W => ∃ v, AQ w W m v pre) (fun _ _ _ => False) ?hI (fun _ _ _ _ _ hs _ _ => hs) (fun pre W h => by obtain ⟨v, h⟩ := h; exact h.wb.cell 0 _ rfl) ⟨_, bx1, wb1, World.ownsRow_nil _ _ _ _, fun i hi => (by cases hi), al⟩
    (fun x args => { tmps := #[.int .u32 (uI m), undef, .slice none 0 0, .pointer (some ⟨w.heap.size, 0, none⟩), .int .i64 x, .int .u32 (uI m), .func (.func 47) #[] #[.pointer (some ⟨w.heap.size + 1, 0, none⟩)], .int .i64 x, undef, undef, undef, undef, undef], defers := [] }) ?assign ?body ?done ?stop
  case hI =>
    rintro s A B row ⟨v, h⟩ hg hr
    rw [hsz] at hr
    have k := Kp.of_grown (N := fun k => row = some k) hg (fun k e => e)
    exact ⟨v, h.box.kp k (fun e => by have := hr _ e; omega), h.wb.kp k (fun e => by have := hr _ e; omega), owns_kp h.row k (fun i hi e => by have := hr _ e; have := h.hi i hi; omega), h.hi, k.below h.bel (fun i e => by have := hr _ e; omega)⟩
  case assign =>
    rintro l x args W K rfl hK
    gi_wp2
    simpa using hK
  case body =>
    rintro l pre x rest args W hpre hzW ⟨v, h⟩
    rw [hsz] at hzW
    have hlen : pre.length < 1000000 := by have h1 := congrArg List.length hpre; have h2 := lsW_len m; simp at h1; omega
    obtain ⟨v', W2, hr, hown, hgr, hat⟩ := append_n W 34 w.heap.size v pre x h.row h.bel.size (by omega)
    obtain ⟨av, cv, rfl⟩ := OwN.form h.row
    obtain ⟨a', c', rfl⟩ := OwN.form hown
    have bA := ballc (Below.refl W.heap.size W) (.cells #[.int .i64 x] 3)
    have xA := h.box.below bA
    have yA := h.wb.below bA
    have K2 := Kp.of_grown (N := fun k => (Value.slice av pre.length cv).ownBlock = some k) hgr (fun k e => e)
    have hh := h.hi
    have x2 := xA.kp K2 (fun e => by have := hh _ e; omega)
    have y2 := yA.kp K2 (fun e => by have := hh _ e; omega)
    have c0 := h.box.cell 0 _ rfl
    have c0' := xA.cell 0 _ rfl
    have c2 := x2.cell 0 _ rfl
    have f2 := x2.frozen 0
    have l0 := h.box.lt
    have Hr := hide hr
    have ks := Kp.set (N := fun i => i = w.heap.size) W2 ⟨w.heap.size, 0, none⟩ (.slice a' (pre ++ [x]).length c') rfl
    have hz2 := K2.size
    have hzA : (W.alloc (.cells #[.int .i64 x] 3)).heap.size = W.heap.size + 1 := by simp
    have R : Hid ((∀ k, w.heap.size + 2 ≤ k → k < w.heap.size + 2 + 2 → (W2.setCell ⟨w.heap.size, 0, none⟩ (.slice a' (pre ++ [x]).length c')).heap[k]? = W.heap[k]?) ∧ ∃ v, AQ w (W2.setCell ⟨w.heap.size, 0, none⟩ (.slice a' (pre ++ [x]).length c')) m v (pre ++ [x])) := by
      have hlo : ∀ i, (Value.slice a' (pre ++ [x]).length c').ownBlock = some i → w.heap.size + 4 ≤ i := fun i hi => by
        rcases hat with e | e
        · exact hh i (by rw [← e]; exact hi)
        · rw [e] at hi; cases hi; omega
      refine ⟨fun k h1 h2 => ?_, _, by simpa using x2.set 0 (.slice a' (pre ++ [x]).length c'), y2.kp ks (by omega), owns_kp hown ks (fun i hi e => by have := hlo i hi; omega), hlo, ks.below (K2.below (bnext h.bel bA) (fun i hi => by have := hh i hi; omega)) (fun i e => by omega)⟩
      rw [ks.block k (by omega) (by omega), K2.block k (by omega) (fun e => by have := hh k e; omega), bA.block k (by omega)]
    rw [hsz]
    have e9 : (pre ++ [x]).length = pre.length + 1 := by simp
    rw [e9] at Hr R
    clear hr hown hgr hat bA xA yA K2 x2 y2 ks e9
    gi_wp2_with (gi_at_builtin; refine wpListIn_append_eq rfl _ _ 34 rfl _ _ _ rfl rfl (unhide Hr) ?_)
    exact unhide R
  case done =>
    rintro D W hD hzW ⟨v, h⟩ hdd
    subst hD
    obtain ⟨av, cv, rfl⟩ := OwN.form h.row
    have c0 := h.box.cell 0 _ rfl
    have l0 := h.box.lt
    have H := hide h
    clear h
    gi_wp2
    refine ⟨by simp, .inl ⟨_, _, rfl, run_takeDeferred hdd, ?_⟩⟩
    have h := unhide H
    have kk := Kp.of_grown (N := fun k => k = w.heap.size + 2) (grownBy_putObj' W (w.heap.size + 2) (.deferred none)) (fun k e => by cases e; rfl)
    rw [hsz]
    refine ⟨_, results_tmp rfl _ _ _, ?_⟩
    refine ⟨.slice av (lsW m).length cv, rfl, owns_kp h.row kk (fun i hi e => by have := h.hi i hi; omega), kk.below h.bel (fun i e => by omega)⟩
  case stop => rintro D c pre rest W hD hp h _; exact h.elim

variable {w : World} {b : Nat} {s : St}
theorem okM {s : St} (h : Gd s) : OkW s.m := fun i hi => by
  unfold St.m at hi
  rw [memW_at, Bool.and_eq_true] at hi
  exact h.oj i hi.1
/-- a list that is told, in new memory -/
def Told (w : World) (m : Wd) (e : Ending) (W : World) : Prop := ∃ a c, e = .returned (.slice a (lsW m).length c) ∧ OwN W w.heap.size (.slice a (lsW m).length c) (lsW m) ∧ Below w.heap.size w W
theorem Members_in (h : RB w b s) (hg : Gd s) : Calls Try.prog 23 #[.pointer (some ⟨b, 0, none⟩)] w (Told w s.m) := by
  have H1 := hide (members_in h)
  have H2 := hide (fun W => list_in s.m (okM hg) W)
  unfold Told
  generalize uI s.m = m at *
  generalize lsW s.m = L at *
  clear h hg
  go_enter Try.func23, Try.ntmps23
  go_wp2_with fail
  refine (unhide H1).mono ?_
  rintro e W1 ⟨rfl, b1⟩
  have B1 := hide b1
  clear b1
  go_wp2_with fail
  refine (unhide H2 _).mono ?_
  rintro e W2 ⟨v, rfl, o2, b2⟩
  obtain ⟨a, c, rfl⟩ := o2.form
  have R := hide (show OwN W2 w.heap.size (.slice a L.length c) L ∧ Below w.heap.size w W2 from ⟨owns_wk o2 (unhide B1).size, bnext (unhide B1) b2⟩)
  clear o2 b2 B1
  go_wp2
  go_ret
  exact ⟨_, _, rfl, (unhide R).1, (unhide R).2⟩
theorem Joined_in (h : RB w b s) (hg : Gd s) : Calls Try.prog 24 #[.pointer (some ⟨b, 0, none⟩)] w (Told w s.j) := by
  have H2 := hide (fun W => list_in s.j hg.oj W)
  have c0 := h.c0
  unfold Told
  generalize uI s.j = m at *
  generalize lsW s.j = L at *
  clear h hg
  go_enter Try.func24, Try.ntmps24
  go_wp2_with fail
  refine (unhide H2 _).mono ?_
  rintro e W2 ⟨v, rfl, o2, b2⟩
  obtain ⟨a, c, rfl⟩ := o2.form
  have R := hide (show OwN W2 w.heap.size (.slice a L.length c) L ∧ Below w.heap.size w W2 from ⟨o2, b2⟩)
  clear o2 b2
  go_wp2
  go_ret
  exact ⟨_, _, rfl, (unhide R).1, (unhide R).2⟩
theorem Left_in (h : RB w b s) (hg : Gd s) : Calls Try.prog 25 #[.pointer (some ⟨b, 0, none⟩)] w (Told w s.l) := by
  have H2 := hide (fun W => list_in s.l hg.ol W)
  have c0 := h.c1
  unfold Told
  generalize uI s.l = m at *
  generalize lsW s.l = L at *
  clear h hg
  go_enter Try.func25, Try.ntmps25
  go_wp2_with fail
  refine (unhide H2 _).mono ?_
  rintro e W2 ⟨v, rfl, o2, b2⟩
  obtain ⟨a, c, rfl⟩ := o2.form
  have R := hide (show OwN W2 w.heap.size (.slice a L.length c) L ∧ Below w.heap.size w W2 from ⟨o2, b2⟩)
  clear o2 b2
  go_wp2
  go_ret
  exact ⟨_, _, rfl, (unhide R).1, (unhide R).2⟩
theorem Members_nil (w : World) : Calls Try.prog 23 #[.pointer none] w fun e W => e = .returned (.slice none 0 0) ∧ w = W := by
  go_enter Try.func23, Try.ntmps23
  go_wp2
  go_ret
  exact ⟨rfl, rfl⟩
theorem Joined_nil (w : World) : Calls Try.prog 24 #[.pointer none] w fun e W => e = .returned (.slice none 0 0) ∧ w = W := by
  go_enter Try.func24, Try.ntmps24
  go_wp2
  go_ret
  exact ⟨rfl, rfl⟩
theorem Left_nil (w : World) : Calls Try.prog 25 #[.pointer none] w fun e W => e = .returned (.slice none 0 0) ∧ w = W := by
  go_enter Try.func25, Try.ntmps25
  go_wp2
  go_ret
  exact ⟨rfl, rfl⟩

end Go.Proofs.Ytjcdfjnlpfineaa
