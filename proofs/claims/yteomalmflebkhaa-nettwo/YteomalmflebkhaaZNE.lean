/-
  A Net in memory: find, lay.
-/
import Derived.Test.YteomalmflebkhaaZND
import Derived.Test.YteomalmflebkhaaZNC
set_option linter.unusedSimpArgs false
set_option linter.unusedVariables false
namespace Go.Proofs.Yteomalmflebkhaa
open Go.RowKit Go.Lib

/-- a copy as it is answered -/
def cpV (c : Cp) (v : Value) : Value := .agg #[.int .i64 c.num, .int .i64 c.frm, .int .i64 c.to, v, .int .i64 c.sent, .bool c.bad]
/-- a frame in memory -/
structure FB (P : Nat → Prop) (W : World) (f : Nat) (frm to : Int) (cl : List Int) (sent : Int) (vc : Value) : Prop where
  pf : P f
  bf : Bx W f 86 #[.int .i64 frm, .int .i64 to, .int .i64 sent, vc]
  rc : OwB W 0 104 vc cl
  pc : ∀ k, vc.ownBlock = some k → P k
/-- a copy in memory -/
structure PR (P : Nat → Prop) (W : World) (c : Cp) (p f : Nat) (vc vs : Value) : Prop where
  pp : P p
  fb : FB P W f c.frm c.to c.cl c.sent vc
  bp : Bx W p 90 #[.pointer (some ⟨f, 0, none⟩), .bool c.bad, vs]
  rs : OwB W 0 5 vs c.sp
  ps : ∀ k, vs.ownBlock = some k → P k
def PE (P : Nat → Prop) (W : World) (c : Cp) (p : Nat) : Prop := ∃ f vc vs, PR P W c p f vc vs
/-- a block that holds no frame and no bytes -/
def NoR (W : World) (i : Nat) : Prop := ∀ cur, ¬ Bx W i 86 cur ∧ ¬ Bx W i 104 cur ∧ ¬ Bx W i 5 cur
theorem NoR.of {W : World} {i : Nat} {t : TypeId} {x : Array Value} (h : Bx W i t x) (h1 : t ≠ 86) (h2 : t ≠ 104) (h3 : t ≠ 5) : NoR W i := fun cur => ⟨fun k => h.apart k h1 rfl, fun k => h.apart k h2 rfl, fun k => h.apart k h3 rfl⟩
theorem NoR.map {W : World} {i n : Nat} {g : Int → Option Nat} (h : MP W i n g) : NoR W i := by
  obtain ⟨D, ⟨es, cl, hb, _⟩, _⟩ := h
  exact fun cur => ⟨fun k => (by have k' : W.heap[i]? = _ := k; rw [hb] at k'; cases k'), fun k => (by have k' : W.heap[i]? = _ := k; rw [hb] at k'; cases k'), fun k => (by have k' : W.heap[i]? = _ := k; rw [hb] at k'; cases k')⟩
theorem MP.ne {W : World} {i m n : Nat} {g : Int → Option Nat} {t : TypeId} {x : Array Value} (h : MP W m n g) (k : Bx W i t x) : i ≠ m := by
  rintro rfl
  obtain ⟨D, ⟨es, cl, hb, _⟩, _⟩ := h
  have k' : W.heap[i]? = _ := k
  rw [hb] at k'
  cases k'
theorem MP.congr {W : World} {m n : Nat} {g g' : Int → Option Nat} (h : MP W m n g) (e : ∀ k, in64 k → g k = g' k) : MP W m n g' := by
  obtain ⟨D, h, hg⟩ := h
  refine ⟨D, h, fun k hk => ?_⟩
  rw [← e k hk]
  exact hg k hk
variable {P N : Nat → Prop} {w W W' : World} {b p f : Nat} {c : Cp} {s : Stn} {vc vs : Value} {frm to sent : Int} {cl : List Int}
theorem FB.kpw (h : FB P W f frm to cl sent vc) (k : Kp N W W') (hn : ∀ i, N i → NoR W i) : FB P W' f frm to cl sent vc := by
  refine ⟨h.pf, h.bf.kp k (fun e => (hn _ e _).1 h.bf), h.rc.kp k (fun i hi e => ?_), h.pc⟩
  obtain ⟨cur, hb⟩ := h.rc.ty i hi
  exact (hn i e cur).2.1 hb
theorem FB.kp (h : FB P W f frm to cl sent vc) (k : Kp N W W') (hn : ∀ i, N i → ¬ P i) : FB P W' f frm to cl sent vc := ⟨h.pf, h.bf.kp k (fun e => hn _ e h.pf), h.rc.kp k (fun i hi e => hn i e (h.pc i hi)), h.pc⟩
theorem FB.mono {P' : Nat → Prop} (h : FB P W f frm to cl sent vc) (hp : ∀ i, P i → i < W.heap.size → P' i) : FB P' W f frm to cl sent vc := ⟨hp _ h.pf h.bf.lt, h.bf, h.rc, fun k hk => hp k (h.pc k hk) (h.rc.lt k hk).2⟩
theorem PR.kpw (h : PR P W c p f vc vs) (k : Kp N W W') (hp : ¬ N p) (hn : ∀ i, N i → NoR W i) : PR P W' c p f vc vs := by
  refine ⟨h.pp, h.fb.kpw k hn, h.bp.kp k hp, h.rs.kp k (fun i hi e => ?_), h.ps⟩
  obtain ⟨cur, hb⟩ := h.rs.ty i hi
  exact (hn i e cur).2.2 hb
theorem PR.kp (h : PR P W c p f vc vs) (k : Kp N W W') (hn : ∀ i, N i → ¬ P i) : PR P W' c p f vc vs := ⟨h.pp, h.fb.kp k hn, h.bp.kp k (fun e => hn _ e h.pp), h.rs.kp k (fun i hi e => hn i e (h.ps i hi)), h.ps⟩
theorem PR.mono {P' : Nat → Prop} (h : PR P W c p f vc vs) (hp : ∀ i, P i → i < W.heap.size → P' i) : PR P' W c p f vc vs := ⟨hp _ h.pp h.bp.lt, h.fb.mono hp, h.bp, h.rs, fun k hk => hp k (h.ps k hk) (h.rs.lt k hk).2⟩
theorem PE.kpw (h : PE P W c p) (k : Kp N W W') (hp : ¬ N p) (hn : ∀ i, N i → NoR W i) : PE P W' c p := by obtain ⟨_, _, _, h⟩ := h; exact ⟨_, _, _, h.kpw k hp hn⟩
theorem PE.kp (h : PE P W c p) (k : Kp N W W') (hn : ∀ i, N i → ¬ P i) : PE P W' c p := by obtain ⟨_, _, _, h⟩ := h; exact ⟨_, _, _, h.kp k hn⟩
theorem PE.mono {P' : Nat → Prop} (h : PE P W c p) (hp : ∀ i, P i → i < W.heap.size → P' i) : PE P' W c p := by obtain ⟨_, _, _, h⟩ := h; exact ⟨_, _, _, h.mono hp⟩
theorem PE.bx (h : PE P W c p) : ∃ cs, Bx W p 90 cs := by obtain ⟨_, _, _, h⟩ := h; exact ⟨_, h.bp⟩
theorem PE.lt (h : PE P W c p) : p < W.heap.size := by obtain ⟨_, h⟩ := h.bx; exact h.lt
theorem PE.nor (h : PE P W c p) : NoR W p := by obtain ⟨_, h⟩ := h.bx; exact NoR.of h (by decide) (by decide) (by decide)
/-- where the copy of a number lies -/
def gO (pb : Int → Nat) (l : List Cp) (k : Int) : Option Nat := if (fnd l k).isSome = true then some (pb k) else none
/-- a Net in blocks of which P holds -/
structure NM (P : Nat → Prop) (W : World) (b : Nat) (mo : Option Nat) (pb : Int → Nat) (s : Stn) : Prop where
  p0 : P b
  bx : Bx W b 38 #[.int .i64 s.la, .map mo]
  mp : (mo = none ∧ s.ls = []) ∨ ∃ m n, mo = some m ∧ P m ∧ MP W m n (gO pb s.ls) ∧ (n : Int) ≤ s.la
  pr : ∀ c ∈ s.ls, PE P W c (pb c.num)
  inj : ∀ c ∈ s.ls, ∀ d ∈ s.ls, pb c.num = pb d.num → c.num = d.num
  gd : Gd s
def NL (P : Nat → Prop) (W : World) (b : Nat) (s : Stn) : Prop := ∃ mo pb, NM P W b mo pb s
variable {mo : Option Nat} {pb : Int → Nat}
theorem NM.kp (h : NM P W b mo pb s) (k : Kp N W W') (hn : ∀ i, N i → ¬ P i) : NM P W' b mo pb s := by
  refine ⟨h.p0, h.bx.kp k (fun e => hn _ e h.p0), ?_, fun c hc => (h.pr c hc).kp k hn, h.inj, h.gd⟩
  rcases h.mp with e | ⟨m, n, e, hm, hp, hl⟩
  · exact .inl e
  · exact .inr ⟨m, n, e, hm, hp.kp k (fun e => hn _ e hm), hl⟩
theorem NM.mono {P' : Nat → Prop} (h : NM P W b mo pb s) (hp : ∀ i, P i → i < W.heap.size → P' i) : NM P' W b mo pb s := by
  refine ⟨hp _ h.p0 h.bx.lt, h.bx, ?_, fun c hc => (h.pr c hc).mono hp, h.inj, h.gd⟩
  rcases h.mp with e | ⟨m, n, e, hm, hp', hl⟩
  · exact .inl e
  · exact .inr ⟨m, n, e, hp _ hm hp'.lt, hp', hl⟩
theorem NL.kp (h : NL P W b s) (k : Kp N W W') (hn : ∀ i, N i → ¬ P i) : NL P W' b s := by obtain ⟨_, _, h⟩ := h; exact ⟨_, _, h.kp k hn⟩
theorem NL.below (h : NL P W b s) (hb : Below W.heap.size W W') : NL P W' b s := h.kp (N := fun _ => False) (Kp.of_below hb) (fun _ h => h.elim)
theorem NL.mono {P' : Nat → Prop} (h : NL P W b s) (hp : ∀ i, P i → P' i) : NL P' W b s := by obtain ⟨_, _, h⟩ := h; exact ⟨_, _, h.mono (fun i hi _ => hp i hi)⟩
theorem NL.lt (h : NL P W b s) : NL (fun i => P i ∧ i < W.heap.size) W b s := by obtain ⟨_, _, h⟩ := h; exact ⟨_, _, h.mono (fun i hi hl => ⟨hi, hl⟩)⟩
theorem NL.gd (h : NL P W b s) : Gd s := by obtain ⟨_, _, h⟩ := h; exact h.gd
theorem NM.c0 (h : NM P W b mo pb s) : W.cell? ⟨b, 0, none⟩ = some (.int .i64 s.la) := h.bx.cell 0 _ rfl
theorem NM.c1 (h : NM P W b mo pb s) : W.cell? ⟨b, 1, none⟩ = some (.map mo) := h.bx.cell 1 _ rfl
theorem nl_zero (w : World) : NL (fun i => w.heap.size ≤ i) (w.alloc (.cells #[.int .i64 0, .map none] 38)) w.heap.size zerS := ⟨none, fun _ => 0, Nat.le_refl _, Bx.new _ _ _, .inl ⟨rfl, rfl⟩, fun c hc => (by cases hc), fun c hc => (by cases hc), Gd.zer⟩
theorem NM.look (h : NM P W b mo pb s) {k : Int} (hk : in64 k) : (Instr.lookup 36 (.map mo) (.int .i64 k) false).run Try.prog W = .ok (pO (gO pb s.ls k)) W := by
  rcases h.mp with ⟨rfl, e⟩ | ⟨m, n, rfl, hm, hp, hl⟩
  · rw [look_none W hk, e]; rfl
  · exact hp.look hk
/-- what a call that changes a Net answers and leaves -/
def CN (P : Nat → Prop) (w : World) (b : Nat) (s : Stn) (u : Value) (e : Ending) (W : World) : Prop := e = .returned u ∧ NL (fun i => P i ∨ w.heap.size ≤ i) W b s ∧ Kp P w W
theorem CN.same (h : NL P w b s) (u : Value) (hb : Below w.heap.size w W) : CN P w b s u (.returned u) W := ⟨rfl, (h.below hb).mono (fun i hi => .inl hi), Kp.of_below hb⟩

theorem New_in (w : World) : Calls Try.prog 11 #[] w fun e W => e = .returned (.pointer (some ⟨w.heap.size, 0, none⟩)) ∧ NL (fun i => w.heap.size ≤ i) W w.heap.size zerS ∧ Below w.heap.size w W := by
  obtain ⟨X, hX⟩ : ∃ X, w.alloc (.cells #[.int .i64 0, .map none] 38) = X := ⟨_, rfl⟩
  have hn := hide (show NL (fun i => w.heap.size ≤ i) X w.heap.size zerS by rw [← hX]; exact nl_zero w)
  have hb := hide (show Below w.heap.size w X by rw [← hX]; exact ballc (Below.refl _ _) _)
  go_enter Try.func11, Try.ntmps11
  go_wp2
  go_ret
  exact ⟨rfl, unhide hn, unhide hb⟩
theorem isSite_in (n : Int) (w : World) : Calls Try.prog 37 #[.int .i64 n] w fun e W => e = .returned (.bool (decide (1 ≤ n ∧ n ≤ 16))) ∧ w = W := by
  by_cases h1 : 1 ≤ n
  · by_cases h2 : n ≤ 16
    · rw [decide_eq_true ⟨h1, h2⟩]
      go_enter Try.func37, Try.ntmps37
      go_wp2
      go_ret
      exact ⟨rfl, rfl⟩
    · rw [decide_eq_false (fun e => h2 e.2)]
      go_enter Try.func37, Try.ntmps37
      go_wp2
      go_ret
      exact ⟨rfl, rfl⟩
  · rw [decide_eq_false (fun e => h1 e.1)]
    go_enter Try.func37, Try.ntmps37
    go_wp2
    go_ret
    exact ⟨rfl, rfl⟩
theorem find_nil (k : Int) (w : World) : Calls Try.prog 41 #[.pointer none, .int .i64 k] w fun e W => e = .returned (.tuple #[.pointer none, .int .i64 1]) ∧ w = W := by
  go_enter Try.func41, Try.ntmps41
  go_wp2
  refine bodyPost_ret (results_tmp2 rfl _ _ _) rfl ?_
  exact ⟨rfl, rfl⟩
set_option maxRecDepth 100000 in
theorem find_none (h : NM P w b mo pb s) {k : Int} (hk : in64 k) (hf : fnd s.ls k = none) : Calls Try.prog 41 #[.pointer (some ⟨b, 0, none⟩), .int .i64 k] w fun e W => e = .returned (.tuple #[.pointer none, .int .i64 11]) ∧ w = W := by
  have c1 := h.c1
  have hl := h.look hk
  rw [show gO pb s.ls k = none by unfold gO; rw [hf]; rfl] at hl
  unfold pO at hl
  clear h hf hk
  go_enter Try.func41, Try.ntmps41
  go_wp2
  refine bodyPost_ret (results_tmp2 rfl _ _ _) rfl ?_
  exact ⟨rfl, rfl⟩
set_option maxRecDepth 100000 in
theorem find_some (h : NM P w b mo pb s) {k : Int} (hk : in64 k) (hf : fnd s.ls k = some c) : Calls Try.prog 41 #[.pointer (some ⟨b, 0, none⟩), .int .i64 k] w fun e W => e = .returned (.tuple #[.pointer (some ⟨pb k, 0, none⟩), .int .i64 0]) ∧ w = W := by
  have c1 := h.c1
  have hl := h.look hk
  rw [show gO pb s.ls k = some (pb k) by unfold gO; rw [hf]; rfl] at hl
  unfold pO at hl
  clear h hf hk
  generalize pb k = q at *
  go_enter Try.func41, Try.ntmps41
  go_wp2
  refine bodyPost_ret (results_tmp2 rfl _ _ _) rfl ?_
  exact ⟨rfl, rfl⟩

/-- it gets a map -/
theorem NM.made (h : NM P W b none pb s) {Y : World} (hY : (W.alloc (.map #[] 0)).setCell ⟨b, 1, none⟩ (.map (some W.heap.size)) = Y) : NM (fun i => P i ∨ W.heap.size ≤ i) Y b (some W.heap.size) pb s ∧ Kp P W Y := by
  have hls : s.ls = [] := by
    rcases h.mp with ⟨_, e⟩ | ⟨m, n, e, _⟩
    · exact e
    · cases e
  have b1 : Below W.heap.size W (W.alloc (.map #[] 0)) := ballc (Below.refl _ _) _
  have k2 : Kp (fun i => i = b) (W.alloc (.map #[] 0)) Y := by rw [← hY]; exact Kp.set _ ⟨b, 1, none⟩ _ rfl
  have hbl := h.bx.lt
  refine ⟨⟨.inl h.p0, ?_, .inr ⟨W.heap.size, 0, rfl, .inr (Nat.le_refl _), ?_, by have := h.gd.l0; simpa using this⟩, fun c hc => (by rw [hls] at hc; cases hc), fun c hc => (by rw [hls] at hc; cases hc), h.gd⟩, (Kp.of_below b1).trans k2 (fun i hi => .inl (by rw [hi]; exact h.p0))⟩
  · rw [← hY]
    simpa using (h.bx.below b1).set 1 (.map (some W.heap.size))
  · have := (MP.made W).kp k2 (by omega)
    exact this.congr (fun k _ => by rw [hls]; rfl)
/-- it gets a copy -/
theorem NM.more {m : Nat} (h : NM P W b (some m) pb s) (hP : ∀ i, P i → i < W.heap.size) (hf : s.la ≠ 2147483647) (hF : FB P W f frm to cl sent vc) (hl : cl.length ≤ 1000000) {X : World} (hX : ((W.setCell ⟨b, 0, none⟩ (.int .i64 (s.la + 1))).alloc (.cells #[.pointer (some ⟨f, 0, none⟩), .bool false, .slice none 0 0] 90)).drew = X) :
    ∃ Y, (Instr.mapUpdate 36 (.map (some m)) (.int .i64 (s.la + 1)) (.pointer (some ⟨W.heap.size, 0, none⟩))).run Try.prog X = .ok () Y ∧ NL (fun i => P i ∨ W.heap.size ≤ i) Y b (layS s frm to cl sent) ∧ Kp P W Y ∧ Y.cell? ⟨b, 0, none⟩ = some (.int .i64 (s.la + 1)) := by
  have hbl := h.bx.lt
  have g1 := h.gd.l1
  have g0 := h.gd.l0
  have k1 : Kp (fun i => i = b) W (W.setCell ⟨b, 0, none⟩ (.int .i64 (s.la + 1))) := Kp.set _ ⟨b, 0, none⟩ _ rfl
  obtain ⟨V, hV⟩ : ∃ V, W.setCell ⟨b, 0, none⟩ (.int .i64 (s.la + 1)) = V := ⟨_, rfl⟩
  have hzV : V.heap.size = W.heap.size := by rw [← hV]; simp
  have bV : Bx V b 38 #[.int .i64 (s.la + 1), .map (some m)] := by rw [← hV]; simpa using h.bx.set 0 (.int .i64 (s.la + 1))
  rw [hV] at k1 hX
  have b2 : Below V.heap.size V X := by rw [← hX]; exact (ballc (Below.refl _ _) _).drew
  have xp : Bx X W.heap.size 90 #[.pointer (some ⟨f, 0, none⟩), .bool false, .slice none 0 0] := by rw [← hX, ← hzV]; exact Bx.new V _ _
  have kX : Kp (fun i => i = b) W X := k1.trans (Kp.of_below (N := fun _ => False) b2) (fun _ e => e.elim)
  have bX := bV.below b2
  obtain ⟨m', n, e, hm, hp, hn⟩ : ∃ m' n, some m = some m' ∧ P m' ∧ MP W m' n (gO pb s.ls) ∧ (n : Int) ≤ s.la := by
    rcases h.mp with ⟨e, _⟩ | h
    · cases e
    · exact h
  cases e
  have hbm : b ≠ m := hp.ne h.bx
  have hmX := hp.kp kX (fun e => hbm e.symm)
  have hk : in64 (s.la + 1) := ⟨by omega, by omega⟩
  obtain ⟨Y, hr, hmY, hgr, hzY⟩ := hmX.put hk W.heap.size (by unfold maxLen; omega)
  have kY : Kp (fun i => i = m) X Y := Kp.of_grown hgr (fun i hi => by cases hi; rfl)
  have kWY : Kp P W Y := (kX.wk (fun i hi => by rw [hi]; exact h.p0)).trans kY (fun i hi => .inl (by rw [hi]; exact hm))
  have kBY : Kp (fun i => i = b ∨ i = m) W Y := (kX.wk (fun i hi => .inl hi)).trans kY (fun i hi => .inl (.inr hi))
  have nr : ∀ i, i = b ∨ i = m → NoR W i := fun i hi => by
    rcases hi with rfl | rfl
    · exact NoR.of h.bx (by decide) (by decide) (by decide)
    · exact NoR.map hp
  have hml := hP m hm
  have bY := bX.kp kY hbm
  have hnew : ∀ c ∈ s.ls, c.num ≠ s.la + 1 := fun c hc e => by have := (h.gd.le c hc).2; omega
  refine ⟨Y, hr, ⟨some m, fun k => if k = s.la + 1 then W.heap.size else pb k, ?_⟩, kWY, bY.cell 0 _ rfl⟩
  unfold layS
  rw [if_neg hf]
  refine ⟨.inl h.p0, bY, .inr ⟨m, n + 1, rfl, .inl hm, hmY.congr (fun k hk => ?_), by simp only; omega⟩, fun c hc => ?_, fun c hc d hd e => ?_, ?_⟩
  · unfold putG gO fnd
    simp only [List.find?_append, List.find?_cons, List.find?_nil]
    by_cases e : k = s.la + 1
    · subst e
      simp
    · have e' : (s.la + 1 == k) = false := by rw [beq_eq_false_iff_ne]; exact fun q => e q.symm
      simp [e, e']
  · rcases List.mem_append.1 hc with hc | hc
    · rw [if_neg (hnew c hc)]
      refine ((h.pr c hc).kpw kBY (fun e => ?_) nr).mono (fun i hi _ => .inl hi)
      obtain ⟨cs, hb⟩ := (h.pr c hc).bx
      rcases e with e | e
      · exact hb.apart h.bx (by decide) e
      · exact hp.ne hb e
    · obtain rfl : c = _ := by simpa using hc
      simp only [if_true]
      refine ⟨f, vc, .slice none 0 0, .inr (Nat.le_refl _), (hF.kpw kBY nr).mono (fun i hi _ => .inl hi), xp.kp kY (by omega), OwB.nil _ _ _, fun k hk => (by cases hk)⟩
  · have lt : ∀ c ∈ s.ls, pb c.num < W.heap.size := fun c hc => (h.pr c hc).lt
    rcases List.mem_append.1 hc with hc | hc
    · rcases List.mem_append.1 hd with hd | hd
      · rw [if_neg (hnew c hc), if_neg (hnew d hd)] at e
        exact h.inj c hc d hd e
      · obtain rfl : d = _ := by simpa using hd
        simp only [if_true] at e
        rw [if_neg (hnew c hc)] at e
        have := lt c hc
        omega
    · obtain rfl : c = _ := by simpa using hc
      rcases List.mem_append.1 hd with hd | hd
      · simp only [if_true] at e
        rw [if_neg (hnew d hd)] at e
        have := lt d hd
        omega
      · obtain rfl : d = _ := by simpa using hd
        rfl
  · have := h.gd.lay frm to hl sent
    unfold layS at this
    rw [if_neg hf] at this
    exact this

end Go.Proofs.Yteomalmflebkhaa
