/-
  Operations: how each kind is laid.
-/
import Derived.Test.YtbnhfbdfjnigoaaGreatZO5

set_option linter.unusedSimpArgs false
set_option linter.unusedVariables false
namespace Go.Proofs.YtbnhfbdfjnigoaaGreat
open Go.RowKit Go.Lib

/-- a Writer in memory, apart from some blocks -/
structure PtK (w W : World) (p : Nat) (v v1 : Value) (K : Nat → Prop) (st : List Nat × Int) : Prop where
  wr : Wr W p v1 st.1 st.2
  kp : Kp (wOwn p v) w W
  own : OwnAt w v v1
  ap : ∀ k, K k → ¬ wOwn p v1 k ∧ k < W.heap.size
theorem PtK.below {w W W' : World} {p : Nat} {v v1 : Value} {K : Nat → Prop} {st : List Nat × Int} (h : PtK w W p v v1 K st) (hb : Below W.heap.size W W') : PtK w W' p v v1 K st :=
  ⟨h.wr.below hb, h.kp.trans (M := fun _ => False) (Kp.of_below hb) (fun _ h => h.elim), h.own, fun k hk => ⟨(h.ap k hk).1, Nat.lt_of_lt_of_le (h.ap k hk).2 hb.size⟩⟩
theorem PtK.num {w W W' : World} {p : Nat} {v v1 v2 : Value} {K : Nat → Prop} {st st' : List Nat × Int} (h : PtK w W p v v1 K st) (hw : Wr W' p v2 st'.1 st'.2) (k : Kp (wOwn p v1) W W') (ho : OwnAt W v1 v2) : PtK w W' p v v2 K st' :=
  ⟨hw, h.kp.trans k (wOwn_at h.own), h.own.trans ho h.kp.size, fun i hi => ⟨fun e => by
    rcases wOwn_at ho i e with h' | h'
    · exact (h.ap i hi).1 h'
    · have := (h.ap i hi).2; omega, Nat.lt_of_lt_of_le (h.ap i hi).2 k.size⟩⟩
/-- a new block is apart too -/
theorem PtK.more {w W W' : World} {p : Nat} {v v1 : Value} {K : Nat → Prop} {st : List Nat × Int} (h : PtK w W p v v1 K st) (hb : Below W.heap.size W W') (b : Nat) (h1 : W.heap.size ≤ b) (h2 : b < W'.heap.size) : PtK w W' p v v1 (fun k => K k ∨ k = b) st := by
  have q := h.below hb
  refine ⟨q.wr, q.kp, q.own, fun k hk => ?_⟩
  rcases hk with hk | rfl
  · exact q.ap k hk
  · refine ⟨fun e => ?_, h2⟩
    rcases e with e | e
    · have := h.wr.box.lt; omega
    · have := (h.wr.row.lt k e).2; omega

theorem PtK.less {w W : World} {p : Nat} {v v1 : Value} {K K' : Nat → Prop} {st : List Nat × Int} (h : PtK w W p v v1 K st) (hk : ∀ k, K' k → K k) : PtK w W p v v1 K' st := ⟨h.wr, h.kp, h.own, fun k e => h.ap k (hk k e)⟩

/-- the block of a row that has something -/
def rb (v : Value) (n : Nat) (k : Nat) : Prop := n ≠ 0 ∧ v.ownBlock = some k
theorem RC.kpn {N : Nat → Prop} {W W' : World} {v : Value} {n : Nat} {C : List Value} (h : RC W v n C) (k : Kp N W W') (hn : ∀ i, rb v n i → ¬ N i) : RC W' v n C := by
  by_cases h0 : n = 0
  · subst h0
    rcases h with h | ⟨b, off, cap, e, _, hl, hc⟩
    · exact .inl h
    · exact .inl ⟨rfl, _, _, e⟩
  · exact RC.kp h k (fun i hi => hn i ⟨h0, hi⟩)
theorem RC.rlt {W : World} {v : Value} {n : Nat} {C : List Value} (h : RC W v n C) : ∀ k, rb v n k → k < W.heap.size := by
  rintro k ⟨h0, hk⟩
  rcases h with h | ⟨b, off, cap, rfl, _, hl, _⟩
  · exact absurd h.1 h0
  · cases hk
    exact hl

theorem wTxt_len (st : List Nat × Int) (t : ByteArray) : (wTxt st t).1.length ≤ st.1.length + 11 + t.size := by
  unfold wTxt
  split
  · omega
  · simp
    have h1 := num_len t.size
    have h2 : (sB t).length = t.size := by unfold sB; simp
    omega

/-- what is laid of runs -/
def putG (st : List Nat × Int) (g : List ((Int × Int) × Int)) : List Nat × Int := g.foldl (fun st r => wNum (wNum (wNum st r.1.1) r.1.2) r.2) st
theorem putG_step {st : List Nat × Int} {l : List ((Int × Int) × Int)} {i : Nat} {x : (Int × Int) × Int} (h : l[i]? = some x) : putG st (l.take (i + 1)) = wNum (wNum (wNum (putG st (l.take i)) x.1.1) x.1.2) x.2 := by
  rw [List.take_add_one, h]
  simp [putG]
theorem putG_len (st : List Nat × Int) (l : List ((Int × Int) × Int)) : (putG st l).1.length ≤ st.1.length + 33 * l.length := by
  induction l generalizing st with
  | nil => simp [putG]
  | cons x l ih =>
    have h1 := ih (wNum (wNum (wNum st x.1.1) x.1.2) x.2)
    have h2 := wNum_len (wNum (wNum st x.1.1) x.1.2) x.2
    have h3 := wNum_len (wNum st x.1.1) x.1.2
    have h4 := wNum_len st x.1.1
    show (putG (wNum (wNum (wNum st x.1.1) x.1.2) x.2) l).1.length ≤ _
    simp only [List.length_cons]
    omega
/-- what is laid of a kind -/
def putK (st : List Nat × Int) (o : Opn) : List Nat × Int := if o.kind = 1 then wTxt (wNum (wNum (wNum st o.it) o.rt) o.rs) o.text else if o.kind = 2 then putG (wNum st o.gone.length) o.gone else if o.kind = 3 then wNum st o.site else st
/-- what is laid of an operation -/
def putH (st : List Nat × Int) (o : Opn) : List Nat × Int := putV (wNum (wNum (wNum st o.kind) o.ds) o.dq) (vec (sy o.deps))
def putO (st : List Nat × Int) (o : Opn) : List Nat × Int := if okO o = true then putK (putH st o) o else st

set_option maxRecDepth 100000 in
set_option maxHeartbeats 1000000 in
theorem insPut_in {w : World} {p : Nat} {v : Value} {st : List Nat × Int} (it is rt rs : Int) (t : ByteArray) (h : Wr w p v st.1 st.2) (h1 : in64 it) (h2 : in64 rt) (h3 : in64 rs) (ht : t.size ≤ 1000000) (hL : st.1.length ≤ 1000000000) :
    Calls Tryz.prog 89 #[.agg #[.int .i64 it, .int .i64 is, .int .i64 rt, .int .i64 rs, .string t], .pointer (some ⟨p, 0, none⟩)] w fun r W => r = .returned (.tuple #[]) ∧ ∃ v', Wr W p v' (wTxt (wNum (wNum (wNum st it) rt) rs) t).1 (wTxt (wNum (wNum (wNum st it) rt) rs) t).2 ∧ Kp (wOwn p v) w W ∧ OwnAt w v v' := by
  obtain ⟨X, hX⟩ : ∃ X, w.alloc (.cells #[.int .i64 it, .int .i64 is, .int .i64 rt, .int .i64 rs, .string t] 99) = X := ⟨_, rfl⟩
  have HX : Bx X w.heap.size 99 #[.int .i64 it, .int .i64 is, .int .i64 rt, .int .i64 rs, .string t] := by rw [← hX]; exact Bx.new w _ _
  have PA : PtK w X p v v (fun k => False ∨ k = w.heap.size) st := PtK.more (K := fun _ => False) ⟨h, Kp.refl _ _, OwnAt.refl _ _, fun k hk => hk.elim⟩ (by rw [← hX]; exact ballc (Below.refl _ _) _) _ (Nat.le_refl _) HX.lt
  have l1 := wNum_len st it
  have l2 := wNum_len (wNum st it) rt
  have l3 := wNum_len (wNum (wNum st it) rt) rs
  have HN := hide (wNumber_in it PA.wr h1.1 h1.2 (by omega))
  have x0 := HX.cell 0 _ rfl
  have xl := HX.lt
  replace HX := hide HX
  replace PA := hide PA
  clear h
  obtain ⟨s1, hs1⟩ : ∃ s, wNum st it = s := ⟨_, rfl⟩
  obtain ⟨s2, hs2⟩ : ∃ s, wNum s1 rt = s := ⟨_, rfl⟩
  obtain ⟨s3, hs3⟩ : ∃ s, wNum s2 rs = s := ⟨_, rfl⟩
  rw [hs1] at l1 l2 l3 HN ⊢
  rw [hs2] at l2 l3 ⊢
  rw [hs3] at l3 ⊢
  replace hs2 := hide hs2
  replace hs3 := hide hs3
  clear hs1
  go_enter Tryz.func89, Tryz.ntmps89
  go_wp2_with fail
  refine (unhide HN).mono ?_
  rintro r W1 ⟨rfl, v1, hw, hk, ho⟩
  replace HX := hide ((unhide HX).kp hk ((unhide PA).ap _ (.inr rfl)).1)
  replace PA := hide ((unhide PA).num hw hk ho)
  have x2 := (unhide HX).cell 2 _ rfl
  have HN2 := hide (wNumber_in rt (unhide PA).wr h2.1 h2.2 (by omega))
  rw [unhide hs2] at HN2
  clear hw hk ho HN x0 xl hX
  go_wp2_with fail
  refine (unhide HN2).mono ?_
  rintro r W2 ⟨rfl, v2, hw, hk, ho⟩
  replace HX := hide ((unhide HX).kp hk ((unhide PA).ap _ (.inr rfl)).1)
  replace PA := hide ((unhide PA).num hw hk ho)
  have x3 := (unhide HX).cell 3 _ rfl
  have HN3 := hide (wNumber_in rs (unhide PA).wr h3.1 h3.2 (by omega))
  rw [unhide hs3] at HN3
  clear hw hk ho HN2 x2
  go_wp2_with fail
  refine (unhide HN3).mono ?_
  rintro r W3 ⟨rfl, v3, hw, hk, ho⟩
  replace HX := hide ((unhide HX).kp hk ((unhide PA).ap _ (.inr rfl)).1)
  replace PA := hide ((unhide PA).num hw hk ho)
  have x4 := (unhide HX).cell 4 _ rfl
  have HN4 := hide (wText_in t (unhide PA).wr (by omega) (by omega))
  clear hw hk ho HN3 x3
  go_wp2_with fail
  refine (unhide HN4).mono ?_
  rintro r W4 ⟨rfl, v4, hw, hk, ho⟩
  replace PA := hide ((unhide PA).num hw hk ho)
  clear hw hk ho HN4 x4
  go_wp2
  go_end0
  exact ⟨rfl, v4, (unhide PA).wr, (unhide PA).kp, (unhide PA).own⟩

set_option maxRecDepth 100000 in
theorem joinPut_in {w : World} {p : Nat} {v : Value} {st : List Nat × Int} (n : Int) (h : Wr w p v st.1 st.2) (h1 : in64 n) (hL : st.1.length ≤ 1000000000) :
    Calls Tryz.prog 121 #[.agg #[.int .i64 n], .pointer (some ⟨p, 0, none⟩)] w fun r W => r = .returned (.tuple #[]) ∧ ∃ v', Wr W p v' (wNum st n).1 (wNum st n).2 ∧ Kp (wOwn p v) w W ∧ OwnAt w v v' := by
  have PA : PtK w (w.alloc (.cells #[.int .i64 n] 103)) p v v (fun _ => False) st := PtK.below (K := fun _ => False) ⟨h, Kp.refl _ _, OwnAt.refl _ _, fun k hk => hk.elim⟩ (ballc (Below.refl _ _) _)
  have HN := hide (wNumber_in n PA.wr h1.1 h1.2 (by omega))
  replace PA := hide PA
  clear h
  obtain ⟨s1, hs1⟩ : ∃ s, wNum st n = s := ⟨_, rfl⟩
  rw [hs1] at HN ⊢
  clear hs1
  go_enter Tryz.func121, Tryz.ntmps121
  go_wp2_with fail
  refine (unhide HN).mono ?_
  rintro r W1 ⟨rfl, v1, hw, hk, ho⟩
  replace PA := hide ((unhide PA).num hw hk ho)
  clear hw hk ho HN
  go_wp2
  go_end0
  exact ⟨rfl, v1, (unhide PA).wr, (unhide PA).kp, (unhide PA).own⟩

set_option maxRecDepth 100000 in
theorem leavePut_in {w : World} {p : Nat} {v : Value} {st : List Nat × Int} (h : Wr w p v st.1 st.2) :
    Calls Tryz.prog 126 #[.agg #[], .pointer (some ⟨p, 0, none⟩)] w fun r W => r = .returned (.tuple #[]) ∧ ∃ v', Wr W p v' (st).1 (st).2 ∧ Kp (wOwn p v) w W ∧ OwnAt w v v' := by
  have PA : Hid (PtK w (w.alloc (.cells #[] 105)) p v v (fun _ => False) st) := PtK.below (K := fun _ => False) ⟨h, Kp.refl _ _, OwnAt.refl _ _, fun k hk => hk.elim⟩ (ballc (Below.refl _ _) _)
  clear h
  go_enter Tryz.func126, Tryz.ntmps126
  go_wp2
  go_end0
  exact ⟨rfl, v, (unhide PA).wr, (unhide PA).kp, (unhide PA).own⟩

set_option maxRecDepth 100000 in
set_option maxHeartbeats 1000000 in
theorem delPut_in {w : World} {p : Nat} {v u : Value} {st : List Nat × Int} (g : List ((Int × Int) × Int)) (h : Wr w p v st.1 st.2) (hu : RR w u g) (hin : ∀ r ∈ g, runIn r) (hg : g.length ≤ 1024) (hL : st.1.length ≤ 1000000000) (hap : ∀ k, rb u g.length k → ¬ wOwn p v k ∧ k < w.heap.size) :
    Calls Tryz.prog 115 #[.agg #[u], .pointer (some ⟨p, 0, none⟩)] w fun r W => r = .returned (.tuple #[]) ∧ ∃ v', Wr W p v' (putG (wNum st g.length) g).1 (putG (wNum st g.length) g).2 ∧ Kp (wOwn p v) w W ∧ OwnAt w v v' := by
  obtain ⟨a, c, rfl⟩ := RC.form hu
  obtain ⟨X, hX⟩ : ∃ X, w.alloc (.cells #[.slice a g.length c] 101) = X := ⟨_, rfl⟩
  have HX : Bx X w.heap.size 101 #[.slice a g.length c] := by rw [← hX]; exact Bx.new w _ _
  have bX : Below w.heap.size w X := by rw [← hX]; exact ballc (Below.refl _ _) _
  have PA : PtK w X p v v (fun k => rb (.slice a g.length c) g.length k ∨ k = w.heap.size) st := PtK.more (K := fun k => rb (.slice a g.length c) g.length k) ⟨h, Kp.refl _ _, OwnAt.refl _ _, hap⟩ bX _ (Nat.le_refl _) HX.lt
  have HU : Hid (RR X (.slice a g.length c) g) := RC.below hu bX
  obtain ⟨n, hn⟩ : ∃ n, g.length = n := ⟨_, rfl⟩
  rw [hn] at HX PA HU hg hX ⊢
  have l1 := wNum_len st (n : Int)
  have HN := hide (wNumber_in (n : Int) PA.wr (by omega) (by omega) (by omega))
  obtain ⟨s1, hs1⟩ : ∃ s, wNum st (n : Int) = s := ⟨_, rfl⟩
  rw [hs1] at l1 HN ⊢
  have x0 := HX.cell 0 _ rfl
  have xl := HX.lt
  replace HX := hide HX
  replace PA := hide PA
  have Hn := hide hn
  have Hin := hide hin
  clear h hu hin hap hs1 hn bX
  go_enter Tryz.func115, Tryz.ntmps115
  go_wp2_with fail
  refine (unhide HN).mono ?_
  rintro r W1 ⟨rfl, v1, hw, hk, ho⟩
  replace HX := hide ((unhide HX).kp hk ((unhide PA).ap _ (.inr rfl)).1)
  replace HU := hide (RC.kpn (unhide HU) hk (fun i hi => ((unhide PA).ap i (.inl (by rwa [unhide Hn] at hi))).1))
  replace PA := hide ((unhide PA).num hw hk ho)
  clear hw hk ho HN x0 xl hX
  have x0 := (unhide HX).cell 0 _ rfl
  go_wp2
  go_loopw [14] (fun iv wr => ∃ (i : Nat) (v2 : Value), iv = .int .i64 (i : Nat) ∧ i ≤ n ∧ Hid (PtK w wr p v v2 (fun k => rb (.slice a n c) n k ∨ k = w.heap.size) (putG s1 (g.take i))) ∧ Hid (RR wr (.slice a n c) g)) (fun iv _ => n - (Lib.intOf iv).toNat)
  case atStart => exact ⟨0, v1, rfl, by omega, hide (unhide PA), HU⟩
  case round =>
    clear PA HX HU x0
    obtain ⟨i, v2, rfl, hin, PC, HU⟩ := hrel
    by_cases hlt : i < n
    · have hlt' : (i : Int) < (n : Int) := by omega
      obtain ⟨x, hx⟩ : ∃ x, g[i]? = some x := ⟨_, List.getElem?_eq_getElem (by have := unhide Hn; omega)⟩
      obtain ⟨⟨r1, r2⟩, r3⟩ := unhide Hin x (List.mem_of_getElem? hx)
      obtain ⟨b, off, rfl, hb, q0, q1, q2⟩ := RR.at (unhide HU) hx
      have Hst := hide (putG_step (st := s1) hx)
      have hlen := putG_len s1 (g.take i)
      have hlen2 : (g.take i).length ≤ 1024 := by rw [List.length_take]; omega
      generalize putG s1 (g.take i) = st2 at *
      obtain ⟨⟨y0, y1⟩, y2⟩ := x
      simp only at q0 q1 q2 r1 r2 r3
      obtain ⟨Y, hY⟩ : ∃ Y, wr.alloc (.cells #[.int .i64 y0, .int .i64 y1, .int .i64 y2] 58) = Y := ⟨_, rfl⟩
      have BD : Bx Y wr.heap.size 58 #[.int .i64 y0, .int .i64 y1, .int .i64 y2] := by rw [← hY]; exact Bx.new _ _ _
      have bY : Below wr.heap.size wr Y := by rw [← hY]; exact ballc (Below.refl _ _) _
      have PD := hide ((unhide PC).more bY _ (Nat.le_refl _) BD.lt)
      replace HU := hide (RC.below (unhide HU) bY)
      have z1 := wNum_len st2 y0
      have z2 := wNum_len (wNum st2 y0) y1
      have HN := hide (wNumber_in y0 (unhide PD).wr r1.1 r1.2 (by omega))
      have d0 := BD.cell 0 _ rfl
      have d1 := BD.cell 1 _ rfl
      have d2 := BD.cell 2 _ rfl
      have dl := BD.lt
      have e0 := BD.frozen 0
      have e1 := BD.frozen 1
      have e2 := BD.frozen 2
      have g0 := BD.same 0 _ rfl
      have g1 := BD.same 1 _ rfl
      have g2 := BD.same 2 _ rfl
      replace BD := hide BD
      clear PC hx bY
      go_wp2_with fail
      refine (unhide HN).mono ?_
      rintro r W3 ⟨rfl, v3, hw, hk, ho⟩
      replace BD := hide ((unhide BD).kp hk ((unhide PD).ap _ (.inr rfl)).1)
      replace HU := hide (RC.kpn (unhide HU) hk (fun i hi => ((unhide PD).ap i (.inl (.inl (by rwa [unhide Hn] at hi)))).1))
      replace PD := hide ((unhide PD).num hw hk ho)
      clear hw hk ho HN d0 d1 d2 dl e0 e1 e2 g0 g1 g2 hY q0 q1 q2
      have d1 := (unhide BD).cell 1 _ rfl
      have HN := hide (wNumber_in y1 (unhide PD).wr r2.1 r2.2 (by show (wNum st2 y0).1.length ≤ _; omega))
      go_wp2_with fail
      refine (unhide HN).mono ?_
      rintro r W4 ⟨rfl, v4, hw, hk, ho⟩
      replace BD := hide ((unhide BD).kp hk ((unhide PD).ap _ (.inr rfl)).1)
      replace HU := hide (RC.kpn (unhide HU) hk (fun i hi => ((unhide PD).ap i (.inl (.inl (by rwa [unhide Hn] at hi)))).1))
      replace PD := hide ((unhide PD).num hw hk ho)
      clear hw hk ho HN d1
      have d2 := (unhide BD).cell 2 _ rfl
      have HN := hide (wNumber_in y2 (unhide PD).wr r3.1 r3.2 (by show (wNum (wNum st2 y0) y1).1.length ≤ _; omega))
      go_wp2_with fail
      refine (unhide HN).mono ?_
      rintro r W5 ⟨rfl, v5, hw, hk, ho⟩
      replace HU := hide (RC.kpn (unhide HU) hk (fun i hi => ((unhide PD).ap i (.inl (.inl (by rwa [unhide Hn] at hi)))).1))
      replace PD := hide ((unhide PD).num hw hk ho)
      clear hw hk ho HN d2 BD
      go_wp2
      go_roundw
      case measure => show n - ((i : Int) + 1).toNat < n - ((i : Nat) : Int).toNat; omega
      case rel => exact ⟨i + 1, v5, by go_num, by omega, hide (by rw [unhide Hst]; exact (unhide PD).less (fun k e => .inl e)), HU⟩
    · have hlt' : ¬ (i : Int) < (n : Int) := by omega
      obtain rfl : i = n := by omega
      have hg2 : Hid (g.take i = g) := by exact List.take_of_length_le (by have := unhide Hn; omega)
      rw [unhide hg2] at PC
      go_wp2
      go_end0
      exact ⟨rfl, v2, (unhide PC).wr, (unhide PC).kp, (unhide PC).own⟩

end Go.Proofs.YtbnhfbdfjnigoaaGreat

/-
  Operations: Put, Last, Encode.
-/
set_option linter.unusedSimpArgs false
set_option linter.unusedVariables false
namespace Go.Proofs.YtbnhfbdfjnigoaaGreat
open Go.RowKit Go.Lib

theorem putV_len (st : List Nat × Int) (s : Nat → Int) : (putV st (vec s)).1.length ≤ st.1.length + 400 := by
  have h1 := putS_len (wNum st (vec s).length) (vec s)
  have h2 := wNum_len st ((vec s).length : Nat)
  have h3 := vec_len s
  unfold putV
  omega
theorem putK_len (st : List Nat × Int) (o : Opn) (h : okO o = true) : (putK st o).1.length ≤ st.1.length + 40000 + o.text.size := by
  unfold putK
  split
  · have h1 := wTxt_len (wNum (wNum (wNum st o.it) o.rt) o.rs) o.text
    have h2 := wNum_len (wNum (wNum st o.it) o.rt) o.rs
    have h3 := wNum_len (wNum st o.it) o.rt
    have h4 := wNum_len st o.it
    omega
  · rename_i k1
    split
    · rename_i k2
      have h1 := putG_len (wNum st o.gone.length) o.gone
      have h2 := wNum_len st (o.gone.length : Nat)
      have h3 : o.gone.length ≤ 1024 := by
        unfold okO holdO at h
        rw [if_neg k1, if_pos k2] at h
        unfold delO at h
        simp at h
        omega
      omega
    · split
      · have h1 := wNum_len st o.site
        omega
      · omega
theorem putH_len (st : List Nat × Int) (o : Opn) : (putH st o).1.length ≤ st.1.length + 433 := by
  have h1 := putV_len (wNum (wNum (wNum st o.kind) o.ds) o.dq) (sy o.deps)
  have h2 := wNum_len (wNum (wNum st o.kind) o.ds) o.dq
  have h3 := wNum_len (wNum st o.kind) o.ds
  have h4 := wNum_len st o.kind
  unfold putH
  omega
theorem putO_len (st : List Nat × Int) (o : Opn) : (putO st o).1.length ≤ st.1.length + 41000 + o.text.size := by
  unfold putO
  split
  · rename_i h
    have h1 := putK_len (putH st o) o h
    have h2 := putH_len st o
    omega
  · omega

theorem okO_kind {o : Opn} (h : okO o = true) : o.kind = 1 ∨ o.kind = 2 ∨ o.kind = 3 ∨ o.kind = 4 := by
  unfold okO kindO at h
  simp at h
  omega
theorem okO_hold {o : Opn} (h : okO o = true) : holdO o = true := by
  unfold okO at h
  simp at h
  exact h.2

/-- of what a kind is: its type, its value, its functions -/
def kT (o : Opn) : TypeId := if o.kind = 1 then 99 else if o.kind = 2 then 101 else if o.kind = 3 then 103 else 105
def kR (o : Opn) (vg : Value) : Value := if o.kind = 1 then insA o else if o.kind = 2 then .agg #[vg] else if o.kind = 3 then .agg #[.int .i64 o.site] else .agg #[]
def kPut (o : Opn) : FuncId := if o.kind = 1 then 89 else if o.kind = 2 then 115 else if o.kind = 3 then 121 else 126
def kLast (o : Opn) : FuncId := if o.kind = 1 then 88 else if o.kind = 2 then 114 else if o.kind = 3 then 120 else 125
theorem kv_ok {o : Opn} (h : okO o = true) (vg : Value) : kv o vg = .iface (kT o) (kR o vg) := by
  unfold kv kT kR
  rcases okO_kind h with e | e | e | e <;> simp [e]
theorem k_meth {s0 s1 s2 s3 s4 : String} {t0 t1 t2 t3 t4 : TypeId} (h : Tryz.prog.underlying 81 = some (.interface #[(s0, t0), (s1, t1), (s2, t2), (s3, t3), (s4, t4)])) (o : Opn) :
    (∀ v w, (method 266 (kT o) v s3).run Tryz.prog w = .ok (kPut o, v) w) ∧ (∀ v w, (method 266 (kT o) v s2).run Tryz.prog w = .ok (kLast o, v) w) := by
  unfold kT kPut kLast
  by_cases h1 : o.kind = 1
  · simp only [h1, if_true]; exact ⟨(ins_meth h).2.2.2.1, (ins_meth h).2.2.1⟩
  by_cases h2 : o.kind = 2
  · rw [if_neg h1, if_neg h1, if_neg h1, if_pos h2, if_pos h2, if_pos h2]; exact ⟨(del_meth h).2.2.2.1, (del_meth h).2.2.1⟩
  by_cases h3 : o.kind = 3
  · rw [if_neg h1, if_neg h1, if_neg h1, if_neg h2, if_neg h2, if_neg h2, if_pos h3, if_pos h3, if_pos h3]; exact ⟨(joi_meth h).2.2.2.1, (joi_meth h).2.2.1⟩
  · rw [if_neg h1, if_neg h1, if_neg h1, if_neg h2, if_neg h2, if_neg h2, if_neg h3, if_neg h3, if_neg h3]; exact ⟨(lea_meth h).2.2.2.1, (lea_meth h).2.2.1⟩
theorem k_enter (o : Opn) : (∀ args w, (callFunc (kPut o) args).run Tryz.prog w = .ok (.enter (kPut o) args) w) ∧ (∀ args w, (callFunc (kLast o) args).run Tryz.prog w = .ok (.enter (kLast o) args) w) := by
  unfold kPut kLast
  split
  · exact ⟨enters_of Tryz.func89 (by kernel_rfl) rfl, enters_of Tryz.func88 (by kernel_rfl) rfl⟩
  · split
    · exact ⟨enters_of Tryz.func115 (by kernel_rfl) rfl, enters_of Tryz.func114 (by kernel_rfl) rfl⟩
    · split
      · exact ⟨enters_of Tryz.func121 (by kernel_rfl) rfl, enters_of Tryz.func120 (by kernel_rfl) rfl⟩
      · exact ⟨enters_of Tryz.func126 (by kernel_rfl) rfl, enters_of Tryz.func125 (by kernel_rfl) rfl⟩

/-- how a kind is laid, whatever it is -/
theorem kPut_in {w : World} {p : Nat} {v vg : Value} {st : List Nat × Int} (o : Opn) (ho : okO o = true) (hi : InO o) (h : Wr w p v st.1 st.2) (hg : RR w vg o.gone) (ht : o.text.size ≤ 1000000) (hL : st.1.length ≤ 1000000000) (hap : ∀ k, rb vg o.gone.length k → ¬ wOwn p v k ∧ k < w.heap.size) :
    Calls Tryz.prog (kPut o) #[kR o vg, .pointer (some ⟨p, 0, none⟩)] w fun r W => r = .returned (.tuple #[]) ∧ ∃ v', Wr W p v' (putK st o).1 (putK st o).2 ∧ Kp (wOwn p v) w W ∧ OwnAt w v v' := by
  have hh := okO_hold ho
  unfold kPut kR putK
  by_cases h1 : o.kind = 1
  · simp only [h1, if_true]
    exact insPut_in o.it o.is o.rt o.rs o.text h hi.it hi.rt hi.rs ht hL
  by_cases h2 : o.kind = 2
  · rw [if_neg h1, if_neg h1, if_neg h1, if_pos h2, if_pos h2, if_pos h2]
    unfold holdO at hh
    rw [if_neg h1, if_pos h2] at hh
    unfold delO at hh
    simp at hh
    exact delPut_in o.gone h hg hi.gone (by omega) hL hap
  by_cases h3 : o.kind = 3
  · rw [if_neg h1, if_neg h1, if_neg h1, if_neg h2, if_neg h2, if_neg h2, if_pos h3, if_pos h3, if_pos h3]
    exact joinPut_in o.site h hi.site hL
  · rw [if_neg h1, if_neg h1, if_neg h1, if_neg h2, if_neg h2, if_neg h2, if_neg h3, if_neg h3, if_neg h3]
    exact leavePut_in h

set_option maxRecDepth 100000 in
set_option maxHeartbeats 1000000 in
theorem OPut_in {w : World} {p : Nat} {v vd vg : Value} {st : List Nat × Int} (o : Opn) (hi : InO o) (h : Wr w p v st.1 st.2) (hd : RI w vd o.deps) (hg : RR w vg o.gone) (ht : o.text.size ≤ 1000000) (hL : st.1.length ≤ 100000000)
    (hapd : ∀ k, rb vd o.deps.length k → ¬ wOwn p v k ∧ k < w.heap.size) (hapg : ∀ k, rb vg o.gone.length k → ¬ wOwn p v k ∧ k < w.heap.size) :
    Calls Tryz.prog 32 #[.pointer (some ⟨p, 0, none⟩), opA o vd vg] w fun r W => r = .returned (.tuple #[]) ∧ ∃ v', Wr W p v' (putO st o).1 (putO st o).2 ∧ Kp (wOwn p v) w W ∧ OwnAt w v v' := by
  obtain ⟨X, hX⟩ : ∃ X, w.alloc (.cells #[.int .i64 o.ds, .int .i64 o.dq, vd, .int .i64 o.kind, .int .i64 o.it, .int .i64 o.is, .int .i64 o.rt, .int .i64 o.rs, .string o.text, vg, .int .i64 o.site] 32) = X := ⟨_, rfl⟩
  have HX : Bx X w.heap.size 32 #[.int .i64 o.ds, .int .i64 o.dq, vd, .int .i64 o.kind, .int .i64 o.it, .int .i64 o.is, .int .i64 o.rt, .int .i64 o.rs, .string o.text, vg, .int .i64 o.site] := by rw [← hX]; exact Bx.new w _ _
  have bX : Below w.heap.size w X := by rw [← hX]; exact ballc (Below.refl _ _) _
  have HC := hide (OCheck_in o vd vg X (hd.below bX) (RC.below hg bX) hi)
  have PA : PtK w X p v v (fun k => (rb vd o.deps.length k ∨ rb vg o.gone.length k) ∨ k = w.heap.size) st := PtK.more (K := fun k => rb vd o.deps.length k ∨ rb vg o.gone.length k) ⟨h, Kp.refl _ _, OwnAt.refl _ _, fun k hk => by rcases hk with hk | hk; exact hapd k hk; exact hapg k hk⟩ bX _ (Nat.le_refl _) HX.lt
  have HD : Hid (RI X vd o.deps) := hd.below bX
  have HG : Hid (RR X vg o.gone) := RC.below hg bX
  have HI := hide hi
  have Ht := hide ht
  have l0 := wNum_len st o.kind
  have l1 := wNum_len (wNum st o.kind) o.ds
  have l2 := wNum_len (wNum (wNum st o.kind) o.ds) o.dq
  have l3 := putH_len st o
  obtain ⟨ad, cd, rfl⟩ := hd.form
  obtain ⟨a, c, rfl⟩ := RC.form hg
  have xs := cells_op HX
  have xl := HX.lt
  replace HX := hide HX
  replace PA := hide PA
  unfold putO chkO at *
  by_cases hok : okO o = true
  · rw [if_pos hok] at HC ⊢
    have hm := (k_meth Tryz.underlying81 o).1
    have he := (k_enter o).1
    have HK := hide (fun W => (kindOf_in o (.slice ad o.deps.length cd) a o.gone.length c W))
    rw [kv_ok hok] at HK
    have HP := hide (fun (w : World) (v : Value) (st : List Nat × Int) h hg hL hap => kPut_in (w := w) (p := p) (v := v) (vg := .slice a o.gone.length c) (st := st) o hok (unhide HI) h hg (unhide Ht) hL hap)
    obtain ⟨i1, i2, i3, _, _, _, _, _, i9, _, _, _⟩ := unhide HI
    obtain ⟨s1, hs1⟩ : ∃ s, wNum st o.kind = s := ⟨_, rfl⟩
    obtain ⟨s2, hs2⟩ : ∃ s, wNum s1 o.ds = s := ⟨_, rfl⟩
    obtain ⟨s3, hs3⟩ : ∃ s, wNum s2 o.dq = s := ⟨_, rfl⟩
    obtain ⟨s4, hs4⟩ : ∃ s, putV s3 (vec (sy o.deps)) = s := ⟨_, rfl⟩
    have hs5 : putH st o = s4 := by unfold putH; rw [hs1, hs2, hs3, hs4]
    rw [hs5] at l3 ⊢
    rw [hs1] at l0 l1 l2
    rw [hs2] at l1 l2
    rw [hs3] at l2
    replace hs1 := hide hs1
    replace hs2 := hide hs2
    replace hs3 := hide hs3
    replace hs4 := hide hs4
    unfold opA at HC HK ⊢
    clear HI Ht ht hi hd hg hapd hapg h bX hs5 hok
    generalize kT o = T at *
    generalize kR o (.slice a o.gone.length c) = R at *
    generalize kPut o = F at *
    obtain ⟨x0, x1, x2, x3, x4, x5, x6, x7, x8, x9, x10⟩ := xs
    go_enter Tryz.func32, Tryz.ntmps32
    go_wp2_with fail
    refine (unhide HC).mono ?_
    rintro r W1 ⟨rfl, hb⟩
    replace HX := hide ((unhide HX).below hb)
    replace HD := hide (RC.below (unhide HD) hb)
    replace HG := hide (RC.below (unhide HG) hb)
    replace PA := hide ((unhide PA).below hb)
    clear hb HC hX x0 x1 x2 x3 x4 x5 x6 x7 x8 x9 x10
    obtain ⟨x0, x1, x2, x3, x4, x5, x6, x7, x8, x9, x10⟩ := cells_op (unhide HX)
    have HN := hide (wNumber_in o.kind (unhide PA).wr i3.1 i3.2 (by omega))
    rw [unhide hs1] at HN
    go_wp2_with fail
    refine (unhide HN).mono ?_
    rintro r W2 ⟨rfl, v2, hw, hk, ho⟩
    replace HX := hide ((unhide HX).kp hk ((unhide PA).ap _ (.inr rfl)).1)
    replace HD := hide (RC.kpn (unhide HD) hk (fun i hi => ((unhide PA).ap i (.inl (.inl hi))).1))
    replace HG := hide (RC.kpn (unhide HG) hk (fun i hi => ((unhide PA).ap i (.inl (.inr hi))).1))
    replace PA := hide ((unhide PA).num hw hk ho)
    clear hw hk ho HN x0 x1 x2 x3 x4 x5 x6 x7 x8 x9 x10
    obtain ⟨x0, x1, x2, x3, x4, x5, x6, x7, x8, x9, x10⟩ := cells_op (unhide HX)
    have HN := hide (wNumber_in o.ds (unhide PA).wr i1.1 i1.2 (by omega))
    rw [unhide hs2] at HN
    go_wp2_with fail
    refine (unhide HN).mono ?_
    rintro r W3 ⟨rfl, v3, hw, hk, ho⟩
    replace HX := hide ((unhide HX).kp hk ((unhide PA).ap _ (.inr rfl)).1)
    replace HD := hide (RC.kpn (unhide HD) hk (fun i hi => ((unhide PA).ap i (.inl (.inl hi))).1))
    replace HG := hide (RC.kpn (unhide HG) hk (fun i hi => ((unhide PA).ap i (.inl (.inr hi))).1))
    replace PA := hide ((unhide PA).num hw hk ho)
    clear hw hk ho HN x0 x1 x2 x3 x4 x5 x6 x7 x8 x9 x10
    obtain ⟨x0, x1, x2, x3, x4, x5, x6, x7, x8, x9, x10⟩ := cells_op (unhide HX)
    have HN := hide (wNumber_in o.dq (unhide PA).wr i2.1 i2.2 (by omega))
    rw [unhide hs3] at HN
    go_wp2_with fail
    refine (unhide HN).mono ?_
    rintro r W4 ⟨rfl, v4, hw, hk, ho⟩
    replace HX := hide ((unhide HX).kp hk ((unhide PA).ap _ (.inr rfl)).1)
    replace HD := hide (RC.kpn (unhide HD) hk (fun i hi => ((unhide PA).ap i (.inl (.inl hi))).1))
    replace HG := hide (RC.kpn (unhide HG) hk (fun i hi => ((unhide PA).ap i (.inl (.inr hi))).1))
    replace PA := hide ((unhide PA).num hw hk ho)
    clear hw hk ho HN x0 x1 x2 x3 x4 x5 x6 x7 x8 x9 x10
    obtain ⟨x0, x1, x2, x3, x4, x5, x6, x7, x8, x9, x10⟩ := cells_op (unhide HX)
    have HN := hide (Put_in o.deps (unhide PA).wr (unhide HD) i9 (by omega))
    rw [unhide hs4] at HN
    go_wp2_with fail
    refine (unhide HN).mono ?_
    rintro r W5 ⟨rfl, v5, hw, hk, ho⟩
    replace HX := hide ((unhide HX).kp hk ((unhide PA).ap _ (.inr rfl)).1)
    replace HD := hide (RC.kpn (unhide HD) hk (fun i hi => ((unhide PA).ap i (.inl (.inl hi))).1))
    replace HG := hide (RC.kpn (unhide HG) hk (fun i hi => ((unhide PA).ap i (.inl (.inr hi))).1))
    replace PA := hide ((unhide PA).num hw hk ho)
    clear hw hk ho HN x0 x1 x2 x3 x4 x5 x6 x7 x8 x9 x10
    obtain ⟨x0, x1, x2, x3, x4, x5, x6, x7, x8, x9, x10⟩ := cells_op (unhide HX)
    go_wp2_with fail
    refine (unhide HK _).mono ?_
    rintro r W6 ⟨rfl, hb⟩
    replace HG := hide (RC.below (unhide HG) hb)
    replace PA := hide ((unhide PA).below hb)
    clear hb HK x0 x1 x2 x3 x4 x5 x6 x7 x8 x9 x10 HX HD
    have HN := hide (unhide HP W6 v5 s4 (unhide PA).wr (unhide HG) (by omega) (fun k hk => (unhide PA).ap k (.inl (.inr hk))))
    go_wp2_with fail
    refine (unhide HN).mono ?_
    rintro r W7 ⟨rfl, v7, hw, hk, ho⟩
    replace PA := hide ((unhide PA).num hw hk ho)
    clear hw hk ho HN
    go_wp2
    go_end0
    exact ⟨rfl, v7, (unhide PA).wr, (unhide PA).kp, (unhide PA).own⟩
  · rw [if_neg hok] at HC ⊢
    clear hok hi
    unfold opA at HC ⊢
    go_enter Tryz.func32, Tryz.ntmps32
    go_wp2_with fail
    refine (unhide HC).mono ?_
    rintro r W1 ⟨rfl, hb⟩
    replace PA := hide ((unhide PA).below hb)
    clear hb
    go_wp2
    first | go_end0 | refine bodyPost_ret (results_none rfl _ _ _) rfl ?_
    exact ⟨rfl, v, (unhide PA).wr, (unhide PA).kp, (unhide PA).own⟩

end Go.Proofs.YtbnhfbdfjnigoaaGreat
