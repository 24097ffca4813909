/-
  QuoteScans' closures: what they have, and the inner one.
-/
import Derived.Test.YticjilkcobpcjaaDoorZSd5
import Derived.Test.YticjilkcobpcjaaDoorZSr4
import Derived.Deep.RegionLaw
import Derived.Deep.RegionWith
import Derived.BigRegion
import Derived.Deep.CutRange

set_option linter.unusedSimpArgs false
set_option linter.unusedVariables false
namespace Go.Proofs.YticjilkcobpcjaaDoor
open Go.RowKit Go.Lib

/-- what stays while the law scans: the number, the row, the iterator, the text -/
structure EV (W : World) (z b0 bw bi bs : Nat) (a : Option Addr) (c : Nat) (s : ByteArray) (stop : Int) (l : List It) : Prop where
  s0 : Bq W b0 3 #[.int .i64 stop]
  wn : Bq W bw 23 #[.slice a l.length c]
  it : Bq W bi 26 #[.func (.func 24) #[] #[.pointer (some ⟨bs, 0, none⟩)]]
  st : Bq W bs 9 #[.string s]
  r : ∀ j v, (flat encF l)[j]? = some v → ∃ g, g < z ∧ a = some ⟨g, 0, none⟩ ∧ W.cell? ⟨g, j, none⟩ = some v
  z0 : b0 < z
  zw : bw < z
  zi : bi < z
  zs : bs < z
variable {W W' : World} {z b0 bw bi bs : Nat} {a : Option Addr} {c : Nat} {s : ByteArray} {stop : Int} {l : List It} {N : Nat → Prop}
theorem EV.kp (h : EV W z b0 bw bi bs a c s stop l) (k : Kp N W W') (hn : ∀ i, N i → z ≤ i) : EV W' z b0 bw bi bs a c s stop l := by
  have f : ∀ i, i < z → ¬ N i := fun i hi e => by have := hn i e; omega
  refine ⟨h.s0.kp k (f _ h.z0), h.wn.kp k (f _ h.zw), h.it.kp k (f _ h.zi), h.st.kp k (f _ h.zs), fun j v hv => ?_, h.z0, h.zw, h.zi, h.zs⟩
  obtain ⟨g, h1, h2, h3⟩ := h.r j v hv
  refine ⟨g, h1, h2, ?_⟩
  rw [← h3]
  have hl := World.block_lt_of_cell? _ _ h3
  unfold World.cell?
  rw [k.block g hl (f g h1)]
theorem EV.below (h : EV W z b0 bw bi bs a c s stop l) (hb : Below W.heap.size W W') : EV W' z b0 bw bi bs a c s stop l := h.kp (N := fun _ => False) (Kp.of_below hb) (fun _ e => e.elim)
theorem EV.at (h : EV W z b0 bw bi bs a c s stop l) {n : Nat} {x : It} (hx : l[n]? = some x) : ∃ g, a = some ⟨g, 0, none⟩ ∧ W.cell? ⟨g, n * 6, none⟩ = some (.int .i64 (x.w.k : Int)) ∧ W.cell? ⟨g, n * 6 + 1, none⟩ = some (.string x.w.t) ∧ W.cell? ⟨g, n * 6 + 2, none⟩ = some (.int .i64 x.w.n) ∧ W.cell? ⟨g, n * 6 + 3, none⟩ = some (.int .i64 (x.w.a : Int)) ∧ W.cell? ⟨g, n * 6 + 4, none⟩ = some (.int .i64 (x.ln : Int)) ∧ W.cell? ⟨g, n * 6 + 5, none⟩ = some (.int .i64 (x.w.e : Int)) := by
  have f := fun q (hq : q < 6) v (hv : (encF x)[q]? = some v) => h.r (n * 6 + q) v ((flat_get encF_len l n q _ hx hq).trans hv)
  obtain ⟨g, _, hga, c0⟩ := f 0 (by omega) _ rfl
  subst hga
  have f' : ∀ q (hq : q < 6) v (hv : (encF x)[q]? = some v), W.cell? ⟨g, n * 6 + q, none⟩ = some v := fun q hq v hv => by
    obtain ⟨g', _, h2, h3⟩ := f q hq v hv
    cases h2
    exact h3
  exact ⟨g, rfl, f' 0 (by omega) _ rfl, f' 1 (by omega) _ rfl, f' 2 (by omega) _ rfl, f' 3 (by omega) _ rfl, f' 4 (by omega) _ rfl, f' 5 (by omega) _ rfl⟩

set_option maxRecDepth 100000 in
set_option maxHeartbeats 8000000 in
theorem inner1_in (o kk n L : Nat) (x : It) (hx : l[n]? = some x) (hL : l.length = L) (hL2 : L ≤ 1000000) (h : EV W z b0 bw bi bs a c s stop l) (ho : Bq W o 4 #[.bool true]) (hk : Bq W kk 3 #[.int .i64 (n : Int)]) (hzk : z ≤ kk) (hok : o ≠ kk) :
    Calls Tryd.prog 10 (x.args ++ #[.pointer (some ⟨o, 0, none⟩), .pointer (some ⟨kk, 0, none⟩), .pointer (some ⟨bw, 0, none⟩), .pointer (some ⟨b0, 0, none⟩)]) W fun e W' => e = .returned (.bool (((n : Int) + 1) != stop)) ∧ Bq W' kk 3 #[.int .i64 ((n + 1 : Nat) : Int)] ∧ Kp (fun i => i = kk) W W' := by
  obtain ⟨⟨k, t, m, at', nx, e⟩, ln⟩ := x
  have hn := (List.getElem?_eq_some_iff.1 hx).1
  rw [hL] at hn
  obtain ⟨X0, hX0⟩ : ∃ X0, W.alloc (.cells #[.int .i64 (k : Int), .string t, .int .i64 m, .int .i64 (at' : Int), .int .i64 (ln : Int)] 29) = X0 := ⟨_, rfl⟩
  have b0' : Below W.heap.size W X0 := by rw [← hX0]; exact (Below.refl _ _).alloc (Nat.le_refl _) _
  have B0 : Bq X0 W.heap.size 29 #[.int .i64 (k : Int), .string t, .int .i64 m, .int .i64 (at' : Int), .int .i64 (ln : Int)] := by rw [← hX0]; exact Bq.new _ _ _
  have E0 := h.below b0'
  have O0 := ho.keep b0' ho.lt
  have K0 := hk.keep b0' hk.lt
  obtain ⟨g, hga, c0, c1, c2, c3, c4, c5⟩ := E0.at hx
  subst hga
  simp only at c0 c1 c2 c3 c4 c5
  have y0 := O0.cell 0 _ rfl
  have n0 := K0.cell 0 _ rfl
  have v0 : X0.cell? ⟨bw, 0, none⟩ = some (.slice (some ⟨g, 0, none⟩) L c) := by have := E0.wn.cell 0 _ rfl; rw [hL] at this; exact this
  have s0 := E0.s0.cell 0 _ rfl
  have fy := O0.frozen 0
  have fn := K0.frozen 0
  have ey := O0.same
  have w0 := B0.cell 0 _ rfl
  have w1 := B0.cell 1 _ rfl
  have w2 := B0.cell 2 _ rfl
  have w3 := B0.cell 3 _ rfl
  have w4 := B0.cell 4 _ rfl
  obtain ⟨X1, hX1⟩ : ∃ X1, X0.setCell ⟨kk, 0, none⟩ (.int .i64 ((n : Int) + 1)) = X1 := ⟨_, rfl⟩
  have K1 : Bq X1 kk 3 #[.int .i64 ((n + 1 : Nat) : Int)] := by rw [← hX1]; exact K0.set _
  have k01 : Kp (fun i => i = kk) X0 X1 := by rw [← hX1]; exact Kp.set (N := fun i => i = kk) X0 _ _ rfl
  have kW : Kp (fun i => i = kk) W X1 := (Kp.of_below b0').trans k01 (fun i hi => .inl hi)
  have E1 := E0.kp k01 (fun i hi => by omega)
  have O1 := O0.kp k01 hok
  have y1 := O1.cell 0 _ rfl
  have n1 : X1.cell? ⟨kk, 0, none⟩ = some (.int .i64 ((n : Int) + 1)) := K1.cell 0 _ rfl
  have s1 := E1.s0.cell 0 _ rfl
  have HF := hide (And.intro K1 kW)
  change Calls Tryd.prog 10 #[.agg #[.int .i64 (k : Int), .string t, .int .i64 m, .int .i64 (at' : Int), .int .i64 (ln : Int)], .int .i64 (e : Int), .pointer (some ⟨o, 0, none⟩), .pointer (some ⟨kk, 0, none⟩), .pointer (some ⟨bw, 0, none⟩), .pointer (some ⟨b0, 0, none⟩)] W _
  have d1 : (n : Int) < (L : Int) := by omega
  have d2 : decide ((n : Int) < (L : Int)) = true := decide_eq_true d1
  have t4 : (t.toList == t.toList) = true := by simp
  clear h ho hk b0' B0 E0 O0 K0 K1 k01 kW E1 O1 hx hL hzk hok
  go_enter Tryd.func10, Tryd.ntmps10
  go_upto_region 1 with fail
  go_region
  go_wp2
  go_ret
  exact ⟨rfl, (unhide HF).1.keep (Below.refl _ _).drew (unhide HF).1.lt, (unhide HF).2.trans (Kp.of_below (N := fun i => i = kk) (Below.refl _ _).drew) (fun i hi => .inl hi)⟩

set_option maxRecDepth 100000 in
set_option maxHeartbeats 8000000 in
theorem last1_in (kk n : Nat) (x : It) (hn : n ≤ 1000000) (h : Bq W b0 3 #[.int .i64 stop]) (hk : Bq W kk 3 #[.int .i64 (n : Int)]) (hzk : b0 ≠ kk) :
    Calls Tryd.prog 11 (x.args ++ #[.pointer (some ⟨kk, 0, none⟩), .pointer (some ⟨b0, 0, none⟩)]) W fun e W' => e = .returned (.bool (((n : Int) + 1) != stop)) ∧ Bq W' kk 3 #[.int .i64 ((n + 1 : Nat) : Int)] ∧ Kp (fun i => i = kk) W W' := by
  obtain ⟨⟨k, t, m, at', nx, e⟩, ln⟩ := x
  obtain ⟨X0, hX0⟩ : ∃ X0, W.alloc (.cells #[.int .i64 (k : Int), .string t, .int .i64 m, .int .i64 (at' : Int), .int .i64 (ln : Int)] 29) = X0 := ⟨_, rfl⟩
  have b0' : Below W.heap.size W X0 := by rw [← hX0]; exact (Below.refl _ _).alloc (Nat.le_refl _) _
  have S0 := h.keep b0' h.lt
  have K0 := hk.keep b0' hk.lt
  have n0 := K0.cell 0 _ rfl
  have fn := K0.frozen 0
  obtain ⟨X1, hX1⟩ : ∃ X1, X0.setCell ⟨kk, 0, none⟩ (.int .i64 ((n : Int) + 1)) = X1 := ⟨_, rfl⟩
  have K1 : Bq X1 kk 3 #[.int .i64 ((n + 1 : Nat) : Int)] := by rw [← hX1]; exact K0.set _
  have k01 : Kp (fun i => i = kk) X0 X1 := by rw [← hX1]; exact Kp.set (N := fun i => i = kk) X0 _ _ rfl
  have kW : Kp (fun i => i = kk) W X1 := (Kp.of_below b0').trans k01 (fun i hi => .inl hi)
  have S1 := S0.kp k01 hzk
  have n1 : X1.cell? ⟨kk, 0, none⟩ = some (.int .i64 ((n : Int) + 1)) := K1.cell 0 _ rfl
  have s1 := S1.cell 0 _ rfl
  have HF := hide (And.intro K1 kW)
  change Calls Tryd.prog 11 #[.agg #[.int .i64 (k : Int), .string t, .int .i64 m, .int .i64 (at' : Int), .int .i64 (ln : Int)], .int .i64 (e : Int), .pointer (some ⟨kk, 0, none⟩), .pointer (some ⟨b0, 0, none⟩)] W _
  clear h hk b0' S0 K0 K1 k01 kW S1 hzk
  go_enter Tryd.func11, Tryd.ntmps11
  go_wp2
  go_ret
  exact ⟨rfl, (unhide HF).1, (unhide HF).2⟩

end Go.Proofs.YticjilkcobpcjaaDoor

/-
  QuoteScans' closures: the scanner that is handed them.
-/
set_option linter.unusedSimpArgs false
set_option linter.unusedVariables false
namespace Go.Proofs.YticjilkcobpcjaaDoor
open Go.RowKit Go.Lib

theorem scF_len (s : ByteArray) : ∀ (f i line : Nat) (m : Bool), (scF s f i line m).length ≤ f
  | 0, _, _, _ => by simp [scF]
  | f + 1, i, line, m => by
    have h1 := scF_len s f (bhL s i) (line + 1) false
    have h2 := scF_len s f (i + 1) line m
    have h3 := scF_len s f (rmE s i) line m
    have h4 := scF_len s f (wdAt s i).nx line true
    unfold scF
    split
    · split <;> simp
    · split
      · rw [List.length_append]
        split <;> simp <;> omega
      · split
        · omega
        · split
          · omega
          · rw [List.length_cons]
            split
            · omega
            · simp
theorem scL_len (s : ByteArray) : (scL s).length ≤ s.size + 1 := scF_len s _ 0 1 false

variable {w W W' : World} {z b0 bw bi bs : Nat} {a : Option Addr} {c : Nat} {s : ByteArray} {stop : Int} {l : List It} {N : Nat → Prop}
theorem kp_on {N : Nat → Prop} {W W1 W2 : World} (k : Kp N W W1) (hb : Below W.heap.size W1 W2) : Kp N W W2 :=
  ⟨hb.os.trans k.os, hb.tape.trans k.tape, hb.output.trans k.output, Nat.le_trans k.size hb.size, fun i hi hn => (hb.block i hi).trans (k.block i hi hn)⟩

/-- the inner scan: to its end, or up to where it is told to stop -/
theorem scan_inner (hw : Below w.heap.size w W) (hLw : Lw w) (hs : s.size ≤ 20000) (o kk : Nat) (h : EV W z b0 bw bi bs a c s stop (scL s)) (ho : Bq W o 4 #[.bool true]) (hk : Bq W kk 3 #[.int .i64 ((0 : Nat) : Int)]) (hzk : z ≤ kk) (hok : o ≠ kk) (hwk : w.heap.size ≤ kk) :
    Calls Tryd.prog 24 #[.func (.func 10) #[] #[.pointer (some ⟨o, 0, none⟩), .pointer (some ⟨kk, 0, none⟩), .pointer (some ⟨bw, 0, none⟩), .pointer (some ⟨b0, 0, none⟩)], .pointer (some ⟨bs, 0, none⟩)] W fun e W' => e = .returned (.tuple #[]) ∧ ∃ k : Nat, Bq W' kk 3 #[.int .i64 (k : Int)] ∧ Kp (fun i => i = kk) W W' ∧ (k = (scL s).length ∨ (k : Int) = stop) := by
  have hlen := scL_len s
  have hkl := hk.lt
  refine (Sn.scan_clo 10 #[.pointer (some ⟨o, 0, none⟩), .pointer (some ⟨kk, 0, none⟩), .pointer (some ⟨bw, 0, none⟩), .pointer (some ⟨b0, 0, none⟩)] bs s (by omega)
    (fun pre W1 => Bq W1 kk 3 #[.int .i64 ((pre.length : Nat) : Int)] ∧ Kp (fun i => i = kk) W W1)
    (fun pre W1 => Bq W1 kk 3 #[.int .i64 ((pre.length : Nat) : Int)] ∧ Kp (fun i => i = kk) W W1 ∧ ((pre.length : Nat) : Int) = stop) W (enters_of Tryd.func10 (by kernel_rfl) rfl) ?_ ?_ ?_ ⟨hk, Kp.refl _ _⟩).mono ?_
  · rintro pre W1 ⟨_, h2⟩
    exact ⟨(h.kp h2 (fun i hi => by omega)).st.cell 0 _ rfl, hLw.below (h2.below hw (fun i hi => by omega))⟩
  · rintro pre W1 W2 ⟨h1, h2⟩ hb2
    exact ⟨h1.keep hb2 hkl, kp_on h2 hb2⟩
  · rintro pre x rest W1 hpre hsz ⟨h1, h2⟩
    have hat : (scL s)[pre.length]? = some x := by rw [← hpre]; simp
    refine (inner1_in o kk pre.length _ x hat rfl (by omega) (h.kp h2 (fun i hi => by omega)) (ho.kp h2 hok) h1 hzk hok).mono ?_
    rintro e W' ⟨rfl, hr, hk'⟩
    have hz := hk'.size
    have e1 : (pre ++ [x]).length = pre.length + 1 := by simp
    have k2 : Kp (fun i => i = kk) W W' := h2.trans hk' (fun i hi => .inl hi)
    refine ⟨_, rfl, ?_, hz, hk'.block _ hsz (by omega)⟩
    by_cases hq : ((pre.length : Nat) : Int) + 1 = stop
    · have hb : ((((pre.length : Nat) : Int) + 1) != stop) = false := by simp [hq]
      rw [hb, if_neg (by simp)]
      exact ⟨by rw [e1]; exact hr, k2, by rw [e1]; omega⟩
    · have hb : ((((pre.length : Nat) : Int) + 1) != stop) = true := by simp [hq]
      rw [hb, if_pos rfl]
      exact ⟨by rw [e1]; exact hr, k2⟩
  · rintro e W' ⟨rfl, ⟨h1, h2⟩ | ⟨pre, _, _, h1, h2, h3⟩⟩
    · exact ⟨rfl, _, h1, h2, .inl rfl⟩
    · exact ⟨rfl, _, h1, h2, .inr h3⟩
/-- the last scan -/
theorem scan_last (hw : Below w.heap.size w W) (hLw : Lw w) (hs : s.size ≤ 20000) (kk : Nat) (h : EV W z b0 bw bi bs a c s stop (scL s)) (hk : Bq W kk 3 #[.int .i64 ((0 : Nat) : Int)]) (hzk : z ≤ kk) (hwk : w.heap.size ≤ kk) :
    Calls Tryd.prog 24 #[.func (.func 11) #[] #[.pointer (some ⟨kk, 0, none⟩), .pointer (some ⟨b0, 0, none⟩)], .pointer (some ⟨bs, 0, none⟩)] W fun e W' => e = .returned (.tuple #[]) ∧ ∃ k : Nat, Bq W' kk 3 #[.int .i64 (k : Int)] ∧ Kp (fun i => i = kk) W W' ∧ (k = (scL s).length ∨ (k : Int) = stop) := by
  have hlen := scL_len s
  have hkl := hk.lt
  have hz0 := h.z0
  refine (Sn.scan_clo 11 #[.pointer (some ⟨kk, 0, none⟩), .pointer (some ⟨b0, 0, none⟩)] bs s (by omega)
    (fun pre W1 => Bq W1 kk 3 #[.int .i64 ((pre.length : Nat) : Int)] ∧ Kp (fun i => i = kk) W W1)
    (fun pre W1 => Bq W1 kk 3 #[.int .i64 ((pre.length : Nat) : Int)] ∧ Kp (fun i => i = kk) W W1 ∧ ((pre.length : Nat) : Int) = stop) W (enters_of Tryd.func11 (by kernel_rfl) rfl) ?_ ?_ ?_ ⟨hk, Kp.refl _ _⟩).mono ?_
  · rintro pre W1 ⟨_, h2⟩
    exact ⟨(h.kp h2 (fun i hi => by omega)).st.cell 0 _ rfl, hLw.below (h2.below hw (fun i hi => by omega))⟩
  · rintro pre W1 W2 ⟨h1, h2⟩ hb2
    exact ⟨h1.keep hb2 hkl, kp_on h2 hb2⟩
  · rintro pre x rest W1 hpre hsz ⟨h1, h2⟩
    have hpl : pre.length ≤ (scL s).length := by rw [← hpre, List.length_append]; omega
    refine (last1_in kk pre.length x (by omega) (h.kp h2 (fun i hi => by omega)).s0 h1 (by omega)).mono ?_
    rintro e W' ⟨rfl, hr, hk'⟩
    have hz := hk'.size
    have e1 : (pre ++ [x]).length = pre.length + 1 := by simp
    have k2 : Kp (fun i => i = kk) W W' := h2.trans hk' (fun i hi => .inl hi)
    refine ⟨_, rfl, ?_, hz, hk'.block _ hsz (by omega)⟩
    by_cases hq : ((pre.length : Nat) : Int) + 1 = stop
    · have hb : ((((pre.length : Nat) : Int) + 1) != stop) = false := by simp [hq]
      rw [hb, if_neg (by simp)]
      exact ⟨by rw [e1]; exact hr, k2, by rw [e1]; omega⟩
    · have hb : ((((pre.length : Nat) : Int) + 1) != stop) = true := by simp [hq]
      rw [hb, if_pos rfl]
      exact ⟨by rw [e1]; exact hr, k2⟩
  · rintro e W' ⟨rfl, ⟨h1, h2⟩ | ⟨pre, _, _, h1, h2, h3⟩⟩
    · exact ⟨rfl, _, h1, h2, .inl rfl⟩
    · exact ⟨rfl, _, h1, h2, .inr h3⟩

set_option maxRecDepth 100000 in
set_option maxHeartbeats 8000000 in
theorem outer1_in (hw : Below w.heap.size w W) (hLw : Lw w) (hs : s.size ≤ 20000) (o nn n L : Nat) (x : It) (hx : (scL s)[n]? = some x) (hL : (scL s).length = L) (h : EV W z b0 bw bi bs a c s stop (scL s)) (ho : Bq W o 4 #[.bool true]) (hn' : Bq W nn 3 #[.int .i64 (n : Int)]) (hzn : z ≤ nn) (hon : o ≠ nn) (hwn : w.heap.size ≤ nn) :
    Calls Tryd.prog 9 (x.args ++ #[.pointer (some ⟨o, 0, none⟩), .pointer (some ⟨nn, 0, none⟩), .pointer (some ⟨bw, 0, none⟩), .pointer (some ⟨bi, 0, none⟩), .pointer (some ⟨b0, 0, none⟩)]) W fun e W' => e = .returned (.bool true) ∧ Bq W' nn 3 #[.int .i64 ((n + 1 : Nat) : Int)] ∧ Kp (fun i => i = nn) W W' := by
  obtain ⟨⟨k, t, m, at', nx, e⟩, ln⟩ := x
  have hn := (List.getElem?_eq_some_iff.1 hx).1
  have hLs := scL_len s
  rw [hL] at hn hLs
  obtain ⟨X0, hX0⟩ : ∃ X0, W.alloc (.cells #[.int .i64 (k : Int), .string t, .int .i64 m, .int .i64 (at' : Int), .int .i64 (ln : Int)] 29) = X0 := ⟨_, rfl⟩
  have b0' : Below W.heap.size W X0 := by rw [← hX0]; exact (Below.refl _ _).alloc (Nat.le_refl _) _
  have B0 : Bq X0 W.heap.size 29 #[.int .i64 (k : Int), .string t, .int .i64 m, .int .i64 (at' : Int), .int .i64 (ln : Int)] := by rw [← hX0]; exact Bq.new _ _ _
  have E0 := h.below b0'
  have O0 := ho.keep b0' ho.lt
  have K0 := hn'.keep b0' hn'.lt
  obtain ⟨D0, hD0⟩ : ∃ D0, X0.drew = D0 := ⟨_, rfl⟩
  have bD : Below X0.heap.size X0 D0 := by rw [← hD0]; exact (Below.refl _ _).drew
  have bWD : Below W.heap.size W D0 := bnext b0' bD
  obtain ⟨g, hga, c0, c1, c2, c3, c4, c5⟩ := E0.at hx
  subst hga
  simp only at c0 c1 c2 c3 c4 c5
  have y0 := O0.cell 0 _ rfl
  have n0 := K0.cell 0 _ rfl
  have v0 : X0.cell? ⟨bw, 0, none⟩ = some (.slice (some ⟨g, 0, none⟩) L c) := by have := E0.wn.cell 0 _ rfl; rw [hL] at this; exact this
  have fy := O0.frozen 0
  have ey := O0.same
  have w0 := B0.cell 0 _ rfl
  have w1 := B0.cell 1 _ rfl
  have w2 := B0.cell 2 _ rfl
  have w3 := B0.cell 3 _ rfl
  have w4 := B0.cell 4 _ rfl
  have KD := K0.keep bD K0.lt
  have OD := O0.keep bD O0.lt
  have ED := E0.below bD
  have nD := KD.cell 0 _ rfl
  have fn := KD.frozen 0
  obtain ⟨X1, hX1⟩ : ∃ X1, D0.setCell ⟨nn, 0, none⟩ (.int .i64 ((n : Int) + 1)) = X1 := ⟨_, rfl⟩
  have K1 : Bq X1 nn 3 #[.int .i64 ((n + 1 : Nat) : Int)] := by rw [← hX1]; exact KD.set _
  have k01 : Kp (fun i => i = nn) D0 X1 := by rw [← hX1]; exact Kp.set (N := fun i => i = nn) D0 _ _ rfl
  have kW : Kp (fun i => i = nn) W X1 := (Kp.of_below bWD).trans k01 (fun i hi => .inl hi)
  have E1 := ED.kp k01 (fun i hi => by omega)
  have O1 := OD.kp k01 hon
  have y1 := O1.cell 0 _ rfl
  have n1 : X1.cell? ⟨nn, 0, none⟩ = some (.int .i64 ((n : Int) + 1)) := K1.cell 0 _ rfl
  have v1 := E1.it.cell 0 _ rfl
  have HF := hide (And.intro K1 kW)
  change Calls Tryd.prog 9 #[.agg #[.int .i64 (k : Int), .string t, .int .i64 m, .int .i64 (at' : Int), .int .i64 (ln : Int)], .int .i64 (e : Int), .pointer (some ⟨o, 0, none⟩), .pointer (some ⟨nn, 0, none⟩), .pointer (some ⟨bw, 0, none⟩), .pointer (some ⟨bi, 0, none⟩), .pointer (some ⟨b0, 0, none⟩)] W _
  have d1 : (n : Int) < (L : Int) := by omega
  have d2 : decide ((n : Int) < (L : Int)) = true := decide_eq_true d1
  have t4 : (t.toList == t.toList) = true := by simp
  have hnn : nn < X1.heap.size := K1.lt
  have hoo : o < X1.heap.size := O1.lt
  obtain ⟨X2, hX2⟩ : ∃ X2, X1.alloc (.cells #[.int .i64 0] 3) = X2 := ⟨_, rfl⟩
  have b2 : Below X1.heap.size X1 X2 := by rw [← hX2]; exact (Below.refl _ _).alloc (Nat.le_refl _) _
  have Kk : Bq X2 X1.heap.size 3 #[.int .i64 ((0 : Nat) : Int)] := by rw [← hX2]; exact Bq.new _ _ _
  have E2 := E1.below b2
  have O2 := O1.keep b2 O1.lt
  have HC := hide (scan_inner (bnext (kW.below hw (fun i hi => by omega)) b2) hLw hs o X1.heap.size E2 O2 Kk (by omega) (by omega) (by omega))
  have v2 := E2.it.cell 0 _ rfl
  have HE2 := hide (And.intro E2 (And.intro O2 (And.intro (K1.keep b2 K1.lt) b2)))
  have HX2 := hide hX2
  have HD := hide hon
  have HD0 := hide hD0
  clear hD0
  have HzN := hide hzn
  clear h ho hn' b0' B0 E0 O0 K0 K1 k01 kW E1 O1 hx bD bWD KD OD ED b2 Kk E2 O2 hX2 hon hzn hw hwn
  go_enter Tryd.func9, Tryd.ntmps9
  go_upto_region 1 with fail
  go_cut [] from 11 to 35 (fun wx => D0 = wx)
  case first =>
    clear nD n1 y1 v1 v2 hX1
    go_region
    go_wp2
    go_meet
    case rel => exact (unhide HD0).symm
  case rest =>
    subst hcut
    clear c0 c1 c2 c3 c4 c5 y0 n0 v0 fy ey w0 w1 w2 w3 w4 hX0 HD0
    by_cases h2 : n = 1
    · have hne : ((n : Int) + 1 == 2) = true := by rw [h2]; rfl
      clear h2
      go_upto_region 5 with fail
      rw [unhide HX2]
      go_wp2_with fail
      refine (unhide HC).mono ?_
      rintro e X3 ⟨rfl, kc, hk3, kp3, hor⟩
      obtain ⟨E2, O2, N2, b2⟩ := unhide HE2
      have E3 := E2.kp kp3 (fun i hi => by have := unhide HzN; omega)
      have O3 := O2.kp kp3 (by omega)
      have N3 := N2.kp kp3 (by omega)
      have y3 := O3.cell 0 _ rfl
      have f3 := O3.frozen 0
      have e3 := O3.same
      have k3 := hk3.cell 0 _ rfl
      have s3 := E3.s0.cell 0 _ rfl
      have w3' : X3.cell? ⟨bw, 0, none⟩ = some (.slice (some ⟨g, 0, none⟩) L c) := by have := E3.wn.cell 0 _ rfl; rw [hL] at this; exact this
      have HFin := hide (And.intro N3 (((unhide HF).2.trans (Kp.of_below (N := fun i => i = nn) b2) (fun i hi => .inl hi)).trans kp3 (fun i hi => .inr (by have := (unhide HF).2.size; omega))))
      rw [hL] at hor
      clear E2 O2 N2 b2 E3 O3 N3 hk3 kp3 HC HE2 HF
      by_cases hkL : kc = L
      · have hb1 : ((kc : Int) == (L : Int)) = true := by simp [hkL]
        clear hor hkL
        go_wp2
        go_ret
        exact ⟨rfl, (unhide HFin).1, (unhide HFin).2⟩
      · have hb1 : ((kc : Int) == (L : Int)) = false := by rw [beq_eq_false_iff_ne]; omega
        have hst : (kc : Int) = stop := by rcases hor with q | q; exact absurd q hkL; exact q
        have hb2 : ((kc : Int) == stop) = true := by simp [hst]
        clear hor hkL hst
        go_wp2
        go_ret
        exact ⟨rfl, (unhide HFin).1, (unhide HFin).2⟩
    · have hne : ((n : Int) + 1 == 2) = false := by rw [beq_eq_false_iff_ne]; omega
      clear HC HE2
      go_wp2
      go_ret
      exact ⟨rfl, (unhide HF).1, (unhide HF).2⟩

theorem FdS.row {w W : World} {a : Option Addr} {L c : Nat} {l : List It} (h : FdS w W (.slice a L c) l) : ∀ j u, (flat encF l)[j]? = some u → ∃ g, g < W.heap.size ∧ a = some ⟨g, 0, none⟩ ∧ W.cell? ⟨g, j, none⟩ = some u := by
  intro j u hu
  have h0 := h.ow
  obtain ⟨hl, (⟨e, hn⟩ | ⟨g, cap, cur, e, hbg, hg, hc1, hc2, hc3, hc4⟩)⟩ := h.ow
  · have hj := (List.getElem?_eq_some_iff.1 hu).1
    rw [hl, hn] at hj
    omega
  · have hj := (List.getElem?_eq_some_iff.1 hu).1
    cases e
    exact ⟨g, (Array.getElem?_eq_some_iff.1 hg).1, rfl, (World.ownsRow.cellAt h0 j (by omega)).trans hu⟩
/-- the outer scan: all words -/
theorem scan_outer (hw : Below w.heap.size w W) (hLw : Lw w) (hs : s.size ≤ 20000) (o nn : Nat) (h : EV W z b0 bw bi bs a c s stop (scL s)) (ho : Bq W o 4 #[.bool true]) (hk : Bq W nn 3 #[.int .i64 ((0 : Nat) : Int)]) (hzk : z ≤ nn) (hok : o ≠ nn) (hwk : w.heap.size ≤ nn) :
    Calls Tryd.prog 24 #[.func (.func 9) #[] #[.pointer (some ⟨o, 0, none⟩), .pointer (some ⟨nn, 0, none⟩), .pointer (some ⟨bw, 0, none⟩), .pointer (some ⟨bi, 0, none⟩), .pointer (some ⟨b0, 0, none⟩)], .pointer (some ⟨bs, 0, none⟩)] W fun e W' => e = .returned (.tuple #[]) ∧ Bq W' nn 3 #[.int .i64 (((scL s).length : Nat) : Int)] ∧ Kp (fun i => i = nn) W W' := by
  have hkl := hk.lt
  refine (Sn.scan_clo 9 #[.pointer (some ⟨o, 0, none⟩), .pointer (some ⟨nn, 0, none⟩), .pointer (some ⟨bw, 0, none⟩), .pointer (some ⟨bi, 0, none⟩), .pointer (some ⟨b0, 0, none⟩)] bs s (by omega)
    (fun pre W1 => Bq W1 nn 3 #[.int .i64 ((pre.length : Nat) : Int)] ∧ Kp (fun i => i = nn) W W1)
    (fun _ _ => False) W (enters_of Tryd.func9 (by kernel_rfl) rfl) ?_ ?_ ?_ ⟨hk, Kp.refl _ _⟩).mono ?_
  · rintro pre W1 ⟨_, h2⟩
    exact ⟨(h.kp h2 (fun i hi => by omega)).st.cell 0 _ rfl, hLw.below (h2.below hw (fun i hi => by omega))⟩
  · rintro pre W1 W2 ⟨h1, h2⟩ hb2
    exact ⟨h1.keep hb2 hkl, kp_on h2 hb2⟩
  · rintro pre x rest W1 hpre hsz ⟨h1, h2⟩
    have hat : (scL s)[pre.length]? = some x := by rw [← hpre]; simp
    refine (outer1_in (h2.below hw (fun i hi => by omega)) hLw hs o nn pre.length _ x hat rfl (h.kp h2 (fun i hi => by omega)) (ho.kp h2 hok) h1 hzk hok hwk).mono ?_
    rintro e W' ⟨rfl, hr, hk'⟩
    have e1 : (pre ++ [x]).length = pre.length + 1 := by simp
    refine ⟨true, rfl, ?_, hk'.size, hk'.block _ hsz (by omega)⟩
    exact ⟨by rw [e1]; exact hr, h2.trans hk' (fun i hi => .inl hi)⟩
  · rintro e W' ⟨rfl, h | ⟨_, _, _, h⟩⟩
    · exact ⟨rfl, h.1, h.2⟩
    · exact h.elim

end Go.Proofs.YticjilkcobpcjaaDoor
