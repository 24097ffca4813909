/-
  Within a step: what each call leaves.
-/
import Derived.Test.YteomalmflebkhaaZSA
set_option linter.unusedSimpArgs false
set_option linter.unusedVariables false
namespace Go.Proofs.Yteomalmflebkhaa
open Go.RowKit Go.Lib

variable {P N S0 T0 E E' : Nat → Prop} {w W W' X X' : World} {b r p f q g n k kb ba : Nat} {c : Cp} {s s' s2 : Stn} {v u : Value} {e : Ending} {x : Stp} {a : Option Addr} {D : List Int}
def SK (S0 T0 : Nat → Prop) (W : World) (x : Stp) (b r g kb : Nat) (s s' : Stn) (X : World) : Prop := ∃ E, SP S0 T0 W b r E s s' X ∧ KE W x g kb E X
theorem SK.below (h : SK S0 T0 W x b r g kb s s' X) (hb : Below X.heap.size X X') : SK S0 T0 W x b r g kb s s' X' := by
  obtain ⟨E, h1, h2⟩ := h
  exact ⟨E, h1.below hb, h2.below hb⟩
theorem KE.sc (h : KE W x g kb E X) (k : Kp (fun i => ¬ E i) X X') : KE W x g kb (fun i => E i ∧ i < X.heap.size) X' := (h.wk (fun i hi hl => ⟨hi, hl⟩)).kp k (fun i hn e => hn e.1)
theorem KE.fr (h : KE W x g kb E X) {T : Nat → Prop} (hT : ∀ i, T i → ¬ E i) : x.dat ≠ [] → ∀ i, x.vd.ownBlock = some i → ¬ T i := fun hd i hi e => hT i e (h.e3 hd i hi)
theorem SK.one (h : SK S0 T0 W x b r g kb s s' X) {F : FuncId} {args : Array Value} (hc : ∀ S, NL S X b s → (∀ i, S i → i < X.heap.size) → Calls Try.prog F args X (CN S X b s2 v)) : Calls Try.prog F args X fun e X' => e = .returned v ∧ SK S0 T0 W x b r g kb s2 s' X' := by
  obtain ⟨E, h1, h2⟩ := h
  refine (h1.one hc).mono ?_
  rintro e X' ⟨rfl, h3, h4⟩
  exact ⟨rfl, _, h3, h2.sc h4⟩
theorem SK.two (h : SK S0 T0 W x b r g kb s s' X) {F : FuncId} {args : Array Value} (hc : ∀ T, HL T X r s' → (x.dat ≠ [] → ∀ i, x.vd.ownBlock = some i → ¬ T i) → Calls Try.prog F args X (CH T X r s2 v)) : Calls Try.prog F args X fun e X' => e = .returned v ∧ SK S0 T0 W x b r g kb s s2 X' := by
  obtain ⟨E, h1, h2⟩ := h
  refine (h1.two (fun T hl hT => hc T hl (h2.fr hT))).mono ?_
  rintro e X' ⟨rfl, h3, h4⟩
  exact ⟨rfl, _, h3, h2.sc h4⟩
theorem SK.gv (h : SK S0 T0 W x b r g kb s s' X) : RB X (.slice (some ⟨g, 0, none⟩) x.dat.length kb) x.dat := by obtain ⟨_, _, h⟩ := h; exact h.gv
theorem SK.rd (h : SK S0 T0 W x b r g kb s s' X) : RB X x.vd x.dat := by obtain ⟨_, _, h⟩ := h; exact h.rd
theorem SK.cap (h : SK S0 T0 W x b r g kb s s' X) : x.dat.length + 1 ≤ kb := by obtain ⟨_, _, h⟩ := h; exact h.cap
theorem SK.last (h : SK S0 T0 W x b r g kb s s' X) : X.cell? ⟨g, x.dat.length, none⟩ = some (.int .u8 171) := by obtain ⟨_, _, h⟩ := h; exact h.last
theorem SK.y (h : SK S0 T0 W x b r g kb s s' X) : X.cell? ⟨W.heap.size, 0, none⟩ = some (.int .i64 x.kind) ∧ X.cell? ⟨W.heap.size, 1, none⟩ = some (.int .i64 x.num) ∧ X.cell? ⟨W.heap.size, 2, none⟩ = some (.int .i64 x.frm) ∧ X.cell? ⟨W.heap.size, 3, none⟩ = some (.int .i64 x.to) ∧ X.cell? ⟨W.heap.size, 4, none⟩ = some (.int .i64 x.at_) ∧ X.cell? ⟨W.heap.size, 5, none⟩ = some x.vd := by obtain ⟨_, _, h⟩ := h; exact h.y
theorem SK.gd (h : SK S0 T0 W x b r g kb s s' X) : Gd s := by obtain ⟨_, h, _⟩ := h; exact h.gd
/-- a copy that was told, in a variable -/
def cpC (c : Cp) (v : Value) : Array Value := #[.int .i64 c.num, .int .i64 c.frm, .int .i64 c.to, v, .int .i64 c.sent, .bool c.bad]
def SKa (S0 T0 : Nat → Prop) (W : World) (x : Stp) (b r g kb : Nat) (s s' : Stn) (ba : Nat) (c : Cp) (a : Option Addr) (m n : Nat) (D : List Int) (X : World) : Prop := ∃ E, SP S0 T0 W b r E s s' X ∧ KE W x g kb E X ∧ Bx X ba 44 (cpC c (.slice a m n)) ∧ E ba ∧ OwB X W.heap.size 5 (.slice a m n) D ∧ (∀ i, (Value.slice a m n).ownBlock = some i → E i ∧ i ≠ W.heap.size ∧ i ≠ g ∧ (x.dat ≠ [] → ∀ j, x.vd.ownBlock = some j → j ≠ i))
variable {m : Nat}
theorem SKa.sk (h : SKa S0 T0 W x b r g kb s s' ba c a m n D X) : SK S0 T0 W x b r g kb s s' X := by obtain ⟨E, h1, h2, _⟩ := h; exact ⟨E, h1, h2⟩
theorem SKa.below (h : SKa S0 T0 W x b r g kb s s' ba c a m n D X) (hb : Below X.heap.size X X') : SKa S0 T0 W x b r g kb s s' ba c a m n D X' := by
  obtain ⟨E, h1, h2, h3, h4, h5, h6⟩ := h
  exact ⟨E, h1.below hb, h2.below hb, h3.below hb, h4, h5.below hb, h6⟩
theorem SKa.bx (h : SKa S0 T0 W x b r g kb s s' ba c a m n D X) : Bx X ba 44 (cpC c (.slice a m n)) := by obtain ⟨E, h1, h2, h3, _⟩ := h; exact h3
theorem SKa.row (h : SKa S0 T0 W x b r g kb s s' ba c a m n D X) : OwB X W.heap.size 5 (.slice a m n) D := by obtain ⟨E, h1, h2, h3, _, h5, _⟩ := h; exact h5
theorem SKa.set (h : SKa S0 T0 W x b r g kb s s' ba c a m n D X) (hD : D.length = m) {j : Nat} (hj : j < m) : ∃ g2, a = some ⟨g2, 0, none⟩ ∧ (∃ u, X.cell? ⟨g2, j, none⟩ = some u) ∧ X.frozen? ⟨g2, j, none⟩ = false ∧ ∀ z : Int, SKa S0 T0 W x b r g kb s s' ba c a m n (D.set j z) (X.setCell ⟨g2, j, none⟩ (.int .u8 z)) := by
  obtain ⟨E, h1, h2, h3, h4, h5, h6⟩ := h
  obtain ⟨g2, rfl, hB, hu, hf, hz⟩ := row_set h5 hD hj
  obtain ⟨e1, e2, e3, e4⟩ := h6 g2 rfl
  refine ⟨g2, rfl, hu, hf, fun z => ?_⟩
  obtain ⟨hr, hk⟩ := hz z
  have hne : ba ≠ g2 := fun e => by
    obtain ⟨cur, hc⟩ := h5.ty g2 rfl
    exact hc.apart h3 (by decide) e.symm
  have hg := h2.ow
  refine ⟨E, h1.kp hk (fun i hi => by subst hi; exact ⟨e1, hB⟩), ⟨h2.bo.kp hk (fun e => e2 e.symm), h2.ow.kp hk (fun i hi e => by cases hi; exact e3 e.symm), h2.rd.kpe hk (fun hd i hi e => e4 hd i hi e), h2.e1, h2.e2, h2.e3⟩, h3.kp hk hne, h4, hr, h6⟩
theorem SK.tk1 (h : SK S0 T0 W x b r g kb s s' X) {F : FuncId} {args : Array Value} {j : Int} (hc : ∀ S, NL S X b s → (∀ i, S i → i < X.heap.size) → Calls Try.prog F args X (TkA S X b s j)) : Calls Try.prog F args X fun e X' => ∃ a n, e = .returned (.tuple #[cpV (tkC s j) (.slice a (tkC s j).dat.length n), .int .i64 (tkE s j)]) ∧ ∃ Xa Xb, X'.alloc (.cells #[.int .i64 0, .int .i64 0, .int .i64 0, .slice none 0 0, .int .i64 0, .bool false] 44) = Xa ∧ Bx Xa X'.heap.size 44 #[.int .i64 0, .int .i64 0, .int .i64 0, .slice none 0 0, .int .i64 0, .bool false] ∧ (((((Xa.setCell ⟨X'.heap.size, 0, none⟩ (.int .i64 (tkC s j).num)).setCell ⟨X'.heap.size, 1, none⟩ (.int .i64 (tkC s j).frm)).setCell ⟨X'.heap.size, 2, none⟩ (.int .i64 (tkC s j).to)).setCell ⟨X'.heap.size, 3, none⟩ (.slice a (tkC s j).dat.length n)).setCell ⟨X'.heap.size, 4, none⟩ (.int .i64 (tkC s j).sent)).setCell ⟨X'.heap.size, 5, none⟩ (.bool (tkC s j).bad) = Xb ∧ SKa S0 T0 W x b r g kb (tkS s j) s' X'.heap.size (tkC s j) a (tkC s j).dat.length n (tkC s j).dat Xb := by
  obtain ⟨E, h1, h2⟩ := h
  have hw := h1.size
  have hbo := h2.bo.lt
  have hgl := (h2.ow.lt g rfl).2
  have hrd : x.dat ≠ [] → ∀ i, x.vd.ownBlock = some i → i < X.heap.size := fun hd i hi => by
    rcases h2.rd with ⟨h0, _⟩ | ⟨b, off, cap, e, _, h2, _⟩
    · exact absurd (List.eq_nil_of_length_eq_zero h0) hd
    · rw [e] at hi; cases hi; exact h2
  refine (h1.tk1 hc).mono ?_
  rintro e X' ⟨a, n, rfl, ho, h3, h4⟩
  have hz := h4.size
  obtain ⟨Xa, hXa⟩ : ∃ Xa, X'.alloc (.cells #[.int .i64 0, .int .i64 0, .int .i64 0, .slice none 0 0, .int .i64 0, .bool false] 44) = Xa := ⟨_, rfl⟩
  have bxa : Bx Xa X'.heap.size 44 #[.int .i64 0, .int .i64 0, .int .i64 0, .slice none 0 0, .int .i64 0, .bool false] := by rw [← hXa]; exact Bx.new _ _ _
  have ba : Below X'.heap.size X' Xa := by rw [← hXa]; exact ballc (Below.refl _ _) _
  obtain ⟨Xb, hXb⟩ : ∃ Xb, (((((Xa.setCell ⟨X'.heap.size, 0, none⟩ (.int .i64 (tkC s j).num)).setCell ⟨X'.heap.size, 1, none⟩ (.int .i64 (tkC s j).frm)).setCell ⟨X'.heap.size, 2, none⟩ (.int .i64 (tkC s j).to)).setCell ⟨X'.heap.size, 3, none⟩ (.slice a (tkC s j).dat.length n)).setCell ⟨X'.heap.size, 4, none⟩ (.int .i64 (tkC s j).sent)).setCell ⟨X'.heap.size, 5, none⟩ (.bool (tkC s j).bad) = Xb := ⟨_, rfl⟩
  obtain ⟨bxb, kb'⟩ := set6 bxa _ _ _ _ _ _ hXb
  have bb : Below X'.heap.size X' Xb := kb'.below ba (fun i e => by omega)
  have hsb := bb.size
  refine ⟨a, n, rfl, Xa, Xb, hXa, bxa, hXb, fun i => (E i ∧ i < X.heap.size) ∨ X.heap.size ≤ i, h3.below bb, ?_, bxb, .inr hz, (ho.wk hw).below bb, fun i hi => ?_⟩
  · exact ((h2.sc h4).wk (fun i hi _ => .inl hi)).below bb
  · have := (ho.lt i hi).1
    exact ⟨.inr this, by omega, by omega, fun hd j hj e => by have := hrd hd j hj; omega⟩
theorem SKa.tk2 (h : SKa S0 T0 W x b r g kb s s' ba c a m n D X) {F : FuncId} {args : Array Value} {j : Int} (hc : ∀ T, HL T X r s' → Calls Try.prog F args X (TkH T X r s' j)) : Calls Try.prog F args X fun e X' => ∃ a' n', e = .returned (.tuple #[cpV (tkC s' j) (.slice a' (tkC s' j).dat.length n'), .int .i64 (tkE s' j)]) ∧ ∃ Xa Xb, X'.alloc (.cells #[.int .i64 0, .int .i64 0, .int .i64 0, .slice none 0 0, .int .i64 0, .bool false] 44) = Xa ∧ Bx Xa X'.heap.size 44 #[.int .i64 0, .int .i64 0, .int .i64 0, .slice none 0 0, .int .i64 0, .bool false] ∧ (((((Xa.setCell ⟨X'.heap.size, 0, none⟩ (.int .i64 (tkC s' j).num)).setCell ⟨X'.heap.size, 1, none⟩ (.int .i64 (tkC s' j).frm)).setCell ⟨X'.heap.size, 2, none⟩ (.int .i64 (tkC s' j).to)).setCell ⟨X'.heap.size, 3, none⟩ (.slice a' (tkC s' j).dat.length n')).setCell ⟨X'.heap.size, 4, none⟩ (.int .i64 (tkC s' j).sent)).setCell ⟨X'.heap.size, 5, none⟩ (.bool (tkC s' j).bad) = Xb ∧ Bx Xb X'.heap.size 44 (cpC (tkC s' j) (.slice a' (tkC s' j).dat.length n')) ∧ RB Xb (.slice a' (tkC s' j).dat.length n') (tkC s' j).dat ∧ SKa S0 T0 W x b r g kb s (tkS s' j) ba c a m n D Xb := by
  obtain ⟨E, h1, h2, q3, q4, q5, q6⟩ := h
  refine (h1.tk2 hc).mono ?_
  rintro e X' ⟨a', n', rfl, ho, h3, h4⟩
  have hz := h4.size
  obtain ⟨Xa, hXa⟩ : ∃ Xa, X'.alloc (.cells #[.int .i64 0, .int .i64 0, .int .i64 0, .slice none 0 0, .int .i64 0, .bool false] 44) = Xa := ⟨_, rfl⟩
  have bxa : Bx Xa X'.heap.size 44 #[.int .i64 0, .int .i64 0, .int .i64 0, .slice none 0 0, .int .i64 0, .bool false] := by rw [← hXa]; exact Bx.new _ _ _
  have bel : Below X'.heap.size X' Xa := by rw [← hXa]; exact ballc (Below.refl _ _) _
  obtain ⟨Xb, hXb⟩ : ∃ Xb, (((((Xa.setCell ⟨X'.heap.size, 0, none⟩ (.int .i64 (tkC s' j).num)).setCell ⟨X'.heap.size, 1, none⟩ (.int .i64 (tkC s' j).frm)).setCell ⟨X'.heap.size, 2, none⟩ (.int .i64 (tkC s' j).to)).setCell ⟨X'.heap.size, 3, none⟩ (.slice a' (tkC s' j).dat.length n')).setCell ⟨X'.heap.size, 4, none⟩ (.int .i64 (tkC s' j).sent)).setCell ⟨X'.heap.size, 5, none⟩ (.bool (tkC s' j).bad) = Xb := ⟨_, rfl⟩
  obtain ⟨bxb, kb'⟩ := set6 bxa _ _ _ _ _ _ hXb
  have bb : Below X'.heap.size X' Xb := kb'.below bel (fun i e => by omega)
  refine ⟨a', n', rfl, Xa, Xb, hXa, bxa, hXb, bxb, ho.row.below bb, fun i => E i ∧ i < X.heap.size, h3.below bb, (h2.sc h4).below bb, (q3.kp h4 (fun e => e q4)).below bb, ⟨q4, q3.lt⟩, (q5.kp h4 (fun i hi e => e (q6 i hi).1)).below bb, fun i hi => ⟨⟨(q6 i hi).1, (q5.lt i hi).2⟩, (q6 i hi).2⟩⟩
/-- the row that was handed in is written over -/
def SPb (S0 T0 : Nat → Prop) (W : World) (b r g kb n : Nat) (s : Stn) (D : List Int) (X : World) : Prop := ∃ E, SP S0 T0 W b r E s s X ∧ E g ∧ OwB X W.heap.size 5 (.slice (some ⟨g, 0, none⟩) (n + 1) kb) D
theorem SK.spb (h : SK S0 T0 W x b r g kb s s X) : SPb S0 T0 W b r g kb x.dat.length s (x.dat ++ [171]) X := by obtain ⟨E, h1, h2⟩ := h; exact ⟨E, h1, h2.e2, h2.ow⟩
theorem SPb.fin (h : SPb S0 T0 W b r g kb n s D X) : StA S0 T0 W b r s (.returned (.bool true)) X := by obtain ⟨E, h1, _⟩ := h; exact h1.fin
theorem SPb.set (h : SPb S0 T0 W b r g kb n s D X) (hD : D.length = n + 1) {j : Nat} (hj : j < n + 1) : (∃ u, X.cell? ⟨g, j, none⟩ = some u) ∧ X.frozen? ⟨g, j, none⟩ = false ∧ ∀ z : Int, SPb S0 T0 W b r g kb n s (D.set j z) (X.setCell ⟨g, j, none⟩ (.int .u8 z)) := by
  obtain ⟨E, h1, h2, h3⟩ := h
  obtain ⟨g2, e, hB, hu, hf, hz⟩ := row_set h3 hD hj
  cases e
  refine ⟨hu, hf, fun z => ?_⟩
  obtain ⟨hr, hk⟩ := hz z
  exact ⟨E, h1.kp hk (fun i hi => by subst hi; exact ⟨h2, hB⟩), h2, hr⟩
theorem SK.tail {ad : Option Addr} {cd M M1 : Nat} (h : SK S0 T0 W x b r g kb s s X) (hvd : x.vd = .slice ad M cd) (hM : x.dat.length = M) (hM1 : M + 1 = M1) (hl : M ≤ 60000) : X.cell? ⟨W.heap.size, 5, none⟩ = some (.slice ad M cd) ∧ Calls Try.prog 25 #[.slice (some ⟨g, 0, none⟩) M kb, .slice ad M cd] X fun e X' => e = .returned (.bool true) ∧ (X'.cell? ⟨W.heap.size, 5, none⟩ = some (.slice ad M cd) ∧ X'.cell? ⟨g, M, none⟩ = some (.int .u8 171) ∧ ∃ D, D.length = M1 ∧ SPb S0 T0 W b r g kb M s D X') := by
  have h5 := h.y.2.2.2.2.2
  rw [hvd] at h5
  refine ⟨h5, ?_⟩
  have hg := h.gv
  have hr := h.rd
  rw [hvd] at hr
  rw [hM] at hg
  refine (lbytes_in _ _ x.dat x.dat X hg hr (by omega) (by omega)).mono ?_
  rintro e X' ⟨rfl, hb⟩
  have h' := h.below hb
  have h6 := h'.y.2.2.2.2.2
  have h7 := h'.last
  have h8 := h'.spb
  rw [hvd] at h6
  rw [hM] at h7 h8
  exact ⟨by rw [decide_eq_true rfl], h6, h7, _, by simp; omega, h8⟩

end Go.Proofs.Yteomalmflebkhaa
