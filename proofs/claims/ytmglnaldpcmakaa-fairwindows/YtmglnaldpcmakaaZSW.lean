/-
  The windows that an iterator hands on: what its closure keeps.
-/
import Derived.Test.YtmglnaldpcmakaaZQB
import Derived.Test.YtmglnaldpcmakaaZTR1
import Derived.WalkMore
set_option linter.unusedSimpArgs false
set_option linter.unusedVariables false
namespace Go.Proofs.Ytmglnaldpcmakaa
open Go.RowKit Go.Lib Go.Shelf
namespace Sk

theorem gr_set (W : World) (b k : Nat) (v : Value) : W.grownBy (W.setCell ⟨b, k, none⟩ v) (some b) := ⟨rfl, rfl, rfl, by simp, fun i hi hn => Below.heap_setCell _ _ _ _ (fun e => hn (by rw [e]))⟩
theorem AbidesAll.bel {β : Type} {B T : Nat} {J : β → World → Prop} (h : AbidesAll B T J) {s : β} {W W' : World} (hs : J s W) (hb : Below W.heap.size W W') : J s W' := h s W W' none hs ⟨hb.os, hb.tape, hb.output, hb.size, fun k hk _ => hb.block k hk⟩ (fun r e => by cases e)
theorem AbidesAll.setc {β : Type} {B T : Nat} {J : β → World → Prop} (h : AbidesAll B T J) {s : β} {W : World} (hs : J s W) (b k : Nat) (hb : B ≤ b ∧ b < T) (v : Value) : J s (W.setCell ⟨b, k, none⟩ v) := h s _ _ (some b) hs (gr_set W b k v) (fun r e => by cases e; exact hb)
/-- two blocks are turned -/
theorem AbidesAll.two {β : Type} {B T : Nat} {J : β → World → Prop} (h : AbidesAll B T J) {s : β} {W W' : World} (hs : J s W) (b g : Nat) (hb : B ≤ b ∧ b < T) (hg : B ≤ g ∧ g < T) (hl : b < W.heap.size) (k : Kp (fun i => i = b ∨ i = g) W W') : J s W' := by
  obtain ⟨o, ho⟩ : ∃ o, W'.heap[b]? = some o := ⟨_, Array.getElem?_eq_getElem (Nat.lt_of_lt_of_le hl k.size)⟩
  have h1 : J s (W.putObj b o) := h s _ _ (some b) hs (grownBy_putObj' W b o) (fun r e => by cases e; exact hb)
  refine h s _ _ (some g) h1 ⟨k.os, k.tape, k.output, by simpa [World.putObj] using k.size, fun i hi hn => ?_⟩ (fun r e => by cases e; exact hg)
  by_cases e : i = b
  · subst e
    rw [ho]
    exact (World.putObj_heap_same hl).symm
  · refine Eq.trans ?_ (World.putObj_heap_other (by omega)).symm
    exact k.block i (by simpa [World.putObj] using hi) (fun c => by
      rcases c with c | c
      · exact e c
      · exact hn (by rw [c]))
theorem kq_bx {B T : Nat} {W W' : World} (h : KQ B T W W') {b : Nat} {t : TypeId} {vs : Array Value} (hx : Bx W b t vs) (h1 : B ≤ b) (h2 : b < T) : Bx W' b t vs := (h.over b h1 h2 hx.lt).trans hx
theorem ps_kq {B T : Nat} {W W' : World} (h : KQ B T W W') {b g N : Nat} {M : Nat → Bool} (hx : PS W b g N M) (h1 : B ≤ b) (h2 : b < T) (h3 : B ≤ g) (h4 : g < T) : PS W' b g N M := by
  obtain ⟨ws, hp⟩ := hx
  exact ⟨ws, kq_bx h hp.box h1 h2, kq_bx h hp.row h3 h4, hp.ne, hp.tell⟩
theorem ps_below {W W' : World} {b g N : Nat} {M : Nat → Bool} (hx : PS W b g N M) (hb : Below W.heap.size W W') : PS W' b g N M := by
  obtain ⟨ws, hp⟩ := hx
  exact ⟨ws, hp.below hb⟩
theorem ps_set {W : World} {b g N : Nat} {M : Nat → Bool} (hx : PS W b g N M) (q k : Nat) (v : Value) (h1 : b ≠ q) (h2 : g ≠ q) : PS (W.setCell ⟨q, k, none⟩ v) b g N M := by
  obtain ⟨ws, hp⟩ := hx
  exact ⟨ws, hp.box.setO _ h1 _, hp.row.setO _ h2 _, hp.ne, hp.tell⟩

theorem rr_cut {W : World} {q off n c k : Nat} {l : List Arr} (h : RR W (.slice (some ⟨q, off, none⟩) n c) l) (hn : n = l.length) (hc : n ≤ c) (hk : k ≤ n) : RR W (.slice (if c = k then some ⟨q, off, none⟩ else some ⟨q, off + k * 3, none⟩) (n - k) (c - k)) (l.drop k) := by
  by_cases e : n = k
  · left
    refine ⟨by rw [List.length_drop]; omega, ?_⟩
    rw [show n - k = 0 by omega]
    exact ⟨_, _, rfl⟩
  · have hck : c ≠ k := by omega
    rw [if_neg hck]
    rcases h with ⟨h0, _⟩ | ⟨b, o, cap, e', h1, h2, hcc⟩
    · omega
    · simp at e'
      obtain ⟨⟨rfl, rfl⟩, hn', rfl⟩ := e'
      refine .inr ⟨q, off + k * 3, c - k, by rw [List.length_drop, hn], by rw [List.length_drop]; omega, h2, fun j x hx => ?_⟩
      have : flat arC (l.drop k) = (flat arC l).drop (k * 3) := by
        have e1 : flat arC (l.take k) ++ flat arC (l.drop k) = flat arC l := by rw [← flat_append, List.take_append_drop]
        have e2 : (flat arC (l.take k)).length = k * 3 := by rw [flat_len arC_len, List.length_take]; congr 1; omega
        rw [← e1, ← e2, List.drop_left]
      rw [this, List.getElem?_drop] at hx
      rw [Nat.add_assoc]
      exact hcc _ x hx

def slN : Value → Nat
  | .slice _ n _ => n
  | _ => 0

/-- what the closure finds -/
structure Kw (bp bc bf : Nat) (N : Nat) (frm : Int) (cv : Value) (came : List Arr) (W : World) : Prop where
  cp : W.cell? ⟨bp, 0, none⟩ = some (.int .i64 (N : Nat))
  cc : W.cell? ⟨bc, 0, none⟩ = some cv
  cf : W.cell? ⟨bf, 0, none⟩ = some (.int .i64 frm)
  row : RR W cv came

/-- between two windows -/
structure Out (B N : Nat) (cv : Value) (came : List Arr) (J : List (Int × Int) → World → Prop) (L : List (Int × Int)) (u : Value) (rest : List Arr) (f : Int) (pre l : List (Int × Int)) (M : Nat → Bool) (t : Int) (wr : World) : Prop where
  spl : pre ++ l = L
  j : J pre wr
  ps : PS wr (B + 1) B N M
  box : Bx wr (B + 2) 32 #[.int .i64 f, .int .i64 t]
  isp : IsP N f rest l
  sub : ∀ x ∈ rest, x ∈ came
  row : ∀ W', RR W' cv came → RR W' u rest
  frm : ∃ a c, u = .slice a rest.length c ∧ rest.length ≤ c
  lle : rest.length ≤ came.length

/-- within the search for an end -/
structure Inn (B N : Nat) (J : List (Int × Int) → World → Prop) (rest : List Arr) (f : Int) (pre : List (Int × Int)) (t : Int) (k : Nat) (M : Nat → Bool) (wr : World) : Prop where
  j : J pre wr
  ps : PS wr (B + 1) B N M
  box : Bx wr (B + 2) 32 #[.int .i64 f, .int .i64 t]
  scn : scan N f M (rest.drop k) = scan N f (fun _ => true) rest
  pos : 0 < cntB N M

theorem scan_cons (N : Nat) (f : Int) (M : Nat → Bool) (x : Arr) (r : List Arr) : scan N f M (x :: r) = if x.first < f then scan N f M r else if cntB N (rmv M x.pair) = 0 then some (x.last, r) else scan N f (rmv M x.pair) r := by rw [scan]
theorem isP_step {N : Nat} {f e : Int} {rest r : List Arr} {l : List (Int × Int)} (h : IsP N f rest l) (hs : some (e, r) = scan N f (fun _ => true) rest) : ∃ l', l = (f, e + 1) :: l' ∧ IsP N (e + 1) r l' := by
  cases l with
  | nil => rw [show scan N f (fun _ => true) rest = none from h] at hs; cases hs
  | cons y l =>
    obtain ⟨a, b⟩ := y
    obtain ⟨h1, r', h2, h3⟩ := h
    simp only at h1 h2 h3
    rw [← hs] at h2
    simp only [Option.some.injEq, Prod.mk.injEq] at h2
    obtain ⟨h4, rfl⟩ := h2
    have : b = e + 1 := by omega
    subst this
    exact ⟨l, by rw [h1], h3⟩

theorem sl_fromA (w : World) (b o n c k : Nat) (hk : k ≤ n) (hn : n ≤ c) :
    (Instr.sliceAt 39 (.slice (some ⟨b, o, none⟩) n c) (some (.int .i64 (k : Nat))) none none).run Try.prog w = .ok (.slice (if c = k then some ⟨b, o, none⟩ else some ⟨b, o + k * 3, none⟩) (n - k) (c - k)) w := by
  obtain ⟨i0, hi, hz0, hz1, hz2⟩ := info_parts infoA
  have h1 : (k : Int) ≤ (n : Int) := by omega
  simp [Instr.sliceAt, Instr.slice, run_underlying Try.underlying39, sizeOf, typeInfo, hi, hz1, go_sem, h1, hk, hn]

end Sk
end Go.Proofs.Ytmglnaldpcmakaa
