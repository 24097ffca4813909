/-
  Copies under way, pure: what each call answers and leaves.
-/
import Derived.Test.YteomalmflebkhaaZW0
set_option linter.unusedSimpArgs false
set_option linter.unusedVariables false
namespace Go.Proofs.Yteomalmflebkhaa
open Go.RowKit Go.Lib

/-- a copy: its frame's bytes as they were sent, and those of a bad one -/
structure Cp where
  num : Int
  frm : Int
  to : Int
  cl : List Int
  sent : Int
  bad : Bool
  sp : List Int
def Cp.dat (c : Cp) : List Int := if c.bad = true then c.sp else c.cl
structure Stn where
  la : Int
  ls : List Cp
structure Gd (s : Stn) : Prop where
  l0 : 0 ≤ s.la
  l1 : s.la ≤ 2147483647
  ris : s.ls.Pairwise (fun a b => a.num < b.num)
  le : ∀ c ∈ s.ls, 1 ≤ c.num ∧ c.num ≤ s.la
  ln : ∀ c ∈ s.ls, c.cl.length ≤ 1000000 ∧ c.sp.length ≤ 1000000
theorem rise_len : ∀ (l : List Cp) (lo hi : Int), l.Pairwise (fun a b => a.num < b.num) → lo ≤ hi → (∀ c ∈ l, lo < c.num ∧ c.num ≤ hi) → (l.length : Int) ≤ hi - lo
  | [], lo, hi, _, h, _ => by simp; omega
  | c :: l, lo, hi, hp, h, hc => by
    have h1 := hc c (by simp)
    rw [List.pairwise_cons] at hp
    have := rise_len l c.num hi hp.2 h1.2 (fun d hd => ⟨hp.1 d hd, (hc d (by simp [hd])).2⟩)
    simp only [List.length_cons]
    omega
theorem Gd.len {s : Stn} (h : Gd s) : (s.ls.length : Int) ≤ s.la := by
  have := rise_len s.ls 0 s.la h.ris h.l0 (fun c hc => ⟨by have := (h.le c hc).1; omega, (h.le c hc).2⟩)
  omega
theorem Gd.len' {s : Stn} (h : Gd s) : s.ls.length ≤ 2147483647 := by
  have := h.len
  have := h.l1
  omega
theorem Gd.dat {s : Stn} (h : Gd s) {c : Cp} (hc : c ∈ s.ls) : c.dat.length ≤ 1000000 := by
  have := h.ln c hc
  unfold Cp.dat
  split
  · exact this.2
  · exact this.1
def zerS : Stn := ⟨0, []⟩
theorem Gd.zer : Gd zerS := ⟨by decide, by decide, List.Pairwise.nil, fun c hc => (by cases hc), fun c hc => (by cases hc)⟩
/-- the copy of a number -/
def fnd (l : List Cp) (k : Int) : Option Cp := l.find? fun c => c.num == k
theorem fnd_num {l : List Cp} {k : Int} {c : Cp} (h : fnd l k = some c) : c.num = k := by
  have := List.find?_some h
  simpa using this
theorem fnd_mem {l : List Cp} {k : Int} {c : Cp} (h : fnd l k = some c) : c ∈ l := List.mem_of_find?_eq_some h
theorem fnd_none {l : List Cp} {k : Int} (h : fnd l k = none) : ∀ c ∈ l, c.num ≠ k := by
  intro c hc
  have := List.find?_eq_none.1 h c hc
  simpa using this
theorem rise_inj {l : List Cp} (hp : l.Pairwise (fun a b => a.num < b.num)) : ∀ c ∈ l, ∀ d ∈ l, c.num = d.num → c = d := by
  induction l with
  | nil => intro c hc; cases hc
  | cons x l ih =>
    rw [List.pairwise_cons] at hp
    intro c hc d hd e
    rcases List.mem_cons.1 hc with h1 | h1
    · rcases List.mem_cons.1 hd with h2 | h2
      · rw [h1, h2]
      · have := hp.1 d h2; rw [h1] at e; omega
    · rcases List.mem_cons.1 hd with h2 | h2
      · have := hp.1 c h1; rw [h2] at e; omega
      · exact ih hp.2 c h1 d h2 e
theorem fnd_of {l : List Cp} (hp : l.Pairwise (fun a b => a.num < b.num)) {c : Cp} (hc : c ∈ l) : fnd l c.num = some c := by
  cases h : fnd l c.num with
  | none => exact absurd rfl (fnd_none h c hc)
  | some d => rw [rise_inj hp d (fnd_mem h) c hc (fnd_num h)]
/-- a copy more -/
def layS (s : Stn) (f t : Int) (cl : List Int) (st : Int) : Stn := if s.la = 2147483647 then s else ⟨s.la + 1, s.ls ++ [⟨s.la + 1, f, t, cl, st, false, []⟩]⟩
def layN (s : Stn) : Int := if s.la = 2147483647 then 0 else s.la + 1
def layE (s : Stn) : Int := if s.la = 2147483647 then 17 else 0
theorem Gd.lay {s : Stn} (h : Gd s) (f t : Int) {cl : List Int} (hl : cl.length ≤ 1000000) (st : Int) : Gd (layS s f t cl st) := by
  unfold layS
  split
  · exact h
  · rename_i hne
    have h1 := h.l1
    have h0 := h.l0
    refine ⟨by simp only; omega, by simp only; omega, ?_, ?_, ?_⟩
    · refine List.pairwise_append.2 ⟨h.ris, List.pairwise_singleton _ _, fun a ha b hb => ?_⟩
      obtain rfl : b = _ := by simpa using hb
      have := (h.le a ha).2
      simp only
      omega
    · intro c hc
      rcases List.mem_append.1 hc with hc | hc
      · have := h.le c hc
        simp only
        omega
      · obtain rfl : c = _ := by simpa using hc
        simp only
        omega
    · intro c hc
      rcases List.mem_append.1 hc with hc | hc
      · exact h.ln c hc
      · obtain rfl : c = _ := by simpa using hc
        exact ⟨hl, by simp⟩
def sndB (f t st : Int) : Bool := decide ((1 ≤ f ∧ f ≤ 16) ∧ (1 ≤ t ∧ t ≤ 16) ∧ f ≠ t ∧ 0 ≤ st)
def sndS (s : Stn) (f t : Int) (d : List Int) (st : Int) : Stn := if sndB f t st = true then layS s f t d st else s
def sndN (s : Stn) (f t st : Int) : Int := if sndB f t st = true then layN s else 0
def sndE (s : Stn) (f t st : Int) : Int := if sndB f t st = true then layE s else 1
theorem Gd.snd {s : Stn} (h : Gd s) (f t : Int) {d : List Int} (hl : d.length ≤ 1000000) (st : Int) : Gd (sndS s f t d st) := by
  unfold sndS
  split
  · exact h.lay f t hl st
  · exact h
/-- a copy less -/
def tkS (s : Stn) (k : Int) : Stn := ⟨s.la, s.ls.filter fun c => !(c.num == k)⟩
def tkE (s : Stn) (k : Int) : Int := if (fnd s.ls k).isSome = true then 0 else 11
def zCp : Cp := ⟨0, 0, 0, [], 0, false, []⟩
def tkC (s : Stn) (k : Int) : Cp := (fnd s.ls k).getD zCp
theorem Gd.tk {s : Stn} (h : Gd s) (k : Int) : Gd (tkS s k) := ⟨h.l0, h.l1, h.ris.filter _, fun c hc => h.le c (List.mem_filter.1 hc).1, fun c hc => h.ln c (List.mem_filter.1 hc).1⟩
theorem tk_none {s : Stn} {k : Int} (h : fnd s.ls k = none) : tkS s k = s := by
  have : s.ls.filter (fun c => !(c.num == k)) = s.ls := List.filter_eq_self.2 fun c hc => by simpa using fnd_none h c hc
  unfold tkS
  rw [this]
def dblS (s : Stn) (k : Int) : Stn := match fnd s.ls k with
  | none => s
  | some c => layS s c.frm c.to c.cl c.sent
def dblN (s : Stn) (k : Int) : Int := if (fnd s.ls k).isSome = true then layN s else 0
def dblE (s : Stn) (k : Int) : Int := if (fnd s.ls k).isSome = true then layE s else 11
theorem Gd.dbl {s : Stn} (h : Gd s) (k : Int) : Gd (dblS s k) := by
  unfold dblS
  split
  · exact h
  · rename_i c hc
    exact h.lay _ _ (h.ln c (fnd_mem hc)).1 _
/-- other bytes stand there -/
def chgB (d : List Int) (a : Int) (y : List Int) : Bool := !decide ((d.drop a.toNat).take y.length = y)
def fitA (c : Cp) (a : Int) (y : List Int) : Bool := decide (1 ≤ y.length ∧ y.length ≤ 4 ∧ 0 ≤ a ∧ a ≤ (c.dat.length : Int) - y.length) && chgB c.dat a y
def altC (a : Int) (y : List Int) (c : Cp) : Cp := { c with bad := true, sp := c.cl.take a.toNat ++ y ++ c.cl.drop (a.toNat + y.length) }
def updS (s : Stn) (k : Int) (f : Cp → Cp) : Stn := ⟨s.la, s.ls.map fun c => if c.num = k then f c else c⟩
def altE (s : Stn) (k a : Int) (y : List Int) : Int := match fnd s.ls k with
  | none => 11
  | some c => if fitA c a y = true then (if c.bad = true then 12 else 0) else 1
def altS (s : Stn) (k a : Int) (y : List Int) : Stn := if altE s k a y = 0 then updS s k (altC a y) else s
def fitC (c : Cp) (n : Int) : Bool := decide (0 ≤ n ∧ n < (c.dat.length : Int))
def cutC (n : Int) (c : Cp) : Cp := { c with bad := true, sp := c.cl.take n.toNat }
def cutE (s : Stn) (k n : Int) : Int := match fnd s.ls k with
  | none => 11
  | some c => if fitC c n = true then (if c.bad = true then 12 else 0) else 1
def cutS (s : Stn) (k n : Int) : Stn := if cutE s k n = 0 then updS s k (cutC n) else s
theorem upd_mem {s : Stn} {k : Int} {f : Cp → Cp} {c : Cp} (h : c ∈ (updS s k f).ls) : (c ∈ s.ls ∧ c.num ≠ k) ∨ ∃ d ∈ s.ls, d.num = k ∧ c = f d := by
  obtain ⟨d, hd, e⟩ := List.mem_map.1 h
  by_cases hk : d.num = k
  · rw [if_pos hk] at e; exact .inr ⟨d, hd, hk, e.symm⟩
  · rw [if_neg hk] at e; subst e; exact .inl ⟨hd, hk⟩
theorem upd_nums {s : Stn} {k : Int} {f : Cp → Cp} (hf : ∀ c, (f c).num = c.num) : (updS s k f).ls.map Cp.num = s.ls.map Cp.num := by
  unfold updS
  simp only [List.map_map]
  refine List.map_congr_left fun c _ => ?_
  show (if c.num = k then f c else c).num = c.num
  split
  · exact hf c
  · rfl
theorem Gd.upd {s : Stn} (h : Gd s) {k : Int} {f : Cp → Cp} (hf : ∀ c, (f c).num = c.num) (hc : ∀ c, (f c).cl = c.cl) (hs : ∀ c ∈ s.ls, c.num = k → (f c).sp.length ≤ 1000000) : Gd (updS s k f) := by
  refine ⟨h.l0, h.l1, ?_, fun c hc => ?_, fun c hcc => ?_⟩
  · refine List.pairwise_map.2 (h.ris.imp fun {a b} hab => ?_)
    have e1 : (if a.num = k then f a else a).num = a.num := by split; exact hf a; rfl
    have e2 : (if b.num = k then f b else b).num = b.num := by split; exact hf b; rfl
    rw [e1, e2]; exact hab
  · rcases upd_mem hc with ⟨hc, _⟩ | ⟨d, hd, _, rfl⟩
    · exact h.le c hc
    · rw [hf]; exact h.le d hd
  · rcases upd_mem hcc with ⟨hcc, _⟩ | ⟨d, hd, hk, rfl⟩
    · exact h.ln c hcc
    · rw [hc]; exact ⟨(h.ln d hd).1, hs d hd hk⟩
theorem alt_len {c : Cp} {a : Int} {y : List Int} (hb : c.bad = false) (h : fitA c a y = true) : (altC a y c).sp.length = c.cl.length := by
  have e : c.dat = c.cl := by unfold Cp.dat; rw [if_neg (by rw [hb]; decide)]
  unfold fitA at h
  rw [Bool.and_eq_true, e] at h
  have h1 := of_decide_eq_true h.1
  unfold altC
  simp only [List.length_append, List.length_take, List.length_drop]
  omega
theorem alt_ok {s : Stn} {k a : Int} {y : List Int} (h : altE s k a y = 0) : ∃ c, fnd s.ls k = some c ∧ fitA c a y = true ∧ c.bad = false := by
  unfold altE at h
  split at h
  · cases h
  · rename_i c hc
    split at h
    · rename_i hf
      split at h
      · cases h
      · rename_i hb
        exact ⟨c, hc, hf, by simpa using hb⟩
    · cases h
theorem cut_ok {s : Stn} {k n : Int} (h : cutE s k n = 0) : ∃ c, fnd s.ls k = some c ∧ fitC c n = true ∧ c.bad = false := by
  unfold cutE at h
  split at h
  · cases h
  · rename_i c hc
    split at h
    · rename_i hf
      split at h
      · cases h
      · rename_i hb
        exact ⟨c, hc, hf, by simpa using hb⟩
    · cases h
theorem Gd.alt {s : Stn} (h : Gd s) (k a : Int) (y : List Int) : Gd (altS s k a y) := by
  unfold altS
  split
  · rename_i he
    obtain ⟨c, hc, hf, hb⟩ := alt_ok he
    refine h.upd (fun _ => rfl) (fun _ => rfl) (fun d hd hk => ?_)
    have : d = c := rise_inj h.ris d hd c (fnd_mem hc) (by rw [hk, fnd_num hc])
    subst this
    rw [alt_len hb hf]
    exact (h.ln d hd).1
  · exact h
theorem Gd.cut {s : Stn} (h : Gd s) (k n : Int) : Gd (cutS s k n) := by
  unfold cutS
  split
  · refine h.upd (fun _ => rfl) (fun _ => rfl) (fun d hd hk => ?_)
    have := (h.ln d hd).1
    show (d.cl.take n.toNat).length ≤ 1000000
    rw [List.length_take]
    omega
  · exact h

end Go.Proofs.Yteomalmflebkhaa
