/-
  Operations: what makes one (pure); how one lies in memory.
-/
import Derived.Test.YtkkolefionbbcaaGreatZXV6
import Derived.Test.YtkkolefionbbcaaGreatZXKR
import Derived.Test.YtkkolefionbbcaaGreatZXPure
set_option linter.unusedSimpArgs false
set_option linter.unusedVariables false
namespace Go.Proofs.YtkkolefionbbcaaGreat
open Go.RowKit Go.Lib

/-- an operation -/
structure Opn where
  ds : Int
  dq : Int
  deps : List (Int × Int)
  kind : Int
  it : Int
  is : Int
  rt : Int
  rs : Int
  text : ByteArray
  gone : List ((Int × Int) × Int)
  site : Int

/-- as a value; its two lists are told -/
def opA (o : Opn) (vd vg : Value) : Value := .agg #[.int .i64 o.ds, .int .i64 o.dq, vd, .int .i64 o.kind, .int .i64 o.it, .int .i64 o.is, .int .i64 o.rt, .int .i64 o.rs, .string o.text, vg, .int .i64 o.site]
/-- what its kind has, as a value -/
def insA (o : Opn) : Value := .agg #[.int .i64 o.it, .int .i64 o.is, .int .i64 o.rt, .int .i64 o.rs, .string o.text]
def kv (o : Opn) (vg : Value) : Value := if o.kind = 1 then .iface 115 (insA o) else if o.kind = 2 then .iface 117 (.agg #[vg]) else if o.kind = 3 then .iface 119 (.agg #[.int .i64 o.site]) else if o.kind = 4 then .iface 121 (.agg #[]) else .nilIface

/-- how many runes -/
def cntO (t : ByteArray) : Int := ((allL t).length : Nat)
def badT (t : ByteArray) : Int := firstBad t (allL t)
/-- may the text be one of an insert? -/
def textO (t : ByteArray) : Bool := !decide (t.size = 0) && decide (badT t < 0) && decide (cntO t ≤ 1024)
def refO (it rt rs : Int) : Bool := (decide ((rt, rs) = (0, 0)) || isR ((rt, rs), 1)) && decide (rt < it)
def insO (ds it is rt rs : Int) (t : ByteArray) : Bool := textO t && decide (is = ds) && isR ((it, is), cntO t) && refO it rt rs
def delO (g : List ((Int × Int) × Int)) : Bool := decide (1 ≤ g.length) && decide (g.length ≤ 1024) && decide (chkR g = 0)
def holdO (o : Opn) : Bool := if o.kind = 1 then insO o.ds o.it o.is o.rt o.rs o.text else if o.kind = 2 then delO o.gone else if o.kind = 3 then isT o.site else true
/-- is it the next one of its site? -/
def folO (ds dq : Int) (deps : List (Int × Int)) : Bool := isT ds && decide (1 ≤ dq) && decide (dq ≤ 2147483647) && decide (chk deps = 0) && decide (getV deps ds = dq - 1)
def bareO (o : Opn) : Bool := decide (o.it = 0) && decide (o.is = 0) && decide (o.rt = 0) && decide (o.rs = 0) && decide (o.text.size = 0)
def aloneO (o : Opn) : Bool := if o.kind = 1 then decide (o.gone.length = 0) && decide (o.site = 0) else if o.kind = 2 then bareO o && decide (o.site = 0) else if o.kind = 3 then bareO o && decide (o.gone.length = 0) else bareO o && decide (o.gone.length = 0) && decide (o.site = 0)
def kindO (o : Opn) : Bool := decide (1 ≤ o.kind) && decide (o.kind ≤ 4)
def okO (o : Opn) : Bool := kindO o && folO o.ds o.dq o.deps && aloneO o && holdO o
def chkO (o : Opn) : Int := if okO o = true then 0 else 10

/-- all its numbers are those of Go's ints, its lists and its text no longer than one can be -/
structure InO (o : Opn) : Prop where
  ds : in64 o.ds
  dq : in64 o.dq
  kind : in64 o.kind
  it : in64 o.it
  is : in64 o.is
  rt : in64 o.rt
  rs : in64 o.rs
  site : in64 o.site
  deps : o.deps.length ≤ 140737488355328
  text : o.text.size ≤ 140737488355328
  gone : ∀ r ∈ o.gone, runIn r
  many : o.gone.length ≤ 140737488355328

theorem RC.lit (W : World) (t : TypeId) (cs : Array Value) (n : Nat) : RC (W.alloc (.cells cs t)) (.slice (some ⟨W.heap.size, 0, none⟩) n n) n cs.toList :=
  .inr ⟨W.heap.size, 0, n, rfl, Nat.le_refl _, by simp, fun j x hx => (Bx.new W t cs).cell (0 + j) x (by rw [Nat.zero_add]; simpa using hx)⟩

theorem chkR_one (r : (Int × Int) × Int) : decide (chkR [r] = 0) = isR r := by
  unfold chkR
  rw [chkA]
  cases h : isR r
  · simp
  · have h1 : badO [] r = false := rfl
    have h2 : badF [] r = false := rfl
    rw [h1, h2]
    simp [chkA]

set_option maxRecDepth 100000 in
theorem oSite_in (n : Int) (w : World) : Calls Tryz.prog 83 #[.int .i64 n] w fun e W => e = .returned (.bool (isT n)) ∧ w = W := by
  unfold isT
  by_cases h1 : 1 ≤ n
  · by_cases h2 : n ≤ 16
    · go_enter Tryz.func83, Tryz.ntmps83
      go_wp2
      go_ret
      simp [h1, h2]
    · go_enter Tryz.func83, Tryz.ntmps83
      go_wp2
      go_ret
      simp [h1, h2]
  · go_enter Tryz.func83, Tryz.ntmps83
    go_wp2
    go_ret
    simp
    omega

set_option maxRecDepth 100000 in
theorem oRun_in (t s c : Int) (w : World) (h1 : in64 t) (h2 : in64 s) (h3 : in64 c) :
    Calls Tryz.prog 142 #[.agg #[.int .i64 t, .int .i64 s], .int .i64 c] w fun e W => e = .returned (.bool (isR ((t, s), c))) ∧ Below w.heap.size w W := by
  obtain ⟨X, hX⟩ : ∃ X, (w.alloc (.cells #[.int .i64 t, .int .i64 s] 39)).alloc (.cells #[.int .i64 t, .int .i64 s, .int .i64 c] 72) = X := ⟨_, rfl⟩
  have BX : Below w.heap.size w X := by rw [← hX]; exact ballc (ballc (Below.refl _ _) _) _
  have HA : RR X (.slice (some ⟨w.heap.size + 1, 0, none⟩) 1 1) [((t, s), c)] := by
    rw [← hX]
    have := RC.lit (w.alloc (.cells #[.int .i64 t, .int .i64 s] 39)) 72 #[.int .i64 t, .int .i64 s, .int .i64 c] 1
    rw [show (w.alloc (.cells #[.int .i64 t, .int .i64 s] 39)).heap.size = w.heap.size + 1 by simp] at this
    exact this
  have C := hide (RCheck_in _ [((t, s), c)] X HA (fun r hr => by simp at hr; subst hr; exact ⟨⟨h1, h2⟩, h3⟩) (by simp))
  rw [← chkR_one]
  obtain ⟨K, hK⟩ : ∃ K, chkR [((t, s), c)] = K := ⟨_, rfl⟩
  rw [hK] at C ⊢
  clear hK HA h1 h2 h3
  replace BX := hide BX
  go_enter Tryz.func142, Tryz.ntmps142
  go_wp2_with fail
  refine (unhide C).mono ?_
  rintro e W1 ⟨rfl, hb1⟩
  replace hb1 := hide hb1
  go_wp2
  go_ret
  exact ⟨rfl, bnext (unhide BX) (unhide hb1)⟩

set_option maxRecDepth 100000 in
theorem kindOf_in (o : Opn) (vd : Value) (a : Option Addr) (n c : Nat) (w : World) :
    Calls Tryz.prog 62 #[opA o vd (.slice a n c)] w fun e W => e = .returned (kv o (.slice a n c)) ∧ Below w.heap.size w W := by
  obtain ⟨ds, dq, deps, kind, it, is, rt, rs, text, gone, site⟩ := o
  unfold opA kv insA
  simp only
  by_cases h1 : kind = 1
  · subst h1
    go_enter Tryz.func62, Tryz.ntmps62
    go_wp2
    go_ret
    exact ⟨rfl, ballc (Below.refl _ _) _⟩
  · rw [if_neg h1]
    by_cases h2 : kind = 2
    · subst h2
      go_enter Tryz.func62, Tryz.ntmps62
      go_wp2
      go_ret
      exact ⟨rfl, ballc (Below.refl _ _) _⟩
    · rw [if_neg h2]
      by_cases h3 : kind = 3
      · subst h3
        go_enter Tryz.func62, Tryz.ntmps62
        go_wp2
        go_ret
        exact ⟨rfl, ballc (Below.refl _ _) _⟩
      · rw [if_neg h3]
        by_cases h4 : kind = 4
        · subst h4
          go_enter Tryz.func62, Tryz.ntmps62
          go_wp2
          go_ret
          exact ⟨rfl, ballc (Below.refl _ _) _⟩
        · rw [if_neg h4]
          have k1 : (kind == 1) = false := by simpa using h1
          have k2 : (kind == 2) = false := by simpa using h2
          have k3 : (kind == 3) = false := by simpa using h3
          have k4 : (kind == 4) = false := by simpa using h4
          go_enter Tryz.func62, Tryz.ntmps62
          go_wp2
          go_ret
          exact ⟨rfl, ballc (Below.refl _ _) _⟩

end Go.Proofs.YtkkolefionbbcaaGreat
