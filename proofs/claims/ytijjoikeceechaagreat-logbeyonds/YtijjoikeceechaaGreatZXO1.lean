/-
  Operations: what makes one (pure); how one lies in memory.
-/
import Derived.Test.YtijjoikeceechaaGreatZV7
import Derived.Test.YtijjoikeceechaaGreatZXPK
import Derived.Test.YtijjoikeceechaaGreatZCnt
import Derived.Test.YtijjoikeceechaaGreatZBad

set_option linter.unusedSimpArgs false
set_option linter.unusedVariables false
namespace Go.Proofs.YtijjoikeceechaaGreat
open Go.RowKit Go.Lib

/-- an operation -/
structure Opn where
  ds : Int
  dq : Int
  deps : List (Int × Int)
  kind : Int
  it : Int
  is : Int
  rt : Int
  rs : Int
  text : ByteArray
  gone : List ((Int × Int) × Int)
  site : Int

/-- as a value; its two lists are told -/
def opA (o : Opn) (vd vg : Value) : Value := .agg #[.int .i64 o.ds, .int .i64 o.dq, vd, .int .i64 o.kind, .int .i64 o.it, .int .i64 o.is, .int .i64 o.rt, .int .i64 o.rs, .string o.text, vg, .int .i64 o.site]
/-- what its kind has, as a value -/
def insA (o : Opn) : Value := .agg #[.int .i64 o.it, .int .i64 o.is, .int .i64 o.rt, .int .i64 o.rs, .string o.text]
def kv (o : Opn) (vg : Value) : Value := if o.kind = 1 then .iface 104 (insA o) else if o.kind = 2 then .iface 106 (.agg #[vg]) else if o.kind = 3 then .iface 108 (.agg #[.int .i64 o.site]) else if o.kind = 4 then .iface 110 (.agg #[]) else .nilIface

/-- how many runes -/
def cntO (t : ByteArray) : Int := ((allL t).length : Nat)
def badT (t : ByteArray) : Int := firstBad t (allL t)
/-- may the text be one of an insert? -/
def textO (t : ByteArray) : Bool := !decide (t.size = 0) && decide (badT t < 0) && decide (cntO t ≤ 1024)
def refO (it rt rs : Int) : Bool := (decide ((rt, rs) = (0, 0)) || isR ((rt, rs), 1)) && decide (rt < it)
def insO (ds it is rt rs : Int) (t : ByteArray) : Bool := textO t && decide (is = ds) && isR ((it, is), cntO t) && refO it rt rs
def delO (g : List ((Int × Int) × Int)) : Bool := decide (1 ≤ g.length) && decide (g.length ≤ 1024) && decide (chkR g = 0)
def holdO (o : Opn) : Bool := if o.kind = 1 then insO o.ds o.it o.is o.rt o.rs o.text else if o.kind = 2 then delO o.gone else if o.kind = 3 then isT o.site else true
/-- is it the next one of its site? -/
def folO (ds dq : Int) (deps : List (Int × Int)) : Bool := isT ds && decide (1 ≤ dq) && decide (dq ≤ 2147483647) && decide (chk deps = 0) && decide (getV deps ds = dq - 1)
def bareO (o : Opn) : Bool := decide (o.it = 0) && decide (o.is = 0) && decide (o.rt = 0) && decide (o.rs = 0) && decide (o.text.size = 0)
def aloneO (o : Opn) : Bool := if o.kind = 1 then decide (o.gone.length = 0) && decide (o.site = 0) else if o.kind = 2 then bareO o && decide (o.site = 0) else if o.kind = 3 then bareO o && decide (o.gone.length = 0) else bareO o && decide (o.gone.length = 0) && decide (o.site = 0)
def kindO (o : Opn) : Bool := decide (1 ≤ o.kind) && decide (o.kind ≤ 4)
def okO (o : Opn) : Bool := kindO o && folO o.ds o.dq o.deps && aloneO o && holdO o
def chkO (o : Opn) : Int := if okO o = true then 0 else 10

/-- all its numbers are those of Go's ints, its lists and its text no longer than one can be -/
structure InO (o : Opn) : Prop where
  ds : in64 o.ds
  dq : in64 o.dq
  kind : in64 o.kind
  it : in64 o.it
  is : in64 o.is
  rt : in64 o.rt
  rs : in64 o.rs
  site : in64 o.site
  deps : o.deps.length ≤ 140737488355328
  text : o.text.size ≤ 140737488355328
  gone : ∀ r ∈ o.gone, runIn r
  many : o.gone.length ≤ 140737488355328

theorem RC.lit (W : World) (t : TypeId) (cs : Array Value) (n : Nat) : RC (W.alloc (.cells cs t)) (.slice (some ⟨W.heap.size, 0, none⟩) n n) n cs.toList :=
  .inr ⟨W.heap.size, 0, n, rfl, Nat.le_refl _, by simp, fun j x hx => (Bx.new W t cs).cell (0 + j) x (by rw [Nat.zero_add]; simpa using hx)⟩

theorem chkR_one (r : (Int × Int) × Int) : decide (chkR [r] = 0) = isR r := by
  unfold chkR
  rw [chkA]
  cases h : isR r
  · simp
  · have h1 : badO [] r = false := rfl
    have h2 : badF [] r = false := rfl
    rw [h1, h2]
    simp [chkA]

set_option maxRecDepth 100000 in
theorem oSite_in (n : Int) (w : World) : Calls Tryz.prog 70 #[.int .i64 n] w fun e W => e = .returned (.bool (isT n)) ∧ w = W := by
  unfold isT
  by_cases h1 : 1 ≤ n
  · by_cases h2 : n ≤ 16
    · go_enter Tryz.func70, Tryz.ntmps70
      go_wp2
      go_ret
      simp [h1, h2]
    · go_enter Tryz.func70, Tryz.ntmps70
      go_wp2
      go_ret
      simp [h1, h2]
  · go_enter Tryz.func70, Tryz.ntmps70
    go_wp2
    go_ret
    simp
    omega

set_option maxRecDepth 100000 in
theorem oRun_in (t s c : Int) (w : World) (h1 : in64 t) (h2 : in64 s) (h3 : in64 c) :
    Calls Tryz.prog 105 #[.agg #[.int .i64 t, .int .i64 s], .int .i64 c] w fun e W => e = .returned (.bool (isR ((t, s), c))) ∧ Below w.heap.size w W := by
  obtain ⟨X, hX⟩ : ∃ X, (w.alloc (.cells #[.int .i64 t, .int .i64 s] 42)).alloc (.cells #[.int .i64 t, .int .i64 s, .int .i64 c] 81) = X := ⟨_, rfl⟩
  have BX : Below w.heap.size w X := by rw [← hX]; exact ballc (ballc (Below.refl _ _) _) _
  have HA : RR X (.slice (some ⟨w.heap.size + 1, 0, none⟩) 1 1) [((t, s), c)] := by
    rw [← hX]
    have := RC.lit (w.alloc (.cells #[.int .i64 t, .int .i64 s] 42)) 81 #[.int .i64 t, .int .i64 s, .int .i64 c] 1
    rw [show (w.alloc (.cells #[.int .i64 t, .int .i64 s] 42)).heap.size = w.heap.size + 1 by simp] at this
    exact this
  have C := hide (RCheck_in _ [((t, s), c)] X HA (fun r hr => by simp at hr; subst hr; exact ⟨⟨h1, h2⟩, h3⟩) (by simp))
  rw [← chkR_one]
  obtain ⟨K, hK⟩ : ∃ K, chkR [((t, s), c)] = K := ⟨_, rfl⟩
  rw [hK] at C ⊢
  clear hK HA h1 h2 h3
  replace BX := hide BX
  go_enter Tryz.func105, Tryz.ntmps105
  go_wp2_with fail
  refine (unhide C).mono ?_
  rintro e W1 ⟨rfl, hb1⟩
  replace hb1 := hide hb1
  go_wp2
  go_ret
  exact ⟨rfl, bnext (unhide BX) (unhide hb1)⟩

set_option maxRecDepth 100000 in
theorem kindOf_in (o : Opn) (vd : Value) (a : Option Addr) (n c : Nat) (w : World) :
    Calls Tryz.prog 58 #[opA o vd (.slice a n c)] w fun e W => e = .returned (kv o (.slice a n c)) ∧ Below w.heap.size w W := by
  obtain ⟨ds, dq, deps, kind, it, is, rt, rs, text, gone, site⟩ := o
  unfold opA kv insA
  simp only
  by_cases h1 : kind = 1
  · subst h1
    go_enter Tryz.func58, Tryz.ntmps58
    go_wp2
    go_ret
    exact ⟨rfl, ballc (Below.refl _ _) _⟩
  · rw [if_neg h1]
    by_cases h2 : kind = 2
    · subst h2
      go_enter Tryz.func58, Tryz.ntmps58
      go_wp2
      go_ret
      exact ⟨rfl, ballc (Below.refl _ _) _⟩
    · rw [if_neg h2]
      by_cases h3 : kind = 3
      · subst h3
        go_enter Tryz.func58, Tryz.ntmps58
        go_wp2
        go_ret
        exact ⟨rfl, ballc (Below.refl _ _) _⟩
      · rw [if_neg h3]
        by_cases h4 : kind = 4
        · subst h4
          go_enter Tryz.func58, Tryz.ntmps58
          go_wp2
          go_ret
          exact ⟨rfl, ballc (Below.refl _ _) _⟩
        · rw [if_neg h4]
          have k1 : (kind == 1) = false := by simpa using h1
          have k2 : (kind == 2) = false := by simpa using h2
          have k3 : (kind == 3) = false := by simpa using h3
          have k4 : (kind == 4) = false := by simpa using h4
          go_enter Tryz.func58, Tryz.ntmps58
          go_wp2
          go_ret
          exact ⟨rfl, ballc (Below.refl _ _) _⟩

end Go.Proofs.YtijjoikeceechaaGreat

/-
  Operations: what each kind asks.
-/
set_option linter.unusedSimpArgs false
set_option linter.unusedVariables false
namespace Go.Proofs.YtijjoikeceechaaGreat
open Go.RowKit Go.Lib

theorem Bx.same {W : World} {b : Nat} {t : TypeId} {vs : Array Value} (h : Bx W b t vs) (j : Nat) (v : Value) (hj : vs[j]? = some v) : W.setCell ⟨b, j, none⟩ v = W := by
  have e : W.heap[b]? = some (.cells vs t (0, 0)) := h
  have hb := h.lt
  have hs : vs.setIfInBounds j v = vs := by
    apply Array.ext
    · simp
    · intro i h1 h2
      rw [Array.getElem_setIfInBounds]
      split
      · rename_i hij
        subst hij
        rw [Array.getElem?_eq_getElem h2] at hj
        exact (Option.some.inj hj).symm
      · rfl
  have hh : (W.setCell ⟨b, j, none⟩ v).heap = W.heap := by
    apply Array.ext'
    apply List.ext_getElem?
    intro i
    by_cases hi : i = b
    · subst hi
      have h2 := h.set j v
      rw [hs] at h2
      have h3 : (W.setCell ⟨i, j, none⟩ v).heap[i]? = W.heap[i]? := Eq.trans h2 e.symm
      simpa using h3
    · have h3 := Below.heap_setCell W ⟨b, j, none⟩ v i hi
      simpa using h3
  cases W
  simp only [World.setCell] at hh ⊢
  simp_all

theorem cntO_in (t : ByteArray) (h : t.size ≤ 140737488355328) : 0 ≤ cntO t ∧ cntO t ≤ 140737488355328 := by
  have := allL_length t
  unfold cntO
  omega

set_option maxRecDepth 100000 in
theorem textHolds_in (it is rt rs : Int) (t : ByteArray) (w : World) (ht : t.size ≤ 140737488355328) :
    Calls Tryz.prog 104 #[.agg #[.int .i64 it, .int .i64 is, .int .i64 rt, .int .i64 rs, .string t]] w fun e W => e = .returned (.bool (textO t)) ∧ Below w.heap.size w W := by
  have HB := hide (fun W => badAt_in t ht W)
  have HC := hide (fun W => count_in t ht W)
  have HX := hide (Bx.new w 104 #[.int .i64 it, .int .i64 is, .int .i64 rt, .int .i64 rs, .string t])
  have B0 := hide (ballc (Below.refl w.heap.size w) (.cells #[.int .i64 it, .int .i64 is, .int .i64 rt, .int .i64 rs, .string t] 104))
  obtain ⟨R, hR⟩ : ∃ R, textO t = R := ⟨_, rfl⟩
  rw [hR]
  unfold textO at hR
  rw [show firstBad t (allL t) = badT t from rfl] at HB
  rw [show (((allL t).length : Nat) : Int) = cntO t from rfl] at HC
  generalize badT t = E at *
  generalize cntO t = C at *
  by_cases h1 : t.size = 0
  · have h1' : t = ByteArray.empty := by
      apply ByteArray.ext
      exact Array.eq_empty_of_size_eq_zero h1
    subst h1'
    obtain rfl : false = R := by rw [← hR]; rfl
    clear hR HB HC h1
    go_enter Tryz.func104, Tryz.ntmps104
    go_wp2
    go_ret
    exact ⟨rfl, unhide B0⟩
  · have h1' : (t.toList == ([] : List UInt8)) = false := by
      rw [beq_eq_false_iff_ne]
      intro e
      apply h1
      rw [ByteArray.toList_eq] at e
      have h9 := congrArg List.length e
      simpa using h9
    by_cases h2 : E < 0
    · obtain rfl : decide (C ≤ 1024) = R := by rw [← hR]; simp [h1, h2]
      clear hR
      go_enter Tryz.func104, Tryz.ntmps104
      go_wp2_with fail
      refine (unhide HB _).mono ?_
      rintro e W1 ⟨rfl, hb⟩
      have c4 := ((unhide HX).below hb).cell 4 _ rfl
      replace hb := hide (bnext (unhide B0) hb)
      go_wp2_with fail
      refine (unhide HC _).mono ?_
      rintro e W2 ⟨rfl, hb2⟩
      replace hb2 := hide (bnext (unhide hb) hb2)
      go_wp2
      go_ret
      exact ⟨rfl, unhide hb2⟩
    · obtain rfl : false = R := by rw [← hR]; simp [h2]
      clear hR
      go_enter Tryz.func104, Tryz.ntmps104
      go_wp2_with fail
      refine (unhide HB _).mono ?_
      rintro e W1 ⟨rfl, hb⟩
      replace hb := hide (bnext (unhide B0) hb)
      go_wp2
      go_ret
      exact ⟨rfl, unhide hb⟩

set_option maxRecDepth 100000 in
theorem joinHolds_in (n x : Int) (w : World) : Calls Tryz.prog 127 #[.agg #[.int .i64 n], .int .i64 x] w fun e W => e = .returned (.bool (isT n)) ∧ Below w.heap.size w W := by
  have H := hide (fun W => oSite_in n W)
  go_enter Tryz.func127, Tryz.ntmps127
  go_wp2_with (go_at_call 70; refine (unhide H _).mono ?_; rintro e W1 ⟨rfl, rfl⟩)
  go_ret
  exact ⟨rfl, ballc (Below.refl _ _) _⟩

set_option maxRecDepth 100000 in
theorem leaveHolds_in (x : Int) (w : World) : Calls Tryz.prog 132 #[.agg #[], .int .i64 x] w fun e W => e = .returned (.bool true) ∧ Below w.heap.size w W := by
  go_enter Tryz.func132, Tryz.ntmps132
  go_wp2
  go_ret
  exact ⟨rfl, ballc (Below.refl _ _) _⟩

set_option maxRecDepth 100000 in
theorem delHolds_in (v : Value) (g : List ((Int × Int) × Int)) (x : Int) (w : World) (h : RR w v g) (hin : ∀ r ∈ g, runIn r) (hl : g.length ≤ 140737488355328) :
    Calls Tryz.prog 122 #[.agg #[v], .int .i64 x] w fun e W => e = .returned (.bool (delO g)) ∧ Below w.heap.size w W := by
  obtain ⟨a, c, rfl⟩ := RC.form h
  have HX := hide (Bx.new w 106 #[.slice a g.length c])
  have B0 := hide (ballc (Below.refl w.heap.size w) (.cells #[.slice a g.length c] 106))
  have HC := fun (hg : g.length ≤ 1024) => hide (RCheck_in _ g _ (h.below (unhide B0)) hin (by omega))
  obtain ⟨R, hR⟩ : ∃ R, delO g = R := ⟨_, rfl⟩
  rw [hR]
  unfold delO at hR
  generalize chkR g = K at *
  generalize g.length = n at *
  clear h hin
  by_cases h1 : 1 ≤ n
  · have h1' : (1 : Int) ≤ (n : Int) := by omega
    by_cases h2 : n ≤ 1024
    · have h2' : (n : Int) ≤ 1024 := by omega
      replace HC := HC h2
      obtain rfl : decide (K = 0) = R := by rw [← hR]; simp [h1, h2]
      clear hR
      go_enter Tryz.func122, Tryz.ntmps122
      go_wp2_with fail
      refine (unhide HC).mono ?_
      rintro e W1 ⟨rfl, hb⟩
      replace hb := hide hb
      go_wp2
      go_ret
      exact ⟨rfl, bnext (unhide B0) (unhide hb)⟩
    · have h2' : ¬ (n : Int) ≤ 1024 := by omega
      obtain rfl : false = R := by rw [← hR]; simp [h2]
      clear hR HC
      go_enter Tryz.func122, Tryz.ntmps122
      go_wp2
      go_ret
      exact ⟨rfl, unhide B0⟩
  · have h1' : ¬ (1 : Int) ≤ (n : Int) := by omega
    obtain rfl : false = R := by rw [← hR]; simp [h1]
    clear hR HC
    go_enter Tryz.func122, Tryz.ntmps122
    go_wp2
    go_ret
    exact ⟨rfl, unhide B0⟩

set_option maxRecDepth 100000 in
theorem refHolds_in (it is rt rs : Int) (t : ByteArray) (w : World) (h1 : in64 rt) (h2 : in64 rs) :
    Calls Tryz.prog 107 #[.agg #[.int .i64 it, .int .i64 is, .int .i64 rt, .int .i64 rs, .string t]] w fun e W => e = .returned (.bool (refO it rt rs)) ∧ Below w.heap.size w W := by
  have HR := hide (fun W => oRun_in rt rs 1 W h1 h2 ⟨by omega, by omega⟩)
  obtain ⟨X, hX⟩ : ∃ X, (w.alloc (.cells #[.int .i64 it, .int .i64 is, .int .i64 rt, .int .i64 rs, .string t] 104)).alloc (.cells #[.int .i64 0, .int .i64 0] 42) = X := ⟨_, rfl⟩
  have HX : Bx X w.heap.size 104 #[.int .i64 it, .int .i64 is, .int .i64 rt, .int .i64 rs, .string t] := by rw [← hX]; exact (Bx.new w _ _).below (ballc (Below.refl _ _) _)
  have HY : Bx X (w.heap.size + 1) 42 #[.int .i64 0, .int .i64 0] := by
    rw [← hX]
    have := Bx.new (w.alloc (.cells #[.int .i64 it, .int .i64 is, .int .i64 rt, .int .i64 rs, .string t] 104)) 42 #[.int .i64 0, .int .i64 0]
    rw [show (w.alloc (.cells #[.int .i64 it, .int .i64 is, .int .i64 rt, .int .i64 rs, .string t] 104)).heap.size = w.heap.size + 1 by simp] at this
    exact this
  have B0 : Below w.heap.size w X := by rw [← hX]; exact ballc (ballc (Below.refl _ _) _) _
  have hq := fun W => eqI rt rs 0 0 W
  unfold refO
  clear h1 h2
  have x2 := HX.cell 2 _ rfl
  have x3 := HX.cell 3 _ rfl
  have x0 := HX.cell 0 _ rfl
  have y0 := HY.cell 0 _ rfl
  have y1 := HY.cell 1 _ rfl
  have xl := HX.lt
  have yl := HY.lt
  have f0 := HY.frozen 0
  have f1 := HY.frozen 1
  have s0 := HY.same 0 (.int .i64 0) rfl
  have s1 := HY.same 1 (.int .i64 0) rfl
  replace HX := hide HX
  replace B0 := hide B0
  clear HY
  cases hd : decide ((rt, rs) = (0, 0))
  · rw [hd] at hq
    cases hr : isR ((rt, rs), 1)
    · rw [hr] at HR
      clear hd hr
      go_enter Tryz.func107, Tryz.ntmps107
      go_wp2_with fail
      refine (unhide HR _).mono ?_
      rintro e W1 ⟨rfl, hb⟩
      replace hb := hide (bnext (unhide B0) hb)
      go_wp2
      go_ret
      exact ⟨by simp, unhide hb⟩
    · rw [hr] at HR
      clear hd hr
      go_enter Tryz.func107, Tryz.ntmps107
      go_wp2_with fail
      refine (unhide HR _).mono ?_
      rintro e W1 ⟨rfl, hb⟩
      have z2 := ((unhide HX).below hb).cell 2 _ rfl
      have z0 := ((unhide HX).below hb).cell 0 _ rfl
      replace hb := hide (bnext (unhide B0) hb)
      go_wp2
      go_ret
      exact ⟨by simp, unhide hb⟩
  · rw [hd] at hq
    clear hd HR
    go_enter Tryz.func107, Tryz.ntmps107
    go_wp2
    go_ret
    exact ⟨by simp, unhide B0⟩

end Go.Proofs.YtijjoikeceechaaGreat
