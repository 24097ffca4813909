/-
  What a spot's numbers are called by, and what passing a piece does to them; whether a text begins or ends with a byte.
-/
import Derived.Test.YtiakhpfljjfaeaaZDecAll
import Derived.BigQuiet
import Derived.ScopeJumps
import Derived.WalkMore
import Derived.Test.YtiakhpfljjfaeaaZXPlace

set_option linter.unusedSimpArgs false
set_option linter.unusedVariables false
namespace Go.Proofs.Ytiakhpfljjfaeaa
open Go.RowKit Go.Lib

theorem number1_in (b r u c l k : Int) (w : World) :
    Calls Try.prog 50 #[.agg #[.int .i64 b, .int .i64 r, .int .i64 u, .int .i64 c, .int .i64 l, .int .i64 k]] w fun e w' => e = .returned (.int .i64 b) ∧ Below w.heap.size w w' := by
  go_enter Try.func50, Try.ntmps50
  go_wp2
  go_ret
  exact ⟨rfl, (Below.refl _ w).alloc (Nat.le_refl _) _⟩
theorem number2_in (b r u c l k : Int) (w : World) :
    Calls Try.prog 51 #[.agg #[.int .i64 b, .int .i64 r, .int .i64 u, .int .i64 c, .int .i64 l, .int .i64 k]] w fun e w' => e = .returned (.int .i64 r) ∧ Below w.heap.size w w' := by
  go_enter Try.func51, Try.ntmps51
  go_wp2
  go_ret
  exact ⟨rfl, (Below.refl _ w).alloc (Nat.le_refl _) _⟩
theorem number3_in (b r u c l k : Int) (w : World) :
    Calls Try.prog 52 #[.agg #[.int .i64 b, .int .i64 r, .int .i64 u, .int .i64 c, .int .i64 l, .int .i64 k]] w fun e w' => e = .returned (.int .i64 u) ∧ Below w.heap.size w w' := by
  go_enter Try.func52, Try.ntmps52
  go_wp2
  go_ret
  exact ⟨rfl, (Below.refl _ w).alloc (Nat.le_refl _) _⟩
theorem number4_in (b r u c l k : Int) (w : World) :
    Calls Try.prog 53 #[.agg #[.int .i64 b, .int .i64 r, .int .i64 u, .int .i64 c, .int .i64 l, .int .i64 k]] w fun e w' => e = .returned (.int .i64 c) ∧ Below w.heap.size w w' := by
  go_enter Try.func53, Try.ntmps53
  go_wp2
  go_ret
  exact ⟨rfl, (Below.refl _ w).alloc (Nat.le_refl _) _⟩

/-- one byte as a text -/
def oneB (b : UInt8) : ByteArray := ⟨#[b]⟩
theorem one_list (u : ByteArray) (b : UInt8) (h : u.size = 1) : (u.toList == (oneB b).toList) = (by_ u 0 == b.toNat) := by
  have e : u.toList = [u[0]] := by
    rw [ByteArray.toList_eq]
    apply List.ext_getElem
    · simp [h]
    · intro k hk1 hk2
      simp at hk2
      subst hk2
      simp
      rfl
  have e2 : (oneB b).toList = [b] := by rw [ByteArray.toList_eq]; rfl
  rw [e, e2, ← by_get u 0 (by omega)]
  rw [Bool.eq_iff_iff]
  simp [UInt8.toNat_inj]
theorem one_first (t : ByteArray) (b : UInt8) (h : 0 < t.size) : ((t.extract 0 1).toList == (oneB b).toList) = (by_ t 0 == b.toNat) := by
  rw [one_list _ _ (by rw [ByteArray.size_extract]; omega), ← by_get t 0 h, ← by_get (t.extract 0 1) 0 (by rw [ByteArray.size_extract]; omega), ByteArray.getElem_extract]
theorem one_last (t : ByteArray) (b : UInt8) (h : 0 < t.size) : ((t.extract (t.size - 1) t.size).toList == (oneB b).toList) = (by_ t (t.size - 1) == b.toNat) := by
  rw [one_list _ _ (by rw [ByteArray.size_extract]; omega), ← by_get t (t.size - 1) (by omega), ← by_get (t.extract (t.size - 1) t.size) 0 (by rw [ByteArray.size_extract]; omega), ByteArray.getElem_extract]
  rfl

set_option maxHeartbeats 1000000 in
theorem pre0_in (t : ByteArray) (b : UInt8) (w : World) (ht : t.size ≤ 140737488355328) :
    Calls Try.prog 59 #[.string t, .string (oneB b)] w fun e w' => e = .returned (.bool (decide (0 < t.size) && by_ t 0 == b.toNat)) ∧ w' = w := by
  have hz : (oneB b).size = 1 := rfl
  by_cases h : 0 < t.size
  · have hk : decide ((1 : Int) ≤ (t.size : Int)) = true := by simp; omega
    have e := hide (one_first t b h)
    go_enter Try.func59, Try.ntmps59
    go_wp2
    go_ret
    rw [unhide e, decide_eq_true h]
    exact ⟨rfl, rfl⟩
  · go_enter Try.func59, Try.ntmps59
    go_wp2
    go_ret
    exact ⟨rfl, rfl⟩
set_option maxHeartbeats 1000000 in
theorem suf0_in (t : ByteArray) (b : UInt8) (w : World) (ht : t.size ≤ 140737488355328) :
    Calls Try.prog 62 #[.string t, .string (oneB b)] w fun e w' => e = .returned (.bool (decide (0 < t.size) && by_ t (t.size - 1) == b.toNat)) ∧ w' = w := by
  have hz : (oneB b).size = 1 := rfl
  by_cases h : 0 < t.size
  · have hk : decide ((1 : Int) ≤ (t.size : Int)) = true := by simp; omega
    have e := hide (one_last t b h)
    have e2 : ((t.size : Int) - 1).toNat = t.size - 1 := by omega
    go_enter Try.func62, Try.ntmps62
    go_wp2
    go_ret
    rw [unhide e, decide_eq_true h]
    exact ⟨rfl, rfl⟩
  · go_enter Try.func62, Try.ntmps62
    go_wp2
    go_ret
    exact ⟨rfl, rfl⟩
theorem pre_in (t : ByteArray) (b : UInt8) (w : World) (ht : t.size ≤ 140737488355328) :
    Calls Try.prog 40 #[.string t, .string (oneB b)] w fun e w' => e = .returned (.bool (decide (0 < t.size) && by_ t 0 == b.toNat)) ∧ w' = w := by
  go_enter Try.func40, Try.ntmps40
  go_wp2_with (go_at_call 59; refine (pre0_in _ _ _ ht).mono ?_; rintro e w' ⟨rfl, rfl⟩)
  go_ret
  exact ⟨rfl, rfl⟩
theorem suf_in (t : ByteArray) (b : UInt8) (w : World) (ht : t.size ≤ 140737488355328) :
    Calls Try.prog 48 #[.string t, .string (oneB b)] w fun e w' => e = .returned (.bool (decide (0 < t.size) && by_ t (t.size - 1) == b.toNat)) ∧ w' = w := by
  go_enter Try.func48, Try.ntmps48
  go_wp2_with (go_at_call 62; refine (suf0_in _ _ _ ht).mono ?_; rintro e w' ⟨rfl, rfl⟩)
  go_ret
  exact ⟨rfl, rfl⟩

/-- a scope in which the run may jump ahead to one label -/
theorem wp_scope_once {P : Program} {a : Act} {w : World} {Q : Exit → Act → World → Prop} {c rest : Code} (l : Nat) (hf : findLabel c l = some rest)
    (first : ∀ J : Act → World → Prop, Hid (∀ a w, rest.wp P (Exit.noGoto Q) a w → J a w) → c.wp P (Exit.jump l J Q) a w) : (Code.scope c).wp P Q a w :=
  wp_scope_jumps l _ (fun _ _ => 0) hf (first (fun a w => rest.wp P (Exit.noGoto Q) a w) (hide (fun _ _ h => h))) (fun a w h => Code.wp_mono (fun e a' w' hq => by cases e <;> first | exact hq | exact hq.elim) h)
theorem jump_ret {l : Nat} {J : Act → World → Prop} {Q : Exit → Act → World → Prop} {a : Act} {w : World} : Exit.jump l J Q .ret a w = Q .ret a w := rfl
theorem jump_normal {l : Nat} {J : Act → World → Prop} {Q : Exit → Act → World → Prop} {a : Act} {w : World} : Exit.jump l J Q .normal a w = Q .normal a w := rfl
theorem jump_exit {l n : Nat} {J : Act → World → Prop} {Q : Exit → Act → World → Prop} {a : Act} {w : World} : Exit.jump l J Q (.exit n) a w = Q (.exit n) a w := rfl
theorem jump_goto {l : Nat} {J : Act → World → Prop} {Q : Exit → Act → World → Prop} {a : Act} {w : World} : Exit.jump l J Q (.goto l) a w = J a w := propext ⟨fun h => h.2, fun h => ⟨rfl, h⟩⟩

attribute [local go_sem] jump_ret jump_normal jump_exit

/-- a spot as a value -/
def spV (b r u c l k : Nat) : Value := .agg #[.int .i64 (b : Nat), .int .i64 (r : Nat), .int .i64 (u : Nat), .int .i64 (c : Nat), .int .i64 (l : Nat), .int .i64 (k : Nat)]

set_option maxRecDepth 100000 in
set_option maxHeartbeats 2000000 in
theorem passed_w (b r u c l k : Nat) (rv : Int) (rest : ByteArray) (w : World) (hb : r < 1000000000) (hu : u < 1000000000) (hl : l < 1000000000) (hk : k < 1000000000) (h : 65536 ≤ rv) :
    Calls Try.prog 22 #[.agg #[.int .i64 b, .int .i64 r, .int .i64 u, .int .i64 c, .int .i64 l, .int .i64 k], .int .i32 rv, .string rest] w
      fun en w' => en = .returned (spV b (r + 1) (u + 2) c l (k + 1)) ∧ Below w.heap.size w w' := by
  have h1 : ¬ rv = 10 := by omega
  have h2 : ¬ rv = 13 := by omega
  go_enter Try.func22, Try.ntmps22
  go_wp2
  refine wp_scope_once 0 rfl ?_
  intro J hJ
  go_wp2
  rw [jump_ret]
  refine bodyPost_ret (v := spV b (r + 1) (u + 2) c l (k + 1)) ?_ rfl ⟨rfl, ?_⟩
  · unfold spV
    simp [results, Try.f22, go_sem]
    try omega
  · exact ((Below.refl _ w).alloc (Nat.le_refl _) _).alloc (by simp) _

set_option maxRecDepth 100000 in
set_option maxHeartbeats 2000000 in
theorem passed_10 (b r u c l k : Nat) (rv : Int) (rest : ByteArray) (w : World) (hb : r < 1000000000) (hu : u < 1000000000) (hl : l < 1000000000) (hk : k < 1000000000) (h : rv = 10) :
    Calls Try.prog 22 #[.agg #[.int .i64 b, .int .i64 r, .int .i64 u, .int .i64 c, .int .i64 l, .int .i64 k], .int .i32 rv, .string rest] w
      fun en w' => en = .returned (spV b (r + 1) (u + 1) c (l + 1) 1) ∧ Below w.heap.size w w' := by
  go_enter Try.func22, Try.ntmps22
  go_wp2
  refine wp_scope_once 0 rfl ?_
  intro J hJ
  go_wp2
  apply wp_goto
  refine ⟨rfl, unhide hJ _ _ ?_⟩
  clear hJ
  go_wp2
  rw [Exit.noGoto_ret]
  refine bodyPost_ret (v := spV b (r + 1) (u + 1) c (l + 1) 1) ?_ rfl ⟨rfl, ?_⟩
  · unfold spV
    simp [results, Try.f22, go_sem]
  · exact ((Below.refl _ w).alloc (Nat.le_refl _) _).alloc (by simp) _

set_option maxRecDepth 100000 in
set_option maxHeartbeats 2000000 in
theorem passed_13t (b r u c l k : Nat) (rv : Int) (rest : ByteArray) (w : World) (hb : r < 1000000000) (hu : u < 1000000000) (hl : l < 1000000000) (hk : k < 1000000000) (hs : rest.size ≤ 140737488355328) (h : rv = 13) (hp : (decide (0 < rest.size) && by_ rest 0 == (10 : UInt8).toNat) = true) :
    Calls Try.prog 22 #[.agg #[.int .i64 b, .int .i64 r, .int .i64 u, .int .i64 c, .int .i64 l, .int .i64 k], .int .i32 rv, .string rest] w
      fun en w' => en = .returned (spV b (r + 1) (u + 1) c l (k + 1)) ∧ Below w.heap.size w w' := by
  have hP : ∀ w, Hid (Calls Try.prog 40 #[.string rest, .string (oneB 10)] w fun e w' => e = .returned (.bool true) ∧ w' = w) := fun w => hide (by have := pre_in rest 10 w hs; rw [hp] at this; exact this)
  go_enter Try.func22, Try.ntmps22
  go_wp2
  refine wp_scope_once 0 rfl ?_
  intro J hJ
  go_wp2_with (go_at_call 40; refine (unhide (hP _)).mono ?_; rintro e w' ⟨rfl, rfl⟩)
  rw [jump_ret]
  refine bodyPost_ret (v := spV b (r + 1) (u + 1) c l (k + 1)) ?_ rfl ⟨rfl, ?_⟩
  · unfold spV
    simp [results, Try.f22, go_sem]
  · exact ((Below.refl _ w).alloc (Nat.le_refl _) _).alloc (by simp) _

set_option maxRecDepth 100000 in
set_option maxHeartbeats 2000000 in
theorem passed_13f (b r u c l k : Nat) (rv : Int) (rest : ByteArray) (w : World) (hb : r < 1000000000) (hu : u < 1000000000) (hl : l < 1000000000) (hk : k < 1000000000) (hs : rest.size ≤ 140737488355328) (h : rv = 13) (hp : (decide (0 < rest.size) && by_ rest 0 == (10 : UInt8).toNat) = false) :
    Calls Try.prog 22 #[.agg #[.int .i64 b, .int .i64 r, .int .i64 u, .int .i64 c, .int .i64 l, .int .i64 k], .int .i32 rv, .string rest] w
      fun en w' => en = .returned (spV b (r + 1) (u + 1) c (l + 1) 1) ∧ Below w.heap.size w w' := by
  have hP : ∀ w, Hid (Calls Try.prog 40 #[.string rest, .string (oneB 10)] w fun e w' => e = .returned (.bool false) ∧ w' = w) := fun w => hide (by have := pre_in rest 10 w hs; rw [hp] at this; exact this)
  go_enter Try.func22, Try.ntmps22
  go_wp2
  refine wp_scope_once 0 rfl ?_
  intro J hJ
  go_wp2_with (go_at_call 40; refine (unhide (hP _)).mono ?_; rintro e w' ⟨rfl, rfl⟩)
  apply wp_goto
  refine ⟨rfl, unhide hJ _ _ ?_⟩
  clear hJ
  go_wp2
  rw [Exit.noGoto_ret]
  refine bodyPost_ret (v := spV b (r + 1) (u + 1) c (l + 1) 1) ?_ rfl ⟨rfl, ?_⟩
  · unfold spV
    simp [results, Try.f22, go_sem]
  · exact ((Below.refl _ w).alloc (Nat.le_refl _) _).alloc (by simp) _

set_option maxRecDepth 100000 in
set_option maxHeartbeats 2000000 in
theorem passed_o (b r u c l k : Nat) (rv : Int) (rest : ByteArray) (w : World) (hb : r < 1000000000) (hu : u < 1000000000) (hl : l < 1000000000) (hk : k < 1000000000) (h0 : rv < 65536) (h1 : ¬ rv = 10) (h2 : ¬ rv = 13) :
    Calls Try.prog 22 #[.agg #[.int .i64 b, .int .i64 r, .int .i64 u, .int .i64 c, .int .i64 l, .int .i64 k], .int .i32 rv, .string rest] w
      fun en w' => en = .returned (spV b (r + 1) (u + 1) c l (k + 1)) ∧ Below w.heap.size w w' := by
  go_enter Try.func22, Try.ntmps22
  go_wp2
  refine wp_scope_once 0 rfl ?_
  intro J hJ
  go_wp2
  rw [jump_ret]
  refine bodyPost_ret (v := spV b (r + 1) (u + 1) c l (k + 1)) ?_ rfl ⟨rfl, ?_⟩
  · unfold spV
    simp [results, Try.f22, go_sem]
  · exact ((Below.refl _ w).alloc (Nat.le_refl _) _).alloc (by simp) _

theorem passed_in (b r u c l k rv : Nat) (rest : ByteArray) (w : World) (hb : r < 1000000000) (hu : u < 1000000000) (hl : l < 1000000000) (hk : k < 1000000000) (hs : rest.size ≤ 140737488355328) (e : Bool)
    (he : e = (rv == 10 || (rv == 13 && !(decide (0 < rest.size) && by_ rest 0 == 10)))) :
    Calls Try.prog 22 #[spV b r u c l k, .int .i32 (rv : Nat), .string rest] w
      fun en w' => en = .returned (spV b (r + 1) (u + if 65536 ≤ rv then 2 else 1) c (if e then l + 1 else l) (if e then 1 else k + 1)) ∧ Below w.heap.size w w' := by
  by_cases h : 65536 ≤ rv
  · rw [if_pos h]
    have : e = false := by rw [he, show (rv == 10) = false by simp; omega, show (rv == 13) = false by simp; omega]; rfl
    subst this
    exact passed_w b r u c l k rv rest w hb hu hl hk (by omega)
  · rw [if_neg h]
    by_cases h1 : rv = 10
    · have : e = true := by rw [he, h1]; rfl
      rw [this, h1]
      exact passed_10 b r u c l k _ rest w hb hu hl hk rfl
    · by_cases h2 : rv = 13
      · cases hp : (decide (0 < rest.size) && by_ rest 0 == 10) with
        | true =>
          have : e = false := by rw [he, h2, hp]; rfl
          rw [this, h2]
          exact passed_13t b r u c l k _ rest w hb hu hl hk hs rfl hp
        | false =>
          have : e = true := by rw [he, h2, hp]; rfl
          rw [this, h2]
          exact passed_13f b r u c l k _ rest w hb hu hl hk hs rfl hp
      · have : e = false := by rw [he, show (rv == 10) = false by simp; omega, show (rv == 13) = false by simp; omega]; rfl
        rw [this]
        exact passed_o b r u c l k rv rest w hb hu hl hk (by omega) (by omega) (by omega)

end Go.Proofs.Ytiakhpfljjfaeaa

/-
  A map in memory; what its spots are.
-/
set_option linter.unusedSimpArgs false
set_option linter.unusedVariables false
namespace Go.Proofs.Ytiakhpfljjfaeaa
open Go.RowKit Go.Lib

/-- place n's spot -/
def spN (s : ByteArray) (n : Nat) : Value := spV (pB s n) n (pU s n) (pC s n) (pL s n) (pK s n)
def spC (s : ByteArray) (n : Nat) : List Value := [.int .i64 (pB s n : Nat), .int .i64 (n : Nat), .int .i64 (pU s n : Nat), .int .i64 (pC s n : Nat), .int .i64 (pL s n : Nat), .int .i64 (pK s n : Nat)]
def zeroV : Value := spV 0 0 0 0 0 0

/-- the map of a text lies behind a pointer -/
def MapAt (s : ByteArray) (p : Nat) (W : World) : Prop :=
  W.cell? ⟨p, 0, none⟩ = some (.string s) ∧ ∃ sl, W.cell? ⟨p, 1, none⟩ = some sl ∧
    ((sl = .slice none 0 0 ∧ pN s = 0) ∨ ∃ g cap, sl = .slice (some ⟨g, 0, none⟩) (pN s) cap ∧ ∀ n, n < pN s → ∀ j u, (spC s (n + 1))[j]? = some u → W.cell? ⟨g, n * 6 + j, none⟩ = some u)

theorem cell_below {W W' : World} {a : Addr} {v : Value} (h : W.cell? a = some v) (hb : Below W.heap.size W W') : W'.cell? a = some v := by
  have hl := World.block_lt_of_cell? _ _ h
  rw [← h]
  unfold World.cell?
  rw [hb.block _ hl]

theorem MapAt.below {s : ByteArray} {p : Nat} {W W' : World} (h : MapAt s p W) (hb : Below W.heap.size W W') : MapAt s p W' := by
  obtain ⟨h1, sl, h2, h3⟩ := h
  refine ⟨cell_below h1 hb, sl, cell_below h2 hb, ?_⟩
  rcases h3 with h3 | ⟨g, cap, e, h3⟩
  · exact .inl h3
  · exact .inr ⟨g, cap, e, fun n hn j u hu => cell_below (h3 n hn j u hu) hb⟩

set_option maxRecDepth 100000 in
set_option maxHeartbeats 2000000 in
theorem spot_in (s : ByteArray) (p n : Nat) (w : World) (hs : s.size ≤ 1000000) (hm : MapAt s p w) (hn : n ≤ pN s) :
    Calls Try.prog 18 #[.pointer (some ⟨p, 0, none⟩), .int .i64 (n : Nat)] w fun e w' => e = .returned (spN s n) ∧ Below w.heap.size w w' := by
  have hN := pN_le s
  cases n with
  | zero =>
    go_enter Try.func18, Try.ntmps18
    go_wp2
    refine bodyPost_ret (v := spN s 0) ?_ rfl ⟨rfl, ?_⟩
    · unfold spN spV
      simp [results, Try.f18, go_sem, pB, pU, pC, pL, pK]
    · exact ((Below.refl _ w).alloc (Nat.le_refl _) _)
  | succ n =>
    obtain ⟨h1, sl, h2, h3⟩ := hm
    rcases h3 with ⟨_, h3⟩ | ⟨g, cap, rfl, h3⟩
    · omega
    · have c0 : w.cell? ⟨g, n * 6, none⟩ = some (.int .i64 (pB s (n + 1) : Nat)) := h3 n (by omega) 0 _ rfl
      have c1 := h3 n (by omega) 1 _ rfl
      have c2 := h3 n (by omega) 2 _ rfl
      have c3 := h3 n (by omega) 3 _ rfl
      have c4 := h3 n (by omega) 4 _ rfl
      have c5 := h3 n (by omega) 5 _ rfl
      clear h3
      have hp := World.block_lt_of_cell? _ _ h1
      have hg := World.block_lt_of_cell? _ _ c0
      simp only at hp hg
      have hd : ((((n + 1 : Nat) : Int) - 1).toNat) = n := by omega
      go_enter Try.func18, Try.ntmps18
      go_wp2
      refine bodyPost_ret (v := spN s (n + 1)) ?_ rfl ⟨rfl, ?_⟩
      · unfold spN spV
        simp [results, Try.f18, go_sem]
      · exact ((Below.refl _ w).alloc (Nat.le_refl _) _)

/-- the behind's length, as it is read -/
theorem MapAt.slice {s : ByteArray} {p : Nat} {W : World} (h : MapAt s p W) : ∃ a cap, W.cell? ⟨p, 1, none⟩ = some (.slice a (pN s) cap) := by
  obtain ⟨h1, sl, h2, h3⟩ := h
  rcases h3 with ⟨rfl, h3⟩ | ⟨g, cap, rfl, h3⟩
  · exact ⟨_, _, by rw [h3]; exact h2⟩
  · exact ⟨_, _, h2⟩

theorem spN_form (s : ByteArray) (n : Nat) : ∃ b r u c l k : Nat, spN s n = .agg #[.int .i64 (b : Nat), .int .i64 (r : Nat), .int .i64 (u : Nat), .int .i64 (c : Nat), .int .i64 (l : Nat), .int .i64 (k : Nat)] := ⟨_, _, _, _, _, _, rfl⟩

theorem bnext {w W W' : World} (h : Below w.heap.size w W) (k : Below W.heap.size W W') : Below w.heap.size w W' := h.trans (k.mono h.size)
theorem bset6 {N b : Nat} {w W : World} (h : Below N w W) (hb : N ≤ b) (v0 v1 v2 v3 v4 v5 : Value) :
    Below N w ((((((W.setCell ⟨b, 0, none⟩ v0).setCell ⟨b, 1, none⟩ v1).setCell ⟨b, 2, none⟩ v2).setCell ⟨b, 3, none⟩ v3).setCell ⟨b, 4, none⟩ v4).setCell ⟨b, 5, none⟩ v5) :=
  (((((h.setCell (p := ⟨b, 0, none⟩) hb _).setCell (p := ⟨b, 1, none⟩) hb _).setCell (p := ⟨b, 2, none⟩) hb _).setCell (p := ⟨b, 3, none⟩) hb _).setCell (p := ⟨b, 4, none⟩) hb _).setCell (p := ⟨b, 5, none⟩) hb _
/-- six numbers in a block -/
def Box6 (W : World) (b : Nat) (v0 v1 v2 v3 v4 v5 : Value) : Prop := W.heap[b]? = some (.cells #[v0, v1, v2, v3, v4, v5] 29 (0, 0))
theorem Box6.new (W : World) (v0 v1 v2 v3 v4 v5 : Value) : Box6 (W.alloc (.cells #[v0, v1, v2, v3, v4, v5] 29)) W.heap.size v0 v1 v2 v3 v4 v5 := World.alloc_heap_new W _
theorem Box6.lt {W : World} {b : Nat} {v0 v1 v2 v3 v4 v5 : Value} (h : Box6 W b v0 v1 v2 v3 v4 v5) : b < W.heap.size := (Array.getElem?_eq_some_iff.1 h).1
theorem Box6.below {W W' : World} {b : Nat} {v0 v1 v2 v3 v4 v5 : Value} (h : Box6 W b v0 v1 v2 v3 v4 v5) (hb : Below W.heap.size W W') : Box6 W' b v0 v1 v2 v3 v4 v5 := (hb.block _ h.lt).trans h
theorem Box6.facts {W : World} {b : Nat} {v0 v1 v2 v3 v4 v5 : Value} (h : Box6 W b v0 v1 v2 v3 v4 v5) :
    W.cell? ⟨b, 0, none⟩ = some v0 ∧ W.cell? ⟨b, 1, none⟩ = some v1 ∧ W.cell? ⟨b, 2, none⟩ = some v2 ∧ W.cell? ⟨b, 3, none⟩ = some v3 ∧ W.cell? ⟨b, 4, none⟩ = some v4 ∧ W.cell? ⟨b, 5, none⟩ = some v5 ∧
    W.frozen? ⟨b, 0, none⟩ = false ∧ W.frozen? ⟨b, 1, none⟩ = false ∧ W.frozen? ⟨b, 2, none⟩ = false ∧ W.frozen? ⟨b, 3, none⟩ = false ∧ W.frozen? ⟨b, 4, none⟩ = false ∧ W.frozen? ⟨b, 5, none⟩ = false := by
  have e : W.heap[b]? = some (.cells #[v0, v1, v2, v3, v4, v5] 29 (0, 0)) := h
  refine ⟨?_, ?_, ?_, ?_, ?_, ?_, ?_, ?_, ?_, ?_, ?_, ?_⟩ <;> simp [World.cell?, World.frozen?, e]

set_option maxRecDepth 100000 in
set_option maxHeartbeats 1000000 in
theorem end_in (s : ByteArray) (p : Nat) (w : World) (hs : s.size ≤ 1000000) (hm : MapAt s p w) :
    Calls Try.prog 33 #[.pointer (some ⟨p, 0, none⟩)] w fun e w' => e = .returned (spN s (pN s)) ∧ Below w.heap.size w w' := by
  have hN := pN_le s
  obtain ⟨a, cap, hc⟩ := hm.slice
  have hp := World.block_lt_of_cell? _ _ hc
  simp only at hp
  have hB : ∀ o, Below w.heap.size w (w.alloc o) := fun o => (Below.refl _ w).alloc (Nat.le_refl _) _
  have hsp := fun o => hide (spot_in s p (pN s) (w.alloc o) hs (hm.below (hB o)) (Nat.le_refl _))
  clear hm
  obtain ⟨b, r, u, c, l, k, hv⟩ := spN_form s (pN s)
  rw [hv] at hsp ⊢
  clear hv
  obtain ⟨L, hL⟩ : ∃ L, pN s = L := ⟨_, rfl⟩
  rw [hL] at hsp hc hN
  clear hL hs
  go_enter Try.func33, Try.ntmps33
  go_wp2_with (go_at_call 18; refine (unhide (hsp _)).mono ?_; rintro e w' ⟨rfl, hb⟩; obtain ⟨c0, c1, c2, c3, c4, c5, f0, f1, f2, f3, f4, f5⟩ := ((Box6.new w _ _ _ _ _ _).below hb).facts)
  refine bodyPost_ret (v := .agg #[.int .i64 (b : Nat), .int .i64 (r : Nat), .int .i64 (u : Nat), .int .i64 (c : Nat), .int .i64 (l : Nat), .int .i64 (k : Nat)]) ?_ rfl ⟨rfl, ?_⟩
  · simp [results, Try.f33, go_sem, *]
  · exact bset6 (bnext (hB _) hb) (Nat.le_refl _) _ _ _ _ _ _

end Go.Proofs.Ytiakhpfljjfaeaa

/-
  Which number of a spot a unit means; how many of a unit a text has.
-/
set_option linter.unusedSimpArgs false
set_option linter.unusedVariables false
namespace Go.Proofs.Ytiakhpfljjfaeaa
open Go.RowKit Go.Lib

def numV (u : Int) : Value :=
  if u = 1 then .func (.func 50) #[] #[] else if u = 2 then .func (.func 51) #[] #[] else if u = 3 then .func (.func 52) #[] #[] else if u = 4 then .func (.func 53) #[] #[] else .nilFunc

theorem index_m0 (w : World) : (Instr.index 88 (.agg #[.int .i64 1, .func (.func 50) #[] #[], .int .i64 2, .func (.func 51) #[] #[], .int .i64 3, .func (.func 52) #[] #[], .int .i64 4, .func (.func 53) #[] #[]]) (.int .i64 0)).run Try.prog w = .ok (.agg #[.int .i64 1, .func (.func 50) #[] #[]]) w := by kernel_rfl
theorem index_m1 (w : World) : (Instr.index 88 (.agg #[.int .i64 1, .func (.func 50) #[] #[], .int .i64 2, .func (.func 51) #[] #[], .int .i64 3, .func (.func 52) #[] #[], .int .i64 4, .func (.func 53) #[] #[]]) (.int .i64 1)).run Try.prog w = .ok (.agg #[.int .i64 2, .func (.func 51) #[] #[]]) w := by kernel_rfl
theorem index_m2 (w : World) : (Instr.index 88 (.agg #[.int .i64 1, .func (.func 50) #[] #[], .int .i64 2, .func (.func 51) #[] #[], .int .i64 3, .func (.func 52) #[] #[], .int .i64 4, .func (.func 53) #[] #[]]) (.int .i64 2)).run Try.prog w = .ok (.agg #[.int .i64 3, .func (.func 52) #[] #[]]) w := by kernel_rfl
theorem index_m3 (w : World) : (Instr.index 88 (.agg #[.int .i64 1, .func (.func 50) #[] #[], .int .i64 2, .func (.func 51) #[] #[], .int .i64 3, .func (.func 52) #[] #[], .int .i64 4, .func (.func 53) #[] #[]]) (.int .i64 3)).run Try.prog w = .ok (.agg #[.int .i64 4, .func (.func 53) #[] #[]]) w := by kernel_rfl
set_option maxRecDepth 100000 in
set_option maxHeartbeats 4000000 in
theorem numberOf_in (u : Int) (w : World) :
    Calls Try.prog 31 #[.int .i64 u] w fun e w' => e = .returned (numV u) ∧ Below w.heap.size w w' := by
  go_enter Try.func31, Try.ntmps31
  go_wp2
  go_loopw [10] (fun jv wr => ∃ j : Nat, jv = .int .i64 (j : Nat) ∧ j ≤ 4 ∧ Hid (∀ i : Nat, 1 ≤ i → i ≤ j → ¬ u = i) ∧ Below w.heap.size w wr) (fun jv _ => 4 - (RowKit.intOf jv).toNat)
  case atStart => exact ⟨0, rfl, by omega, hide (fun i h1 h2 => by omega), Below.refl _ _⟩
  case round =>
    obtain ⟨j, rfl, hj, hne, hB⟩ := hrel
    have hsz := hB.size
    rcases (by omega : j = 0 ∨ j = 1 ∨ j = 2 ∨ j = 3 ∨ j = 4) with rfl | rfl | rfl | rfl | rfl
    · have hix := index_m0
      by_cases hu : u = 1
      · go_wp2
        go_ret
        refine ⟨?_, hB.alloc hsz _⟩
        rw [hu]; rfl
      · go_wp2
        go_roundw
        case rel => exact ⟨1, rfl, by omega, hide (fun i h1 h2 => by rcases (by omega : i ≤ 0 ∨ i = 1) with h | h; exact unhide hne i h1 h; rw [h]; exact hu), hB.alloc hsz _⟩
        case measure => simp [RowKit.intOf]
    · have hix := index_m1
      by_cases hu : u = 2
      · go_wp2
        go_ret
        refine ⟨?_, hB.alloc hsz _⟩
        rw [hu]; rfl
      · go_wp2
        go_roundw
        case rel => exact ⟨2, rfl, by omega, hide (fun i h1 h2 => by rcases (by omega : i ≤ 1 ∨ i = 2) with h | h; exact unhide hne i h1 h; rw [h]; exact hu), hB.alloc hsz _⟩
        case measure => simp [RowKit.intOf]
    · have hix := index_m2
      by_cases hu : u = 3
      · go_wp2
        go_ret
        refine ⟨?_, hB.alloc hsz _⟩
        rw [hu]; rfl
      · go_wp2
        go_roundw
        case rel => exact ⟨3, rfl, by omega, hide (fun i h1 h2 => by rcases (by omega : i ≤ 2 ∨ i = 3) with h | h; exact unhide hne i h1 h; rw [h]; exact hu), hB.alloc hsz _⟩
        case measure => simp [RowKit.intOf]
    · have hix := index_m3
      by_cases hu : u = 4
      · go_wp2
        go_ret
        refine ⟨?_, hB.alloc hsz _⟩
        rw [hu]; rfl
      · go_wp2
        go_roundw
        case rel => exact ⟨4, rfl, by omega, hide (fun i h1 h2 => by rcases (by omega : i ≤ 3 ∨ i = 4) with h | h; exact unhide hne i h1 h; rw [h]; exact hu), hB.alloc hsz _⟩
        case measure => simp [RowKit.intOf]
    · go_wp2
      go_ret
      refine ⟨?_, hB⟩
      have h1 : ¬ u = 1 := unhide hne 1 (by omega) (by omega)
      have h2 : ¬ u = 2 := unhide hne 2 (by omega) (by omega)
      have h3 : ¬ u = 3 := unhide hne 3 (by omega) (by omega)
      have h4 : ¬ u = 4 := unhide hne 4 (by omega) (by omega)
      unfold numV
      rw [if_neg h1, if_neg h2, if_neg h3, if_neg h4]
      rfl

theorem run_equalIn_func_nil {P : Program} (w : World) (d : Nat) (t : TypeId) {x y z} (f : Fn) (bs cs : Array Value) (h : P.underlying t = some (.func x y z)) : (Op.equalIn (d + 1) t (.func f bs cs) .nilFunc).run P w = .ok false w := by
  simp [Op.equalIn, run_underlying h]
theorem run_equal_func_nil {P : Program} (w : World) (t : TypeId) {x y z} (f : Fn) (bs cs : Array Value) (h : P.underlying t = some (.func x y z)) : (Op.equal t (.func f bs cs) .nilFunc).run P w = .ok false w := run_equalIn_func_nil w 9999 t f bs cs h
theorem run_eql_func_nil {P : Program} (w : World) (t : TypeId) {x y z} (f : Fn) (bs cs : Array Value) (h : P.underlying t = some (.func x y z)) : (binOp .eql t (.func f bs cs) .nilFunc).run P w = .ok (.bool false) w := by
  simp only [binOp]
  simp [run_equal_func_nil w t f bs cs h]

theorem eql_nil_nil (w : World) : (binOp .eql 68 .nilFunc .nilFunc).run Try.prog w = .ok (.bool true) w := by kernel_rfl
theorem field_line (v0 v1 v2 v3 v4 v5 : Value) (w : World) : (Instr.field 29 (.agg #[v0, v1, v2, v3, v4, v5]) 4).run Try.prog w = .ok v4 w := by kernel_rfl

/-- a known unit's function -/
theorem num_in (s : ByteArray) (n : Nat) (u : Int) (hu : 1 ≤ u ∧ u ≤ 4) : ∃ f : Nat, numV u = .func (.func f) #[] #[] ∧ (∀ args w, (callFunc f args).run Try.prog w = .ok (.enter f args) w) ∧
    ∀ w : World, Calls Try.prog f #[spN s n] w fun e w' => e = .returned (.int .i64 (pQ s u n : Nat)) ∧ Below w.heap.size w w' := by
  rcases (by omega : u = 1 ∨ u = 2 ∨ u = 3 ∨ u = 4) with rfl | rfl | rfl | rfl
  · exact ⟨_, rfl, enters_of Try.func50 (by kernel_rfl) rfl, fun w => number1_in _ _ _ _ _ _ w⟩
  · exact ⟨_, rfl, enters_of Try.func51 (by kernel_rfl) rfl, fun w => number2_in _ _ _ _ _ _ w⟩
  · exact ⟨_, rfl, enters_of Try.func52 (by kernel_rfl) rfl, fun w => number3_in _ _ _ _ _ _ w⟩
  · exact ⟨_, rfl, enters_of Try.func53 (by kernel_rfl) rfl, fun w => number4_in _ _ _ _ _ _ w⟩

set_option maxRecDepth 100000 in
set_option maxHeartbeats 2000000 in
/-- Len of a known unit -/
theorem len_known (s : ByteArray) (p : Nat) (u : Int) (w : World) (hs : s.size ≤ 1000000) (hm : MapAt s p w) (hu : 1 ≤ u ∧ u ≤ 4) :
    Calls Try.prog 14 #[.pointer (some ⟨p, 0, none⟩), .int .i64 u] w fun e w' => e = .returned (.tuple #[.int .i64 (pQ s u (pN s) : Nat), .int .i64 0]) ∧ Below w.heap.size w w' := by
  obtain ⟨f, hf, he, hc⟩ := num_in s (pN s) u hu
  have hnum := fun w => hide (numberOf_in u w)
  rw [hf] at hnum
  have heq := fun w => run_eql_func_nil w 68 (.func f) #[] #[] Try.underlying68
  have hend := fun w' h => hide (end_in s p w' hs (hm.below h))
  obtain ⟨q, hq⟩ : ∃ q : Nat, pQ s u (pN s) = q := ⟨_, rfl⟩
  obtain ⟨v, hv⟩ : ∃ v, spN s (pN s) = v := ⟨_, rfl⟩
  rw [hq] at hc ⊢
  rw [hv] at hc hend
  have hc' := fun w => hide (hc w)
  clear hc hm hs
  go_enter Try.func14, Try.ntmps14
  go_wp2_with (first | (go_at_call 31; refine (unhide (hnum _)).mono ?_; rintro e w1 ⟨rfl, hb1⟩) | (go_at_call 33; refine (unhide (hend _ hb1)).mono ?_; rintro e w2 ⟨rfl, hb2⟩))
  refine (unhide (hc' _)).mono ?_
  rintro e w3 ⟨rfl, hb3⟩
  go_wp2
  go_ret2
  exact ⟨rfl, bnext (bnext hb1 hb2) hb3⟩
set_option maxRecDepth 100000 in
set_option maxHeartbeats 2000000 in
/-- Len of no unit -/
theorem len_none (a : Option Addr) (u : Int) (w : World) (hu : a = none ∨ ¬ (1 ≤ u ∧ u ≤ 4)) :
    Calls Try.prog 14 #[.pointer a, .int .i64 u] w fun e w' => e = .returned (.tuple #[.int .i64 0, .int .i64 1]) ∧ Below w.heap.size w w' := by
  cases a with
  | none =>
    have hnum := fun w => hide (numberOf_in u w)
    go_enter Try.func14, Try.ntmps14
    go_wp2_with (go_at_call 31; refine (unhide (hnum _)).mono ?_; rintro e w1 ⟨rfl, hb1⟩)
    go_ret2
    exact ⟨rfl, hb1⟩
  | some b =>
    have hn : numV u = .nilFunc := by
      have h : ¬ (1 ≤ u ∧ u ≤ 4) := by rcases hu with h | h; cases h; exact h
      unfold numV
      rw [if_neg (by omega), if_neg (by omega), if_neg (by omega), if_neg (by omega)]
    have hnum := fun w => hide (numberOf_in u w)
    rw [hn] at hnum
    clear hu
    have hnn := eql_nil_nil
    go_enter Try.func14, Try.ntmps14
    go_wp2_with (go_at_call 31; refine (unhide (hnum _)).mono ?_; rintro e w1 ⟨rfl, hb1⟩)
    go_ret2
    exact ⟨rfl, hb1⟩

set_option maxRecDepth 100000 in
set_option maxHeartbeats 2000000 in
/-- Lines -/
theorem lines_in (s : ByteArray) (p : Nat) (w : World) (hs : s.size ≤ 1000000) (hm : MapAt s p w) :
    Calls Try.prog 16 #[.pointer (some ⟨p, 0, none⟩)] w fun e w' => e = .returned (.int .i64 (pL s (pN s) : Nat)) ∧ Below w.heap.size w w' := by
  have hend := hide (end_in s p w hs hm)
  rw [show spN s (pN s) = .agg #[.int .i64 (pB s (pN s) : Nat), .int .i64 (pN s : Nat), .int .i64 (pU s (pN s) : Nat), .int .i64 (pC s (pN s) : Nat), .int .i64 (pL s (pN s) : Nat), .int .i64 (pK s (pN s) : Nat)] from rfl] at hend
  generalize pB s (pN s) = b at hend
  generalize pU s (pN s) = b2 at hend
  generalize pC s (pN s) = b3 at hend
  generalize pL s (pN s) = b4 at hend ⊢
  generalize pK s (pN s) = b5 at hend
  generalize pN s = b1 at hend
  clear hm hs
  have hfl := field_line
  go_enter Try.func16, Try.ntmps16
  go_wp2_with (go_at_call 33; refine (unhide hend).mono ?_; rintro e w2 ⟨rfl, hb2⟩)
  go_ret
  exact ⟨rfl, hb2⟩
set_option maxRecDepth 100000 in
set_option maxHeartbeats 2000000 in
theorem lines_none (w : World) : Calls Try.prog 16 #[.pointer none] w fun e w' => e = .returned (.int .i64 0) ∧ Below w.heap.size w w' := by
  go_enter Try.func16, Try.ntmps16
  go_wp2
  go_ret
  exact ⟨rfl, Below.refl _ _⟩

end Go.Proofs.Ytiakhpfljjfaeaa

/-
  What sort.Search finds, and the first place of which something holds.
-/
set_option linter.unusedSimpArgs false
set_option linter.unusedVariables false
namespace Go.Proofs.Ytiakhpfljjfaeaa
open Go.RowKit Go.Lib

set_option maxRecDepth 100000 in
set_option maxHeartbeats 2000000 in
theorem search_in (n k g : Nat) (cb : Array Value) (p : Nat → Bool) (w : World) (hn : n < 1000000000) (he : ∀ args w, (callFunc g args).run Try.prog w = .ok (.enter g args) w)
    (hf : ∀ i W, i < n → Below w.heap.size w W → Calls Try.prog g (#[.int .i64 (i : Nat)] ++ cb) W fun e W' => e = .returned (.bool (p i)) ∧ Below W.heap.size W W')
    (hk : k ≤ n) (h1 : ∀ i, i < k → p i = false) (h2 : ∀ i, k ≤ i → i < n → p i = true) :
    Calls Try.prog 46 #[.int .i64 (n : Nat), .func (.func g) #[] cb] w fun e W' => e = .returned (.int .i64 (k : Nat)) ∧ Below w.heap.size w W' := by
  have h1' := hide h1
  have h2' := hide h2
  have hf' := hide hf
  clear h1 h2 hf
  go_enter Try.func46, Try.ntmps46
  go_wp2
  go_loopw [5, 6] (fun iv jv wr => ∃ lo hi : Nat, iv = .int .i64 (lo : Nat) ∧ jv = .int .i64 (hi : Nat) ∧ lo ≤ k ∧ k ≤ hi ∧ hi ≤ n ∧ Below w.heap.size w wr) (fun iv jv _ => (RowKit.intOf jv).toNat - (RowKit.intOf iv).toNat)
  case atStart => exact ⟨0, n, rfl, rfl, by omega, hk, by omega, Below.refl _ _⟩
  case round =>
    obtain ⟨lo, hi, rfl, rfl, hlo, hhi, hhn, hB⟩ := hrel
    by_cases hlt : lo < hi
    · go_wp2
      obtain ⟨m, hm⟩ : ∃ m : Nat, ((lo : Int) + (hi : Int)) / 2 = (m : Nat) := ⟨(lo + hi) / 2, by omega⟩
      rw [hm]
      have m1 : lo ≤ m ∧ m < hi := by omega
      refine (unhide hf' m wr (by omega) hB).mono ?_
      rintro e w1 ⟨rfl, hb1⟩
      cases hp : p m with
      | false =>
        have : m < k := by
          rcases Nat.lt_or_ge m k with h | h
          · exact h
          · rw [unhide h2' m h (by omega)] at hp; cases hp
        clear hp hm
        go_wp2
        go_roundw
        case rel => exact ⟨m + 1, hi, by simp, rfl, by omega, hhi, hhn, hB.trans (hb1.mono hB.size)⟩
        case measure => simp [RowKit.intOf]; omega
      | true =>
        have : k ≤ m := by
          rcases Nat.lt_or_ge m k with h | h
          · rw [unhide h1' m h] at hp; cases hp
          · exact h
        clear hp hm
        go_wp2
        go_roundw
        case rel => exact ⟨lo, m, rfl, rfl, hlo, this, by omega, hB.trans (hb1.mono hB.size)⟩
        case measure => simp [RowKit.intOf]; omega
    · have : lo = k := by omega
      subst this
      go_wp2
      go_ret
      exact ⟨rfl, hB⟩

theorem step_clo {P : Program} {o : Oper} {ρ : Operand → Value} {w : World} {R : Value → World → Prop} (x : Operand) (g : FuncId) (cb : Array Value) (xs : Array Operand) (ts : Array TypeId) (args : Array Value) (hop : o.op = .call { callee := .value x, args := xs, argTypes := ts }) (hx : ρ x = .func (.func g) #[] cb) (he : ∀ args w, (callFunc g args).run P w = .ok (.enter g args) w) (ha : xs.map ρ = args) (hc : Calls P g (args ++ cb) w fun e w'' => ∃ v, e = .returned v ∧ R v w'') : StepOK P o ρ w R :=
  .inr ⟨g, args ++ cb, w, by
    unfold execOp
    rw [hop]
    simp [resolve, hx, Deferred.ofValue, invoke, he, ha], hc⟩

set_option maxRecDepth 100000 in
set_option maxHeartbeats 2000000 in
/-- the function that first hands to sort.Search -/
theorem first1_in (s : ByteArray) (p n g bH bM : Nat) (cb : Array Value) (b : Bool) (w : World) (hs : s.size ≤ 1000000) (hm : MapAt s p w) (hn : n ≤ pN s)
    (he : ∀ args w, (callFunc g args).run Try.prog w = .ok (.enter g args) w)
    (hH : Boxed w bH 62 (.func (.func g) #[] cb)) (hM : Boxed w bM 23 (.pointer (some ⟨p, 0, none⟩)))
    (hf : ∀ W, Below w.heap.size w W → Calls Try.prog g (#[spN s n] ++ cb) W fun e W' => e = .returned (.bool b) ∧ Below W.heap.size W W') :
    Calls Try.prog 47 #[.int .i64 (n : Nat), .pointer (some ⟨bH, 0, none⟩), .pointer (some ⟨bM, 0, none⟩)] w fun e W' => e = .returned (.bool b) ∧ Below w.heap.size w W' := by
  go_enter Try.func47, Try.ntmps47
  go_wp2_with fail
  refine wp_region_any (by kernel_rfl) ?_
  change wpAny _ _ _ _ _ _ _ (World.drew _)
  refine region_inv 10 (fun j => if j = 5 then 4 else 5 + j) [(0, .int .i64 (n : Nat)), (1, .pointer (some ⟨bH, 0, none⟩)), (2, .pointer (some ⟨bM, 0, none⟩))]
    (fun W => Below w.heap.size w W)
    (valsOf [isV (.func (.func g) #[] cb), isV (.pointer (some ⟨p, 0, none⟩)), isV (.int .i64 (n : Nat)), isV (spN s n), isV (.bool b), isV (.bool b)])
    (fun w w' => Below w.heap.size w w') ?fit (fun w1 w2 h hG => h.trans (hG.mono h.size)) (valsOf_stable ?stable) [] ?gs ?gv ?steps ?fin _ _ ?sz rfl ?base ?start
  case fit => kernel_rfl
  case sz => rfl
  case gs => kernel_rfl
  case gv => intro p hp w v hv; cases hp
  case base => intro p hp; simp at hp; rcases hp with rfl | rfl | rfl <;> rfl
  case stable => exact Stables.all (by repeat (first | exact .nil | refine .same ?_))
  case start => exact (Below.refl _ _).drew
  case steps =>
    refine .cons (fun ρ w1 hρ hJ hb hd => by
      have e1 := hb (1, _) (List.mem_of_getElem? (i := 1) rfl)
      have c1 := (boxed_below hH hJ).cell
      exact step_val (v := .func (.func g) #[] cb) (w' := w1) (by simp [go_sem, execOp, e1, c1]) ⟨Below.refl _ _, rfl⟩) ?_
    refine .cons (fun ρ w1 hρ hJ hb hd => by
      have e1 := hb (2, _) (List.mem_of_getElem? (i := 2) rfl)
      have c1 := (boxed_below hM hJ).cell
      exact step_val (v := .pointer (some ⟨p, 0, none⟩)) (w' := w1) (by simp [go_sem, execOp, e1, c1]) ⟨Below.refl _ _, rfl⟩) ?_
    refine .cons (fun ρ w1 hρ hJ hb hd => step_move (.tmp 0) rfl ⟨Below.refl _ _, hb (0, _) (.head _)⟩) ?_
    refine .cons (fun ρ w1 hρ hJ hb hd => by
      have d1 : ρ (.tmp 6) = .pointer (some ⟨p, 0, none⟩) := hd 0 _ rfl rfl
      have d2 : ρ (.tmp 7) = .int .i64 (n : Nat) := hd 1 _ rfl rfl
      refine step_func 18 _ _ #[.pointer (some ⟨p, 0, none⟩), .int .i64 (n : Nat)] hρ rfl (enters_of Try.func18 (by kernel_rfl) rfl) (by simp [d1, d2]) ((spot_in s p n w1 hs (hm.below hJ) hn).mono ?_)
      rintro e w2 ⟨rfl, hb2⟩
      exact ⟨_, rfl, hb2, rfl⟩) ?_
    refine .cons (fun ρ w1 hρ hJ hb hd => by
      have d1 : ρ (.tmp 5) = .func (.func g) #[] cb := hd 0 _ rfl rfl
      have d2 : ρ (.tmp 8) = spN s n := hd 1 _ rfl rfl
      refine step_clo (.tmp 5) g cb _ _ #[spN s n] rfl d1 he (by simp [d2]) ((hf w1 hJ).mono ?_)
      rintro e w2 ⟨rfl, hb2⟩
      exact ⟨_, rfl, hb2, rfl⟩) ?_
    refine .cons (fun ρ w1 hρ hJ hb hd => step_assign (.tmp 9) rfl ⟨Below.refl _ _, (hd 0 _ rfl rfl : ρ (.tmp 9) = .bool b)⟩) (.nil _)
  case fin =>
    intro a W hsz hds hJ hv
    have h4 : a.eval (.tmp 4) = .bool b := hv 5 (by decide)
    clear hv
    go_wp2
    refine bodyPost_ret (v := .bool b) ?_ hds ⟨rfl, hJ⟩
    have h4s := eval_some (a := a) (t := 4) (by omega)
    rw [h4] at h4s
    simp [results, Try.f47, h4s]

set_option maxRecDepth 100000 in
set_option maxHeartbeats 2000000 in
/-- the first place of which something holds that holds of all further ones -/
theorem first_yes (s : ByteArray) (p k g : Nat) (cb : Array Value) (pr : Nat → Bool) (w : World) (hs : s.size ≤ 1000000) (hm : MapAt s p w)
    (he : ∀ args w, (callFunc g args).run Try.prog w = .ok (.enter g args) w)
    (hf : ∀ i W, i ≤ pN s → Below w.heap.size w W → Calls Try.prog g (#[spN s i] ++ cb) W fun e W' => e = .returned (.bool (pr i)) ∧ Below W.heap.size W W')
    (hk : k ≤ pN s) (h1 : ∀ i, i < k → pr i = false) (h2 : ∀ i, k ≤ i → i < pN s + 1 → pr i = true) :
    Calls Try.prog 27 #[.pointer (some ⟨p, 0, none⟩), .func (.func g) #[] cb] w fun e W' => e = .returned (.tuple #[spN s k, .bool true]) ∧ Below w.heap.size w W' := by
  have hN := pN_le s
  obtain ⟨a, cap, hc⟩ := hm.slice
  have hB : ∀ A B C : Obj, Below w.heap.size w (((w.alloc A).alloc B).alloc C) := fun A B C => (((Below.refl _ w).alloc (Nat.le_refl _) _).alloc (by simp) _).alloc (by simp; omega) _
  have hc3 : ∀ A B C : Obj, (((w.alloc A).alloc B).alloc C).cell? ⟨p, 1, none⟩ = some (.slice a (pN s) cap) := fun A B C => cell_below hc (hB A B C)
  have Hs := hide hs
  have Hm := hide hm
  have Hf := hide hf
  have H1 := hide h1
  have H2 := hide h2
  have Hc := hide hc
  have HB := hide hB
  clear hm hf h1 h2 hc hB
  obtain ⟨L, hL⟩ : ∃ L, pN s = L := ⟨_, rfl⟩
  rw [hL] at hc3 hk hN
  have HL := hide hL
  have hLs : L ≤ 1000000 := by omega
  clear hL hs
  obtain ⟨v0, v1, v2, v3, v4, v5, hv⟩ := spN_form s k
  rw [hv]
  have Hv := hide hv
  clear hv
  go_enter Try.func27, Try.ntmps27
  go_wp2_with fail
  clear hc3
  have hB3 := unhide HB (.cells #[.pointer (some ⟨p, 0, none⟩)] 23) (.cells #[.func (.func g) #[] cb] 62) (.cells #[.int .i64 0, .int .i64 0, .int .i64 0, .int .i64 0, .int .i64 0, .int .i64 0] 29)
  have bM := ((Boxed.new w 23 (.pointer (some ⟨p, 0, none⟩))).alloc (.cells #[.func (.func g) #[] cb] 62)).alloc (.cells #[.int .i64 0, .int .i64 0, .int .i64 0, .int .i64 0, .int .i64 0, .int .i64 0] 29)
  have bH := (Boxed.new (w.alloc (.cells #[.pointer (some ⟨p, 0, none⟩)] 23)) 62 (.func (.func g) #[] cb)).alloc (.cells #[.int .i64 0, .int .i64 0, .int .i64 0, .int .i64 0, .int .i64 0, .int .i64 0] 29)
  have b6 := Box6.new ((w.alloc (.cells #[.pointer (some ⟨p, 0, none⟩)] 23)).alloc (.cells #[.func (.func g) #[] cb] 62)) (.int .i64 0) (.int .i64 0) (.int .i64 0) (.int .i64 0) (.int .i64 0) (.int .i64 0)
  simp only [World.size_alloc] at bH b6
  generalize (((w.alloc (.cells #[.pointer (some ⟨p, 0, none⟩)] 23)).alloc (.cells #[.func (.func g) #[] cb] 62)).alloc (.cells #[.int .i64 0, .int .i64 0, .int .i64 0, .int .i64 0, .int .i64 0, .int .i64 0] 29)) = W3 at hB3 bM bH b6 ⊢
  have hS := search_in (L + 1) k 47 #[.pointer (some ⟨w.heap.size + 1, 0, none⟩), .pointer (some ⟨w.heap.size, 0, none⟩)] pr W3 (by omega) (enters_of Try.func47 (by kernel_rfl) rfl)
    (fun i W hi hW => first1_in s p i g _ _ cb (pr i) W (unhide Hs) ((unhide Hm).below (bnext hB3 hW)) (by have := unhide HL; omega) he (boxed_below bH hW) (boxed_below bM hW) (fun W' hW' => unhide Hf i W' (by have := unhide HL; omega) (bnext (bnext hB3 hW) hW')))
    (by omega) (unhide H1) (fun i a b => unhide H2 i a (by rw [unhide HL]; exact b))
  rw [show (((L + 1 : Nat)) : Int) = (L : Int) + 1 by simp] at hS
  refine hS.mono ?_
  rintro e w1 ⟨rfl, hb1⟩
  have q1 : ¬ ((k : Int) = (L : Int) + 1) := by omega
  have hB1 := bnext hB3 hb1
  have c1 := (boxed_below bM hb1).cell
  have hsp := hide ((spot_in s p k w1 (unhide Hs) ((unhide Hm).below hB1) (by have := unhide HL; omega)))
  rw [unhide Hv] at hsp
  have b61 := b6.below hb1
  clear Hv hS hb1 hB3 bM bH b6 H1 H2 Hf Hm Hs HB Hc
  go_wp2_with (go_at_call 18; refine (unhide hsp).mono ?_; rintro e w2 ⟨rfl, hb2⟩; obtain ⟨c0, c1, c2, c3, c4, c5, f0, f1, f2, f3, f4, f5⟩ := (b61.below hb2).facts)
  refine bodyPost_ret (v := .tuple #[.agg #[.int .i64 (v0 : Nat), .int .i64 (v1 : Nat), .int .i64 (v2 : Nat), .int .i64 (v3 : Nat), .int .i64 (v4 : Nat), .int .i64 (v5 : Nat)], .bool true]) ?_ rfl ⟨rfl, ?_⟩
  · simp [results, Try.f27, go_sem, *]
  · exact bset6 (bnext hB1 hb2) (by omega) _ _ _ _ _ _

end Go.Proofs.Ytiakhpfljjfaeaa

/-
  Where nothing is found.
-/
set_option linter.unusedSimpArgs false
set_option linter.unusedVariables false
namespace Go.Proofs.Ytiakhpfljjfaeaa
open Go.RowKit Go.Lib

set_option maxRecDepth 100000 in
set_option maxHeartbeats 2000000 in
/-- it holds of none -/
theorem first_no (s : ByteArray) (p g : Nat) (cb : Array Value) (pr : Nat → Bool) (w : World) (hs : s.size ≤ 1000000) (hm : MapAt s p w)
    (he : ∀ args w, (callFunc g args).run Try.prog w = .ok (.enter g args) w)
    (hf : ∀ i W, i ≤ pN s → Below w.heap.size w W → Calls Try.prog g (#[spN s i] ++ cb) W fun e W' => e = .returned (.bool (pr i)) ∧ Below W.heap.size W W')
    (h1 : ∀ i, i < pN s + 1 → pr i = false) :
    Calls Try.prog 27 #[.pointer (some ⟨p, 0, none⟩), .func (.func g) #[] cb] w fun e W' => e = .returned (.tuple #[.agg #[.int .i64 0, .int .i64 0, .int .i64 0, .int .i64 0, .int .i64 0, .int .i64 0], .bool false]) ∧ Below w.heap.size w W' := by
  have hN := pN_le s
  obtain ⟨a, cap, hc⟩ := hm.slice
  have hB : ∀ A B C : Obj, Below w.heap.size w (((w.alloc A).alloc B).alloc C) := fun A B C => (((Below.refl _ w).alloc (Nat.le_refl _) _).alloc (by simp) _).alloc (by simp; omega) _
  have hc3 : ∀ A B C : Obj, (((w.alloc A).alloc B).alloc C).cell? ⟨p, 1, none⟩ = some (.slice a (pN s) cap) := fun A B C => cell_below hc (hB A B C)
  have Hs := hide hs
  have Hm := hide hm
  have Hf := hide hf
  have H1 := hide h1
  have Hc := hide hc
  have HB := hide hB
  clear hm hf h1 hc hB
  obtain ⟨L, hL⟩ : ∃ L, pN s = L := ⟨_, rfl⟩
  rw [hL] at hc3 hN
  have HL := hide hL
  have hLs : L ≤ 1000000 := by omega
  clear hL hs
  go_enter Try.func27, Try.ntmps27
  go_wp2_with fail
  clear hc3
  have hB3 := unhide HB (.cells #[.pointer (some ⟨p, 0, none⟩)] 23) (.cells #[.func (.func g) #[] cb] 62) (.cells #[.int .i64 0, .int .i64 0, .int .i64 0, .int .i64 0, .int .i64 0, .int .i64 0] 29)
  have bM := ((Boxed.new w 23 (.pointer (some ⟨p, 0, none⟩))).alloc (.cells #[.func (.func g) #[] cb] 62)).alloc (.cells #[.int .i64 0, .int .i64 0, .int .i64 0, .int .i64 0, .int .i64 0, .int .i64 0] 29)
  have bH := (Boxed.new (w.alloc (.cells #[.pointer (some ⟨p, 0, none⟩)] 23)) 62 (.func (.func g) #[] cb)).alloc (.cells #[.int .i64 0, .int .i64 0, .int .i64 0, .int .i64 0, .int .i64 0, .int .i64 0] 29)
  have b6 := Box6.new ((w.alloc (.cells #[.pointer (some ⟨p, 0, none⟩)] 23)).alloc (.cells #[.func (.func g) #[] cb] 62)) (.int .i64 0) (.int .i64 0) (.int .i64 0) (.int .i64 0) (.int .i64 0) (.int .i64 0)
  simp only [World.size_alloc] at bH b6
  generalize (((w.alloc (.cells #[.pointer (some ⟨p, 0, none⟩)] 23)).alloc (.cells #[.func (.func g) #[] cb] 62)).alloc (.cells #[.int .i64 0, .int .i64 0, .int .i64 0, .int .i64 0, .int .i64 0, .int .i64 0] 29)) = W3 at hB3 bM bH b6 ⊢
  have hS := search_in (L + 1) (L + 1) 47 #[.pointer (some ⟨w.heap.size + 1, 0, none⟩), .pointer (some ⟨w.heap.size, 0, none⟩)] pr W3 (by omega) (enters_of Try.func47 (by kernel_rfl) rfl)
    (fun i W hi hW => first1_in s p i g _ _ cb (pr i) W (unhide Hs) ((unhide Hm).below (bnext hB3 hW)) (by have := unhide HL; omega) he (boxed_below bH hW) (boxed_below bM hW) (fun W' hW' => unhide Hf i W' (by have := unhide HL; omega) (bnext (bnext hB3 hW) hW')))
    (by omega) (fun i hi => unhide H1 i (by rw [unhide HL]; exact hi)) (fun i a b => by omega)
  rw [show (((L + 1 : Nat)) : Int) = (L : Int) + 1 by simp] at hS
  refine hS.mono ?_
  rintro e w1 ⟨rfl, hb1⟩
  have hB1 := bnext hB3 hb1
  have b61 := b6.below hb1
  obtain ⟨c0, c1, c2, c3, c4, c5, f0, f1, f2, f3, f4, f5⟩ := b61.facts
  clear hS hb1 hB3 bM bH b6 H1 Hf Hm Hs HB Hc
  go_wp2
  refine bodyPost_ret (v := .tuple #[.agg #[.int .i64 0, .int .i64 0, .int .i64 0, .int .i64 0, .int .i64 0, .int .i64 0], .bool false]) ?_ rfl ⟨rfl, ?_⟩
  · simp [results, Try.f27, go_sem, *]
  · exact bset6 hB1 (by omega) _ _ _ _ _ _

end Go.Proofs.Ytiakhpfljjfaeaa
