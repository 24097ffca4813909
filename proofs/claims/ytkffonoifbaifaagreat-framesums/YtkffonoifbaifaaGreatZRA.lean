/-
  Pure: words of sites, their lists and counts; what Join, Leave and Load make of them.
-/
import Derived.Test.YtkffonoifbaifaaGreatZW0
set_option linter.unusedSimpArgs false
set_option linter.unusedVariables false
namespace Go.Proofs.YtkffonoifbaifaaGreat
open Go.RowKit Go.Lib

abbrev Wd := BitVec 32
/-- a word as a number -/
def uI (J : Wd) : Int := ((J.toNat : Nat) : Int)
theorem uI_inj {J L : Wd} (h : uI J = uI L) : J = L := by
  unfold uI at h
  exact BitVec.eq_of_toNat_eq (by omega)
theorem uI_zero : uI 0#32 = 0 := rfl
theorem uI_ofInt (J : Wd) : BitVec.ofInt 32 (uI J) = J := by unfold uI; simp
theorem uI_wrap (J : Wd) : IntKind.u32.wrap ((J.toNat : Nat) : Int) = uI J := by
  have h := J.isLt
  unfold uI IntKind.wrap IntKind.bits IntKind.signed
  simp only [Bool.false_and, if_false]
  exact Int.emod_eq_of_lt (by omega) (by omega)
theorem u_and (J L : Wd) : bits .and .u32 (uI J) (uI L) = uI (J &&& L) := by
  show IntKind.u32.wrap ((BitVec.ofInt 32 (uI J) &&& BitVec.ofInt 32 (uI L)).toNat : Int) = _
  rw [uI_ofInt, uI_ofInt, uI_wrap]
theorem u_or (J L : Wd) : bits .or .u32 (uI J) (uI L) = uI (J ||| L) := by
  show IntKind.u32.wrap ((BitVec.ofInt 32 (uI J) ||| BitVec.ofInt 32 (uI L)).toNat : Int) = _
  rw [uI_ofInt, uI_ofInt, uI_wrap]
def memW (J L : Wd) : Wd := J &&& ~~~L
theorem u_andNot (J L : Wd) : bits .andNot .u32 (uI J) (uI L) = uI (memW J L) := by
  show IntKind.u32.wrap ((BitVec.ofInt 32 (uI J) &&& ~~~BitVec.ofInt 32 (uI L)).toNat : Int) = _
  rw [uI_ofInt, uI_ofInt, uI_wrap]; rfl
theorem wd_ext {J L : Wd} (h : ∀ i, J.getLsbD i = L.getLsbD i) : J = L := BitVec.eq_of_getLsbD_eq (fun i _ => h i)

def siteB (x : Int) : Bool := decide (1 ≤ x ∧ x ≤ 16)
/-- a site's bit -/
def bitW (x : Int) : Wd := if siteB x then BitVec.twoPow 32 x.toNat else 0#32
theorem siteB_iff {x : Int} : siteB x = true ↔ 1 ≤ x ∧ x ≤ 16 := by simp [siteB]
theorem bitW_at (x : Int) (i : Nat) : (bitW x).getLsbD i = (siteB x && decide (i = x.toNat)) := by
  unfold bitW
  by_cases h : siteB x = true
  · have := siteB_iff.1 h
    rw [if_pos h, h, BitVec.getLsbD_twoPow]
    have h2 : x.toNat < 32 := by omega
    simp [h2]
    exact ⟨fun e => e.symm, fun e => e.symm⟩
  · simp [h]
theorem bitW_no {x : Int} (h : siteB x = false) : bitW x = 0#32 := by unfold bitW; simp [h]
theorem memW_at (J L : Wd) (i : Nat) : (memW J L).getLsbD i = (J.getLsbD i && !L.getLsbD i) := by
  unfold memW
  by_cases h : i < 32
  · simp [h]
  · have := BitVec.getLsbD_of_ge J i (by omega)
    simp [this]
/-- is a bit of a word that of a site? -/
theorem and_bit (m : Wd) (x : Int) : (uI (m &&& bitW x) != 0) = (siteB x && m.getLsbD x.toNat) := by
  rw [Bool.eq_iff_iff]
  constructor
  · intro h
    have h0 : m &&& bitW x ≠ 0#32 := fun e => by rw [e] at h; exact absurd h (by decide)
    by_cases hs : siteB x = true
    · rw [hs, Bool.true_and]
      by_cases hm : m.getLsbD x.toNat = true
      · exact hm
      · exfalso
        apply h0
        apply wd_ext
        intro i
        rw [BitVec.getLsbD_and, bitW_at]
        by_cases e : i = x.toNat
        · subst e; simp [hm]
        · simp [e]
    · exfalso
      apply h0
      rw [bitW_no (by simpa using hs)]
      simp
  · intro h
    rw [Bool.and_eq_true] at h
    rw [bne_iff_ne]
    intro e
    have e0 : m &&& bitW x = 0#32 := uI_inj (by rw [e]; rfl)
    have := congrArg (fun z => z.getLsbD x.toNat) e0
    simp [bitW_at, h.1, h.2] at this

/-- its sites, rising -/
def lsN (m : Wd) (k : Nat) : List Int := ((List.range' 1 k).filter (fun i => m.getLsbD i)).map (fun i => ((i : Nat) : Int))
def lsW (m : Wd) : List Int := lsN m 16
theorem lsN_zero (m : Wd) : lsN m 0 = [] := rfl
theorem lsN_succ (m : Wd) (k : Nat) : lsN m (k + 1) = lsN m k ++ (if m.getLsbD (k + 1) then [((k + 1 : Nat) : Int)] else []) := by
  unfold lsN
  rw [List.range'_1_concat, List.filter_append, List.map_append, Nat.add_comm 1 k]
  cases h : m.getLsbD (k + 1) <;> simp [h]
theorem lsN_len (m : Wd) (k : Nat) : (lsN m k).length ≤ k := by
  unfold lsN
  rw [List.length_map]
  exact Nat.le_trans (List.length_filter_le _ _) (by simp)
theorem lsW_len (m : Wd) : (lsW m).length ≤ 16 := lsN_len m 16
/-- how many -/
def cnt (m : Wd) : Nat := (lsW m).length
theorem cnt_eq (m : Wd) : cnt m = (List.range' 1 16).countP (fun i => m.getLsbD i) := by
  unfold cnt lsW lsN
  rw [List.length_map, List.countP_eq_length_filter]
theorem cnt_le (m : Wd) : cnt m ≤ 16 := lsW_len m
theorem countP_or {p : Nat → Bool} {n : Nat} (hn : p n = false) : ∀ l : List Nat, l.countP (fun i => p i || decide (i = n)) = l.countP p + l.count n
  | [] => rfl
  | a :: l => by
    rw [List.countP_cons, List.countP_cons, List.count_cons, countP_or hn l]
    by_cases h : a = n
    · subst h; simp [hn]; omega
    · simp [h]; omega
theorem count_rng {n : Nat} (h1 : 1 ≤ n) (h2 : n ≤ 16) : (List.range' 1 16).count n = 1 := by
  have : ∀ n, n < 17 → 1 ≤ n → (List.range' 1 16).count n = 1 := by decide
  exact this n (by omega) h1
theorem cnt_add {m m' : Wd} {n : Nat} (h1 : 1 ≤ n) (h2 : n ≤ 16) (h0 : m.getLsbD n = false) (h : ∀ i, m'.getLsbD i = (m.getLsbD i || decide (i = n))) : cnt m' = cnt m + 1 := by
  rw [cnt_eq, cnt_eq, show (fun i => m'.getLsbD i) = (fun i => m.getLsbD i || decide (i = n)) from funext h, countP_or h0, count_rng h1 h2]

/-- what a Roll keeps -/
structure St where
  j : Wd
  l : Wd
  e : Int
def St.m (s : St) : Wd := memW s.j s.l
def OkW (m : Wd) : Prop := ∀ i, m.getLsbD i = true → 1 ≤ i ∧ i ≤ 16
/-- what holds behind any calls -/
structure Gd (s : St) : Prop where
  oj : OkW s.j
  ol : OkW s.l
  ep : ∃ k : Nat, k ≤ cnt (s.j &&& s.l) ∧ s.e = (cnt s.m : Nat) + 2 * (k : Nat)
theorem Gd.ge {s : St} (h : Gd s) : 0 ≤ s.e := by obtain ⟨k, _, e⟩ := h.ep; omega
theorem Gd.le {s : St} (h : Gd s) : s.e ≤ 48 := by
  obtain ⟨k, hk, e⟩ := h.ep
  have := cnt_le (s.j &&& s.l)
  have := cnt_le s.m
  omega
def nilS : St := ⟨0#32, 0#32, 0⟩
theorem cnt_zero : cnt 0#32 = 0 := by decide
theorem Gd.nil : Gd nilS := ⟨fun i h => by simp [nilS] at h, fun i h => by simp [nilS] at h, 0, Nat.zero_le _, by show (0 : Int) = _; rw [show nilS.m = 0#32 by rfl, cnt_zero]; rfl⟩
def stp (s : St) (j l : Wd) : St := ⟨j, l, if memW j l = s.m then s.e else s.e + 1⟩
def stB (s : St) (j l : Wd) : Bool := !decide (memW j l = s.m)
def joS (s : St) (x : Int) : St := stp s (s.j ||| bitW x) s.l
def joB (s : St) (x : Int) : Bool := stB s (s.j ||| bitW x) s.l
def lvS (s : St) (x : Int) : St := stp s s.j (s.l ||| bitW x)
def lvB (s : St) (x : Int) : Bool := stB s s.j (s.l ||| bitW x)
theorem or_at (m : Wd) (x : Int) (i : Nat) : (m ||| bitW x).getLsbD i = (m.getLsbD i || (siteB x && decide (i = x.toNat))) := by rw [BitVec.getLsbD_or, bitW_at]
theorem OkW.or {m : Wd} (h : OkW m) (x : Int) : OkW (m ||| bitW x) := by
  intro i hi
  rw [or_at, Bool.or_eq_true] at hi
  rcases hi with hi | hi
  · exact h i hi
  · rw [Bool.and_eq_true] at hi
    have := siteB_iff.1 hi.1
    have := of_decide_eq_true hi.2
    omega
theorem or_same {m : Wd} {x : Int} (h : siteB x = true → m.getLsbD x.toNat = true) : m ||| bitW x = m := by
  apply wd_ext
  intro i
  rw [or_at]
  by_cases e : i = x.toNat
  · subst e
    cases hs : siteB x
    · simp
    · simp [h hs]
  · simp [e]
/-- who is a member -/
def hasB (s : St) (x : Int) : Bool := siteB x && s.j.getLsbD x.toNat && !s.l.getLsbD x.toNat
def knwB (s : St) (x : Int) : Bool := siteB x && (s.j.getLsbD x.toNat || s.l.getLsbD x.toNat)
theorem has_eq (s : St) (x : Int) : (uI (s.m &&& bitW x) != 0) = hasB s x := by
  rw [and_bit]; unfold St.m hasB; rw [memW_at, Bool.and_assoc]
theorem knw_eq (s : St) (x : Int) : (uI ((s.j ||| s.l) &&& bitW x) != 0) = knwB s x := by
  rw [and_bit]; unfold knwB; rw [BitVec.getLsbD_or]
/-- whether the members change is whether this one does -/
theorem jo_has (s : St) (x : Int) : joB s x = (hasB (joS s x) x != hasB s x) := by
  unfold joB stB hasB joS stp
  simp only []
  cases hs : siteB x
  · rw [bitW_no hs]; simp [St.m]
  · cases hj : s.j.getLsbD x.toNat
    · cases hl : s.l.getLsbD x.toNat
      · have : memW (s.j ||| bitW x) s.l ≠ s.m := fun e => by
          have := congrArg (fun z => z.getLsbD x.toNat) e
          unfold St.m at this
          simp [memW_at, bitW_at, hs, hj, hl] at this
        rw [decide_eq_false this, or_at, hs]
        simp [hj, hl]
      · have : memW (s.j ||| bitW x) s.l = s.m := wd_ext fun i => by
          unfold St.m
          rw [memW_at, memW_at, or_at]
          by_cases e : i = x.toNat
          · subst e; simp [hl]
          · simp [e]
        rw [decide_eq_true this]
        simp [hl]
    · rw [or_same (fun _ => hj)]
      simp [hj, St.m]
theorem lv_has (s : St) (x : Int) : lvB s x = (hasB (lvS s x) x != hasB s x) := by
  unfold lvB stB hasB lvS stp
  simp only []
  cases hs : siteB x
  · rw [bitW_no hs]; simp [St.m]
  · cases hl : s.l.getLsbD x.toNat
    · cases hj : s.j.getLsbD x.toNat
      · have : memW s.j (s.l ||| bitW x) = s.m := wd_ext fun i => by
          unfold St.m
          rw [memW_at, memW_at, or_at]
          by_cases e : i = x.toNat
          · subst e; simp [hj]
          · simp [e]
        rw [decide_eq_true this]
        simp [hj]
      · have : memW s.j (s.l ||| bitW x) ≠ s.m := fun e => by
          have := congrArg (fun z => z.getLsbD x.toNat) e
          unfold St.m at this
          simp [memW_at, bitW_at, hs, hj, hl] at this
        rw [decide_eq_false this, or_at, hs]
        simp [hj, hl]
    · rw [or_same (fun _ => hl)]
      simp [hl, St.m]
theorem jo_no {s : St} {x : Int} (h : siteB x = false) : joS s x = s ∧ joB s x = false := by
  unfold joS joB stp stB
  rw [bitW_no h, show s.j ||| 0#32 = s.j by simp]
  simp [St.m]
theorem lv_no {s : St} {x : Int} (h : siteB x = false) : lvS s x = s ∧ lvB s x = false := by
  unfold lvS lvB stp stB
  rw [bitW_no h, show s.l ||| 0#32 = s.l by simp]
  simp [St.m]
theorem Gd.jo {s : St} (h : Gd s) (x : Int) : Gd (joS s x) := by
  by_cases hs : siteB x = true
  · have hb := siteB_iff.1 hs
    by_cases hj : s.j.getLsbD x.toNat = true
    · have e : joS s x = s := by unfold joS stp; rw [or_same (fun _ => hj)]; simp [St.m]
      rw [e]; exact h
    · have hj' : s.j.getLsbD x.toNat = false := by simpa using hj
      refine ⟨h.oj.or x, h.ol, ?_⟩
      obtain ⟨k, hk, he⟩ := h.ep
      cases hl : s.l.getLsbD x.toNat
      · have e1 : cnt (memW (s.j ||| bitW x) s.l) = cnt s.m + 1 := cnt_add (n := x.toNat) (by omega) (by omega) (by unfold St.m; rw [memW_at, hj']; rfl) (fun i => by
          unfold St.m
          rw [memW_at, memW_at, or_at, hs]
          by_cases e : i = x.toNat
          · subst e; simp [hl]
          · simp [e])
        have e2 : (s.j ||| bitW x) &&& s.l = s.j &&& s.l := wd_ext fun i => by
          rw [BitVec.getLsbD_and, BitVec.getLsbD_and, or_at]
          by_cases e : i = x.toNat
          · subst e; simp [hl]
          · simp [e]
        have e3 : memW (s.j ||| bitW x) s.l ≠ s.m := fun e => by rw [e] at e1; omega
        refine ⟨k, by show k ≤ cnt ((s.j ||| bitW x) &&& s.l); rw [e2]; exact hk, ?_⟩
        show (if memW (s.j ||| bitW x) s.l = s.m then s.e else s.e + 1) = ((cnt (memW (s.j ||| bitW x) s.l) : Nat) : Int) + _
        rw [if_neg e3, e1]; omega
      · have e1 : memW (s.j ||| bitW x) s.l = s.m := wd_ext fun i => by
          unfold St.m
          rw [memW_at, memW_at, or_at]
          by_cases e : i = x.toNat
          · subst e; simp [hl]
          · simp [e]
        have e2 : cnt ((s.j ||| bitW x) &&& s.l) = cnt (s.j &&& s.l) + 1 := cnt_add (n := x.toNat) (by omega) (by omega) (by rw [BitVec.getLsbD_and, hj']; rfl) (fun i => by
          rw [BitVec.getLsbD_and, BitVec.getLsbD_and, or_at, hs]
          by_cases e : i = x.toNat
          · subst e; simp [hl]
          · simp [e])
        refine ⟨k, by show k ≤ cnt ((s.j ||| bitW x) &&& s.l); omega, ?_⟩
        show (if memW (s.j ||| bitW x) s.l = s.m then s.e else s.e + 1) = ((cnt (memW (s.j ||| bitW x) s.l) : Nat) : Int) + _
        rw [if_pos e1, e1]; exact he
  · rw [(jo_no (s := s) (by simpa using hs)).1]; exact h
theorem Gd.lv {s : St} (h : Gd s) (x : Int) : Gd (lvS s x) := by
  by_cases hs : siteB x = true
  · have hb := siteB_iff.1 hs
    by_cases hl : s.l.getLsbD x.toNat = true
    · have e : lvS s x = s := by unfold lvS stp; rw [or_same (fun _ => hl)]; simp [St.m]
      rw [e]; exact h
    · have hl' : s.l.getLsbD x.toNat = false := by simpa using hl
      refine ⟨h.oj, h.ol.or x, ?_⟩
      obtain ⟨k, hk, he⟩ := h.ep
      cases hj : s.j.getLsbD x.toNat
      · have e1 : memW s.j (s.l ||| bitW x) = s.m := wd_ext fun i => by
          unfold St.m
          rw [memW_at, memW_at, or_at]
          by_cases e : i = x.toNat
          · subst e; simp [hj]
          · simp [e]
        have e2 : s.j &&& (s.l ||| bitW x) = s.j &&& s.l := wd_ext fun i => by
          rw [BitVec.getLsbD_and, BitVec.getLsbD_and, or_at]
          by_cases e : i = x.toNat
          · subst e; simp [hj]
          · simp [e]
        refine ⟨k, by show k ≤ cnt (s.j &&& (s.l ||| bitW x)); rw [e2]; exact hk, ?_⟩
        show (if memW s.j (s.l ||| bitW x) = s.m then s.e else s.e + 1) = ((cnt (memW s.j (s.l ||| bitW x)) : Nat) : Int) + _
        rw [if_pos e1, e1]; exact he
      · have e1 : cnt s.m = cnt (memW s.j (s.l ||| bitW x)) + 1 := cnt_add (n := x.toNat) (by omega) (by omega) (by rw [memW_at, or_at, hs]; simp) (fun i => by
          unfold St.m
          rw [memW_at, memW_at, or_at, hs]
          by_cases e : i = x.toNat
          · subst e; simp [hl', hj]
          · simp [e])
        have e2 : cnt (s.j &&& (s.l ||| bitW x)) = cnt (s.j &&& s.l) + 1 := cnt_add (n := x.toNat) (by omega) (by omega) (by rw [BitVec.getLsbD_and, hl']; simp) (fun i => by
          rw [BitVec.getLsbD_and, BitVec.getLsbD_and, or_at, hs]
          by_cases e : i = x.toNat
          · subst e; simp [hj]
          · simp [e])
        have e3 : memW s.j (s.l ||| bitW x) ≠ s.m := fun e => by rw [e] at e1; omega
        refine ⟨k + 1, by show k + 1 ≤ cnt (s.j &&& (s.l ||| bitW x)); omega, ?_⟩
        show (if memW s.j (s.l ||| bitW x) = s.m then s.e else s.e + 1) = ((cnt (memW s.j (s.l ||| bitW x)) : Nat) : Int) + _
        rw [if_neg e3]; omega
  · rw [(lv_no (s := s) (by simpa using hs)).1]; exact h

end Go.Proofs.YtkffonoifbaifaaGreat
