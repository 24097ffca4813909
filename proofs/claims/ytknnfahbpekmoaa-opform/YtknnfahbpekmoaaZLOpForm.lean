/-
  Chapter 8's law OpForm returns true for all bytes and every number, and leaves its arguments as they were; no condition.
-/
import Derived.Test.YtknnfahbpekmoaaRows
import Derived.WalkKit
import Derived.ProofKit
import Derived.OpenShut
import Derived.ShutString
import Derived.ChangeOld
import Derived.Below
import Derived.Test.YtknnfahbpekmoaaZQ5
import Derived.Test.YtknnfahbpekmoaaZQ7
import Derived.Test.YtknnfahbpekmoaaZXN
set_option linter.unusedVariables false
set_option linter.unusedSimpArgs false
namespace Go.Proofs.Ytknnfahbpekmoaa
namespace LOpForm
open Go.ChangeShapes Go.WideShapes Go.ChangeAt Go.RowKit Go.Lib
open Go.ChangeMaps (open_string shut_string)

theorem bC_take (l : List Nat) (n : Nat) : bC (l.take n) = (bC l).take n := by unfold bC; rw [List.map_take]
theorem RB.cut {W : World} {b off L c : Nat} {l : List Nat} (h : RC W (.slice (some ⟨b, off, none⟩) L c) l.length (bC l)) (hL : l.length = L) {n : Nat} (hn : n ≤ L) : RC W (.slice (some ⟨b, off, none⟩) n c) (l.take n).length (bC (l.take n)) := by
  have hl : (l.take n).length = n := by rw [List.length_take]; omega
  rw [hl, bC_take]
  rcases h with ⟨h0, _⟩ | ⟨b', off', cap, e, h1, h2, h3⟩
  · have : n = 0 := by omega
    subst this
    exact .inl ⟨rfl, _, _, rfl⟩
  · simp only [Value.slice.injEq, Option.some.injEq, Addr.mk.injEq, and_true, true_and] at e
    obtain ⟨⟨rfl, rfl⟩, _, rfl⟩ := e
    exact .inr ⟨b, off, c, rfl, by omega, h2, fun j q hq => h3 j q (by
      rw [List.getElem?_take] at hq
      split at hq
      · exact hq
      · cases hq)⟩
theorem dec_cut {l : List Nat} (hb : ∀ b ∈ l, b < 256) (h : (decO l).2 = 0) (hl : l.length ≤ 1000000) {n : Nat} (hn : n < l.length) : (decO (l.take n)).2 ≠ 0 := by
  intro e
  obtain ⟨k1, k2⟩ := decO_form hb h
  obtain ⟨q1, q2⟩ := decO_form (fun b hb' => hb b (List.mem_of_mem_take hb')) e
  have ht : ∀ {o : Opn}, okO o = true → (ob o).length ≤ 1000000 → o.text.size < 9223372036854775808 := fun {o} ho hlo => by
    by_cases h1 : o.kind = 1
    · unfold ob kb at hlo
      rw [if_pos h1] at hlo
      simp [sB_len] at hlo
      omega
    · have k := OkN.of ho
      have : o.text = ⟨#[]⟩ := by
        rcases k.kind with e | e | e | e
        · exact absurd e h1
        · exact (k.del e).2.2.2.2.1
        · exact (k.join e).2.2.2.2.1
        · exact (k.leave e).2.2.2.2.1
      rw [this]
      decide
  have e2 : ob (decO l).1 = ob (decO (l.take n)).1 ++ l.drop n := by rw [← k2, ← q2, List.take_append_drop]
  have := ob_prefix q1 k1 (ht q1 (by rw [← q2, List.length_take]; omega)) (ht k1 (by rw [← k2]; exact hl)) e2
  have h2 := congrArg List.length this.2
  rw [List.length_drop] at h2
  simp at h2
  omega
theorem dec_more {l m : List Nat} (hb : ∀ b ∈ l, b < 256) (hm : ∀ b ∈ m, b < 256) (h : (decO l).2 = 0) (hl : l.length ≤ 1000000) (hl2 : m.length ≤ 1000000) : decide (m.length = 0) = decide ((decO (l ++ m)).2 = 0) := by
  rw [Bool.eq_iff_iff, decide_eq_true_eq, decide_eq_true_eq]
  constructor
  · intro e
    rw [List.eq_nil_of_length_eq_zero e, List.append_nil]
    exact h
  · intro e
    by_cases h0 : m.length = 0
    · exact h0
    · exfalso
      have hbm : ∀ b ∈ l ++ m, b < 256 := fun b hb' => by
        rcases List.mem_append.1 hb' with hb' | hb'
        · exact hb b hb'
        · exact hm b hb'
      have h1 : (decO ((l ++ m).take l.length)).2 ≠ 0 := by
        intro e3
        obtain ⟨k1, k2⟩ := decO_form hbm e
        obtain ⟨q1, q2⟩ := decO_form hb h
        have ht : ∀ {o : Opn}, okO o = true → (ob o).length ≤ 2000000 → o.text.size < 9223372036854775808 := fun {o} ho hlo => by
          by_cases h1 : o.kind = 1
          · unfold ob kb at hlo
            rw [if_pos h1] at hlo
            simp [sB_len] at hlo
            omega
          · have k := OkN.of ho
            have : o.text = ⟨#[]⟩ := by
              rcases k.kind with e | e | e | e
              · exact absurd e h1
              · exact (k.del e).2.2.2.2.1
              · exact (k.join e).2.2.2.2.1
              · exact (k.leave e).2.2.2.2.1
            rw [this]
            decide
        have e2 : ob (decO (l ++ m)).1 = ob (decO l).1 ++ m := by rw [← k2, ← q2]
        have := ob_prefix q1 k1 (ht q1 (by rw [← q2]; omega)) (ht k1 (by rw [← k2, List.length_append]; omega)) e2
        rw [this.2] at h0
        exact h0 rfl
      rw [List.take_left] at h1
      exact h1 h
theorem InO_dec {l : List Nat} (hb : ∀ b ∈ l, b < 256) (h : (decO l).2 = 0) (hl : l.length ≤ 60000) : InO (decO l).1 ∧ (decO l).1.text.size ≤ 1000000 ∧ 0 < l.length := by
  obtain ⟨k1, k2⟩ := decO_form hb h
  have k := OkN.of k1
  have hlo : (ob (decO l).1).length ≤ 60000 := by rw [← k2]; exact hl
  have hpos : 0 < (num (decO l).1.kind.toNat).length := by
    unfold num
    rw [numF]
    split <;> simp
  have hp2 : 0 < (ob (decO l).1).length := by unfold ob; simp; omega
  have hp3 : 0 < l.length := by rw [k2]; exact hp2
  generalize (decO l).1 = o at *
  have hd : o.deps.length ≤ 17 := by have := vec_len (sy o.deps); rw [vec_of_chk k.deps] at this; exact this
  have h1 := k.ds
  have h2 := k.dq
  have hk := k.kind
  have hz : in64 0 := in64_0
  rcases k.kind with e | e | e | e
  · obtain ⟨i0, i1, i2, i3, i4, i5⟩ := k.ins e
    have ht : o.text.size ≤ 60000 := by
      unfold ob kb at hlo
      rw [if_pos e] at hlo
      simp [sB_len] at hlo
      omega
    exact ⟨⟨⟨by omega, by omega⟩, ⟨by omega, by omega⟩, ⟨by omega, by omega⟩, ⟨by omega, by omega⟩, ⟨by omega, by omega⟩, ⟨by omega, by omega⟩, ⟨by omega, by omega⟩, ⟨by omega, by omega⟩, by omega, by omega, by rw [i4]; exact fun r hr => (by cases hr), by rw [i4]; simp⟩, by omega, hp3⟩
  · obtain ⟨b0, b1, b2, b3, b4, b5, b6, b7⟩ := k.del e
    exact ⟨⟨⟨by omega, by omega⟩, ⟨by omega, by omega⟩, ⟨by omega, by omega⟩, ⟨by omega, by omega⟩, ⟨by omega, by omega⟩, ⟨by omega, by omega⟩, ⟨by omega, by omega⟩, ⟨by omega, by omega⟩, by omega, by rw [b4]; decide, fun r hr => (by have q := isR_full (b7 r hr); exact ⟨⟨⟨by omega, by omega⟩, ⟨by omega, by omega⟩⟩, ⟨by omega, by omega⟩⟩), by omega⟩, by rw [b4]; decide, hp3⟩
  · obtain ⟨b0, b1, b2, b3, b4, b5, b6, b7⟩ := k.join e
    exact ⟨⟨⟨by omega, by omega⟩, ⟨by omega, by omega⟩, ⟨by omega, by omega⟩, ⟨by omega, by omega⟩, ⟨by omega, by omega⟩, ⟨by omega, by omega⟩, ⟨by omega, by omega⟩, ⟨by omega, by omega⟩, by omega, by rw [b4]; decide, by rw [b5]; exact fun r hr => (by cases hr), by rw [b5]; simp⟩, by rw [b4]; decide, hp3⟩
  · obtain ⟨b0, b1, b2, b3, b4, b5, b6⟩ := k.leave e
    exact ⟨⟨⟨by omega, by omega⟩, ⟨by omega, by omega⟩, ⟨by omega, by omega⟩, ⟨by omega, by omega⟩, ⟨by omega, by omega⟩, ⟨by omega, by omega⟩, ⟨by omega, by omega⟩, ⟨by omega, by omega⟩, by omega, by rw [b4]; decide, by rw [b5]; exact fun r hr => (by cases hr), by rw [b5]; simp⟩, by rw [b4]; decide, hp3⟩

theorem zSame_in (a b : Option Addr) (c d : Nat) (W : World) : Calls Try.prog 12 #[opA zO (.slice a 0 c) (.slice b 0 d), opA zO (.slice none 0 0) (.slice none 0 0)] W fun e W' => e = .returned (.bool true) ∧ Below W.heap.size W W' := by
  have := same_in zO zO (.slice a 0 c) (.slice b 0 d) (.slice none 0 0) (.slice none 0 0) W (.inl ⟨rfl, _, _, rfl⟩) (.inl ⟨rfl, _, _, rfl⟩) (.inl ⟨rfl, _, _, rfl⟩) (.inl ⟨rfl, _, _, rfl⟩) (by decide) (by decide)
  rwa [(sameB_iff zO zO).2 rfl] at this

set_option maxRecDepth 100000 in
set_option maxHeartbeats 8000000 in
theorem walk (a0 : Option Addr) (len0 cap0 : Nat) (l : List Nat) (cut : Int) (a2 : Option Addr) (len2 cap2 : Nat) (m : List Nat) (w : World) (w0 : RC w (.slice a0 len0 cap0) l.length (bC l) ∧ l.length = len0 ∧ len0 ≤ maxLen ∧ ∀ e ∈ l, e < 256) (w1 : (Lit.int .i64 cut).wf = true) (w2 : RC w (.slice a2 len2 cap2) m.length (bC m) ∧ m.length = len2 ∧ len2 ≤ maxLen ∧ ∀ e ∈ m, e < 256) :
    Calls Try.prog 5 #[.slice a0 len0 cap0, .int .i64 cut, .slice a2 len2 cap2] w fun e W => e = .returned (.bool true) ∧ Below w.heap.size w W := by
  obtain ⟨r0, e0, m0, hb0⟩ := w0
  obtain ⟨r2, e2, m2, hb2⟩ := w2
  have hcut := wf64 w1
  unfold in64 at hcut
  unfold maxLen at m0 m2
  have HK := hide (fun W => known_in W)
  clear w1
  by_cases hl0 : 60000 < len0
  · have hl0' : (60000 : Int) < (len0 : Int) := by omega
    go_enter Try.func5, Try.ntmps5
    go_wp2_with fail
    refine (unhide HK _).mono ?_
    rintro r W1 ⟨rfl, hb⟩
    go_wp2
    go_ret
    exact ⟨rfl, hb⟩
  have hl0' : ¬ (60000 : Int) < (len0 : Int) := by omega
  by_cases hl2 : 60000 < len2
  · have hl2' : (60000 : Int) < (len2 : Int) := by omega
    go_enter Try.func5, Try.ntmps5
    go_wp2_with fail
    refine (unhide HK _).mono ?_
    rintro r W1 ⟨rfl, hb⟩
    go_wp2
    go_ret
    exact ⟨rfl, hb⟩
  have hl2' : ¬ (60000 : Int) < (len2 : Int) := by omega
  have HD := hide (ODecode_in w _ l r0 hb0 (by omega))
  have Hrow0 := hide r0
  have Hrow2 := hide r2
  by_cases he : (decO l).2 = 0
  rotate_left
  · have hz := decO_zero l he
    rw [hz] at HD
    generalize (decO l).2 = er at *
    have heb : (er == 0) = false := by simpa using he
    unfold opA at HD
    simp only [zO, List.length_nil] at HD
    clear r0 r2 hb0 hb2 he hz
    go_enter Try.func5, Try.ntmps5
    go_wp2_with fail
    refine (unhide HD).mono ?_
    rintro r W1 ⟨vd, vg, rfl, ho, hg, hne, hb⟩
    obtain ⟨ad, cd, rfl⟩ := OwD.form ho
    obtain ⟨ag, cg, rfl⟩ := OwR.form hg
    simp only [List.length_nil]
    have HS := hide (fun W => zSame_in ad ag cd cg W)
    unfold opA at HS
    simp only [zO] at HS
    obtain ⟨Y, hY⟩ : ∃ Y, W1.alloc (.cells #[.int .i64 0, .int .i64 0, .slice ad 0 cd, .int .i64 0, .int .i64 0, .int .i64 0, .int .i64 0, .int .i64 0, .string ⟨#[]⟩, .slice ag 0 cg, .int .i64 0] 30) = Y := ⟨_, rfl⟩
    have bY : Below W1.heap.size W1 Y := by rw [← hY]; exact ballc (Below.refl _ _) _
    have HZ : Bx Y W1.heap.size 30 #[.int .i64 0, .int .i64 0, .slice ad 0 cd, .int .i64 0, .int .i64 0, .int .i64 0, .int .i64 0, .int .i64 0, .string ⟨#[]⟩, .slice ag 0 cg, .int .i64 0] := by rw [← hY]; exact Bx.new W1 _ _
    have B0 := hide (bnext hb bY)
    obtain ⟨x0, x1, x2, x3, x4, x5, x6, x7, x8, x9, x10⟩ := cells_op HZ
    have f10 := HZ.frozen 10
    have s10 : Y.setCell ⟨W1.heap.size, 10, none⟩ (.int .i64 0) = Y := HZ.same 10 _ rfl
    have zl := HZ.lt
    clear ho hg hne hb bY HZ HD
    go_wp2_with fail
    refine (unhide HS _).mono ?_
    rintro r W2 ⟨rfl, hb⟩
    replace B0 := hide (bnext (unhide B0) hb)
    clear hb
    go_wp2_with fail
    refine (unhide HK _).mono ?_
    rintro r W3 ⟨rfl, hb⟩
    replace B0 := hide (bnext (unhide B0) hb)
    go_wp2
    go_ret
    exact ⟨rfl, unhide B0⟩
  obtain ⟨hok, hlob⟩ := decO_form hb0 he
  obtain ⟨hin, htx, hpos⟩ := InO_dec hb0 he (by omega)
  have Hcut := hide (fun n (hn : n < l.length) => dec_cut hb0 he (by omega) hn)
  have Hmore := hide (dec_more hb0 hb2 he (by omega) (by omega))
  rw [he] at HD
  obtain ⟨o, ho⟩ : ∃ o, (decO l).1 = o := ⟨_, rfl⟩
  rw [ho] at HD hok hlob hin htx
  have hc : chkO o = 0 := by unfold chkO; rw [if_pos hok]
  have hen : encL o = l := by rw [encL_ob hok]; exact hlob.symm
  have HE := hide (fun W vd vg hd hg => OEncode_in o vd vg W hd hg hin htx)
  have HC := hide (fun W vd vg hd hg => OCheck_in o vd vg W hd hg hin)
  rw [hc, hen] at HE
  rw [hc] at HC
  have HB := hide (fun W v h1 h2 => bytes_in l l (.slice a0 len0 cap0) v W h1 h2 (by omega) (by omega))
  rw [decide_eq_true rfl] at HB
  have HDc := hide (fun W v n (hn : n ≤ l.length) h1 => ODecode_in W v (l.take n) h1 (fun b hb' => hb0 b (List.mem_of_mem_take hb')) (by rw [List.length_take]; omega))
  have HDm := hide (fun W v h1 => ODecode_in W v (l ++ m) h1 (fun b hb' => by
    rcases List.mem_append.1 hb' with hb' | hb'
    · exact hb0 b hb'
    · exact hb2 b hb') (by rw [List.length_append]; omega))
  rw [e0] at Hcut hpos
  have E0 := hide e0
  have E2 := hide e2
  -- where the bytes lie
  obtain ⟨b, off, rfl, hcap, hbl⟩ : ∃ b off, a0 = some ⟨b, off, none⟩ ∧ len0 ≤ cap0 ∧ b < w.heap.size := by
    rcases r0 with ⟨h0, _⟩ | ⟨b, off, cap, e, h1, h2, _⟩
    · omega
    · simp only [Value.slice.injEq] at e
      exact ⟨b, off, e.1, by omega, h2⟩
  -- where it is cut
  have hz2 : (0 : Int) < (len0 : Int) := by omega
  have hzz : ¬ (len0 : Int) = 0 := by omega
  have hr1 : cut.tmod (len0 : Int) < (len0 : Int) := Int.tmod_lt_of_pos cut hz2
  have hr2 : -(len0 : Int) < cut.tmod (len0 : Int) := by
    have h1 := Int.tmod_lt_of_pos (-cut) hz2
    rw [Int.neg_tmod] at h1
    omega
  clear r0 r2 hb0 he hok hlob hin htx hc hen ho e0
  unfold opA at HD HE HC
  go_enter Try.func5, Try.ntmps5
  go_wp2_with fail
  refine (unhide HD).mono ?_
  rintro r W1 ⟨vd, vg, rfl, ho, hg, hne, hb⟩
  obtain ⟨ad, cd, rfl⟩ := OwD.form ho
  obtain ⟨ag, cg, rfl⟩ := OwR.form hg
  obtain ⟨Y, hY⟩ : ∃ Y, W1.alloc (.cells #[.int .i64 o.ds, .int .i64 o.dq, .slice ad o.deps.length cd, .int .i64 o.kind, .int .i64 o.it, .int .i64 o.is, .int .i64 o.rt, .int .i64 o.rs, .string o.text, .slice ag o.gone.length cg, .int .i64 o.site] 30) = Y := ⟨_, rfl⟩
  have bY : Below W1.heap.size W1 Y := by rw [← hY]; exact ballc (Below.refl _ _) _
  have HZ : Hid (Bx Y W1.heap.size 30 #[.int .i64 o.ds, .int .i64 o.dq, .slice ad o.deps.length cd, .int .i64 o.kind, .int .i64 o.it, .int .i64 o.is, .int .i64 o.rt, .int .i64 o.rs, .string o.text, .slice ag o.gone.length cg, .int .i64 o.site]) := by rw [← hY]; exact Bx.new W1 _ _
  have B0 := hide (bnext hb bY)
  have R1 : Hid (RI Y (.slice ad o.deps.length cd) o.deps) := (OwD.row ho).below bY
  have R2 : Hid (RR Y (.slice ag o.gone.length cg) o.gone) := RC.below (OwR.row hg) bY
  obtain ⟨x0, x1, x2, x3, x4, x5, x6, x7, x8, x9, x10⟩ := cells_op (unhide HZ)
  have zl := (unhide HZ).lt
  have HN := hide (unhide HE Y _ _ (unhide R1) (unhide R2))
  clear ho hg hne hb bY HD HE
  go_wp2_with fail
  refine (unhide HN).mono ?_
  rintro r W2 ⟨v2, rfl, ho, hb⟩
  obtain ⟨a3, c3, rfl⟩ := owns_form ho
  replace HZ := hide ((unhide HZ).below hb)
  replace R1 := hide ((unhide R1).below hb)
  replace R2 := hide (RC.below (unhide R2) hb)
  replace B0 := hide (bnext (unhide B0) hb)
  have HN2 := hide (unhide HB W2 _ (RC.below (unhide Hrow0) (unhide B0)) (RC.of_owns ho))
  rw [unhide E0] at HN2 ⊢
  clear ho hb HN HB hY x0 x1 x2 x3 x4 x5 x6 x7 x8 x9 x10 zl
  go_wp2_with fail
  refine (unhide HN2).mono ?_
  rintro r W3 ⟨rfl, nd, rfl⟩
  have hbd := bdrew (Below.refl W2.heap.size W2) nd
  replace HZ := hide ((unhide HZ).below hbd)
  replace R1 := hide ((unhide R1).below hbd)
  replace R2 := hide (RC.below (unhide R2) hbd)
  replace B0 := hide (bnext (unhide B0) hbd)
  obtain ⟨W4, hW4⟩ : ∃ W, W2.drewN nd = W := ⟨_, rfl⟩
  rw [hW4] at HZ R1 R2 B0 ⊢
  have HN3 := hide (unhide HC W4 _ _ (unhide R1) (unhide R2))
  clear hbd HN2 hW4 HC
  obtain ⟨x0, x1, x2, x3, x4, x5, x6, x7, x8, x9, x10⟩ := cells_op (unhide HZ)
  go_wp2_with fail
  refine (unhide HN3).mono ?_
  rintro r W5 ⟨rfl, hb⟩
  replace B0 := hide (bnext (unhide B0) hb)
  clear hb HN3 x0 x1 x2 x3 x4 x5 x6 x7 x8 x9 x10 HZ R1 R2
  have fin : Hid (∀ (n : Nat), n < len0 → True) := fun _ _ => trivial
  clear fin
  by_cases hneg : cut.tmod (len0 : Int) < 0
  · obtain ⟨j, hj⟩ : ∃ j : Nat, cut.tmod (len0 : Int) = (j : Int) - (len0 : Int) := ⟨(cut.tmod (len0 : Int) + len0).toNat, by omega⟩
    rw [hj] at hneg hr1 hr2
    have hwa : IntKind.i64.wrap ((j : Int) - (len0 : Int) + (len0 : Int)) = (j : Int) := by rw [show (j : Int) - (len0 : Int) + (len0 : Int) = (j : Int) by omega]; exact IntWalk.i64_in _ (by omega)
    have hwa2 : wrap64 ((j : Int) - (len0 : Int) + (len0 : Int)) = (j : Int) := by unfold wrap64; omega
    have hjn : j < len0 := by omega
    have hjc : (j : Int) ≤ (cap0 : Int) := by omega
    have HN4 := hide (unhide HDc W5 (.slice (some ⟨b, off, none⟩) j cap0) j (by rw [unhide E0]; omega) (RB.cut (RC.below (unhide Hrow0) (unhide B0)) (unhide E0) (by omega)))
    have hne0 := unhide Hcut j hjn
    generalize decO (l.take j) = DD at *
    obtain ⟨DO, de⟩ := DD
    simp only at HN4 hne0
    have hdb : (de == 0) = false := by simpa using hne0
    clear HDc hne0 Hcut
    go_wp2_with fail
    refine (unhide HN4).mono ?_
    rintro r W6 ⟨vd, vg, rfl, ho, hg, hne, hb⟩
    replace B0 := hide (bnext (unhide B0) hb)
    clear ho hg hne hb HN4
    obtain ⟨Z, hZ⟩ : ∃ Z, W6.alloc (.cells #[] 5) = Z := ⟨_, rfl⟩
    have bZ : Below W6.heap.size W6 Z := by rw [← hZ]; exact ballc (Below.refl _ _) _
    have O1 : Z.ownsRow W6.heap.size 5 1 (.slice (some ⟨W6.heap.size, 0, none⟩) 0 0) ([] : List Nat).length (bC []) := by rw [← hZ]; exact own_empty W6
    obtain ⟨v7, W7, hr7, O2, hg7, hn7⟩ := app_bytes Z 40 W6.heap.size _ (.slice (some ⟨b, off, none⟩) len0 cap0) [] l O1 (by simp) (RC.below (unhide Hrow0) (bnext (unhide B0) bZ)) bZ.size (by simp) (by rw [unhide E0]; omega)
    have k7 := Kp.of_grown (N := fun k => k = W6.heap.size) hg7 (fun k hk => by simp [Value.ownBlock] at hk; exact hk.symm)
    have B7 : Below W6.heap.size W6 W7 := k7.below bZ (fun i e => by omega)
    obtain ⟨v8, W8, hr8, O3, hg8, hn8⟩ := app_bytes W7 40 W6.heap.size v7 (.slice a2 len2 cap2) ([] ++ l) m O2 hn7 (RC.below (unhide Hrow2) (bnext (unhide B0) B7)) B7.size (by simp; rw [unhide E0]; omega) (by rw [unhide E2]; omega)
    have B8 : Below W6.heap.size W6 W8 := (Kp.of_grown (N := fun k => v7.ownBlock = some k) hg8 (fun k hk => hk)).below B7 (fun i e => (O2.lt i e).1)
    rw [List.nil_append] at O3
    have HN5 := hide (unhide HDm W8 v8 (RC.of_owns O3))
    have hmo := unhide Hmore
    generalize decO (l ++ m) = DE at *
    obtain ⟨DO2, de2⟩ := DE
    simp only at HN5 hmo
    replace B0 := hide (bnext (unhide B0) B8)
    clear O1 O2 O3 hg7 hg8 k7 B7 B8 hn7 hn8 bZ HDm Hmore
    rw [unhide E2] at hmo
    go_wp2_with (at_builtin; first | (refine wpList_append_eq rfl _ _ 40 rfl _ _ _ _ rfl rfl hr7 ?_) | (refine wpList_append_eq rfl _ _ 40 rfl _ _ _ _ rfl rfl hr8 ?_))
    refine (unhide HN5).mono ?_
    rintro r W9 ⟨vd, vg, rfl, ho, hg, hne, hb⟩
    replace B0 := hide (bnext (unhide B0) hb)
    clear ho hg hne hb HN5 hr7 hr8 hZ
    have hcmp : decide ((len2 : Int) = 0) = decide (de2 = 0) := by rw [← hmo, Bool.eq_iff_iff, decide_eq_true_eq, decide_eq_true_eq]; omega
    by_cases hm0 : (len2 : Int) = 0
    · have hd0 : de2 = 0 := by rw [decide_eq_true hm0] at hcmp; simpa using hcmp.symm
      subst hd0
      have hmb : ((len2 : Int) == 0) = true := by simpa using hm0
      clear hcmp hmo hm0
      go_wp2_with fail
      refine (unhide HK _).mono ?_
      rintro r W10 ⟨rfl, hb⟩
      replace B0 := hide (bnext (unhide B0) hb)
      go_wp2
      go_ret
      exact ⟨rfl, unhide B0⟩
    · have hd0 : ¬ de2 = 0 := by rw [decide_eq_false hm0] at hcmp; simpa using hcmp.symm
      have hdb2 : (de2 == 0) = false := by simpa using hd0
      have hmb : ((len2 : Int) == 0) = false := by simpa using hm0
      clear hcmp hmo hm0 hd0
      go_wp2_with fail
      refine (unhide HK _).mono ?_
      rintro r W10 ⟨rfl, hb⟩
      replace B0 := hide (bnext (unhide B0) hb)
      go_wp2
      go_ret
      exact ⟨rfl, unhide B0⟩
  · obtain ⟨j, hj⟩ : ∃ j : Nat, cut.tmod (len0 : Int) = (j : Int) := ⟨(cut.tmod (len0 : Int)).toNat, by omega⟩
    rw [hj] at hneg hr1 hr2
    have hjn : j < len0 := by omega
    have hjc : (j : Int) ≤ (cap0 : Int) := by omega
    have HN4 := hide (unhide HDc W5 (.slice (some ⟨b, off, none⟩) j cap0) j (by rw [unhide E0]; omega) (RB.cut (RC.below (unhide Hrow0) (unhide B0)) (unhide E0) (by omega)))
    have hne0 := unhide Hcut j hjn
    generalize decO (l.take j) = DD at *
    obtain ⟨DO, de⟩ := DD
    simp only at HN4 hne0
    have hdb : (de == 0) = false := by simpa using hne0
    clear HDc hne0 Hcut
    go_wp2_with fail
    refine (unhide HN4).mono ?_
    rintro r W6 ⟨vd, vg, rfl, ho, hg, hne, hb⟩
    replace B0 := hide (bnext (unhide B0) hb)
    clear ho hg hne hb HN4
    obtain ⟨Z, hZ⟩ : ∃ Z, W6.alloc (.cells #[] 5) = Z := ⟨_, rfl⟩
    have bZ : Below W6.heap.size W6 Z := by rw [← hZ]; exact ballc (Below.refl _ _) _
    have O1 : Z.ownsRow W6.heap.size 5 1 (.slice (some ⟨W6.heap.size, 0, none⟩) 0 0) ([] : List Nat).length (bC []) := by rw [← hZ]; exact own_empty W6
    obtain ⟨v7, W7, hr7, O2, hg7, hn7⟩ := app_bytes Z 40 W6.heap.size _ (.slice (some ⟨b, off, none⟩) len0 cap0) [] l O1 (by simp) (RC.below (unhide Hrow0) (bnext (unhide B0) bZ)) bZ.size (by simp) (by rw [unhide E0]; omega)
    have k7 := Kp.of_grown (N := fun k => k = W6.heap.size) hg7 (fun k hk => by simp [Value.ownBlock] at hk; exact hk.symm)
    have B7 : Below W6.heap.size W6 W7 := k7.below bZ (fun i e => by omega)
    obtain ⟨v8, W8, hr8, O3, hg8, hn8⟩ := app_bytes W7 40 W6.heap.size v7 (.slice a2 len2 cap2) ([] ++ l) m O2 hn7 (RC.below (unhide Hrow2) (bnext (unhide B0) B7)) B7.size (by simp; rw [unhide E0]; omega) (by rw [unhide E2]; omega)
    have B8 : Below W6.heap.size W6 W8 := (Kp.of_grown (N := fun k => v7.ownBlock = some k) hg8 (fun k hk => hk)).below B7 (fun i e => (O2.lt i e).1)
    rw [List.nil_append] at O3
    have HN5 := hide (unhide HDm W8 v8 (RC.of_owns O3))
    have hmo := unhide Hmore
    generalize decO (l ++ m) = DE at *
    obtain ⟨DO2, de2⟩ := DE
    simp only at HN5 hmo
    replace B0 := hide (bnext (unhide B0) B8)
    clear O1 O2 O3 hg7 hg8 k7 B7 B8 hn7 hn8 bZ HDm Hmore
    rw [unhide E2] at hmo
    go_wp2_with (at_builtin; first | (refine wpList_append_eq rfl _ _ 40 rfl _ _ _ _ rfl rfl hr7 ?_) | (refine wpList_append_eq rfl _ _ 40 rfl _ _ _ _ rfl rfl hr8 ?_))
    refine (unhide HN5).mono ?_
    rintro r W9 ⟨vd, vg, rfl, ho, hg, hne, hb⟩
    replace B0 := hide (bnext (unhide B0) hb)
    clear ho hg hne hb HN5 hr7 hr8 hZ
    have hcmp : decide ((len2 : Int) = 0) = decide (de2 = 0) := by rw [← hmo, Bool.eq_iff_iff, decide_eq_true_eq, decide_eq_true_eq]; omega
    by_cases hm0 : (len2 : Int) = 0
    · have hd0 : de2 = 0 := by rw [decide_eq_true hm0] at hcmp; simpa using hcmp.symm
      subst hd0
      have hmb : ((len2 : Int) == 0) = true := by simpa using hm0
      clear hcmp hmo hm0
      go_wp2_with fail
      refine (unhide HK _).mono ?_
      rintro r W10 ⟨rfl, hb⟩
      replace B0 := hide (bnext (unhide B0) hb)
      go_wp2
      go_ret
      exact ⟨rfl, unhide B0⟩
    · have hd0 : ¬ de2 = 0 := by rw [decide_eq_false hm0] at hcmp; simpa using hcmp.symm
      have hdb2 : (de2 == 0) = false := by simpa using hd0
      have hmb : ((len2 : Int) == 0) = false := by simpa using hm0
      clear hcmp hmo hm0 hd0
      go_wp2_with fail
      refine (unhide HK _).mono ?_
      rintro r W10 ⟨rfl, hb⟩
      replace B0 := hide (bnext (unhide B0) hb)
      go_wp2
      go_ret
      exact ⟨rfl, unhide B0⟩

theorem own : ownKnob Try.prog.godebug = none := by kernel_rfl
theorem laidOut2 : laidOutB Try.prog = true := by kernel_rfl

set_option maxRecDepth 100000 in
theorem lifted (os : Os) (started : os.Started) (H : Type) (enc : TypeId × Value → H) :
    ReturnsInHanded {} Try.checked os 5 .any (Rows.opFormSpec.pre6 enc Try.prog Try.f5 Rows.opFormRow.domain false) (Rows.opFormSpec.post enc Try.prog Try.f5 false true false false) := by
  refine returnsInHanded_of_change (C := Try.checked) own started (by kernel_rfl) Try.func5
    (ChangeSpec.witness6 (enc := enc) (C := Try.checked) false ⟨#[], #[.slice none 0 0, .int .i64 0, .slice none 0 0], []⟩ 8 (by kernel_rfl) (by kernel_rfl) (by kernel_rfl) (by kernel_rfl)) ?_
  intro W base args ds gs before hval0 hW hcnd _
  have hval : ∀ (j : Nat) t v, Try.f5.params[j]? = some t → args[j]? = some v → Value.okWide Try.prog W .any base t v := hval0
  have hW' := hW
  obtain ⟨p, q, hA0, hV, rfl, hfz, hnd⟩ := hW
  have hA : DataW.TrodAll enc Try.prog W 0 (fun _ => true) true Try.f5.params.toList args.toList ds p := hA0
  rw [Try.params5] at hA hval
  obtain ⟨v0, vs0, d0, ds0, p0, q0, hargs, rfl, rfl, h0, r0⟩ := trodAll_cons hA
  obtain ⟨v1, vs1, d1, ds1, p1, q1, rfl, rfl, rfl, h1, r1⟩ := trodAll_cons r0
  obtain ⟨v2, vs2, d2, ds2, p2, q2, rfl, rfl, rfl, h2, r2⟩ := trodAll_cons r1
  obtain ⟨rfl, rfl, rfl⟩ := trodAll_nil r2
  obtain rfl : args = #[v0, v1, v2] := by cases args; simp_all
  obtain ⟨rfl, rfl⟩ := trodVars_none hV
  obtain ⟨a0, len0, cap0, rfl⟩ := okWide_slice Try.underlying40 (hval 0 40 v0 rfl rfl)
  have k0 := h0
  have lt0 : ∀ x ∈ p0, x.block < W.heap.size := by obtain ⟨m, hm⟩ := k0; exact DataW.trod_lt m _ _ _ hm
  obtain ⟨z0, w0⟩ : ∃ l : List Nat, RC W (.slice a0 len0 cap0) l.length (bC l) ∧ l.length = len0 ∧ len0 ≤ maxLen ∧ ∀ e ∈ l, e < 256 := by
    obtain ⟨fuel, hf⟩ := h0
    simp only [Value.cells] at hf
    exact open_bytes hf
  obtain ⟨a1, rfl, rfl, rfl, w1⟩ := open_int Try.underlying3 (hval 1 3 v1 rfl rfl) h1
  obtain ⟨a2, len2, cap2, rfl⟩ := okWide_slice Try.underlying40 (hval 2 40 v2 rfl rfl)
  have k2 := h2
  have lt2 : ∀ x ∈ p2, x.block < W.heap.size := by obtain ⟨m, hm⟩ := k2; exact DataW.trod_lt m _ _ _ hm
  obtain ⟨z2, w2⟩ : ∃ l : List Nat, RC W (.slice a2 len2 cap2) l.length (bC l) ∧ l.length = len2 ∧ len2 ≤ maxLen ∧ ∀ e ∈ l, e < 256 := by
    obtain ⟨fuel, hf⟩ := h2
    simp only [Value.cells] at hf
    exact open_bytes hf
  clear hA0 hval0
  refine (walk a0 len0 cap0 z0 a1 a2 len2 cap2 z2 W w0 w1 w2).mono fun e W' ⟨he, bel⟩ => ?_
  subst he
  exact ⟨_, rfl, _, _, _, [], _, [], hW', trodAll_mk1 (shut_bool Try.underlying4 _), (trodAll_cons_mk (Below.trod laidOut2 (by kernel_rfl) (of_decide_eq_true (by kernel_rfl)) k0 bel lt0) (trodAll_cons_mk (shut_int Try.underlying3 w1) (trodAll_cons_mk (Below.trod laidOut2 (by kernel_rfl) (of_decide_eq_true (by kernel_rfl)) k2 bel lt2) trodAll_mk0))), rfl, bel.frame _, fun h => by cases h⟩

theorem over : Rows.opFormRow.holds Try.pinned (OpenSpec.ofChange Rows.opFormSpec) :=
  OpenClaim.holds_of_wide 5 Try.f5 rfl rfl rfl rfl rfl rfl rfl ⟨rfl, rfl, rfl, rfl, rfl⟩ rfl rfl rfl rfl rfl (by kernel_rfl) Try.func5 (by kernel_rfl)
    (of_decide_eq_true (by kernel_rfl)) (by unfold Func.isWrapper; first | (rw [if_pos (by decide +kernel)]; kernel_rfl) | (rw [if_neg (by decide +kernel)]; exact ⟨rfl, rfl⟩))
    (fun os started H enc _ => lifted os started H enc)

end LOpForm

theorem opForm_holds : Rows.OpFormSaid := LOpForm.over

end Go.Proofs.Ytknnfahbpekmoaa
