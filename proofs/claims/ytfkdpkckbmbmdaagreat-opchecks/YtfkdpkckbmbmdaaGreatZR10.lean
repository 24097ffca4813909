/-
  The document's own Last of an operation.
-/
import Derived.Test.YtfkdpkckbmbmdaaGreatZR9
import Derived.Test.YtfkdpkckbmbmdaaGreatZXN
set_option linter.unusedSimpArgs false
set_option linter.unusedVariables false
namespace Go.Proofs.YtfkdpkckbmbmdaaGreat
open Go.RowKit Go.Lib

theorem lastG_bd : ∀ (l : List ((Int × Int) × Int)), (∀ r ∈ l, isR r = true) → 0 ≤ lastG l ∧ lastG l ≤ 2147483647 := fun l => by
  unfold lastG
  suffices h : ∀ (l : List ((Int × Int) × Int)) (m : Int), 0 ≤ m → m ≤ 2147483647 → (∀ r ∈ l, isR r = true) → 0 ≤ l.foldl (fun m r => max m (r.1.1 + r.2 - 1)) m ∧ l.foldl (fun m r => max m (r.1.1 + r.2 - 1)) m ≤ 2147483647 from fun hr => h l 0 (by omega) (by omega) hr
  intro l
  induction l with
  | nil => intro m h1 h2 _; exact ⟨h1, h2⟩
  | cons r l ih =>
    intro m h1 h2 hr
    rw [List.foldl_cons]
    have h3 := isR_range (hr r (by simp))
    exact ih _ (by omega) (by omega) (fun q hq => hr q (by simp [hq]))

set_option maxRecDepth 100000 in
set_option maxHeartbeats 8000000 in
theorem rLast_in (o : Opn) (ad ag : Option Addr) (cd cg : Nat) (w : World) (hd : RI w (.slice ad o.deps.length cd) o.deps) (hg : RR w (.slice ag o.gone.length cg) o.gone) (hin : InO o) (hs1 : o.deps.length ≤ 1000000) (hs2 : o.gone.length ≤ 1000000) (hs3 : o.text.size ≤ 1000000) :
    Calls Tryz.prog 12 #[.agg #[.int .i64 o.ds, .int .i64 o.dq, .slice ad o.deps.length cd, .int .i64 o.kind, .int .i64 o.it, .int .i64 o.is, .int .i64 o.rt, .int .i64 o.rs, .string o.text, .slice ag o.gone.length cg, .int .i64 o.site]] w fun e W => e = .returned (.int .i64 (lastO o)) ∧ Below w.heap.size w W := by
  obtain ⟨X, hX⟩ : ∃ X, w.alloc (.cells #[.int .i64 o.ds, .int .i64 o.dq, .slice ad o.deps.length cd, .int .i64 o.kind, .int .i64 o.it, .int .i64 o.is, .int .i64 o.rt, .int .i64 o.rs, .string o.text, .slice ag o.gone.length cg, .int .i64 o.site] 30) = X := ⟨_, rfl⟩
  have HX : Bx X w.heap.size 30 #[.int .i64 o.ds, .int .i64 o.dq, .slice ad o.deps.length cd, .int .i64 o.kind, .int .i64 o.it, .int .i64 o.is, .int .i64 o.rt, .int .i64 o.rs, .string o.text, .slice ag o.gone.length cg, .int .i64 o.site] := by rw [← hX]; exact Bx.new w _ _
  have bX : Below w.heap.size w X := by rw [← hX]; exact ballc (Below.refl _ _) _
  have HA := hide (fun (W : World) (h : Below X.heap.size X W) => HX.below h)
  have HC := hide (rCheck_in o ad ag cd cg X (hd.below bX) (RC.below hg bX) hin hs1 hs2 hs3)
  have HCn := hide (fun W => refCount_in o.text (by omega) W)
  have Hg := hide (show RR X (.slice ag o.gone.length cg) o.gone from RC.below hg bX)
  have B0 := hide bX
  obtain ⟨x0, x1, x2, x3, x4, x5, x6, x7, x8, x9, x10⟩ := cells_op HX
  cases hok : okO o with
  | false =>
    have hl : lastO o = 0 := by unfold lastO; rw [hok]; rfl
    have hc : chkO o = 10 := by unfold chkO; rw [hok]; rfl
    rw [hl]
    rw [hc] at HC
    clear hok hl hc HX bX hd hg hin
    go_enter Tryz.func12, Tryz.ntmps12
    go_wp2_with fail
    refine (unhide HC).mono ?_
    rintro e W1 ⟨rfl, hb1⟩
    have HB := hide (bnext (unhide B0) hb1)
    clear hb1
    go_wp2
    go_ret
    exact ⟨rfl, unhide HB⟩
  | true =>
    have hl : lastO o = lastK o := by unfold lastO; rw [hok]; rfl
    have hc : chkO o = 0 := by unfold chkO; rw [hok]; rfl
    have hN := OkN.of hok
    rw [hl]
    rw [hc] at HC
    clear hok hl hc HX bX hd hg hin
    by_cases q1 : o.kind = 1
    · have hl : lastK o = o.it + cntO o.text - 1 := by unfold lastK; rw [if_pos q1]
      have hi := hN.ins q1
      have q1q : (o.kind == 1) = true := by simp [q1]
      have hcb := allL_length o.text
      rw [hl]
      unfold cntO
      obtain ⟨cn, hcn⟩ : ∃ n, (allL o.text).length = n := ⟨_, rfl⟩
      rw [hcn] at HCn hcb ⊢
      have hit := hi.2.1
      have mixed : Tryz.prog.follows .mixedOrders = true := by kernel_rfl
      clear q1 hl hN hi hcn
      go_enter Tryz.func12, Tryz.ntmps12
      go_wp2_with fail
      refine (unhide HC).mono ?_
      rintro e W1 ⟨rfl, hb1⟩
      clear x0 x1 x2 x3 x4 x5 x6 x7 x8 x9 x10
      obtain ⟨x0, x1, x2, x3, x4, x5, x6, x7, x8, x9, x10⟩ := cells_op (unhide HA W1 hb1)
      have HB := hide (bnext (unhide B0) hb1)
      have hne := BelowOf.ne W1
      have c4 : ∀ p : BelowOf W1, p.w.cell? ⟨w.heap.size, 4, none⟩ = some (.int .i64 o.it) := fun p => cell_below x4 p.h
      have c8 : ∀ p : BelowOf W1, p.w.cell? ⟨w.heap.size, 8, none⟩ = some (.string o.text) := fun p => cell_below x8 p.h
      have hw1 : IntKind.i64.wrap (o.it + (cn : Int)) = o.it + (cn : Int) := IntWalk.i64_in _ (by omega)
      have hw2 : IntKind.i64.wrap (o.it + (cn : Int) - 1) = o.it + (cn : Int) - 1 := IntWalk.i64_in _ (by omega)
      clear hb1 HC
      go_wp2_with fail
      refine wp_region_quiet_below mixed (by kernel_rfl) ?_
      repeat (any_goals (first | go_big_quiet_step ((go_at_call 45; exact below_of (unhide HCn _))) | quiet_step ((go_at_call 45; exact below_of (unhide HCn _)))))
      all_goals (refine wpQuiet_nil ?_; intro _ hw'; obtain ⟨p, hw''⟩ := hw'; subst hw'')
      have HB2 := hide (bnext (unhide HB) p.h)
      go_wp2
      go_ret
      exact ⟨rfl, unhide HB2⟩
    · have hl : lastK o = lastG o.gone := by
        unfold lastK
        rw [if_neg q1]
        by_cases q2 : o.kind = 2
        · rw [if_pos q2]
        · rw [if_neg q2]
          rcases hN.kind with h | h | h | h
          · exact absurd h q1
          · exact absurd h q2
          · rw [(hN.join h).2.2.2.2.2.1]; rfl
          · rw [(hN.leave h).2.2.2.2.2.1]; rfl
      have hR : ∀ r ∈ o.gone, isR r = true := fun r hr => by
        rcases hN.kind with h | h | h | h
        · exact absurd h q1
        · exact (hN.del h).2.2.2.2.2.2.2 r hr
        · rw [(hN.join h).2.2.2.2.2.1] at hr; cases hr
        · rw [(hN.leave h).2.2.2.2.2.1] at hr; cases hr
      have q1q : (o.kind == 1) = false := by simp [q1]
      rw [hl]
      have HR := hide hR
      obtain ⟨G, hG⟩ : ∃ G, lastG o.gone = G := ⟨_, rfl⟩
      rw [hG]
      have HG := hide hG
      obtain ⟨n, hn⟩ : ∃ n, o.gone.length = n := ⟨_, rfl⟩
      rw [hn] at HA HC Hg hs2 x9 hX ⊢
      have Hn := hide hn
      clear q1 hl hN hR hG hn
      go_enter Tryz.func12, Tryz.ntmps12
      go_wp2_with fail
      refine (unhide HC).mono ?_
      rintro e W1 ⟨rfl, hb1⟩
      clear x0 x1 x2 x3 x4 x5 x6 x7 x8 x9 x10
      obtain ⟨x0, x1, x2, x3, x4, x5, x6, x7, x8, x9, x10⟩ := cells_op (unhide HA W1 hb1)
      have HB := hide hb1
      clear hb1 HC
      go_wp2
      clear x0 x1 x2 x3 x4 x5 x6 x7 x8 x9 x10
      go_loopw [3, 4] (fun nv iv wr => ∃ i : Nat, nv = .int .i64 (lastG (o.gone.take i)) ∧ iv = .int .i64 (i : Nat) ∧ i ≤ n ∧ Hid (Below X.heap.size X wr)) (fun _ iv _ => n - (Lib.intOf iv).toNat)
      case atStart => exact ⟨0, rfl, rfl, by omega, HB⟩
      case round =>
        obtain ⟨i, rfl, rfl, hi, HBr⟩ := hrel
        obtain ⟨x0, x1, x2, x3, x4, x5, x6, x7, x8, x9, x10⟩ := cells_op (unhide HA wr (unhide HBr))
        by_cases hlt : i < n
        · have hlt' : (i : Int) < (n : Int) := by omega
          have hi0' : (0 : Int) ≤ (i : Int) := Int.natCast_nonneg _
          obtain ⟨r, hr⟩ : ∃ r, o.gone[i]? = some r := ⟨_, List.getElem?_eq_getElem (by have := unhide Hn; omega)⟩
          have hrg := isR_range (unhide HR r (List.mem_of_getElem? hr))
          have hst := lastG_step hr
          have hbd := lastG_bd (o.gone.take i) (fun q hq => unhide HR q (List.mem_of_mem_take hq))
          obtain ⟨g, off, rfl, hg, c0, c1, c2⟩ := RR.at ((unhide Hg).below (unhide HBr)) hr
          obtain ⟨⟨t, s⟩, c⟩ := r
          simp only at c0 c1 c2 hrg hst
          obtain ⟨m, hm⟩ : ∃ m, lastG (o.gone.take i) = m := ⟨_, rfl⟩
          rw [hm] at hst hbd ⊢
          have Hst := hide hst
          have hw1 : IntKind.i64.wrap (t + c) = t + c := IntWalk.i64_in _ (by omega)
          have hw2 : IntKind.i64.wrap (t + c - 1) = t + c - 1 := IntWalk.i64_in _ (by omega)
          clear hr hst hm hg x0 x1 x2 x3 x4 x5 x6 x7 x8 x10
          by_cases hmx : m < t + c - 1
          · have hM : max m (t + c - 1) = t + c - 1 := by omega
            have HM := hide hM
            clear hM
            go_wp2_with fail
            go_quiet (fail)
            go_wp2
            go_roundw
            case measure => show n - ((i : Int) + 1).toNat < n - ((i : Nat) : Int).toNat; omega
            case rel => exact ⟨i + 1, by rw [unhide Hst, unhide HM], by go_num, by omega, hide (bdrew (unhide HBr) _)⟩
          · have hM : max m (t + c - 1) = m := by omega
            have HM := hide hM
            clear hM
            go_wp2_with fail
            go_quiet (fail)
            go_wp2
            go_roundw
            case measure => show n - ((i : Int) + 1).toNat < n - ((i : Nat) : Int).toNat; omega
            case rel => exact ⟨i + 1, by rw [unhide Hst, unhide HM], by go_num, by omega, hide (bdrew (unhide HBr) _)⟩
        · have hlt' : ¬ (i : Int) < (n : Int) := by omega
          have hG2 : lastG (o.gone.take i) = G := by rw [List.take_of_length_le (by have := unhide Hn; omega)]; exact unhide HG
          rw [hG2]
          have HB3 := hide (bnext (unhide B0) (unhide HBr))
          clear hG2 x0 x1 x2 x3 x4 x5 x6 x7 x8 x10
          go_wp2
          go_ret
          exact ⟨rfl, unhide HB3⟩

end Go.Proofs.YtfkdpkckbmbmdaaGreat
