/-
  Chapter 14's law FrontOrder returns true for every script, all turns and every own vector, and leaves its arguments as they were; no condition.
-/
import Derived.Test.YtjiphechhfifgaaRows
import Derived.WalkKit
import Derived.ProofKit
import Derived.OpenShut
import Derived.ShutString
import Derived.ChangeOld
import Derived.Below
import Derived.Test.YtjiphechhfifgaaZXG
import Derived.Test.YtjiphechhfifgaaZQW
import Derived.Deep.RegionWith
set_option linter.unusedVariables false
set_option linter.unusedSimpArgs false
namespace Go.Proofs.Ytjiphechhfifgaa
namespace LFrontOrder
open Go.ChangeShapes Go.WideShapes Go.ChangeAt Go.RowKit Go.Lib
open Go.ChangeMaps (open_string shut_string)

set_option maxRecDepth 100000 in
set_option maxHeartbeats 8000000 in
theorem walk (a0 : Option Addr) (len0 cap0 : Nat) (ss : List Stp) (a1 : Option Addr) (len1 cap1 : Nat) (ts : List Int) (a2 : Option Addr) (len2 cap2 : Nat) (own : List (Int × Int)) (w : World) (w0 : RS w (.slice a0 len0 cap0) ss ∧ ss.length = len0 ∧ len0 ≤ maxLen ∧ ∀ e ∈ ss, StW w e) (w1 : RN w (.slice a1 len1 cap1) ts ∧ ts.length = len1 ∧ len1 ≤ maxLen ∧ ∀ e ∈ ts, in64 e) (w2 : RI w (.slice a2 len2 cap2) own ∧ own.length = len2 ∧ len2 ≤ maxLen ∧ ∀ e ∈ own, idIn e) :
    Calls Try.prog 7 #[.slice a0 len0 cap0, .slice a1 len1 cap1, .slice a2 len2 cap2] w fun e W => e = .returned (.bool true) ∧ Below w.heap.size w W := by
  obtain ⟨hr, hln, hmx, hst⟩ := w0
  obtain ⟨hr1, hln1, hmx1, hst1⟩ := w1
  obtain ⟨hr2, hln2, hmx2, hst2⟩ := w2
  unfold maxLen at hmx hmx1 hmx2
  have HMu := hide (much_in a0 len0 cap0 ss w hr hln hst (by omega))
  have HK := hide (fun W => known_in W)
  have fin : ∀ (b : Bool), muchB ss = b → (b = true ∨ 200 < len1 ∨ 20000 < len2) → Calls Try.prog 7 #[.slice a0 len0 cap0, .slice a1 len1 cap1, .slice a2 len2 cap2] w fun e W => e = .returned (.bool true) ∧ Below w.heap.size w W := by
    intro b hb hor
    rw [hb] at HMu
    have tail : ∀ (W1 : World), Hid (Below w.heap.size w W1) → Calls Try.prog 10 #[] W1 fun e W => e = .returned (.bool true) ∧ Below w.heap.size w W := fun W1 h1 => (unhide HK W1).mono fun e W ⟨h2, h3⟩ => ⟨h2, bnext (unhide h1) h3⟩
    replace tail := hide tail
    cases b with
    | true =>
      clear hr hst hr1 hr2 hst1 hst2
      go_enter Try.func7, Try.ntmps7
      go_wp2_with fail
      refine (unhide HMu).mono ?_
      rintro r W1 ⟨rfl, hb1⟩
      replace hb1 := hide hb1
      clear HMu
      go_wp2_with fail
      refine (unhide tail _ hb1).mono ?_
      rintro r W2 ⟨rfl, hb2⟩
      go_wp2
      go_ret
      exact ⟨rfl, hb2⟩
    | false =>
      by_cases h1 : 200 < len1
      · have h1' : (200 : Int) < (len1 : Int) := by omega
        clear hr hst hr1 hr2 hst1 hst2
        go_enter Try.func7, Try.ntmps7
        go_wp2_with fail
        refine (unhide HMu).mono ?_
        rintro r W1 ⟨rfl, hb1⟩
        replace hb1 := hide hb1
        clear HMu
        go_wp2_with fail
        refine (unhide tail _ hb1).mono ?_
        rintro r W2 ⟨rfl, hb2⟩
        go_wp2
        go_ret
        exact ⟨rfl, hb2⟩
      · have h1' : ¬ (200 : Int) < (len1 : Int) := by omega
        have h2 : 20000 < len2 := by rcases hor with h | h | h; cases h; exact absurd h h1; exact h
        have h2' : (20000 : Int) < (len2 : Int) := by omega
        clear hr hst hr1 hr2 hst1 hst2
        go_enter Try.func7, Try.ntmps7
        go_wp2_with fail
        refine (unhide HMu).mono ?_
        rintro r W1 ⟨rfl, hb1⟩
        replace hb1 := hide hb1
        clear HMu
        go_wp2_with fail
        refine (unhide tail _ hb1).mono ?_
        rintro r W2 ⟨rfl, hb2⟩
        go_wp2
        go_ret
        exact ⟨rfl, hb2⟩
  by_cases hmu : muchB ss = true
  · exact fin _ hmu (.inl rfl)
  replace hmu : muchB ss = false := by simpa using hmu
  by_cases hl1 : 200 < len1
  · exact fin _ hmu (.inr (.inl hl1))
  by_cases hl2 : 20000 < len2
  · exact fin _ hmu (.inr (.inr hl2))
  have hl1' : ¬ (200 : Int) < (len1 : Int) := by omega
  have hl2' : ¬ (20000 : Int) < (len2 : Int) := by omega
  have hsm := much_small hmu
  have hl0 := hsm.1
  rw [hln] at hl0
  rw [hmu] at HMu
  have Hsm := hide hsm.2
  have Hln := hide hln
  have Hr := hide hr
  have Hst := hide hst
  have Hln1 := hide hln1
  have Hr1 := hide hr1
  have Hln2 := hide hln2
  have Hr2 := hide hr2
  have mixed : Try.prog.follows .mixedOrders = true := by kernel_rfl
  clear fin hmu hr hst hln hr1 hln1 hst1 hr2 hln2 hst2 hsm hmx hmx1 hmx2
  go_enter Try.func7, Try.ntmps7
  go_wp2_with fail
  refine (unhide HMu).mono ?_
  rintro r W1 ⟨rfl, hb1⟩
  have HN := hide (KNew_in (Q := fun _ => False) W1 hb1 (fun _ h => h.elim))
  clear HMu hb1
  go_wp2_with fail
  refine (unhide HN).mono ?_
  rintro r W2 ⟨rfl, hK, -⟩
  obtain ⟨bA, hbA⟩ : ∃ b, W1.heap.size = b := ⟨_, rfl⟩
  rw [hbA] at hK ⊢
  have HN2 := hide (KG.new hK)
  clear HN hK hbA
  go_wp2_with fail
  refine (unhide HN2).mono ?_
  rintro r W3 ⟨rfl, hG⟩
  obtain ⟨bB, hbB⟩ : ∃ b, W2.heap.size = b := ⟨_, rfl⟩
  rw [hbB] at hG ⊢
  have HG := hide hG
  clear HN2 hG hbB
  go_wp2
  go_loopw [9, 10] (fun lv iv wr => ∃ (i : Nat) (a' : Option Addr) (c' n1 : Nat) (ls : List Stp) (SA : StF), iv = .int .i64 (i : Nat) ∧ i ≤ len0 ∧ lv = .slice a' ls.length c' ∧ ls.length ≤ i ∧ n1 ≤ i ∧ Hid (OwS wr w.heap.size (.slice a' ls.length c') ls) ∧ Hid (KG (fun j => (Value.slice a' ls.length c').ownBlock = some j) w wr bA n1 SA bB 0 (fun _ => none)) ∧ Hid (HM (ls.map keyS) SA ∧ ∀ s ∈ ls, s ∈ ss)) (fun _ iv _ => len0 - (Lib.intOf iv).toNat)
  case atStart => exact ⟨0, none, 0, 0, [], fun _ => none, rfl, by omega, rfl, by simp, by omega, hide (World.ownsRow_nil _ _ _ _), hide ((unhide HG).kp (N := fun _ => False) (Kp.refl _ _) (fun _ h => h.elim) (fun _ h => h.elim) (fun i h => (by cases h))), hide ⟨HM.none, fun s hs => (by cases hs)⟩⟩
  case round =>
    clear HG
    obtain ⟨i, a', c', n1, ls, SA, rfl, hi, rfl, hll, hn1, HO, HG, HH⟩ := hrel
    by_cases hlt : i < len0
    · have hlt' : (i : Int) < (len0 : Int) := by omega
      have hls : i < ss.length := by rw [unhide Hln]; exact hlt
      obtain ⟨s, hx⟩ : ∃ s, ss[i]? = some s := ⟨_, List.getElem?_eq_getElem hls⟩
      obtain ⟨b0, off, rfl, hb0, q0, q1, q2, q3⟩ := RS.at (unhide Hr) hx
      have hms := List.mem_of_getElem? hx
      have hw := unhide Hst s hms
      obtain ⟨av, cv, hv⟩ := hw.fv
      obtain ⟨am, cm, hm⟩ := hw.fm
      have Hw := hide (And.intro hw (And.intro hms (unhide Hsm s hms)))
      obtain ⟨kind, site, vl, ml, vv, vm⟩ := s
      simp only at hv hm q0 q1 q2 q3
      subst hv hm
      have Cq := hide (And.intro q0 (And.intro q1 (And.intro q2 q3)))
      have hbe := (unhide HG).bel
      replace q0 := cell_below q0 hbe
      replace q1 := cell_below q1 hbe
      replace q2 := cell_below q2 hbe
      replace q3 := cell_below q3 hbe
      replace hb0 := Nat.lt_of_lt_of_le hb0 hbe.size
      clear hx hw hms hbe
      by_cases hk : kind = 1
      · subst hk
        have HHe := hide (fun W (k : Kp (fun _ => False) wr W) => hear1_in ((unhide HG).kp k (fun _ h => h.elim) (fun _ h => h.elim) (fun i h => .inl h)) (by omega) site (unhide Hw).1.sin _ vl (RI.kp' ((unhide Hw).1.rv.below (unhide HG).bel) k (fun _ _ h => h)) (by have := (unhide Hw).2.2.1; simp only at this; omega) (fun j hj => .inr (rb_lt (unhide Hw).1.rv hj)))
        have kd := hide (Kp.of_below (N := fun _ => False) (Below.refl wr.heap.size wr).drew)
        go_wp2
        go_region_with (go_at_call 17; refine (unhide HHe _ (unhide kd)).mono ?_; rintro e W5 ⟨rfl, hG5, hK5⟩)
        all_goals
          have hO5 : OwS W5 w.heap.size (.slice a' ls.length c') ls := owns_kp (owns_kp (unhide HO) (unhide kd) (fun _ _ h => h)) hK5 (fun j hj hn => hn hj)
          have hbe := hG5.bel
          obtain ⟨q0, q1, q2, q3⟩ := unhide Cq
          replace q0 := cell_below q0 hbe
          replace q1 := cell_below q1 hbe
          replace q2 := cell_below q2 hbe
          replace q3 := cell_below q3 hbe
          obtain ⟨v', W6, hr, hO6, hgr, hat⟩ := append_step W5 22 w.heap.size _ ls ⟨1, site, vl, ml, .slice av vl.length cv, .slice am ml.length cm⟩ hO5 ⟨_, _, rfl⟩ ⟨_, _, rfl⟩ hbe.size (by omega)
          obtain ⟨a6, c6, rfl⟩ := hO6.form
          have hz6 := hgr.size
          simp only [World.size_alloc] at hz6
          have hG6 : Hid (KG (fun j => (Value.slice a6 (ls ++ [(⟨1, site, vl, ml, .slice av vl.length cv, .slice am ml.length cm⟩ : Stp)]).length c6).ownBlock = some j) w W6 bA (n1 + 1) (hearS SA site vl) bB 0 (fun _ => none)) := by
            have k6 : Kp (fun j => (Value.slice a' ls.length c').ownBlock = some j) W5 W6 := (Kp.of_below (N := fun j => (Value.slice a' ls.length c').ownBlock = some j) (ballc (Below.refl W5.heap.size W5) _)).trans (Kp.of_grown hgr (fun j h => h)) (fun j h => .inl h)
            refine hG5.kp k6 (fun j h => h) (fun j h => (hO5.lt j h).1) (fun j h => ?_)
            rcases hat with e | e
            · rw [e] at h; exact .inl h
            · have h2 := hO6.lt j h
              rw [e] at h; cases h; exact .inr ⟨by omega, h2.2⟩
          have hH6 : Hid (HM ((ls ++ [(⟨1, site, vl, ml, .slice av vl.length cv, .slice am ml.length cm⟩ : Stp)]).map keyS) (hearS SA site vl) ∧ ∀ s ∈ ls ++ [(⟨1, site, vl, ml, .slice av vl.length cv, .slice am ml.length cm⟩ : Stp)], s ∈ ss) := by
            obtain ⟨h1, h2⟩ := unhide HH
            refine ⟨by rw [List.map_append]; exact h1.step (site, vl), fun s hs => ?_⟩
            rcases List.mem_append.1 hs with hs | hs
            · exact h2 s hs
            · simp only [List.mem_singleton] at hs; subst hs; exact (unhide Hw).2.1
          have Hr := hide hr
          replace hO6 := hide hO6
          have e9 : (ls ++ [(⟨1, site, vl, ml, .slice av vl.length cv, .slice am ml.length cm⟩ : Stp)]).length = ls.length + 1 := by simp
          simp only at Hr
          generalize hls2 : ls ++ [(⟨1, site, vl, ml, .slice av vl.length cv, .slice am ml.length cm⟩ : Stp)] = ls2 at *
          clear hls2 hO5 hbe hr hgr hat hG5 hK5 HHe HO HG HH
          have hl2n : ls2.length ≤ i + 1 := by omega
          replace e9 := hide e9
          go_wp2_with (at_builtin; refine wpList_append_eq rfl _ _ 22 rfl _ _ _ _ rfl rfl (unhide Hr) ?_)
          go_roundw
          case measure => show len0 - ((i : Int) + 1).toNat < len0 - ((i : Nat) : Int).toNat; omega
          case rel => exact ⟨i + 1, _, _, n1 + 1, ls2, _, by go_num, by omega, rfl, hl2n, by omega, hO6, hG6, hH6⟩
      · have hk' : (kind == 1) = false := by simpa using hk
        go_wp2
        go_roundw
        case measure => show len0 - ((i : Int) + 1).toNat < len0 - ((i : Nat) : Int).toNat; omega
        case rel => exact ⟨i + 1, a', c', n1, ls, SA, by go_num, by omega, rfl, by omega, by omega, HO, HG, HH⟩
    · have hlt' : ¬ (i : Int) < (len0 : Int) := by omega
      have hn1' : n1 ≤ 200 := by omega
      have hls' : ls.length ≤ 200 := by omega
      clear hi hll hn1 hlt
      obtain ⟨L, hL⟩ : ∃ L, ls.length = L := ⟨_, rfl⟩
      rw [hL] at HO HG hls' ⊢
      replace hL := hide hL
      have H1 := hide (unhide HH).1
      have H2 := hide (unhide HH).2
      clear HH
      go_wp2
      clear hlt'
      go_loopw [11, 12] (fun iv kv wr => ∃ (i n2 : Nat) (SB : StF) (ps : List (Int × List (Int × Int))), iv = .int .i64 (i : Nat) ∧ i ≤ len1 ∧ n2 ≤ i ∧ Hid (OwS wr w.heap.size (.slice a' L c') ls) ∧ Hid (KG (fun j => (Value.slice a' L c').ownBlock = some j) w wr bA n1 SA bB n2 SB) ∧ Hid (HM ps SB ∧ ∀ s ∈ ps, s ∈ ls.map keyS)) (fun iv _ _ => len1 - (Lib.intOf iv).toNat)
      case atStart => exact ⟨0, 0, _, [], rfl, by omega, by omega, HO, HG, hide ⟨HM.none, fun s hs => (by cases hs)⟩⟩
      case round =>
        clear HO HG
        obtain ⟨i, n2, SB, ps, rfl, hi, hn2, HO, HG, HP⟩ := hrel
        by_cases hlt : i < len1
        · have hlt' : (i : Int) < (len1 : Int) := by omega
          by_cases hL0 : 0 < L
          · have hL0' : (0 : Int) < (L : Int) := by omega
            have hts : i < ts.length := by rw [unhide Hln1]; exact hlt
            obtain ⟨b0, off, rfl, hb0, q0⟩ := RN.at ((unhide Hr1).below (unhide HG).bel) (List.getElem?_eq_getElem hts)
            generalize ts[i] = x at *
            have hL00 : ((L : Int) == 0) = false := by simp; omega
            obtain ⟨y, hy⟩ : ∃ y, x.tmod (L : Int) = y := ⟨_, rfl⟩
            have hy1 : y < (L : Int) := by rw [← hy]; exact Int.tmod_lt_of_pos x hL0'
            have hy2 : -(L : Int) < y := by
              have := Int.tmod_lt_of_pos (-x) hL0'
              rw [Int.neg_tmod, hy] at this
              omega
            have key : ∀ k : Nat, k < L → Hid (∃ g o s, a' = some ⟨g, o, none⟩ ∧ g < wr.heap.size ∧ wr.cell? ⟨g, o + k * 4 + 1, none⟩ = some (.int .i64 s.site) ∧ wr.cell? ⟨g, o + k * 4 + 2, none⟩ = some s.vv ∧ (∃ a c, s.vv = .slice a s.vec.length c) ∧ keyS s ∈ ls.map keyS ∧ ∀ W, Kp (fun _ => False) wr W → Calls Try.prog 17 #[.pointer (some ⟨bB, 0, none⟩), .int .i64 s.site, s.vv] W fun e W' => e = .returned (.int .i64 (hearE s.site s.vec)) ∧ KG (fun j => (Value.slice a' L c').ownBlock = some j) w W' bB (n2 + 1) (hearS SB s.site s.vec) bA n1 SA ∧ Kp (fun i => ¬ (Value.slice a' L c').ownBlock = some i) W W') := by
              intro k hk
              have hkl : k < ls.length := by rw [unhide hL]; exact hk
              obtain ⟨g, o, e1, e2, e3, e4, e5, e6⟩ := RS.at (unhide HO).row (List.getElem?_eq_getElem hkl)
              have hsm := unhide H2 _ (List.getElem_mem hkl)
              have hw := unhide Hst _ hsm
              refine ⟨g, o, ls[k], e1, e2, e4, e5, hw.fv, List.mem_map.2 ⟨_, List.getElem_mem hkl, rfl⟩, fun W kp => ?_⟩
              have hG := ((unhide HG).swap.kp kp (fun _ h => h.elim) (fun _ h => h.elim) (fun i h => .inl h))
              exact hear1_in hG (by omega) _ hw.sin _ _ (hw.rv.below hG.bel) (by have := (unhide Hsm _ hsm).1; omega) (fun j hj => .inr (rb_lt hw.rv hj))
            have kd := hide (Kp.of_below (N := fun _ => False) (Below.refl wr.heap.size wr).drew)
            by_cases hy0 : y < 0
            · obtain ⟨k, hk⟩ : ∃ k : Nat, y + (L : Int) = (k : Int) := ⟨(y + (L : Int)).toNat, by omega⟩
              have hkL : k < L := by omega
              have hwr : wrap64 (y + (L : Int)) = (k : Int) := by rw [IntWalk.wrap64_in _ (by omega)]; exact hk
              have hkL' : (k : Int) < (L : Int) := by omega
              obtain ⟨g, o, s, rfl, hgl, c1, c2, ⟨av, cv, hv⟩, hmem, HHe⟩ := unhide (key k hkL)
              rw [hv] at c2 HHe
              replace HHe := hide HHe
              replace hk := hide hk
              have Hm := hide hmem
              obtain ⟨kind, site, vl, ml, vv, vm⟩ := s
              simp only at c1 c2 HHe hv
              clear key hv hmem hy1 hy2
              go_wp2
              go_region_with (go_at_call 17; refine (unhide HHe _ (unhide kd)).mono ?_; rintro e W5 ⟨rfl, hG5, hK5⟩)
              all_goals
                have HO5 : Hid (OwS W5 w.heap.size (.slice (some ⟨g, o, none⟩) L c') ls) := owns_kp (owns_kp (unhide HO) (unhide kd) (fun _ _ h => h)) hK5 (fun j hj hn => hn hj)
                have HG5 := hide hG5.swap
                have HP5 : Hid (HM (ps ++ [(site, vl)]) (hearS SB site vl) ∧ ∀ s ∈ ps ++ [(site, vl)], s ∈ ls.map keyS) := by
                  obtain ⟨p1, p2⟩ := unhide HP
                  refine ⟨p1.step (site, vl), fun s hs => ?_⟩
                  rcases List.mem_append.1 hs with hs | hs
                  · exact p2 s hs
                  · simp only [List.mem_singleton] at hs; subst hs; exact unhide Hm
                clear hG5 hK5 HHe HO HG HP c1 c2 hwr hy
                go_wp2
                go_roundw
                case measure => show len1 - ((i : Int) + 1).toNat < len1 - ((i : Nat) : Int).toNat; omega
                case rel => exact ⟨i + 1, n2 + 1, _, _, by go_num, by omega, by omega, HO5, HG5, HP5⟩
            · obtain ⟨k, rfl⟩ : ∃ k : Nat, y = (k : Int) := ⟨y.toNat, by omega⟩
              have hkL : k < L := by omega
              have hkL' : (k : Int) < (L : Int) := by omega
              obtain ⟨g, o, s, rfl, hgl, c1, c2, ⟨av, cv, hv⟩, hmem, HHe⟩ := unhide (key k hkL)
              rw [hv] at c2 HHe
              replace HHe := hide HHe
              have Hm := hide hmem
              obtain ⟨kind, site, vl, ml, vv, vm⟩ := s
              simp only at c1 c2 HHe hv
              clear key hv hmem hy1 hy2
              go_wp2
              go_region_with (go_at_call 17; refine (unhide HHe _ (unhide kd)).mono ?_; rintro e W5 ⟨rfl, hG5, hK5⟩)
              all_goals
                have HO5 : Hid (OwS W5 w.heap.size (.slice (some ⟨g, o, none⟩) L c') ls) := owns_kp (owns_kp (unhide HO) (unhide kd) (fun _ _ h => h)) hK5 (fun j hj hn => hn hj)
                have HG5 := hide hG5.swap
                have HP5 : Hid (HM (ps ++ [(site, vl)]) (hearS SB site vl) ∧ ∀ s ∈ ps ++ [(site, vl)], s ∈ ls.map keyS) := by
                  obtain ⟨p1, p2⟩ := unhide HP
                  refine ⟨p1.step (site, vl), fun s hs => ?_⟩
                  rcases List.mem_append.1 hs with hs | hs
                  · exact p2 s hs
                  · simp only [List.mem_singleton] at hs; subst hs; exact unhide Hm
                clear hG5 hK5 HHe HO HG HP c1 c2 hy
                go_wp2
                go_roundw
                case measure => show len1 - ((i : Int) + 1).toNat < len1 - ((i : Nat) : Int).toNat; omega
                case rel => exact ⟨i + 1, n2 + 1, _, _, by go_num, by omega, by omega, HO5, HG5, HP5⟩
          · have hL0' : ¬ (0 : Int) < (L : Int) := by omega
            go_wp2
            have hn2' : n2 ≤ 200 := by omega
            clear hlt hlt'
            go_loopw [13] (fun iv wr => ∃ (x : Int) (n2 : Nat) (SB : StF) (qs : List (Int × List (Int × Int))), iv = .int .i64 x ∧ -1 ≤ x ∧ x < (L : Int) ∧ (n2 : Int) + x ≤ 500 ∧ Hid (OwS wr w.heap.size (.slice a' L c') ls) ∧ Hid (KG (fun j => (Value.slice a' L c').ownBlock = some j) w wr bA n1 SA bB n2 SB) ∧ Hid (HM qs SB ∧ (∀ s ∈ qs, s ∈ ls.map keyS) ∧ ∀ s ∈ (ls.drop (x + 1).toNat).map keyS, s ∈ qs)) (fun iv _ => (Lib.intOf iv + 1).toNat)
            case atStart => exact ⟨_, n2, SB, ps, rfl, by omega, by omega, by omega, HO, HG, hide ⟨(unhide HP).1, (unhide HP).2, fun s hs => (by rw [List.drop_eq_nil_of_le (by rw [unhide hL]; omega)] at hs; cases hs)⟩⟩
            case round =>
              clear HO HG HP hn2 hn2' hi
              obtain ⟨x, n2, SB, qs, rfl, hx1, hx2, hn2, HO, HG, HP⟩ := hrel
              by_cases hx0 : 0 ≤ x
              · obtain ⟨k, rfl⟩ : ∃ k : Nat, x = (k : Int) := ⟨x.toNat, by omega⟩
                have hkL : k < L := by omega
                have hkl : k < ls.length := by rw [unhide hL]; exact hkL
                have kd := hide (Kp.of_below (N := fun _ => False) (Below.refl wr.heap.size wr).drew)
                obtain ⟨g, o, rfl, e2, e3, c1, c2, e6⟩ := RS.at (unhide HO).row (List.getElem?_eq_getElem hkl)
                have hsm := unhide H2 _ (List.getElem_mem hkl)
                have hw := unhide Hst _ hsm
                have HHe := hide (fun W (kp : Kp (fun _ => False) wr W) => hear1_in ((unhide HG).swap.kp kp (fun _ h => h.elim) (fun _ h => h.elim) (fun i h => .inl h)) (by omega) _ hw.sin _ _ (hw.rv.below ((unhide HG).swap.kp (Q' := fun j => (Value.slice (some ⟨g, o, none⟩) L c').ownBlock = some j) kp (fun _ h => h.elim) (fun _ h => h.elim) (fun i h => .inl h)).bel) (by have := (unhide Hsm _ hsm).1; omega) (fun j hj => .inr (rb_lt hw.rv hj)))
                obtain ⟨av, cv, hv⟩ := hw.fv
                have Hm : Hid (keyS ls[k] ∈ ls.map keyS ∧ ∀ s ∈ (ls.drop k).map keyS, s = keyS ls[k] ∨ s ∈ (ls.drop (k + 1)).map keyS) := by
                  refine ⟨List.mem_map.2 ⟨_, List.getElem_mem hkl, rfl⟩, fun s hs => ?_⟩
                  rw [List.drop_eq_getElem_cons hkl, List.map_cons] at hs
                  exact List.mem_cons.1 hs
                generalize ls[k] = s at *
                rw [hv] at c2 HHe
                obtain ⟨kind, site, vl, ml, vv, vm⟩ := s
                simp only at c1 c2 HHe hv
                clear hv e3 e6 hw hsm hx1
                go_wp2
                go_region_with (go_at_call 17; refine (unhide HHe _ (unhide kd)).mono ?_; rintro e W5 ⟨rfl, hG5, hK5⟩)
                all_goals
                  have HO5 : Hid (OwS W5 w.heap.size (.slice (some ⟨g, o, none⟩) L c') ls) := owns_kp (owns_kp (unhide HO) (unhide kd) (fun _ _ h => h)) hK5 (fun j hj hn => hn hj)
                  have HG5 := hide hG5.swap
                  have HP5 : Hid (HM (qs ++ [(site, vl)]) (hearS SB site vl) ∧ (∀ s ∈ qs ++ [(site, vl)], s ∈ ls.map keyS) ∧ ∀ s ∈ (ls.drop ((k : Int) - 1 + 1).toNat).map keyS, s ∈ qs ++ [(site, vl)]) := by
                    obtain ⟨p1, p2, p3⟩ := unhide HP
                    obtain ⟨m1, m2⟩ := unhide Hm
                    refine ⟨p1.step (site, vl), fun s hs => ?_, fun s hs => ?_⟩
                    · rcases List.mem_append.1 hs with hs | hs
                      · exact p2 s hs
                      · simp only [List.mem_singleton] at hs; subst hs; exact m1
                    · rw [show ((k : Int) - 1 + 1).toNat = k by omega] at hs
                      rcases m2 s hs with e | e
                      · rw [e]; simp [keyS]
                      · exact List.mem_append_left _ (p3 s (by rw [show ((k : Int) + 1).toNat = k + 1 by omega]; exact e))
                  clear hG5 hK5 HHe HO HG HP c1 c2
                  go_wp2
                  go_roundw
                  case measure => show ((k : Int) - 1 + 1).toNat < ((k : Int) + 1).toNat; omega
                  case rel => exact ⟨(k : Int) - 1, n2 + 1, _, _, by go_num, by omega, by omega, by omega, HO5, HG5, HP5⟩
              · have hx0' : ¬ 0 ≤ x := hx0
                have HS : Hid (SA = SB) := by
                  obtain ⟨p1, p2, p3⟩ := unhide HP
                  refine HM.same (unhide H1) p1 (fun s => ⟨fun hs => p3 s ?_, fun hs => p2 s hs⟩)
                  rw [show (x + 1).toNat = 0 by omega, List.drop_zero]
                  exact hs
                have e := unhide HS
                subst e
                have ow := fun (W : World) (hb : Below w.heap.size w W) => (unhide Hr2).below hb
                have OW := hide ow
                have hol : own.length ≤ 20000 := by rw [unhide Hln2]; omega
                have HS1 := hide (settle1_in (unhide HG) _ own (unhide OW _ (unhide HG).bel) (by omega))
                clear HS ow HP HO
                go_wp2_with fail
                refine (unhide HS1).mono ?_
                rintro r W6 ⟨rfl, hG6, -⟩
                have HG6 := hide hG6
                have HS2 := hide (settle1_in hG6.swap _ own (unhide OW _ hG6.bel) (by omega))
                clear HS1 hG6 HG
                go_wp2_with fail
                refine (unhide HS2).mono ?_
                rintro r W7 ⟨rfl, hG7, -⟩
                have HG7 := hide hG7.swap
                clear HS2 hG7 HG6
                generalize setS SA own = T at *
                go_wp2
                go_loopw [14] (fun iv wr => ∃ (k : Nat), iv = .int .i64 (k : Nat) ∧ 1 ≤ k ∧ k ≤ 17 ∧ Hid (KG (fun j => (Value.slice a' L c').ownBlock = some j) w wr bA n1 T bB n2 T)) (fun iv _ => 17 - (Lib.intOf iv).toNat)
                case atStart => exact ⟨1, rfl, by omega, by omega, HG7⟩
                case round =>
                  clear HG7
                  obtain ⟨k, rfl, hk1, hk2, HG⟩ := hrel
                  by_cases hk : k ≤ 16
                  · have hk' : (k : Int) ≤ 16 := by omega
                    have k64 : in64 (k : Int) := ⟨by omega, by omega⟩
                    have HA := hide (KRow_in (unhide HG).one (k : Int) k64)
                    obtain ⟨V, hV⟩ : ∃ V, vec (hdR T (k : Int)) = V := ⟨_, rfl⟩
                    obtain ⟨U, hU⟩ : ∃ U, vec (usR T (k : Int)) = U := ⟨_, rfl⟩
                    obtain ⟨is, his⟩ : ∃ is, (T (k : Int)).isSome = is := ⟨_, rfl⟩
                    have hVl : V.length ≤ 17 := by rw [← hV]; exact vec_len _
                    have hUl : U.length ≤ 17 := by rw [← hU]; exact vec_len _
                    rw [hV, his] at HA
                    replace hV := hide hV
                    replace hU := hide hU
                    replace his := hide his
                    go_wp2_with fail
                    refine (unhide HA).mono ?_
                    rintro r W8 ⟨v8, rfl, ho8, hb8⟩
                    obtain ⟨a8, c8, rfl⟩ := OwD.form ho8
                    have HG8 := hide ((unhide HG).below hb8)
                    have HB := hide (KRow_in (unhide HG8).swap.one (k : Int) k64)
                    rw [unhide hV, unhide his] at HB
                    have HO8 := hide ho8
                    clear HA ho8 hb8 HG
                    go_wp2_with fail
                    refine (unhide HB).mono ?_
                    rintro r W9 ⟨v9, rfl, ho9, hb9⟩
                    obtain ⟨a9, c9, rfl⟩ := OwD.form ho9
                    have HG9 := hide ((unhide HG8).below hb9)
                    have HV := hide (vectors_in V V _ _ W9 (OwD.row (owd_below (unhide HO8) hb9)) ho9.row (by omega) (by omega))
                    rw [decide_eq_true rfl] at HV
                    clear HB ho9 hb9 HG8 HO8
                    have hbn : (is != is) = false := by simp
                    go_wp2_with fail
                    refine (unhide HV).mono ?_
                    rintro r W10 ⟨rfl, nd, rfl⟩
                    have HG10 := hide ((unhide HG9).below (bdrew (Below.refl W9.heap.size W9) nd))
                    have HC := hide (KUsable_in (unhide HG10).one (k : Int) k64)
                    rw [unhide hU] at HC
                    clear HV HG9
                    go_wp2_with fail
                    refine (unhide HC).mono ?_
                    rintro r W11 ⟨v11, rfl, ho11, hb11⟩
                    obtain ⟨a11, c11, rfl⟩ := OwD.form ho11
                    have HG11 := hide ((unhide HG10).below hb11)
                    have HO11 := hide ho11
                    have HD := hide (KUsable_in (unhide HG11).swap.one (k : Int) k64)
                    rw [unhide hU] at HD
                    clear HC ho11 hb11 HG10
                    go_wp2_with fail
                    refine (unhide HD).mono ?_
                    rintro r W12 ⟨v12, rfl, ho12, hb12⟩
                    obtain ⟨a12, c12, rfl⟩ := OwD.form ho12
                    have HG12 := hide ((unhide HG11).below hb12)
                    have HV2 := hide (vectors_in U U _ _ W12 (OwD.row (owd_below (unhide HO11) hb12)) ho12.row (by omega) (by omega))
                    rw [decide_eq_true rfl] at HV2
                    clear HD ho12 hb12 HG11 HO11
                    go_wp2_with fail
                    refine (unhide HV2).mono ?_
                    rintro r W13 ⟨rfl, nd2, rfl⟩
                    have HG13 := hide ((unhide HG12).below (bdrew (Below.refl W12.heap.size W12) nd2))
                    clear HV2 HG12
                    go_wp2
                    go_roundw
                    case measure => show 17 - ((k : Int) + 1).toNat < 17 - ((k : Nat) : Int).toNat; omega
                    case rel => exact ⟨k + 1, by go_num, by omega, by omega, HG13⟩
                  · have hk' : ¬ (k : Int) ≤ 16 := by omega
                    have HB := hide (unhide HG).bel
                    go_wp2_with fail
                    refine (unhide HK _).mono ?_
                    rintro r W8 ⟨rfl, hb8⟩
                    go_wp2
                    go_ret
                    exact ⟨rfl, bnext (unhide HB) hb8⟩
        · have hlt' : ¬ (i : Int) < (len1 : Int) := by omega
          go_wp2
          have hn2' : n2 ≤ 200 := by omega
          clear hlt hlt'
          go_loopw [13] (fun iv wr => ∃ (x : Int) (n2 : Nat) (SB : StF) (qs : List (Int × List (Int × Int))), iv = .int .i64 x ∧ -1 ≤ x ∧ x < (L : Int) ∧ (n2 : Int) + x ≤ 500 ∧ Hid (OwS wr w.heap.size (.slice a' L c') ls) ∧ Hid (KG (fun j => (Value.slice a' L c').ownBlock = some j) w wr bA n1 SA bB n2 SB) ∧ Hid (HM qs SB ∧ (∀ s ∈ qs, s ∈ ls.map keyS) ∧ ∀ s ∈ (ls.drop (x + 1).toNat).map keyS, s ∈ qs)) (fun iv _ => (Lib.intOf iv + 1).toNat)
          case atStart => exact ⟨_, n2, SB, ps, rfl, by omega, by omega, by omega, HO, HG, hide ⟨(unhide HP).1, (unhide HP).2, fun s hs => (by rw [List.drop_eq_nil_of_le (by rw [unhide hL]; omega)] at hs; cases hs)⟩⟩
          case round =>
            clear HO HG HP hn2 hn2' hi
            obtain ⟨x, n2, SB, qs, rfl, hx1, hx2, hn2, HO, HG, HP⟩ := hrel
            by_cases hx0 : 0 ≤ x
            · obtain ⟨k, rfl⟩ : ∃ k : Nat, x = (k : Int) := ⟨x.toNat, by omega⟩
              have hkL : k < L := by omega
              have hkl : k < ls.length := by rw [unhide hL]; exact hkL
              have kd := hide (Kp.of_below (N := fun _ => False) (Below.refl wr.heap.size wr).drew)
              obtain ⟨g, o, rfl, e2, e3, c1, c2, e6⟩ := RS.at (unhide HO).row (List.getElem?_eq_getElem hkl)
              have hsm := unhide H2 _ (List.getElem_mem hkl)
              have hw := unhide Hst _ hsm
              have HHe := hide (fun W (kp : Kp (fun _ => False) wr W) => hear1_in ((unhide HG).swap.kp kp (fun _ h => h.elim) (fun _ h => h.elim) (fun i h => .inl h)) (by omega) _ hw.sin _ _ (hw.rv.below ((unhide HG).swap.kp (Q' := fun j => (Value.slice (some ⟨g, o, none⟩) L c').ownBlock = some j) kp (fun _ h => h.elim) (fun _ h => h.elim) (fun i h => .inl h)).bel) (by have := (unhide Hsm _ hsm).1; omega) (fun j hj => .inr (rb_lt hw.rv hj)))
              obtain ⟨av, cv, hv⟩ := hw.fv
              have Hm : Hid (keyS ls[k] ∈ ls.map keyS ∧ ∀ s ∈ (ls.drop k).map keyS, s = keyS ls[k] ∨ s ∈ (ls.drop (k + 1)).map keyS) := by
                refine ⟨List.mem_map.2 ⟨_, List.getElem_mem hkl, rfl⟩, fun s hs => ?_⟩
                rw [List.drop_eq_getElem_cons hkl, List.map_cons] at hs
                exact List.mem_cons.1 hs
              generalize ls[k] = s at *
              rw [hv] at c2 HHe
              obtain ⟨kind, site, vl, ml, vv, vm⟩ := s
              simp only at c1 c2 HHe hv
              clear hv e3 e6 hw hsm hx1
              go_wp2
              go_region_with (go_at_call 17; refine (unhide HHe _ (unhide kd)).mono ?_; rintro e W5 ⟨rfl, hG5, hK5⟩)
              all_goals
                have HO5 : Hid (OwS W5 w.heap.size (.slice (some ⟨g, o, none⟩) L c') ls) := owns_kp (owns_kp (unhide HO) (unhide kd) (fun _ _ h => h)) hK5 (fun j hj hn => hn hj)
                have HG5 := hide hG5.swap
                have HP5 : Hid (HM (qs ++ [(site, vl)]) (hearS SB site vl) ∧ (∀ s ∈ qs ++ [(site, vl)], s ∈ ls.map keyS) ∧ ∀ s ∈ (ls.drop ((k : Int) - 1 + 1).toNat).map keyS, s ∈ qs ++ [(site, vl)]) := by
                  obtain ⟨p1, p2, p3⟩ := unhide HP
                  obtain ⟨m1, m2⟩ := unhide Hm
                  refine ⟨p1.step (site, vl), fun s hs => ?_, fun s hs => ?_⟩
                  · rcases List.mem_append.1 hs with hs | hs
                    · exact p2 s hs
                    · simp only [List.mem_singleton] at hs; subst hs; exact m1
                  · rw [show ((k : Int) - 1 + 1).toNat = k by omega] at hs
                    rcases m2 s hs with e | e
                    · rw [e]; simp [keyS]
                    · exact List.mem_append_left _ (p3 s (by rw [show ((k : Int) + 1).toNat = k + 1 by omega]; exact e))
                clear hG5 hK5 HHe HO HG HP c1 c2
                go_wp2
                go_roundw
                case measure => show ((k : Int) - 1 + 1).toNat < ((k : Int) + 1).toNat; omega
                case rel => exact ⟨(k : Int) - 1, n2 + 1, _, _, by go_num, by omega, by omega, by omega, HO5, HG5, HP5⟩
            · have hx0' : ¬ 0 ≤ x := hx0
              have HS : Hid (SA = SB) := by
                obtain ⟨p1, p2, p3⟩ := unhide HP
                refine HM.same (unhide H1) p1 (fun s => ⟨fun hs => p3 s ?_, fun hs => p2 s hs⟩)
                rw [show (x + 1).toNat = 0 by omega, List.drop_zero]
                exact hs
              have e := unhide HS
              subst e
              have ow := fun (W : World) (hb : Below w.heap.size w W) => (unhide Hr2).below hb
              have OW := hide ow
              have hol : own.length ≤ 20000 := by rw [unhide Hln2]; omega
              have HS1 := hide (settle1_in (unhide HG) _ own (unhide OW _ (unhide HG).bel) (by omega))
              clear HS ow HP HO
              go_wp2_with fail
              refine (unhide HS1).mono ?_
              rintro r W6 ⟨rfl, hG6, -⟩
              have HG6 := hide hG6
              have HS2 := hide (settle1_in hG6.swap _ own (unhide OW _ hG6.bel) (by omega))
              clear HS1 hG6 HG
              go_wp2_with fail
              refine (unhide HS2).mono ?_
              rintro r W7 ⟨rfl, hG7, -⟩
              have HG7 := hide hG7.swap
              clear HS2 hG7 HG6
              generalize setS SA own = T at *
              go_wp2
              go_loopw [14] (fun iv wr => ∃ (k : Nat), iv = .int .i64 (k : Nat) ∧ 1 ≤ k ∧ k ≤ 17 ∧ Hid (KG (fun j => (Value.slice a' L c').ownBlock = some j) w wr bA n1 T bB n2 T)) (fun iv _ => 17 - (Lib.intOf iv).toNat)
              case atStart => exact ⟨1, rfl, by omega, by omega, HG7⟩
              case round =>
                clear HG7
                obtain ⟨k, rfl, hk1, hk2, HG⟩ := hrel
                by_cases hk : k ≤ 16
                · have hk' : (k : Int) ≤ 16 := by omega
                  have k64 : in64 (k : Int) := ⟨by omega, by omega⟩
                  have HA := hide (KRow_in (unhide HG).one (k : Int) k64)
                  obtain ⟨V, hV⟩ : ∃ V, vec (hdR T (k : Int)) = V := ⟨_, rfl⟩
                  obtain ⟨U, hU⟩ : ∃ U, vec (usR T (k : Int)) = U := ⟨_, rfl⟩
                  obtain ⟨is, his⟩ : ∃ is, (T (k : Int)).isSome = is := ⟨_, rfl⟩
                  have hVl : V.length ≤ 17 := by rw [← hV]; exact vec_len _
                  have hUl : U.length ≤ 17 := by rw [← hU]; exact vec_len _
                  rw [hV, his] at HA
                  replace hV := hide hV
                  replace hU := hide hU
                  replace his := hide his
                  go_wp2_with fail
                  refine (unhide HA).mono ?_
                  rintro r W8 ⟨v8, rfl, ho8, hb8⟩
                  obtain ⟨a8, c8, rfl⟩ := OwD.form ho8
                  have HG8 := hide ((unhide HG).below hb8)
                  have HB := hide (KRow_in (unhide HG8).swap.one (k : Int) k64)
                  rw [unhide hV, unhide his] at HB
                  have HO8 := hide ho8
                  clear HA ho8 hb8 HG
                  go_wp2_with fail
                  refine (unhide HB).mono ?_
                  rintro r W9 ⟨v9, rfl, ho9, hb9⟩
                  obtain ⟨a9, c9, rfl⟩ := OwD.form ho9
                  have HG9 := hide ((unhide HG8).below hb9)
                  have HV := hide (vectors_in V V _ _ W9 (OwD.row (owd_below (unhide HO8) hb9)) ho9.row (by omega) (by omega))
                  rw [decide_eq_true rfl] at HV
                  clear HB ho9 hb9 HG8 HO8
                  have hbn : (is != is) = false := by simp
                  go_wp2_with fail
                  refine (unhide HV).mono ?_
                  rintro r W10 ⟨rfl, nd, rfl⟩
                  have HG10 := hide ((unhide HG9).below (bdrew (Below.refl W9.heap.size W9) nd))
                  have HC := hide (KUsable_in (unhide HG10).one (k : Int) k64)
                  rw [unhide hU] at HC
                  clear HV HG9
                  go_wp2_with fail
                  refine (unhide HC).mono ?_
                  rintro r W11 ⟨v11, rfl, ho11, hb11⟩
                  obtain ⟨a11, c11, rfl⟩ := OwD.form ho11
                  have HG11 := hide ((unhide HG10).below hb11)
                  have HO11 := hide ho11
                  have HD := hide (KUsable_in (unhide HG11).swap.one (k : Int) k64)
                  rw [unhide hU] at HD
                  clear HC ho11 hb11 HG10
                  go_wp2_with fail
                  refine (unhide HD).mono ?_
                  rintro r W12 ⟨v12, rfl, ho12, hb12⟩
                  obtain ⟨a12, c12, rfl⟩ := OwD.form ho12
                  have HG12 := hide ((unhide HG11).below hb12)
                  have HV2 := hide (vectors_in U U _ _ W12 (OwD.row (owd_below (unhide HO11) hb12)) ho12.row (by omega) (by omega))
                  rw [decide_eq_true rfl] at HV2
                  clear HD ho12 hb12 HG11 HO11
                  go_wp2_with fail
                  refine (unhide HV2).mono ?_
                  rintro r W13 ⟨rfl, nd2, rfl⟩
                  have HG13 := hide ((unhide HG12).below (bdrew (Below.refl W12.heap.size W12) nd2))
                  clear HV2 HG12
                  go_wp2
                  go_roundw
                  case measure => show 17 - ((k : Int) + 1).toNat < 17 - ((k : Nat) : Int).toNat; omega
                  case rel => exact ⟨k + 1, by go_num, by omega, by omega, HG13⟩
                · have hk' : ¬ (k : Int) ≤ 16 := by omega
                  have HB := hide (unhide HG).bel
                  go_wp2_with fail
                  refine (unhide HK _).mono ?_
                  rintro r W8 ⟨rfl, hb8⟩
                  go_wp2
                  go_ret
                  exact ⟨rfl, bnext (unhide HB) hb8⟩

theorem own : ownKnob Try.prog.godebug = none := by kernel_rfl
theorem laidOut2 : laidOutB Try.prog = true := by kernel_rfl

set_option maxRecDepth 100000 in
theorem lifted (os : Os) (started : os.Started) (H : Type) (enc : TypeId × Value → H) :
    ReturnsInHanded {} Try.checked os 7 .any (Rows.frontOrderSpec.pre6 enc Try.prog Try.f7 Rows.frontOrderRow.domain false) (Rows.frontOrderSpec.post enc Try.prog Try.f7 false true false false) := by
  refine returnsInHanded_of_change (C := Try.checked) own started (by kernel_rfl) Try.func7
    (ChangeSpec.witness6 (enc := enc) (C := Try.checked) false ⟨#[], #[.slice none 0 0, .slice none 0 0, .slice none 0 0], []⟩ 8 (by kernel_rfl) (by kernel_rfl) (by kernel_rfl) (by kernel_rfl)) ?_
  intro W base args ds gs before hval0 hW hcnd _
  have hval : ∀ (j : Nat) t v, Try.f7.params[j]? = some t → args[j]? = some v → Value.okWide Try.prog W .any base t v := hval0
  have hW' := hW
  obtain ⟨p, q, hA0, hV, rfl, hfz, hnd⟩ := hW
  have hA : DataW.TrodAll enc Try.prog W 0 (fun _ => true) true Try.f7.params.toList args.toList ds p := hA0
  rw [Try.params7] at hA hval
  obtain ⟨v0, vs0, d0, ds0, p0, q0, hargs, rfl, rfl, h0, r0⟩ := trodAll_cons hA
  obtain ⟨v1, vs1, d1, ds1, p1, q1, rfl, rfl, rfl, h1, r1⟩ := trodAll_cons r0
  obtain ⟨v2, vs2, d2, ds2, p2, q2, rfl, rfl, rfl, h2, r2⟩ := trodAll_cons r1
  obtain ⟨rfl, rfl, rfl⟩ := trodAll_nil r2
  obtain rfl : args = #[v0, v1, v2] := by cases args; simp_all
  obtain ⟨rfl, rfl⟩ := trodVars_none hV
  obtain ⟨a0, len0, cap0, rfl⟩ := okWide_slice Try.underlying22 (hval 0 22 v0 rfl rfl)
  have k0 := h0
  have lt0 : ∀ x ∈ p0, x.block < W.heap.size := by obtain ⟨m, hm⟩ := k0; exact DataW.trod_lt m _ _ _ hm
  obtain ⟨z0, w0⟩ : ∃ l : List Stp, RS W (.slice a0 len0 cap0) l ∧ l.length = len0 ∧ len0 ≤ maxLen ∧ ∀ e ∈ l, StW W e := by
    obtain ⟨fuel, hf⟩ := h0
    simp only [Value.cells] at hf
    exact open_steps hf
  obtain ⟨a1, len1, cap1, rfl⟩ := okWide_slice Try.underlying32 (hval 1 32 v1 rfl rfl)
  have k1 := h1
  have lt1 : ∀ x ∈ p1, x.block < W.heap.size := by obtain ⟨m, hm⟩ := k1; exact DataW.trod_lt m _ _ _ hm
  obtain ⟨z1, w1⟩ : ∃ l : List Int, RN W (.slice a1 len1 cap1) l ∧ l.length = len1 ∧ len1 ≤ maxLen ∧ ∀ e ∈ l, in64 e := by
    obtain ⟨fuel, hf⟩ := h1
    simp only [Value.cells] at hf
    exact open_nums hf
  obtain ⟨a2, len2, cap2, rfl⟩ := okWide_slice Try.underlying31 (hval 2 31 v2 rfl rfl)
  have k2 := h2
  have lt2 : ∀ x ∈ p2, x.block < W.heap.size := by obtain ⟨m, hm⟩ := k2; exact DataW.trod_lt m _ _ _ hm
  obtain ⟨z2, w2⟩ : ∃ l : List (Int × Int), RI W (.slice a2 len2 cap2) l ∧ l.length = len2 ∧ len2 ≤ maxLen ∧ ∀ e ∈ l, idIn e := by
    obtain ⟨fuel, hf⟩ := h2
    simp only [Value.cells] at hf
    exact open_dots hf
  clear hA0 hval0
  refine (walk a0 len0 cap0 z0 a1 len1 cap1 z1 a2 len2 cap2 z2 W w0 w1 w2).mono fun e W' ⟨he, bel⟩ => ?_
  subst he
  exact ⟨_, rfl, _, _, _, [], _, [], hW', trodAll_mk1 (shut_bool Try.underlying4 _), (trodAll_cons_mk (Below.trod laidOut2 (by kernel_rfl) (of_decide_eq_true (by kernel_rfl)) k0 bel lt0) (trodAll_cons_mk (Below.trod laidOut2 (by kernel_rfl) (of_decide_eq_true (by kernel_rfl)) k1 bel lt1) (trodAll_cons_mk (Below.trod laidOut2 (by kernel_rfl) (of_decide_eq_true (by kernel_rfl)) k2 bel lt2) trodAll_mk0))), rfl, bel.frame _, fun h => by cases h⟩

theorem over : Rows.frontOrderRow.holds Try.pinned (OpenSpec.ofChange Rows.frontOrderSpec) :=
  OpenClaim.holds_of_wide 7 Try.f7 rfl rfl rfl rfl rfl rfl rfl ⟨rfl, rfl, rfl, rfl, rfl⟩ rfl rfl rfl rfl rfl (by kernel_rfl) Try.func7 (by kernel_rfl)
    (of_decide_eq_true (by kernel_rfl)) (by unfold Func.isWrapper; first | (rw [if_pos (by decide +kernel)]; kernel_rfl) | (rw [if_neg (by decide +kernel)]; exact ⟨rfl, rfl⟩))
    (fun os started H enc _ => lifted os started H enc)

end LFrontOrder

theorem frontOrder_holds : Rows.FrontOrderSaid := LFrontOrder.over

end Go.Proofs.Ytjiphechhfifgaa
