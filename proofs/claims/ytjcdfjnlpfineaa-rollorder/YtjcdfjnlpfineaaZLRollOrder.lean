/-
  Chapter 16's law RollOrder returns true for every script and every list of turns, and leaves its arguments as they were; no condition.
-/
import Derived.Test.YtjcdfjnlpfineaaRows
import Derived.WalkKit
import Derived.ProofKit
import Derived.OpenShut
import Derived.ShutString
import Derived.ChangeOld
import Derived.Below
import Derived.Test.YtjcdfjnlpfineaaZRP
set_option linter.unusedVariables false
set_option linter.unusedSimpArgs false
namespace Go.Proofs.Ytjcdfjnlpfineaa
namespace LRollOrder
open Go.ChangeShapes Go.WideShapes Go.ChangeAt Go.RowKit Go.Lib
open Go.ChangeMaps (open_string shut_string)

set_option maxRecDepth 100000 in
set_option maxHeartbeats 16000000 in
theorem walk (a0 : Option Addr) (len0 cap0 : Nat) (ss : List Stp) (a1 : Option Addr) (len1 cap1 : Nat) (tl : List Int) (w : World) (w0 : RSt w (.slice a0 len0 cap0) ss ∧ ss.length = len0 ∧ len0 ≤ maxLen ∧ ∀ e ∈ ss, StW e) (w1 : RN w (.slice a1 len1 cap1) tl ∧ tl.length = len1 ∧ len1 ≤ maxLen ∧ ∀ e ∈ tl, in64 e) :
    Calls Try.prog 7 #[.slice a0 len0 cap0, .slice a1 len1 cap1] w fun e W => e = .returned (.bool true) ∧ Below w.heap.size w W := by
  obtain ⟨hr, hln, hmx, -⟩ := w0
  obtain ⟨hr1, hln1, hmx1, hin1⟩ := w1
  unfold maxLen at hmx hmx1
  have HN := hide (fun W => New_in W)
  have HK := hide (fun W => known_in W)
  have Hr := hide hr
  have Hr1 := hide hr1
  have Hln := hide hln
  have Hln1 := hide hln1
  have Hin1 := hide hin1
  have mixed : Try.prog.follows .mixedOrders = true := by kernel_rfl
  clear hr hr1 hln hln1 hin1
  by_cases hbig : 300 < len0
  · have hbig' : (300 : Int) < (len0 : Int) := by omega
    go_enter Try.func7, Try.ntmps7
    go_wp2_with fail
    refine (unhide HK _).mono ?_
    rintro r W2 ⟨rfl, hb2⟩
    go_wp2
    go_ret
    exact ⟨rfl, hb2⟩
  · have hbig' : ¬ (300 : Int) < (len0 : Int) := by omega
    by_cases hbig1 : 300 < len1
    · have hbig1' : (300 : Int) < (len1 : Int) := by omega
      go_enter Try.func7, Try.ntmps7
      go_wp2_with fail
      refine (unhide HK _).mono ?_
      rintro r W2 ⟨rfl, hb2⟩
      go_wp2
      go_ret
      exact ⟨rfl, hb2⟩
    · have hbig1' : ¬ (300 : Int) < (len1 : Int) := by omega
      go_enter Try.func7, Try.ntmps7
      go_wp2_with fail
      refine (unhide HN _).mono ?_
      rintro e W1 ⟨rfl, r1, d1⟩
      have R1 := hide r1
      have D1 := hide d1
      clear r1 d1
      go_wp2_with fail
      refine (unhide HN _).mono ?_
      rintro e W2 ⟨rfl, r2, d2⟩
      have hz1 := (unhide D1).size
      have hl1 := Bx.lt (unhide R1)
      have bw := bnext (unhide D1) d2
      have H2 : Hid (K2 w W2 w.heap.size nilS W1.heap.size nilS) := ⟨⟨(unhide R1).below d2, Gd.nil, Nat.le_refl _, bw⟩, ⟨r2, Gd.nil, hz1, bw⟩, by omega⟩
      clear r2 d2 bw hz1 hl1 R1 D1 HN
      go_wp2
      generalize w.heap.size = b at *
      generalize W1.heap.size = b2 at *
      go_loopw [7, 8, 9] (fun nv ev iv wr => ∃ (i : Nat) (s : St) (ea : Bool), iv = .int .i64 (i : Nat) ∧ nv = .int .i64 s.e ∧ ev = .bool ea ∧ i ≤ len0 ∧ Hid (K2 w wr b s b2 nilS ∧ Led s (ss.take i) ∧ (ea = false → Tim s))) (fun _ _ iv _ => len0 - (RowKit.intOf iv).toNat)
      case atStart => exact ⟨0, nilS, false, rfl, rfl, rfl, by omega, hide ⟨unhide H2, by rw [List.take_zero]; exact Led.nil, fun _ => Tim.nil⟩⟩
      case round =>
        obtain ⟨i, s, ea, rfl, rfl, rfl, hi, HI⟩ := hrel
        clear H2
        by_cases hlt : i < len0
        · have hlt' : (i : Int) < (len0 : Int) := by omega
          obtain ⟨hk2, hled, htim⟩ := unhide HI
          have hls : i < ss.length := by rw [unhide Hln]; exact hlt
          obtain ⟨x, hx⟩ : ∃ x, ss[i]? = some x := ⟨_, List.getElem?_eq_getElem hls⟩
          have hrow := (unhide Hr).below hk2.one.bel
          have htk : ss.take (i + 1) = ss.take i ++ [x] := by rw [List.take_add_one, hx]; rfl
          have HLed := hide (show Led (doS s x) (ss.take (i + 1)) by rw [htk]; exact hled.do x)
          have HT1 : Hid (eaB (ss.take i) x = false → ea = false → Tim (doS s x)) := fun h1 h2 => (htim h2).do hled x h1
          have hrt := RSt.take hrow (unhide Hln) (i := i) (by omega)
          have hge := hk2.one.gd.ge
          have hle := hk2.one.gd.le
          obtain ⟨b0, off, rfl, hb0, q0, q1⟩ := RSt.at hrow hx
          obtain ⟨V, hV⟩ : ∃ V, wr.alloc (.cells #[.bool x.lv, .int .i64 x.site] 30) = V := ⟨_, rfl⟩
          have bV : Below wr.heap.size wr V := by rw [← hV]; exact ballc (Below.refl _ _) _
          have xV : Bx V wr.heap.size 30 #[.bool x.lv, .int .i64 x.site] := by rw [← hV]; exact Bx.new _ _ _
          have lb := Bx.lt hk2.one.rb
          have HX := hide (show KX w V b s b2 nilS wr.heap.size x from ⟨hk2.below bV, xV, by omega⟩)
          have HJo : Hid (∀ X, Below V.heap.size V X → Calls Try.prog 27 #[.slice (some ⟨b0, off, none⟩) i cap0, .int .i64 x.site] X fun e X' => e = .returned (.bool (jnB (ss.take i) x.site)) ∧ Below X.heap.size X X') := fun X hX => joined_in (hrt.below (bnext bV hX)) (by rw [List.length_take]; omega) x.site
          have A1 := hide (fun X (h : KX w X b s b2 nilS wr.heap.size x) => Has_in h.two.one.rb x.site)
          have A2 := hide (fun X (h : KX w X b s b2 nilS wr.heap.size x) => h.do)
          have A3 := hide (fun X (h : KX w X b (doS s x) b2 nilS wr.heap.size x) => Has_in h.two.one.rb x.site)
          have A4 := hide (fun X (h : KX w X b (doS s x) b2 nilS wr.heap.size x) => h.do)
          have A5 := hide (fun X (h : KX w X b (doS s x) b2 nilS wr.heap.size x) => Epoch_in h.two.one.rb)
          rw [(do_twice s x).1, (do_twice s x).2] at A4
          have hdh := do_has s x
          have hde := do_e s x
          have HC : Hid (∀ t (X : World), KX w X b t b2 nilS wr.heap.size x → X.cell? ⟨wr.heap.size, 0, none⟩ = some (.bool x.lv) ∧ X.cell? ⟨wr.heap.size, 1, none⟩ = some (.int .i64 x.site) ∧ wr.heap.size < X.heap.size) := fun t X h => ⟨h.bx.cell 0 _ rfl, h.bx.cell 1 _ rfl, h.bx.lt⟩
          have k0 : ∀ p : BelowOf V, p.w.cell? ⟨wr.heap.size, 0, none⟩ = some (.bool x.lv) := fun p => cell_below (xV.cell 0 _ rfl) p.h
          have k1 : ∀ p : BelowOf V, p.w.cell? ⟨wr.heap.size, 1, none⟩ = some (.int .i64 x.site) := fun p => cell_below (xV.cell 1 _ rfl) p.h
          have hne := BelowOf.ne V
          have heb : eaB (ss.take i) x = (x.lv && siteB x.site && !jnB (ss.take i) x.site) := rfl
          have hcp : len0 ≤ cap0 := by
            rcases hrow with ⟨e0, _⟩ | ⟨_, _, cc, e1, e2, _⟩
            · omega
            · simp at e1
              omega
          have hsl : ∀ W : World, (Instr.sliceAt 22 (.slice (some ⟨b0, off, none⟩) len0 cap0) none (some (.int .i64 (i : Nat))) none).run Try.prog W = .ok (.slice (some ⟨b0, off, none⟩) i cap0) W := fun W => sl_toS W _ len0 cap0 i (by omega)
          clear hk2 hled htim hrow hrt hx htk bV xV HI
          generalize hT : doS s x = T at *
          generalize hD0 : doB s x = D at *
          generalize jnB (ss.take i) x.site = jn at *
          generalize hasB T x.site = hT2 at *
          generalize hasB s x.site = hS2 at *
          unfold siteB at heb
          generalize eaB (ss.take i) x = EA at *
          generalize x.lv = k0v at *
          generalize x.site = y at *
          clear hT hD0
          have hDD : (D != D) = false := by simp
          have heq : (T.e != T.e) = false := by simp
          have hdh' := hide hdh.symm
          clear hdh
          cases k0v with
          | false =>
            have hEA : EA = false := by rw [heb]; rfl
            clear heb
            subst hEA
            replace HT1 : Hid (ea = false → Tim T) := fun h => unhide HT1 rfl h
            go_wp2_with fail
            refine wp_region_quiet_below mixed (by kernel_rfl) ?_
            repeat (any_goals (first | go_big_quiet_step ((go_at_call 27; exact below_of (unhide HJo _ (BelowOf.h _)))) | quiet_step ((go_at_call 27; exact below_of (unhide HJo _ (BelowOf.h _))))))
            all_goals (refine wpQuiet_nil ?_; intro _ hw'; obtain ⟨p, hw''⟩ := hw'; subst hw'')
            have HX1 := hide ((unhide HX).below p.h)
            have g1 := (unhide HC _ _ (unhide HX1)).2.1
            have gl := (unhide HC _ _ (unhide HX1)).2.2
            clear k0 k1 hne HX HJo hV
            go_wp2_with fail
            refine (unhide A1 _ (unhide HX1)).mono ?_
            rintro e V1 ⟨rfl, c1⟩
            have HX2 := hide ((unhide HX1).below c1)
            have f0 := (unhide HC _ _ (unhide HX2)).1
            have f1 := (unhide HC _ _ (unhide HX2)).2.1
            clear c1 g1 gl HX1
            go_wp2_with fail
            refine (unhide A2 _ (unhide HX2)).mono ?_
            rintro e V2 ⟨rfl, h2⟩
            have HX3 := hide h2
            have e1 := (unhide HC _ _ h2).2.1
            clear h2 HX2 f0 f1
            go_wp2_with fail
            refine (unhide A3 _ (unhide HX3)).mono ?_
            rintro e V3 ⟨rfl, c3⟩
            have HX4 := hide ((unhide HX3).below c3)
            have d0 := (unhide HC _ _ (unhide HX4)).1
            have d1 := (unhide HC _ _ (unhide HX4)).2.1
            clear c3 e1 HX3
            cases hS2 with
            | false =>
              cases hT2 with
              | false =>
                obtain rfl : false = D := unhide hdh'
                clear hdh'
                rw [if_neg (by decide)] at hde
                have heq2 : (T.e != s.e) = false := by rw [hde]; simp
                go_wp2_with fail
                refine (unhide A4 _ (unhide HX4)).mono ?_
                rintro e V4 ⟨rfl, h4⟩
                have HX5 := hide h4
                clear h4 HX4 d0 d1
                go_wp2_with fail
                refine (unhide A5 _ (unhide HX5)).mono ?_
                rintro e V4' ⟨rfl, rfl⟩
                go_wp2
                go_roundw
                case measure => show len0 - ((i : Int) + 1).toNat < len0 - ((i : Nat) : Int).toNat; omega
                case rel => exact ⟨i + 1, T, ea, by go_num, by rw [hde], rfl, by omega, hide ⟨(unhide HX5).two, unhide HLed, fun h => unhide HT1 h⟩⟩
              | true =>
                obtain rfl : true = D := unhide hdh'
                clear hdh'
                rw [if_pos rfl] at hde
                have hwr : IntKind.i64.wrap (s.e + 1) = s.e + 1 := by simp only [IntKind.wrap_i64]; omega
                have heq2 : (T.e != s.e + 1) = false := by rw [hde]; simp
                go_wp2_with fail
                refine (unhide A4 _ (unhide HX4)).mono ?_
                rintro e V4 ⟨rfl, h4⟩
                have HX5 := hide h4
                clear h4 HX4 d0 d1
                go_wp2_with fail
                refine (unhide A5 _ (unhide HX5)).mono ?_
                rintro e V4' ⟨rfl, rfl⟩
                go_wp2
                go_roundw
                case measure => show len0 - ((i : Int) + 1).toNat < len0 - ((i : Nat) : Int).toNat; omega
                case rel => exact ⟨i + 1, T, ea, by go_num, by rw [hde], rfl, by omega, hide ⟨(unhide HX5).two, unhide HLed, fun h => unhide HT1 h⟩⟩
            | true =>
              cases hT2 with
              | false =>
                obtain rfl : true = D := unhide hdh'
                clear hdh'
                rw [if_pos rfl] at hde
                have hwr : IntKind.i64.wrap (s.e + 1) = s.e + 1 := by simp only [IntKind.wrap_i64]; omega
                have heq2 : (T.e != s.e + 1) = false := by rw [hde]; simp
                go_wp2_with fail
                refine (unhide A4 _ (unhide HX4)).mono ?_
                rintro e V4 ⟨rfl, h4⟩
                have HX5 := hide h4
                clear h4 HX4 d0 d1
                go_wp2_with fail
                refine (unhide A5 _ (unhide HX5)).mono ?_
                rintro e V4' ⟨rfl, rfl⟩
                go_wp2
                go_roundw
                case measure => show len0 - ((i : Int) + 1).toNat < len0 - ((i : Nat) : Int).toNat; omega
                case rel => exact ⟨i + 1, T, ea, by go_num, by rw [hde], rfl, by omega, hide ⟨(unhide HX5).two, unhide HLed, fun h => unhide HT1 h⟩⟩
              | true =>
                obtain rfl : false = D := unhide hdh'
                clear hdh'
                rw [if_neg (by decide)] at hde
                have heq2 : (T.e != s.e) = false := by rw [hde]; simp
                go_wp2_with fail
                refine (unhide A4 _ (unhide HX4)).mono ?_
                rintro e V4 ⟨rfl, h4⟩
                have HX5 := hide h4
                clear h4 HX4 d0 d1
                go_wp2_with fail
                refine (unhide A5 _ (unhide HX5)).mono ?_
                rintro e V4' ⟨rfl, rfl⟩
                go_wp2
                go_roundw
                case measure => show len0 - ((i : Int) + 1).toNat < len0 - ((i : Nat) : Int).toNat; omega
                case rel => exact ⟨i + 1, T, ea, by go_num, by rw [hde], rfl, by omega, hide ⟨(unhide HX5).two, unhide HLed, fun h => unhide HT1 h⟩⟩
          | true =>
            by_cases hy1 : 1 ≤ y
            · by_cases hy2 : y ≤ 16
              · cases jn with
                | true =>
                  have hEA : EA = false := by rw [heb]; simp
                  clear heb
                  subst hEA
                  replace HT1 : Hid (ea = false → Tim T) := fun h => unhide HT1 rfl h
                  go_wp2_with fail
                  refine wp_region_quiet_below mixed (by kernel_rfl) ?_
                  repeat (any_goals (first | go_big_quiet_step ((go_at_call 27; exact below_of (unhide HJo _ (BelowOf.h _)))) | quiet_step ((go_at_call 27; exact below_of (unhide HJo _ (BelowOf.h _))))))
                  all_goals (refine wpQuiet_nil ?_; intro _ hw'; obtain ⟨p, hw''⟩ := hw'; subst hw'')
                  have HX1 := hide ((unhide HX).below p.h)
                  have g1 := (unhide HC _ _ (unhide HX1)).2.1
                  have gl := (unhide HC _ _ (unhide HX1)).2.2
                  clear k0 k1 hne HX HJo hV
                  go_wp2_with fail
                  refine (unhide A1 _ (unhide HX1)).mono ?_
                  rintro e V1 ⟨rfl, c1⟩
                  have HX2 := hide ((unhide HX1).below c1)
                  have f0 := (unhide HC _ _ (unhide HX2)).1
                  have f1 := (unhide HC _ _ (unhide HX2)).2.1
                  clear c1 g1 gl HX1
                  go_wp2_with fail
                  refine (unhide A2 _ (unhide HX2)).mono ?_
                  rintro e V2 ⟨rfl, h2⟩
                  have HX3 := hide h2
                  have e1 := (unhide HC _ _ h2).2.1
                  clear h2 HX2 f0 f1
                  go_wp2_with fail
                  refine (unhide A3 _ (unhide HX3)).mono ?_
                  rintro e V3 ⟨rfl, c3⟩
                  have HX4 := hide ((unhide HX3).below c3)
                  have d0 := (unhide HC _ _ (unhide HX4)).1
                  have d1 := (unhide HC _ _ (unhide HX4)).2.1
                  clear c3 e1 HX3
                  cases hS2 with
                  | false =>
                    cases hT2 with
                    | false =>
                      obtain rfl : false = D := unhide hdh'
                      clear hdh'
                      rw [if_neg (by decide)] at hde
                      have heq2 : (T.e != s.e) = false := by rw [hde]; simp
                      go_wp2_with fail
                      refine (unhide A4 _ (unhide HX4)).mono ?_
                      rintro e V4 ⟨rfl, h4⟩
                      have HX5 := hide h4
                      clear h4 HX4 d0 d1
                      go_wp2_with fail
                      refine (unhide A5 _ (unhide HX5)).mono ?_
                      rintro e V4' ⟨rfl, rfl⟩
                      go_wp2
                      go_roundw
                      case measure => show len0 - ((i : Int) + 1).toNat < len0 - ((i : Nat) : Int).toNat; omega
                      case rel => exact ⟨i + 1, T, ea, by go_num, by rw [hde], rfl, by omega, hide ⟨(unhide HX5).two, unhide HLed, fun h => unhide HT1 h⟩⟩
                    | true =>
                      obtain rfl : true = D := unhide hdh'
                      clear hdh'
                      rw [if_pos rfl] at hde
                      have hwr : IntKind.i64.wrap (s.e + 1) = s.e + 1 := by simp only [IntKind.wrap_i64]; omega
                      have heq2 : (T.e != s.e + 1) = false := by rw [hde]; simp
                      go_wp2_with fail
                      refine (unhide A4 _ (unhide HX4)).mono ?_
                      rintro e V4 ⟨rfl, h4⟩
                      have HX5 := hide h4
                      clear h4 HX4 d0 d1
                      go_wp2_with fail
                      refine (unhide A5 _ (unhide HX5)).mono ?_
                      rintro e V4' ⟨rfl, rfl⟩
                      go_wp2
                      go_roundw
                      case measure => show len0 - ((i : Int) + 1).toNat < len0 - ((i : Nat) : Int).toNat; omega
                      case rel => exact ⟨i + 1, T, ea, by go_num, by rw [hde], rfl, by omega, hide ⟨(unhide HX5).two, unhide HLed, fun h => unhide HT1 h⟩⟩
                  | true =>
                    cases hT2 with
                    | false =>
                      obtain rfl : true = D := unhide hdh'
                      clear hdh'
                      rw [if_pos rfl] at hde
                      have hwr : IntKind.i64.wrap (s.e + 1) = s.e + 1 := by simp only [IntKind.wrap_i64]; omega
                      have heq2 : (T.e != s.e + 1) = false := by rw [hde]; simp
                      go_wp2_with fail
                      refine (unhide A4 _ (unhide HX4)).mono ?_
                      rintro e V4 ⟨rfl, h4⟩
                      have HX5 := hide h4
                      clear h4 HX4 d0 d1
                      go_wp2_with fail
                      refine (unhide A5 _ (unhide HX5)).mono ?_
                      rintro e V4' ⟨rfl, rfl⟩
                      go_wp2
                      go_roundw
                      case measure => show len0 - ((i : Int) + 1).toNat < len0 - ((i : Nat) : Int).toNat; omega
                      case rel => exact ⟨i + 1, T, ea, by go_num, by rw [hde], rfl, by omega, hide ⟨(unhide HX5).two, unhide HLed, fun h => unhide HT1 h⟩⟩
                    | true =>
                      obtain rfl : false = D := unhide hdh'
                      clear hdh'
                      rw [if_neg (by decide)] at hde
                      have heq2 : (T.e != s.e) = false := by rw [hde]; simp
                      go_wp2_with fail
                      refine (unhide A4 _ (unhide HX4)).mono ?_
                      rintro e V4 ⟨rfl, h4⟩
                      have HX5 := hide h4
                      clear h4 HX4 d0 d1
                      go_wp2_with fail
                      refine (unhide A5 _ (unhide HX5)).mono ?_
                      rintro e V4' ⟨rfl, rfl⟩
                      go_wp2
                      go_roundw
                      case measure => show len0 - ((i : Int) + 1).toNat < len0 - ((i : Nat) : Int).toNat; omega
                      case rel => exact ⟨i + 1, T, ea, by go_num, by rw [hde], rfl, by omega, hide ⟨(unhide HX5).two, unhide HLed, fun h => unhide HT1 h⟩⟩
                | false =>
                  clear heb
                  go_wp2_with fail
                  refine wp_region_quiet_below mixed (by kernel_rfl) ?_
                  repeat (any_goals (first | go_big_quiet_step ((go_at_call 27; exact below_of (unhide HJo _ (BelowOf.h _)))) | quiet_step ((go_at_call 27; exact below_of (unhide HJo _ (BelowOf.h _))))))
                  all_goals (refine wpQuiet_nil ?_; intro _ hw'; obtain ⟨p, hw''⟩ := hw'; subst hw'')
                  have HX1 := hide ((unhide HX).below p.h)
                  have g1 := (unhide HC _ _ (unhide HX1)).2.1
                  have gl := (unhide HC _ _ (unhide HX1)).2.2
                  clear k0 k1 hne HX HJo hV
                  go_wp2_with fail
                  refine (unhide A1 _ (unhide HX1)).mono ?_
                  rintro e V1 ⟨rfl, c1⟩
                  have HX2 := hide ((unhide HX1).below c1)
                  have f0 := (unhide HC _ _ (unhide HX2)).1
                  have f1 := (unhide HC _ _ (unhide HX2)).2.1
                  clear c1 g1 gl HX1
                  go_wp2_with fail
                  refine (unhide A2 _ (unhide HX2)).mono ?_
                  rintro e V2 ⟨rfl, h2⟩
                  have HX3 := hide h2
                  have e1 := (unhide HC _ _ h2).2.1
                  clear h2 HX2 f0 f1
                  go_wp2_with fail
                  refine (unhide A3 _ (unhide HX3)).mono ?_
                  rintro e V3 ⟨rfl, c3⟩
                  have HX4 := hide ((unhide HX3).below c3)
                  have d0 := (unhide HC _ _ (unhide HX4)).1
                  have d1 := (unhide HC _ _ (unhide HX4)).2.1
                  clear c3 e1 HX3
                  cases hS2 with
                  | false =>
                    cases hT2 with
                    | false =>
                      obtain rfl : false = D := unhide hdh'
                      clear hdh'
                      rw [if_neg (by decide)] at hde
                      have heq2 : (T.e != s.e) = false := by rw [hde]; simp
                      go_wp2_with fail
                      refine (unhide A4 _ (unhide HX4)).mono ?_
                      rintro e V4 ⟨rfl, h4⟩
                      have HX5 := hide h4
                      clear h4 HX4 d0 d1
                      go_wp2_with fail
                      refine (unhide A5 _ (unhide HX5)).mono ?_
                      rintro e V4' ⟨rfl, rfl⟩
                      go_wp2
                      go_roundw
                      case measure => show len0 - ((i : Int) + 1).toNat < len0 - ((i : Nat) : Int).toNat; omega
                      case rel => exact ⟨i + 1, T, true, by go_num, by rw [hde], rfl, by omega, hide ⟨(unhide HX5).two, unhide HLed, fun h => (by cases h)⟩⟩
                    | true =>
                      obtain rfl : true = D := unhide hdh'
                      clear hdh'
                      rw [if_pos rfl] at hde
                      have hwr : IntKind.i64.wrap (s.e + 1) = s.e + 1 := by simp only [IntKind.wrap_i64]; omega
                      have heq2 : (T.e != s.e + 1) = false := by rw [hde]; simp
                      go_wp2_with fail
                      refine (unhide A4 _ (unhide HX4)).mono ?_
                      rintro e V4 ⟨rfl, h4⟩
                      have HX5 := hide h4
                      clear h4 HX4 d0 d1
                      go_wp2_with fail
                      refine (unhide A5 _ (unhide HX5)).mono ?_
                      rintro e V4' ⟨rfl, rfl⟩
                      go_wp2
                      go_roundw
                      case measure => show len0 - ((i : Int) + 1).toNat < len0 - ((i : Nat) : Int).toNat; omega
                      case rel => exact ⟨i + 1, T, true, by go_num, by rw [hde], rfl, by omega, hide ⟨(unhide HX5).two, unhide HLed, fun h => (by cases h)⟩⟩
                  | true =>
                    cases hT2 with
                    | false =>
                      obtain rfl : true = D := unhide hdh'
                      clear hdh'
                      rw [if_pos rfl] at hde
                      have hwr : IntKind.i64.wrap (s.e + 1) = s.e + 1 := by simp only [IntKind.wrap_i64]; omega
                      have heq2 : (T.e != s.e + 1) = false := by rw [hde]; simp
                      go_wp2_with fail
                      refine (unhide A4 _ (unhide HX4)).mono ?_
                      rintro e V4 ⟨rfl, h4⟩
                      have HX5 := hide h4
                      clear h4 HX4 d0 d1
                      go_wp2_with fail
                      refine (unhide A5 _ (unhide HX5)).mono ?_
                      rintro e V4' ⟨rfl, rfl⟩
                      go_wp2
                      go_roundw
                      case measure => show len0 - ((i : Int) + 1).toNat < len0 - ((i : Nat) : Int).toNat; omega
                      case rel => exact ⟨i + 1, T, true, by go_num, by rw [hde], rfl, by omega, hide ⟨(unhide HX5).two, unhide HLed, fun h => (by cases h)⟩⟩
                    | true =>
                      obtain rfl : false = D := unhide hdh'
                      clear hdh'
                      rw [if_neg (by decide)] at hde
                      have heq2 : (T.e != s.e) = false := by rw [hde]; simp
                      go_wp2_with fail
                      refine (unhide A4 _ (unhide HX4)).mono ?_
                      rintro e V4 ⟨rfl, h4⟩
                      have HX5 := hide h4
                      clear h4 HX4 d0 d1
                      go_wp2_with fail
                      refine (unhide A5 _ (unhide HX5)).mono ?_
                      rintro e V4' ⟨rfl, rfl⟩
                      go_wp2
                      go_roundw
                      case measure => show len0 - ((i : Int) + 1).toNat < len0 - ((i : Nat) : Int).toNat; omega
                      case rel => exact ⟨i + 1, T, true, by go_num, by rw [hde], rfl, by omega, hide ⟨(unhide HX5).two, unhide HLed, fun h => (by cases h)⟩⟩
              · have hb2 : decide (y ≤ 16) = false := decide_eq_false hy2
                have hb1 : decide (1 ≤ y) = true := decide_eq_true hy1
                have hlt2 : 16 < y := by omega
                have hEA : EA = false := by rw [heb, decide_eq_false (by omega)]; rfl
                clear heb
                subst hEA
                replace HT1 : Hid (ea = false → Tim T) := fun h => unhide HT1 rfl h
                go_wp2_with fail
                refine wp_region_quiet_below mixed (by kernel_rfl) ?_
                repeat (any_goals (first | go_big_quiet_step ((go_at_call 27; exact below_of (unhide HJo _ (BelowOf.h _)))) | quiet_step ((go_at_call 27; exact below_of (unhide HJo _ (BelowOf.h _))))))
                all_goals (refine wpQuiet_nil ?_; intro _ hw'; obtain ⟨p, hw''⟩ := hw'; subst hw'')
                have HX1 := hide ((unhide HX).below p.h)
                have g1 := (unhide HC _ _ (unhide HX1)).2.1
                have gl := (unhide HC _ _ (unhide HX1)).2.2
                clear k0 k1 hne HX HJo hV
                go_wp2_with fail
                refine (unhide A1 _ (unhide HX1)).mono ?_
                rintro e V1 ⟨rfl, c1⟩
                have HX2 := hide ((unhide HX1).below c1)
                have f0 := (unhide HC _ _ (unhide HX2)).1
                have f1 := (unhide HC _ _ (unhide HX2)).2.1
                clear c1 g1 gl HX1
                go_wp2_with fail
                refine (unhide A2 _ (unhide HX2)).mono ?_
                rintro e V2 ⟨rfl, h2⟩
                have HX3 := hide h2
                have e1 := (unhide HC _ _ h2).2.1
                clear h2 HX2 f0 f1
                go_wp2_with fail
                refine (unhide A3 _ (unhide HX3)).mono ?_
                rintro e V3 ⟨rfl, c3⟩
                have HX4 := hide ((unhide HX3).below c3)
                have d0 := (unhide HC _ _ (unhide HX4)).1
                have d1 := (unhide HC _ _ (unhide HX4)).2.1
                clear c3 e1 HX3
                cases hS2 with
                | false =>
                  cases hT2 with
                  | false =>
                    obtain rfl : false = D := unhide hdh'
                    clear hdh'
                    rw [if_neg (by decide)] at hde
                    have heq2 : (T.e != s.e) = false := by rw [hde]; simp
                    go_wp2_with fail
                    refine (unhide A4 _ (unhide HX4)).mono ?_
                    rintro e V4 ⟨rfl, h4⟩
                    have HX5 := hide h4
                    clear h4 HX4 d0 d1
                    go_wp2_with fail
                    refine (unhide A5 _ (unhide HX5)).mono ?_
                    rintro e V4' ⟨rfl, rfl⟩
                    go_wp2
                    go_roundw
                    case measure => show len0 - ((i : Int) + 1).toNat < len0 - ((i : Nat) : Int).toNat; omega
                    case rel => exact ⟨i + 1, T, ea, by go_num, by rw [hde], rfl, by omega, hide ⟨(unhide HX5).two, unhide HLed, fun h => unhide HT1 h⟩⟩
                  | true =>
                    obtain rfl : true = D := unhide hdh'
                    clear hdh'
                    rw [if_pos rfl] at hde
                    have hwr : IntKind.i64.wrap (s.e + 1) = s.e + 1 := by simp only [IntKind.wrap_i64]; omega
                    have heq2 : (T.e != s.e + 1) = false := by rw [hde]; simp
                    go_wp2_with fail
                    refine (unhide A4 _ (unhide HX4)).mono ?_
                    rintro e V4 ⟨rfl, h4⟩
                    have HX5 := hide h4
                    clear h4 HX4 d0 d1
                    go_wp2_with fail
                    refine (unhide A5 _ (unhide HX5)).mono ?_
                    rintro e V4' ⟨rfl, rfl⟩
                    go_wp2
                    go_roundw
                    case measure => show len0 - ((i : Int) + 1).toNat < len0 - ((i : Nat) : Int).toNat; omega
                    case rel => exact ⟨i + 1, T, ea, by go_num, by rw [hde], rfl, by omega, hide ⟨(unhide HX5).two, unhide HLed, fun h => unhide HT1 h⟩⟩
                | true =>
                  cases hT2 with
                  | false =>
                    obtain rfl : true = D := unhide hdh'
                    clear hdh'
                    rw [if_pos rfl] at hde
                    have hwr : IntKind.i64.wrap (s.e + 1) = s.e + 1 := by simp only [IntKind.wrap_i64]; omega
                    have heq2 : (T.e != s.e + 1) = false := by rw [hde]; simp
                    go_wp2_with fail
                    refine (unhide A4 _ (unhide HX4)).mono ?_
                    rintro e V4 ⟨rfl, h4⟩
                    have HX5 := hide h4
                    clear h4 HX4 d0 d1
                    go_wp2_with fail
                    refine (unhide A5 _ (unhide HX5)).mono ?_
                    rintro e V4' ⟨rfl, rfl⟩
                    go_wp2
                    go_roundw
                    case measure => show len0 - ((i : Int) + 1).toNat < len0 - ((i : Nat) : Int).toNat; omega
                    case rel => exact ⟨i + 1, T, ea, by go_num, by rw [hde], rfl, by omega, hide ⟨(unhide HX5).two, unhide HLed, fun h => unhide HT1 h⟩⟩
                  | true =>
                    obtain rfl : false = D := unhide hdh'
                    clear hdh'
                    rw [if_neg (by decide)] at hde
                    have heq2 : (T.e != s.e) = false := by rw [hde]; simp
                    go_wp2_with fail
                    refine (unhide A4 _ (unhide HX4)).mono ?_
                    rintro e V4 ⟨rfl, h4⟩
                    have HX5 := hide h4
                    clear h4 HX4 d0 d1
                    go_wp2_with fail
                    refine (unhide A5 _ (unhide HX5)).mono ?_
                    rintro e V4' ⟨rfl, rfl⟩
                    go_wp2
                    go_roundw
                    case measure => show len0 - ((i : Int) + 1).toNat < len0 - ((i : Nat) : Int).toNat; omega
                    case rel => exact ⟨i + 1, T, ea, by go_num, by rw [hde], rfl, by omega, hide ⟨(unhide HX5).two, unhide HLed, fun h => unhide HT1 h⟩⟩
            · have hb1 : decide (1 ≤ y) = false := decide_eq_false hy1
              have hlt1 : y < 1 := by omega
              have hEA : EA = false := by rw [heb, decide_eq_false (by omega)]; rfl
              clear heb
              subst hEA
              replace HT1 : Hid (ea = false → Tim T) := fun h => unhide HT1 rfl h
              go_wp2_with fail
              refine wp_region_quiet_below mixed (by kernel_rfl) ?_
              repeat (any_goals (first | go_big_quiet_step ((go_at_call 27; exact below_of (unhide HJo _ (BelowOf.h _)))) | quiet_step ((go_at_call 27; exact below_of (unhide HJo _ (BelowOf.h _))))))
              all_goals (refine wpQuiet_nil ?_; intro _ hw'; obtain ⟨p, hw''⟩ := hw'; subst hw'')
              have HX1 := hide ((unhide HX).below p.h)
              have g1 := (unhide HC _ _ (unhide HX1)).2.1
              have gl := (unhide HC _ _ (unhide HX1)).2.2
              clear k0 k1 hne HX HJo hV
              go_wp2_with fail
              refine (unhide A1 _ (unhide HX1)).mono ?_
              rintro e V1 ⟨rfl, c1⟩
              have HX2 := hide ((unhide HX1).below c1)
              have f0 := (unhide HC _ _ (unhide HX2)).1
              have f1 := (unhide HC _ _ (unhide HX2)).2.1
              clear c1 g1 gl HX1
              go_wp2_with fail
              refine (unhide A2 _ (unhide HX2)).mono ?_
              rintro e V2 ⟨rfl, h2⟩
              have HX3 := hide h2
              have e1 := (unhide HC _ _ h2).2.1
              clear h2 HX2 f0 f1
              go_wp2_with fail
              refine (unhide A3 _ (unhide HX3)).mono ?_
              rintro e V3 ⟨rfl, c3⟩
              have HX4 := hide ((unhide HX3).below c3)
              have d0 := (unhide HC _ _ (unhide HX4)).1
              have d1 := (unhide HC _ _ (unhide HX4)).2.1
              clear c3 e1 HX3
              cases hS2 with
              | false =>
                cases hT2 with
                | false =>
                  obtain rfl : false = D := unhide hdh'
                  clear hdh'
                  rw [if_neg (by decide)] at hde
                  have heq2 : (T.e != s.e) = false := by rw [hde]; simp
                  go_wp2_with fail
                  refine (unhide A4 _ (unhide HX4)).mono ?_
                  rintro e V4 ⟨rfl, h4⟩
                  have HX5 := hide h4
                  clear h4 HX4 d0 d1
                  go_wp2_with fail
                  refine (unhide A5 _ (unhide HX5)).mono ?_
                  rintro e V4' ⟨rfl, rfl⟩
                  go_wp2
                  go_roundw
                  case measure => show len0 - ((i : Int) + 1).toNat < len0 - ((i : Nat) : Int).toNat; omega
                  case rel => exact ⟨i + 1, T, ea, by go_num, by rw [hde], rfl, by omega, hide ⟨(unhide HX5).two, unhide HLed, fun h => unhide HT1 h⟩⟩
                | true =>
                  obtain rfl : true = D := unhide hdh'
                  clear hdh'
                  rw [if_pos rfl] at hde
                  have hwr : IntKind.i64.wrap (s.e + 1) = s.e + 1 := by simp only [IntKind.wrap_i64]; omega
                  have heq2 : (T.e != s.e + 1) = false := by rw [hde]; simp
                  go_wp2_with fail
                  refine (unhide A4 _ (unhide HX4)).mono ?_
                  rintro e V4 ⟨rfl, h4⟩
                  have HX5 := hide h4
                  clear h4 HX4 d0 d1
                  go_wp2_with fail
                  refine (unhide A5 _ (unhide HX5)).mono ?_
                  rintro e V4' ⟨rfl, rfl⟩
                  go_wp2
                  go_roundw
                  case measure => show len0 - ((i : Int) + 1).toNat < len0 - ((i : Nat) : Int).toNat; omega
                  case rel => exact ⟨i + 1, T, ea, by go_num, by rw [hde], rfl, by omega, hide ⟨(unhide HX5).two, unhide HLed, fun h => unhide HT1 h⟩⟩
              | true =>
                cases hT2 with
                | false =>
                  obtain rfl : true = D := unhide hdh'
                  clear hdh'
                  rw [if_pos rfl] at hde
                  have hwr : IntKind.i64.wrap (s.e + 1) = s.e + 1 := by simp only [IntKind.wrap_i64]; omega
                  have heq2 : (T.e != s.e + 1) = false := by rw [hde]; simp
                  go_wp2_with fail
                  refine (unhide A4 _ (unhide HX4)).mono ?_
                  rintro e V4 ⟨rfl, h4⟩
                  have HX5 := hide h4
                  clear h4 HX4 d0 d1
                  go_wp2_with fail
                  refine (unhide A5 _ (unhide HX5)).mono ?_
                  rintro e V4' ⟨rfl, rfl⟩
                  go_wp2
                  go_roundw
                  case measure => show len0 - ((i : Int) + 1).toNat < len0 - ((i : Nat) : Int).toNat; omega
                  case rel => exact ⟨i + 1, T, ea, by go_num, by rw [hde], rfl, by omega, hide ⟨(unhide HX5).two, unhide HLed, fun h => unhide HT1 h⟩⟩
                | true =>
                  obtain rfl : false = D := unhide hdh'
                  clear hdh'
                  rw [if_neg (by decide)] at hde
                  have heq2 : (T.e != s.e) = false := by rw [hde]; simp
                  go_wp2_with fail
                  refine (unhide A4 _ (unhide HX4)).mono ?_
                  rintro e V4 ⟨rfl, h4⟩
                  have HX5 := hide h4
                  clear h4 HX4 d0 d1
                  go_wp2_with fail
                  refine (unhide A5 _ (unhide HX5)).mono ?_
                  rintro e V4' ⟨rfl, rfl⟩
                  go_wp2
                  go_roundw
                  case measure => show len0 - ((i : Int) + 1).toNat < len0 - ((i : Nat) : Int).toNat; omega
                  case rel => exact ⟨i + 1, T, ea, by go_num, by rw [hde], rfl, by omega, hide ⟨(unhide HX5).two, unhide HLed, fun h => unhide HT1 h⟩⟩
        · have hlt' : ¬ (i : Int) < (len0 : Int) := by omega
          have H1 : Hid (K2 w wr b s b2 nilS ∧ Led s ss ∧ (ea = false → Tim s)) := by
            have := unhide HI
            rw [List.take_of_length_le (by rw [unhide Hln]; omega)] at this
            exact this
          clear HI
          go_wp2
          go_loopw [13] (fun iv wr => ∃ (k : Nat) (t : St), iv = .int .i64 (k : Nat) ∧ k ≤ len1 ∧ Hid (K2 w wr b s b2 t ∧ ∃ m, Led t m ∧ ∀ x ∈ m, x ∈ ss)) (fun iv _ => len1 - (RowKit.intOf iv).toNat)
          case atStart => exact ⟨0, nilS, rfl, Nat.zero_le _, hide ⟨(unhide H1).1, [], Led.nil, fun x hx => by cases hx⟩⟩
          case round =>
            obtain ⟨k, t, rfl, hk, HJ⟩ := hrel
            by_cases hg : k < len1 ∧ 0 < len0
            · obtain ⟨hk1, hl0⟩ := hg
              have hk1' : (k : Int) < (len1 : Int) := by omega
              have hl0' : (0 : Int) < (len0 : Int) := by omega
              have hl0n : ¬ (len0 : Int) = 0 := by omega
              obtain ⟨hK, m, hled, hsub⟩ := unhide HJ
              have hkt : k < tl.length := by rw [unhide Hln1]; exact hk1
              obtain ⟨z, hz⟩ : ∃ z, tl[k]? = some z := ⟨_, List.getElem?_eq_getElem hkt⟩
              have hrow1 := (unhide Hr1).below hK.one.bel
              obtain ⟨bt, ot, rfl, hbt, qt⟩ := RN.at hrow1 hz
              have hzin := unhide Hin1 z (List.mem_of_getElem? hz)
              unfold in64 at hzin
              have hm1 := Int.tmod_lt_of_pos z hl0'
              have hm2 := Int.lt_tmod_of_pos z hl0'
              obtain ⟨zm, hzm⟩ : ∃ zm, z.tmod (len0 : Int) = zm := ⟨_, rfl⟩
              rw [hzm] at hm1 hm2
              have hrow := (unhide Hr).below hK.one.bel
              by_cases hneg : zm < 0
              · have hzz : zm < 0 := hneg
                obtain ⟨q, hq⟩ : ∃ q : Nat, zm + (len0 : Int) = (q : Int) := ⟨(zm + len0).toNat, by omega⟩
                have hq0 : q < len0 := by omega
                have hq' : (q : Int) < (len0 : Int) := by omega
                obtain ⟨x, hx⟩ : ∃ x, ss[q]? = some x := ⟨_, List.getElem?_eq_getElem (by rw [unhide Hln]; exact hq0)⟩
                obtain ⟨b0, off, rfl, hb0, q0, q1⟩ := RSt.at hrow hx
                have HD := hide (hK.swap.do x)
                have HL2 := hide (show ∃ m', Led (doS t x) m' ∧ ∀ y ∈ m', y ∈ ss from ⟨m ++ [x], hled.do x, fun y hy => by
                  rcases List.mem_append.1 hy with h | h
                  · exact hsub y h
                  · simp at h; subst h; exact List.mem_of_getElem? hx⟩)
                have hwr : IntKind.i64.wrap (zm + (len0 : Int)) = (q : Int) := by rw [hq]; simp only [IntKind.wrap_i64]; omega
                obtain ⟨D, hD⟩ : ∃ D, doB t x = D := ⟨_, rfl⟩
                rw [hD] at HD
                clear hK hled hsub hz hrow1 hrow hx hD HJ
                generalize doS t x = T at *
                generalize x.lv = k0 at *
                generalize x.site = k1 at *
                go_wp2_with fail
                refine (unhide HD).mono ?_
                rintro e V1 ⟨rfl, h1⟩
                have HQ := hide h1.swap
                clear h1 HD
                go_wp2
                go_roundw
                case measure => show len1 - ((k : Int) + 1).toNat < len1 - ((k : Nat) : Int).toNat; omega
                case rel => exact ⟨k + 1, T, by go_num, by omega, hide ⟨unhide HQ, unhide HL2⟩⟩
              · have hzz : ¬ zm < 0 := hneg
                obtain ⟨q, hq⟩ : ∃ q : Nat, zm = (q : Int) := ⟨zm.toNat, by omega⟩
                have hq0 : q < len0 := by omega
                have hq' : (q : Int) < (len0 : Int) := by omega
                obtain ⟨x, hx⟩ : ∃ x, ss[q]? = some x := ⟨_, List.getElem?_eq_getElem (by rw [unhide Hln]; exact hq0)⟩
                obtain ⟨b0, off, rfl, hb0, q0, q1⟩ := RSt.at hrow hx
                have HD := hide (hK.swap.do x)
                have HL2 := hide (show ∃ m', Led (doS t x) m' ∧ ∀ y ∈ m', y ∈ ss from ⟨m ++ [x], hled.do x, fun y hy => by
                  rcases List.mem_append.1 hy with h | h
                  · exact hsub y h
                  · simp at h; subst h; exact List.mem_of_getElem? hx⟩)
                subst hq
                obtain ⟨D, hD⟩ : ∃ D, doB t x = D := ⟨_, rfl⟩
                rw [hD] at HD
                clear hK hled hsub hz hrow1 hrow hx hD HJ
                generalize doS t x = T at *
                generalize x.lv = k0 at *
                generalize x.site = k1 at *
                go_wp2_with fail
                refine (unhide HD).mono ?_
                rintro e V1 ⟨rfl, h1⟩
                have HQ := hide h1.swap
                clear h1 HD
                go_wp2
                go_roundw
                case measure => show len1 - ((k : Int) + 1).toNat < len1 - ((k : Nat) : Int).toNat; omega
                case rel => exact ⟨k + 1, T, by go_num, by omega, hide ⟨unhide HQ, unhide HL2⟩⟩
            · have HR2 : Hid (K2 w wr b s b2 t ∧ ∃ m, Led t m ∧ ∀ x ∈ m, x ∈ ss) := HJ
              clear HJ
              by_cases hk1 : k < len1
              · have hk1' : (k : Int) < (len1 : Int) := by omega
                have hl0' : ¬ (0 : Int) < (len0 : Int) := by omega
                go_wp2
                go_loopw [15] (fun iv wr => ∃ (j : Nat) (t : St), iv = .int .i64 ((j : Int) - 1) ∧ j ≤ len0 ∧ Hid (K2 w wr b s b2 t ∧ ∃ m, Led t m ∧ (∀ x ∈ m, x ∈ ss) ∧ ∀ x ∈ ss.drop j, x ∈ m)) (fun iv _ => (RowKit.intOf iv + 1).toNat)
                case atStart => exact ⟨len0, t, by go_num, Nat.le_refl _, hide (by
                  obtain ⟨h1, m, h2, h3⟩ := unhide HR2
                  exact ⟨h1, m, h2, h3, fun x hx => by rw [List.drop_of_length_le (by rw [unhide Hln]; exact Nat.le_refl _)] at hx; cases hx⟩)⟩
                case round =>
                  obtain ⟨j, t, rfl, hj, HJ⟩ := hrel
                  clear HR2
                  cases j with
                  | succ q =>
                    have e0 : (((q + 1 : Nat) : Int) - 1) = (q : Int) := by omega
                    rw [e0]
                    have hq0 : q < len0 := by omega
                    have hq' : (q : Int) < (len0 : Int) := by omega
                    have hq1 : (0 : Int) ≤ (q : Int) := by omega
                    obtain ⟨hK, m, hled, hsub, hall⟩ := unhide HJ
                    have hrow := (unhide Hr).below hK.one.bel
                    have hqs : q < ss.length := by rw [unhide Hln]; exact hq0
                    obtain ⟨x, hx⟩ : ∃ x, ss[q]? = some x := ⟨_, List.getElem?_eq_getElem hqs⟩
                    obtain ⟨b0, off, rfl, hb0, q0, q1⟩ := RSt.at hrow hx
                    have HD := hide (hK.swap.do x)
                    have HL2 := hide (show ∃ m', Led (doS t x) m' ∧ (∀ y ∈ m', y ∈ ss) ∧ ∀ y ∈ ss.drop q, y ∈ m' from ⟨m ++ [x], hled.do x, fun y hy => by
                      rcases List.mem_append.1 hy with h | h
                      · exact hsub y h
                      · simp at h; subst h; exact List.mem_of_getElem? hx, fun y hy => by
                      rw [List.drop_eq_getElem_cons hqs] at hy
                      rw [List.getElem?_eq_getElem hqs] at hx
                      simp at hx
                      rw [hx] at hy
                      rcases List.mem_cons.1 hy with h | h
                      · exact List.mem_append.2 (.inr (by simp [h]))
                      · exact List.mem_append.2 (.inl (hall y h))⟩)
                    obtain ⟨D, hD⟩ : ∃ D, doB t x = D := ⟨_, rfl⟩
                    rw [hD] at HD
                    clear hK hled hsub hall hrow hx hD HJ
                    generalize doS t x = T at *
                    generalize x.lv = k0 at *
                    generalize x.site = k1 at *
                    go_wp2_with fail
                    refine (unhide HD).mono ?_
                    rintro e V1 ⟨rfl, h1⟩
                    have HQ := hide h1.swap
                    clear h1 HD
                    go_wp2
                    go_roundw
                    case measure => show ((q : Int) - 1 + 1).toNat < ((q : Int) + 1).toNat; omega
                    case rel => exact ⟨q, T, by go_num, by omega, hide ⟨unhide HQ, unhide HL2⟩⟩
                  | zero =>
                    have e0 : (((0 : Nat) : Int) - 1) = (-1 : Int) := by omega
                    rw [e0]
                    have HQ : Hid (K2 w wr b s b2 t ∧ s.j = t.j ∧ s.l = t.l) := by
                      obtain ⟨hK, m, hled, hsub, hall⟩ := unhide HJ
                      exact ⟨hK, led_same (unhide H1).2.1 hled (fun x => ⟨fun h => hall x h, hsub x⟩)⟩
                    clear HJ
                    have HS := hide (same_in (unhide HQ).1.one.rb (unhide HQ).1.one.gd (unhide HQ).1.two.rb (unhide HQ).1.two.gd (unhide HQ).2.1 (unhide HQ).2.2)
                    go_wp2_with fail
                    refine (unhide HS).mono ?_
                    rintro e V1 ⟨rfl, b1⟩
                    have HK1 := hide ((unhide HQ).1.one.below b1)
                    have HP := hide (unhide H1).2
                    clear b1 HQ HS H1
                    cases ea with
                    | true =>
                      go_wp2
                      go_loopw [16] (fun iv wr => ∃ (q : Nat), iv = .int .i64 ((q + 1 : Nat) : Int) ∧ q ≤ 16 ∧ Hid (KR w wr b s)) (fun iv _ => 20 - (RowKit.intOf iv).toNat)
                      case atStart => exact ⟨0, rfl, Nat.zero_le _, HK1⟩
                      case round =>
                        obtain ⟨q, rfl, hq, HQ⟩ := hrel
                        by_cases hq6 : q < 16
                        · obtain ⟨y, hy⟩ : ∃ y : Nat, q + 1 = y := ⟨_, rfl⟩
                          have hy1 : 1 ≤ y := by omega
                          have hy2 : y ≤ 16 := by omega
                          have hsite : siteB (y : Int) = true := siteB_iff.2 (by omega)
                          have hrow := (unhide Hr).below (unhide HQ).bel
                          rw [← unhide Hln] at hrow
                          have KN := hide (fun X (h : KR w X b s) => Known_in h.rb (y : Int))
                          have HA := hide (fun X (h : KR w X b s) => Has_in h.rb (y : Int))
                          have JO := hide (fun X (h : KR w X b s) => joined_in (by have := (unhide Hr).below h.bel; rw [← unhide Hln] at this; exact this) (by rw [unhide Hln]; omega) (y : Int) (w := X) (l := ss) (v := .slice a0 ss.length cap0))
                          have LE := hide (fun X (h : KR w X b s) => left_in (by have := (unhide Hr).below h.bel; rw [← unhide Hln] at this; exact this) (by rw [unhide Hln]; omega) (y : Int) (w := X) (l := ss) (v := .slice a0 ss.length cap0))
                          rw [unhide Hln] at JO LE
                          have e12 := led_has (unhide HP).1 (y : Int) hsite
                          rw [e12.1] at HA
                          rw [e12.2] at KN
                          clear e12 hrow hsite
                          rw [hy]
                          generalize jnB ss (y : Int) = p at *
                          generalize lfB ss (y : Int) = q2 at *
                          have HRel : Hid (q + 1 = y) := hy
                          clear hy
                          have CALLS := True.intro
                          cases p with
                          | true =>
                            cases q2 with
                            | true =>
                              go_wp2_with fail
                              refine (unhide KN _ (unhide HQ)).mono ?_
                              rintro e Z1 ⟨rfl, z1⟩
                              have HZ1 := hide ((unhide HQ).below z1)
                              clear z1
                              go_wp2_with fail
                              refine (unhide JO _ (unhide HZ1)).mono ?_
                              rintro e Z2 ⟨rfl, z2⟩
                              have HZ2 := hide ((unhide HZ1).below z2)
                              clear z2
                              go_wp2_with fail
                              refine (unhide HA _ (unhide HZ2)).mono ?_
                              rintro e Z3 ⟨rfl, z3⟩
                              have HZ3 := hide ((unhide HZ2).below z3)
                              clear z3
                              go_wp2_with fail
                              refine (unhide JO _ (unhide HZ3)).mono ?_
                              rintro e Z4 ⟨rfl, z4⟩
                              have HZ4 := hide ((unhide HZ3).below z4)
                              clear z4
                              go_wp2_with fail
                              refine (unhide LE _ (unhide HZ4)).mono ?_
                              rintro e Z5 ⟨rfl, z5⟩
                              have HZ5 := hide ((unhide HZ4).below z5)
                              clear z5
                              go_wp2
                              go_roundw
                              case measure => show 20 - ((y : Int) + 1).toNat < 20 - ((y : Nat) : Int).toNat; omega
                              case rel => exact ⟨y, by go_num, by omega, HZ5⟩
                            | false =>
                              go_wp2_with fail
                              refine (unhide KN _ (unhide HQ)).mono ?_
                              rintro e Z1 ⟨rfl, z1⟩
                              have HZ1 := hide ((unhide HQ).below z1)
                              clear z1
                              go_wp2_with fail
                              refine (unhide JO _ (unhide HZ1)).mono ?_
                              rintro e Z2 ⟨rfl, z2⟩
                              have HZ2 := hide ((unhide HZ1).below z2)
                              clear z2
                              go_wp2_with fail
                              refine (unhide HA _ (unhide HZ2)).mono ?_
                              rintro e Z3 ⟨rfl, z3⟩
                              have HZ3 := hide ((unhide HZ2).below z3)
                              clear z3
                              go_wp2_with fail
                              refine (unhide JO _ (unhide HZ3)).mono ?_
                              rintro e Z4 ⟨rfl, z4⟩
                              have HZ4 := hide ((unhide HZ3).below z4)
                              clear z4
                              go_wp2_with fail
                              refine (unhide LE _ (unhide HZ4)).mono ?_
                              rintro e Z5 ⟨rfl, z5⟩
                              have HZ5 := hide ((unhide HZ4).below z5)
                              clear z5
                              go_wp2
                              go_roundw
                              case measure => show 20 - ((y : Int) + 1).toNat < 20 - ((y : Nat) : Int).toNat; omega
                              case rel => exact ⟨y, by go_num, by omega, HZ5⟩
                          | false =>
                            cases q2 with
                            | true =>
                              go_wp2_with fail
                              refine (unhide KN _ (unhide HQ)).mono ?_
                              rintro e Z1 ⟨rfl, z1⟩
                              have HZ1 := hide ((unhide HQ).below z1)
                              clear z1
                              go_wp2_with fail
                              refine (unhide JO _ (unhide HZ1)).mono ?_
                              rintro e Z2 ⟨rfl, z2⟩
                              have HZ2 := hide ((unhide HZ1).below z2)
                              clear z2
                              go_wp2_with fail
                              refine (unhide LE _ (unhide HZ2)).mono ?_
                              rintro e Z3 ⟨rfl, z3⟩
                              have HZ3 := hide ((unhide HZ2).below z3)
                              clear z3
                              go_wp2_with fail
                              refine (unhide HA _ (unhide HZ3)).mono ?_
                              rintro e Z4 ⟨rfl, z4⟩
                              have HZ4 := hide ((unhide HZ3).below z4)
                              clear z4
                              go_wp2_with fail
                              refine (unhide JO _ (unhide HZ4)).mono ?_
                              rintro e Z5 ⟨rfl, z5⟩
                              have HZ5 := hide ((unhide HZ4).below z5)
                              clear z5
                              go_wp2
                              go_roundw
                              case measure => show 20 - ((y : Int) + 1).toNat < 20 - ((y : Nat) : Int).toNat; omega
                              case rel => exact ⟨y, by go_num, by omega, HZ5⟩
                            | false =>
                              go_wp2_with fail
                              refine (unhide KN _ (unhide HQ)).mono ?_
                              rintro e Z1 ⟨rfl, z1⟩
                              have HZ1 := hide ((unhide HQ).below z1)
                              clear z1
                              go_wp2_with fail
                              refine (unhide JO _ (unhide HZ1)).mono ?_
                              rintro e Z2 ⟨rfl, z2⟩
                              have HZ2 := hide ((unhide HZ1).below z2)
                              clear z2
                              go_wp2_with fail
                              refine (unhide LE _ (unhide HZ2)).mono ?_
                              rintro e Z3 ⟨rfl, z3⟩
                              have HZ3 := hide ((unhide HZ2).below z3)
                              clear z3
                              go_wp2_with fail
                              refine (unhide HA _ (unhide HZ3)).mono ?_
                              rintro e Z4 ⟨rfl, z4⟩
                              have HZ4 := hide ((unhide HZ3).below z4)
                              clear z4
                              go_wp2_with fail
                              refine (unhide JO _ (unhide HZ4)).mono ?_
                              rintro e Z5 ⟨rfl, z5⟩
                              have HZ5 := hide ((unhide HZ4).below z5)
                              clear z5
                              go_wp2
                              go_roundw
                              case measure => show 20 - ((y : Int) + 1).toNat < 20 - ((y : Nat) : Int).toNat; omega
                              case rel => exact ⟨y, by go_num, by omega, HZ5⟩
                        · have hq6' : ¬ ((q + 1 : Nat) : Int) ≤ 16 := by omega
                          obtain rfl : q = 16 := by omega
                          go_wp2_with fail
                          refine (unhide HK _).mono ?_
                          rintro e Z1 ⟨rfl, z1⟩
                          go_wp2
                          go_ret
                          exact ⟨rfl, bnext (unhide HQ).bel z1⟩
                    | false =>
                      have htim := (unhide HP).2 rfl
                      have M := hide (fun X (h : KR w X b s) => Members_in h.rb h.gd)
                      have L := hide (fun X (h : KR w X b s) => Left_in h.rb h.gd)
                      have EP := hide (fun X (h : KR w X b s) => Epoch_in h.rb)
                      unfold Told at M L
                      have hep := htim.ep
                      unfold cnt at hep
                      have lm := lsW_len s.m
                      have ll := lsW_len s.l
                      generalize (lsW s.m).length = nm at *
                      generalize (lsW s.l).length = nl at *
                      have hw2 : IntKind.i64.wrap (2 * (nl : Int)) = 2 * (nl : Int) := by simp only [IntKind.wrap_i64]; omega
                      have hw3 : IntKind.i64.wrap ((nm : Int) + 2 * (nl : Int)) = (nm : Int) + 2 * (nl : Int) := by simp only [IntKind.wrap_i64]; omega
                      have hcmp : (s.e != (nm : Int) + 2 * (nl : Int)) = false := by rw [hep]; simp
                      clear htim hep
                      go_wp2_with fail
                      refine (unhide EP _ (unhide HK1)).mono ?_
                      rintro e V2 ⟨rfl, rfl⟩
                      go_wp2_with fail
                      refine (unhide M _ (unhide HK1)).mono ?_
                      rintro e V3 ⟨a3, c3, rfl, o3, b3⟩
                      have HK2 := hide ((unhide HK1).below b3)
                      clear o3 b3
                      go_wp2_with fail
                      refine (unhide L _ (unhide HK2)).mono ?_
                      rintro e V4 ⟨a4, c4, rfl, o4, b4⟩
                      have HK3 := hide ((unhide HK2).below b4)
                      clear o4 b4 M L EP
                      go_wp2
                      go_loopw [16] (fun iv wr => ∃ (q : Nat), iv = .int .i64 ((q + 1 : Nat) : Int) ∧ q ≤ 16 ∧ Hid (KR w wr b s)) (fun iv _ => 20 - (RowKit.intOf iv).toNat)
                      case atStart => exact ⟨0, rfl, Nat.zero_le _, HK3⟩
                      case round =>
                        obtain ⟨q, rfl, hq, HQ⟩ := hrel
                        by_cases hq6 : q < 16
                        · obtain ⟨y, hy⟩ : ∃ y : Nat, q + 1 = y := ⟨_, rfl⟩
                          have hy1 : 1 ≤ y := by omega
                          have hy2 : y ≤ 16 := by omega
                          have hsite : siteB (y : Int) = true := siteB_iff.2 (by omega)
                          have hrow := (unhide Hr).below (unhide HQ).bel
                          rw [← unhide Hln] at hrow
                          have KN := hide (fun X (h : KR w X b s) => Known_in h.rb (y : Int))
                          have HA := hide (fun X (h : KR w X b s) => Has_in h.rb (y : Int))
                          have JO := hide (fun X (h : KR w X b s) => joined_in (by have := (unhide Hr).below h.bel; rw [← unhide Hln] at this; exact this) (by rw [unhide Hln]; omega) (y : Int) (w := X) (l := ss) (v := .slice a0 ss.length cap0))
                          have LE := hide (fun X (h : KR w X b s) => left_in (by have := (unhide Hr).below h.bel; rw [← unhide Hln] at this; exact this) (by rw [unhide Hln]; omega) (y : Int) (w := X) (l := ss) (v := .slice a0 ss.length cap0))
                          rw [unhide Hln] at JO LE
                          have e12 := led_has (unhide HP).1 (y : Int) hsite
                          rw [e12.1] at HA
                          rw [e12.2] at KN
                          clear e12 hrow hsite
                          rw [hy]
                          generalize jnB ss (y : Int) = p at *
                          generalize lfB ss (y : Int) = q2 at *
                          have HRel : Hid (q + 1 = y) := hy
                          clear hy
                          have CALLS := True.intro
                          cases p with
                          | true =>
                            cases q2 with
                            | true =>
                              go_wp2_with fail
                              refine (unhide KN _ (unhide HQ)).mono ?_
                              rintro e Z1 ⟨rfl, z1⟩
                              have HZ1 := hide ((unhide HQ).below z1)
                              clear z1
                              go_wp2_with fail
                              refine (unhide JO _ (unhide HZ1)).mono ?_
                              rintro e Z2 ⟨rfl, z2⟩
                              have HZ2 := hide ((unhide HZ1).below z2)
                              clear z2
                              go_wp2_with fail
                              refine (unhide HA _ (unhide HZ2)).mono ?_
                              rintro e Z3 ⟨rfl, z3⟩
                              have HZ3 := hide ((unhide HZ2).below z3)
                              clear z3
                              go_wp2_with fail
                              refine (unhide JO _ (unhide HZ3)).mono ?_
                              rintro e Z4 ⟨rfl, z4⟩
                              have HZ4 := hide ((unhide HZ3).below z4)
                              clear z4
                              go_wp2_with fail
                              refine (unhide LE _ (unhide HZ4)).mono ?_
                              rintro e Z5 ⟨rfl, z5⟩
                              have HZ5 := hide ((unhide HZ4).below z5)
                              clear z5
                              go_wp2
                              go_roundw
                              case measure => show 20 - ((y : Int) + 1).toNat < 20 - ((y : Nat) : Int).toNat; omega
                              case rel => exact ⟨y, by go_num, by omega, HZ5⟩
                            | false =>
                              go_wp2_with fail
                              refine (unhide KN _ (unhide HQ)).mono ?_
                              rintro e Z1 ⟨rfl, z1⟩
                              have HZ1 := hide ((unhide HQ).below z1)
                              clear z1
                              go_wp2_with fail
                              refine (unhide JO _ (unhide HZ1)).mono ?_
                              rintro e Z2 ⟨rfl, z2⟩
                              have HZ2 := hide ((unhide HZ1).below z2)
                              clear z2
                              go_wp2_with fail
                              refine (unhide HA _ (unhide HZ2)).mono ?_
                              rintro e Z3 ⟨rfl, z3⟩
                              have HZ3 := hide ((unhide HZ2).below z3)
                              clear z3
                              go_wp2_with fail
                              refine (unhide JO _ (unhide HZ3)).mono ?_
                              rintro e Z4 ⟨rfl, z4⟩
                              have HZ4 := hide ((unhide HZ3).below z4)
                              clear z4
                              go_wp2_with fail
                              refine (unhide LE _ (unhide HZ4)).mono ?_
                              rintro e Z5 ⟨rfl, z5⟩
                              have HZ5 := hide ((unhide HZ4).below z5)
                              clear z5
                              go_wp2
                              go_roundw
                              case measure => show 20 - ((y : Int) + 1).toNat < 20 - ((y : Nat) : Int).toNat; omega
                              case rel => exact ⟨y, by go_num, by omega, HZ5⟩
                          | false =>
                            cases q2 with
                            | true =>
                              go_wp2_with fail
                              refine (unhide KN _ (unhide HQ)).mono ?_
                              rintro e Z1 ⟨rfl, z1⟩
                              have HZ1 := hide ((unhide HQ).below z1)
                              clear z1
                              go_wp2_with fail
                              refine (unhide JO _ (unhide HZ1)).mono ?_
                              rintro e Z2 ⟨rfl, z2⟩
                              have HZ2 := hide ((unhide HZ1).below z2)
                              clear z2
                              go_wp2_with fail
                              refine (unhide LE _ (unhide HZ2)).mono ?_
                              rintro e Z3 ⟨rfl, z3⟩
                              have HZ3 := hide ((unhide HZ2).below z3)
                              clear z3
                              go_wp2_with fail
                              refine (unhide HA _ (unhide HZ3)).mono ?_
                              rintro e Z4 ⟨rfl, z4⟩
                              have HZ4 := hide ((unhide HZ3).below z4)
                              clear z4
                              go_wp2_with fail
                              refine (unhide JO _ (unhide HZ4)).mono ?_
                              rintro e Z5 ⟨rfl, z5⟩
                              have HZ5 := hide ((unhide HZ4).below z5)
                              clear z5
                              go_wp2
                              go_roundw
                              case measure => show 20 - ((y : Int) + 1).toNat < 20 - ((y : Nat) : Int).toNat; omega
                              case rel => exact ⟨y, by go_num, by omega, HZ5⟩
                            | false =>
                              go_wp2_with fail
                              refine (unhide KN _ (unhide HQ)).mono ?_
                              rintro e Z1 ⟨rfl, z1⟩
                              have HZ1 := hide ((unhide HQ).below z1)
                              clear z1
                              go_wp2_with fail
                              refine (unhide JO _ (unhide HZ1)).mono ?_
                              rintro e Z2 ⟨rfl, z2⟩
                              have HZ2 := hide ((unhide HZ1).below z2)
                              clear z2
                              go_wp2_with fail
                              refine (unhide LE _ (unhide HZ2)).mono ?_
                              rintro e Z3 ⟨rfl, z3⟩
                              have HZ3 := hide ((unhide HZ2).below z3)
                              clear z3
                              go_wp2_with fail
                              refine (unhide HA _ (unhide HZ3)).mono ?_
                              rintro e Z4 ⟨rfl, z4⟩
                              have HZ4 := hide ((unhide HZ3).below z4)
                              clear z4
                              go_wp2_with fail
                              refine (unhide JO _ (unhide HZ4)).mono ?_
                              rintro e Z5 ⟨rfl, z5⟩
                              have HZ5 := hide ((unhide HZ4).below z5)
                              clear z5
                              go_wp2
                              go_roundw
                              case measure => show 20 - ((y : Int) + 1).toNat < 20 - ((y : Nat) : Int).toNat; omega
                              case rel => exact ⟨y, by go_num, by omega, HZ5⟩
                        · have hq6' : ¬ ((q + 1 : Nat) : Int) ≤ 16 := by omega
                          obtain rfl : q = 16 := by omega
                          go_wp2_with fail
                          refine (unhide HK _).mono ?_
                          rintro e Z1 ⟨rfl, z1⟩
                          go_wp2
                          go_ret
                          exact ⟨rfl, bnext (unhide HQ).bel z1⟩
              · have hk1' : ¬ (k : Int) < (len1 : Int) := by omega
                go_wp2
                go_loopw [15] (fun iv wr => ∃ (j : Nat) (t : St), iv = .int .i64 ((j : Int) - 1) ∧ j ≤ len0 ∧ Hid (K2 w wr b s b2 t ∧ ∃ m, Led t m ∧ (∀ x ∈ m, x ∈ ss) ∧ ∀ x ∈ ss.drop j, x ∈ m)) (fun iv _ => (RowKit.intOf iv + 1).toNat)
                case atStart => exact ⟨len0, t, by go_num, Nat.le_refl _, hide (by
                  obtain ⟨h1, m, h2, h3⟩ := unhide HR2
                  exact ⟨h1, m, h2, h3, fun x hx => by rw [List.drop_of_length_le (by rw [unhide Hln]; exact Nat.le_refl _)] at hx; cases hx⟩)⟩
                case round =>
                  obtain ⟨j, t, rfl, hj, HJ⟩ := hrel
                  clear HR2
                  cases j with
                  | succ q =>
                    have e0 : (((q + 1 : Nat) : Int) - 1) = (q : Int) := by omega
                    rw [e0]
                    have hq0 : q < len0 := by omega
                    have hq' : (q : Int) < (len0 : Int) := by omega
                    have hq1 : (0 : Int) ≤ (q : Int) := by omega
                    obtain ⟨hK, m, hled, hsub, hall⟩ := unhide HJ
                    have hrow := (unhide Hr).below hK.one.bel
                    have hqs : q < ss.length := by rw [unhide Hln]; exact hq0
                    obtain ⟨x, hx⟩ : ∃ x, ss[q]? = some x := ⟨_, List.getElem?_eq_getElem hqs⟩
                    obtain ⟨b0, off, rfl, hb0, q0, q1⟩ := RSt.at hrow hx
                    have HD := hide (hK.swap.do x)
                    have HL2 := hide (show ∃ m', Led (doS t x) m' ∧ (∀ y ∈ m', y ∈ ss) ∧ ∀ y ∈ ss.drop q, y ∈ m' from ⟨m ++ [x], hled.do x, fun y hy => by
                      rcases List.mem_append.1 hy with h | h
                      · exact hsub y h
                      · simp at h; subst h; exact List.mem_of_getElem? hx, fun y hy => by
                      rw [List.drop_eq_getElem_cons hqs] at hy
                      rw [List.getElem?_eq_getElem hqs] at hx
                      simp at hx
                      rw [hx] at hy
                      rcases List.mem_cons.1 hy with h | h
                      · exact List.mem_append.2 (.inr (by simp [h]))
                      · exact List.mem_append.2 (.inl (hall y h))⟩)
                    obtain ⟨D, hD⟩ : ∃ D, doB t x = D := ⟨_, rfl⟩
                    rw [hD] at HD
                    clear hK hled hsub hall hrow hx hD HJ
                    generalize doS t x = T at *
                    generalize x.lv = k0 at *
                    generalize x.site = k1 at *
                    go_wp2_with fail
                    refine (unhide HD).mono ?_
                    rintro e V1 ⟨rfl, h1⟩
                    have HQ := hide h1.swap
                    clear h1 HD
                    go_wp2
                    go_roundw
                    case measure => show ((q : Int) - 1 + 1).toNat < ((q : Int) + 1).toNat; omega
                    case rel => exact ⟨q, T, by go_num, by omega, hide ⟨unhide HQ, unhide HL2⟩⟩
                  | zero =>
                    have e0 : (((0 : Nat) : Int) - 1) = (-1 : Int) := by omega
                    rw [e0]
                    have HQ : Hid (K2 w wr b s b2 t ∧ s.j = t.j ∧ s.l = t.l) := by
                      obtain ⟨hK, m, hled, hsub, hall⟩ := unhide HJ
                      exact ⟨hK, led_same (unhide H1).2.1 hled (fun x => ⟨fun h => hall x h, hsub x⟩)⟩
                    clear HJ
                    have HS := hide (same_in (unhide HQ).1.one.rb (unhide HQ).1.one.gd (unhide HQ).1.two.rb (unhide HQ).1.two.gd (unhide HQ).2.1 (unhide HQ).2.2)
                    go_wp2_with fail
                    refine (unhide HS).mono ?_
                    rintro e V1 ⟨rfl, b1⟩
                    have HK1 := hide ((unhide HQ).1.one.below b1)
                    have HP := hide (unhide H1).2
                    clear b1 HQ HS H1
                    cases ea with
                    | true =>
                      go_wp2
                      go_loopw [16] (fun iv wr => ∃ (q : Nat), iv = .int .i64 ((q + 1 : Nat) : Int) ∧ q ≤ 16 ∧ Hid (KR w wr b s)) (fun iv _ => 20 - (RowKit.intOf iv).toNat)
                      case atStart => exact ⟨0, rfl, Nat.zero_le _, HK1⟩
                      case round =>
                        obtain ⟨q, rfl, hq, HQ⟩ := hrel
                        by_cases hq6 : q < 16
                        · obtain ⟨y, hy⟩ : ∃ y : Nat, q + 1 = y := ⟨_, rfl⟩
                          have hy1 : 1 ≤ y := by omega
                          have hy2 : y ≤ 16 := by omega
                          have hsite : siteB (y : Int) = true := siteB_iff.2 (by omega)
                          have hrow := (unhide Hr).below (unhide HQ).bel
                          rw [← unhide Hln] at hrow
                          have KN := hide (fun X (h : KR w X b s) => Known_in h.rb (y : Int))
                          have HA := hide (fun X (h : KR w X b s) => Has_in h.rb (y : Int))
                          have JO := hide (fun X (h : KR w X b s) => joined_in (by have := (unhide Hr).below h.bel; rw [← unhide Hln] at this; exact this) (by rw [unhide Hln]; omega) (y : Int) (w := X) (l := ss) (v := .slice a0 ss.length cap0))
                          have LE := hide (fun X (h : KR w X b s) => left_in (by have := (unhide Hr).below h.bel; rw [← unhide Hln] at this; exact this) (by rw [unhide Hln]; omega) (y : Int) (w := X) (l := ss) (v := .slice a0 ss.length cap0))
                          rw [unhide Hln] at JO LE
                          have e12 := led_has (unhide HP).1 (y : Int) hsite
                          rw [e12.1] at HA
                          rw [e12.2] at KN
                          clear e12 hrow hsite
                          rw [hy]
                          generalize jnB ss (y : Int) = p at *
                          generalize lfB ss (y : Int) = q2 at *
                          have HRel : Hid (q + 1 = y) := hy
                          clear hy
                          have CALLS := True.intro
                          cases p with
                          | true =>
                            cases q2 with
                            | true =>
                              go_wp2_with fail
                              refine (unhide KN _ (unhide HQ)).mono ?_
                              rintro e Z1 ⟨rfl, z1⟩
                              have HZ1 := hide ((unhide HQ).below z1)
                              clear z1
                              go_wp2_with fail
                              refine (unhide JO _ (unhide HZ1)).mono ?_
                              rintro e Z2 ⟨rfl, z2⟩
                              have HZ2 := hide ((unhide HZ1).below z2)
                              clear z2
                              go_wp2_with fail
                              refine (unhide HA _ (unhide HZ2)).mono ?_
                              rintro e Z3 ⟨rfl, z3⟩
                              have HZ3 := hide ((unhide HZ2).below z3)
                              clear z3
                              go_wp2_with fail
                              refine (unhide JO _ (unhide HZ3)).mono ?_
                              rintro e Z4 ⟨rfl, z4⟩
                              have HZ4 := hide ((unhide HZ3).below z4)
                              clear z4
                              go_wp2_with fail
                              refine (unhide LE _ (unhide HZ4)).mono ?_
                              rintro e Z5 ⟨rfl, z5⟩
                              have HZ5 := hide ((unhide HZ4).below z5)
                              clear z5
                              go_wp2
                              go_roundw
                              case measure => show 20 - ((y : Int) + 1).toNat < 20 - ((y : Nat) : Int).toNat; omega
                              case rel => exact ⟨y, by go_num, by omega, HZ5⟩
                            | false =>
                              go_wp2_with fail
                              refine (unhide KN _ (unhide HQ)).mono ?_
                              rintro e Z1 ⟨rfl, z1⟩
                              have HZ1 := hide ((unhide HQ).below z1)
                              clear z1
                              go_wp2_with fail
                              refine (unhide JO _ (unhide HZ1)).mono ?_
                              rintro e Z2 ⟨rfl, z2⟩
                              have HZ2 := hide ((unhide HZ1).below z2)
                              clear z2
                              go_wp2_with fail
                              refine (unhide HA _ (unhide HZ2)).mono ?_
                              rintro e Z3 ⟨rfl, z3⟩
                              have HZ3 := hide ((unhide HZ2).below z3)
                              clear z3
                              go_wp2_with fail
                              refine (unhide JO _ (unhide HZ3)).mono ?_
                              rintro e Z4 ⟨rfl, z4⟩
                              have HZ4 := hide ((unhide HZ3).below z4)
                              clear z4
                              go_wp2_with fail
                              refine (unhide LE _ (unhide HZ4)).mono ?_
                              rintro e Z5 ⟨rfl, z5⟩
                              have HZ5 := hide ((unhide HZ4).below z5)
                              clear z5
                              go_wp2
                              go_roundw
                              case measure => show 20 - ((y : Int) + 1).toNat < 20 - ((y : Nat) : Int).toNat; omega
                              case rel => exact ⟨y, by go_num, by omega, HZ5⟩
                          | false =>
                            cases q2 with
                            | true =>
                              go_wp2_with fail
                              refine (unhide KN _ (unhide HQ)).mono ?_
                              rintro e Z1 ⟨rfl, z1⟩
                              have HZ1 := hide ((unhide HQ).below z1)
                              clear z1
                              go_wp2_with fail
                              refine (unhide JO _ (unhide HZ1)).mono ?_
                              rintro e Z2 ⟨rfl, z2⟩
                              have HZ2 := hide ((unhide HZ1).below z2)
                              clear z2
                              go_wp2_with fail
                              refine (unhide LE _ (unhide HZ2)).mono ?_
                              rintro e Z3 ⟨rfl, z3⟩
                              have HZ3 := hide ((unhide HZ2).below z3)
                              clear z3
                              go_wp2_with fail
                              refine (unhide HA _ (unhide HZ3)).mono ?_
                              rintro e Z4 ⟨rfl, z4⟩
                              have HZ4 := hide ((unhide HZ3).below z4)
                              clear z4
                              go_wp2_with fail
                              refine (unhide JO _ (unhide HZ4)).mono ?_
                              rintro e Z5 ⟨rfl, z5⟩
                              have HZ5 := hide ((unhide HZ4).below z5)
                              clear z5
                              go_wp2
                              go_roundw
                              case measure => show 20 - ((y : Int) + 1).toNat < 20 - ((y : Nat) : Int).toNat; omega
                              case rel => exact ⟨y, by go_num, by omega, HZ5⟩
                            | false =>
                              go_wp2_with fail
                              refine (unhide KN _ (unhide HQ)).mono ?_
                              rintro e Z1 ⟨rfl, z1⟩
                              have HZ1 := hide ((unhide HQ).below z1)
                              clear z1
                              go_wp2_with fail
                              refine (unhide JO _ (unhide HZ1)).mono ?_
                              rintro e Z2 ⟨rfl, z2⟩
                              have HZ2 := hide ((unhide HZ1).below z2)
                              clear z2
                              go_wp2_with fail
                              refine (unhide LE _ (unhide HZ2)).mono ?_
                              rintro e Z3 ⟨rfl, z3⟩
                              have HZ3 := hide ((unhide HZ2).below z3)
                              clear z3
                              go_wp2_with fail
                              refine (unhide HA _ (unhide HZ3)).mono ?_
                              rintro e Z4 ⟨rfl, z4⟩
                              have HZ4 := hide ((unhide HZ3).below z4)
                              clear z4
                              go_wp2_with fail
                              refine (unhide JO _ (unhide HZ4)).mono ?_
                              rintro e Z5 ⟨rfl, z5⟩
                              have HZ5 := hide ((unhide HZ4).below z5)
                              clear z5
                              go_wp2
                              go_roundw
                              case measure => show 20 - ((y : Int) + 1).toNat < 20 - ((y : Nat) : Int).toNat; omega
                              case rel => exact ⟨y, by go_num, by omega, HZ5⟩
                        · have hq6' : ¬ ((q + 1 : Nat) : Int) ≤ 16 := by omega
                          obtain rfl : q = 16 := by omega
                          go_wp2_with fail
                          refine (unhide HK _).mono ?_
                          rintro e Z1 ⟨rfl, z1⟩
                          go_wp2
                          go_ret
                          exact ⟨rfl, bnext (unhide HQ).bel z1⟩
                    | false =>
                      have htim := (unhide HP).2 rfl
                      have M := hide (fun X (h : KR w X b s) => Members_in h.rb h.gd)
                      have L := hide (fun X (h : KR w X b s) => Left_in h.rb h.gd)
                      have EP := hide (fun X (h : KR w X b s) => Epoch_in h.rb)
                      unfold Told at M L
                      have hep := htim.ep
                      unfold cnt at hep
                      have lm := lsW_len s.m
                      have ll := lsW_len s.l
                      generalize (lsW s.m).length = nm at *
                      generalize (lsW s.l).length = nl at *
                      have hw2 : IntKind.i64.wrap (2 * (nl : Int)) = 2 * (nl : Int) := by simp only [IntKind.wrap_i64]; omega
                      have hw3 : IntKind.i64.wrap ((nm : Int) + 2 * (nl : Int)) = (nm : Int) + 2 * (nl : Int) := by simp only [IntKind.wrap_i64]; omega
                      have hcmp : (s.e != (nm : Int) + 2 * (nl : Int)) = false := by rw [hep]; simp
                      clear htim hep
                      go_wp2_with fail
                      refine (unhide EP _ (unhide HK1)).mono ?_
                      rintro e V2 ⟨rfl, rfl⟩
                      go_wp2_with fail
                      refine (unhide M _ (unhide HK1)).mono ?_
                      rintro e V3 ⟨a3, c3, rfl, o3, b3⟩
                      have HK2 := hide ((unhide HK1).below b3)
                      clear o3 b3
                      go_wp2_with fail
                      refine (unhide L _ (unhide HK2)).mono ?_
                      rintro e V4 ⟨a4, c4, rfl, o4, b4⟩
                      have HK3 := hide ((unhide HK2).below b4)
                      clear o4 b4 M L EP
                      go_wp2
                      go_loopw [16] (fun iv wr => ∃ (q : Nat), iv = .int .i64 ((q + 1 : Nat) : Int) ∧ q ≤ 16 ∧ Hid (KR w wr b s)) (fun iv _ => 20 - (RowKit.intOf iv).toNat)
                      case atStart => exact ⟨0, rfl, Nat.zero_le _, HK3⟩
                      case round =>
                        obtain ⟨q, rfl, hq, HQ⟩ := hrel
                        by_cases hq6 : q < 16
                        · obtain ⟨y, hy⟩ : ∃ y : Nat, q + 1 = y := ⟨_, rfl⟩
                          have hy1 : 1 ≤ y := by omega
                          have hy2 : y ≤ 16 := by omega
                          have hsite : siteB (y : Int) = true := siteB_iff.2 (by omega)
                          have hrow := (unhide Hr).below (unhide HQ).bel
                          rw [← unhide Hln] at hrow
                          have KN := hide (fun X (h : KR w X b s) => Known_in h.rb (y : Int))
                          have HA := hide (fun X (h : KR w X b s) => Has_in h.rb (y : Int))
                          have JO := hide (fun X (h : KR w X b s) => joined_in (by have := (unhide Hr).below h.bel; rw [← unhide Hln] at this; exact this) (by rw [unhide Hln]; omega) (y : Int) (w := X) (l := ss) (v := .slice a0 ss.length cap0))
                          have LE := hide (fun X (h : KR w X b s) => left_in (by have := (unhide Hr).below h.bel; rw [← unhide Hln] at this; exact this) (by rw [unhide Hln]; omega) (y : Int) (w := X) (l := ss) (v := .slice a0 ss.length cap0))
                          rw [unhide Hln] at JO LE
                          have e12 := led_has (unhide HP).1 (y : Int) hsite
                          rw [e12.1] at HA
                          rw [e12.2] at KN
                          clear e12 hrow hsite
                          rw [hy]
                          generalize jnB ss (y : Int) = p at *
                          generalize lfB ss (y : Int) = q2 at *
                          have HRel : Hid (q + 1 = y) := hy
                          clear hy
                          have CALLS := True.intro
                          cases p with
                          | true =>
                            cases q2 with
                            | true =>
                              go_wp2_with fail
                              refine (unhide KN _ (unhide HQ)).mono ?_
                              rintro e Z1 ⟨rfl, z1⟩
                              have HZ1 := hide ((unhide HQ).below z1)
                              clear z1
                              go_wp2_with fail
                              refine (unhide JO _ (unhide HZ1)).mono ?_
                              rintro e Z2 ⟨rfl, z2⟩
                              have HZ2 := hide ((unhide HZ1).below z2)
                              clear z2
                              go_wp2_with fail
                              refine (unhide HA _ (unhide HZ2)).mono ?_
                              rintro e Z3 ⟨rfl, z3⟩
                              have HZ3 := hide ((unhide HZ2).below z3)
                              clear z3
                              go_wp2_with fail
                              refine (unhide JO _ (unhide HZ3)).mono ?_
                              rintro e Z4 ⟨rfl, z4⟩
                              have HZ4 := hide ((unhide HZ3).below z4)
                              clear z4
                              go_wp2_with fail
                              refine (unhide LE _ (unhide HZ4)).mono ?_
                              rintro e Z5 ⟨rfl, z5⟩
                              have HZ5 := hide ((unhide HZ4).below z5)
                              clear z5
                              go_wp2
                              go_roundw
                              case measure => show 20 - ((y : Int) + 1).toNat < 20 - ((y : Nat) : Int).toNat; omega
                              case rel => exact ⟨y, by go_num, by omega, HZ5⟩
                            | false =>
                              go_wp2_with fail
                              refine (unhide KN _ (unhide HQ)).mono ?_
                              rintro e Z1 ⟨rfl, z1⟩
                              have HZ1 := hide ((unhide HQ).below z1)
                              clear z1
                              go_wp2_with fail
                              refine (unhide JO _ (unhide HZ1)).mono ?_
                              rintro e Z2 ⟨rfl, z2⟩
                              have HZ2 := hide ((unhide HZ1).below z2)
                              clear z2
                              go_wp2_with fail
                              refine (unhide HA _ (unhide HZ2)).mono ?_
                              rintro e Z3 ⟨rfl, z3⟩
                              have HZ3 := hide ((unhide HZ2).below z3)
                              clear z3
                              go_wp2_with fail
                              refine (unhide JO _ (unhide HZ3)).mono ?_
                              rintro e Z4 ⟨rfl, z4⟩
                              have HZ4 := hide ((unhide HZ3).below z4)
                              clear z4
                              go_wp2_with fail
                              refine (unhide LE _ (unhide HZ4)).mono ?_
                              rintro e Z5 ⟨rfl, z5⟩
                              have HZ5 := hide ((unhide HZ4).below z5)
                              clear z5
                              go_wp2
                              go_roundw
                              case measure => show 20 - ((y : Int) + 1).toNat < 20 - ((y : Nat) : Int).toNat; omega
                              case rel => exact ⟨y, by go_num, by omega, HZ5⟩
                          | false =>
                            cases q2 with
                            | true =>
                              go_wp2_with fail
                              refine (unhide KN _ (unhide HQ)).mono ?_
                              rintro e Z1 ⟨rfl, z1⟩
                              have HZ1 := hide ((unhide HQ).below z1)
                              clear z1
                              go_wp2_with fail
                              refine (unhide JO _ (unhide HZ1)).mono ?_
                              rintro e Z2 ⟨rfl, z2⟩
                              have HZ2 := hide ((unhide HZ1).below z2)
                              clear z2
                              go_wp2_with fail
                              refine (unhide LE _ (unhide HZ2)).mono ?_
                              rintro e Z3 ⟨rfl, z3⟩
                              have HZ3 := hide ((unhide HZ2).below z3)
                              clear z3
                              go_wp2_with fail
                              refine (unhide HA _ (unhide HZ3)).mono ?_
                              rintro e Z4 ⟨rfl, z4⟩
                              have HZ4 := hide ((unhide HZ3).below z4)
                              clear z4
                              go_wp2_with fail
                              refine (unhide JO _ (unhide HZ4)).mono ?_
                              rintro e Z5 ⟨rfl, z5⟩
                              have HZ5 := hide ((unhide HZ4).below z5)
                              clear z5
                              go_wp2
                              go_roundw
                              case measure => show 20 - ((y : Int) + 1).toNat < 20 - ((y : Nat) : Int).toNat; omega
                              case rel => exact ⟨y, by go_num, by omega, HZ5⟩
                            | false =>
                              go_wp2_with fail
                              refine (unhide KN _ (unhide HQ)).mono ?_
                              rintro e Z1 ⟨rfl, z1⟩
                              have HZ1 := hide ((unhide HQ).below z1)
                              clear z1
                              go_wp2_with fail
                              refine (unhide JO _ (unhide HZ1)).mono ?_
                              rintro e Z2 ⟨rfl, z2⟩
                              have HZ2 := hide ((unhide HZ1).below z2)
                              clear z2
                              go_wp2_with fail
                              refine (unhide LE _ (unhide HZ2)).mono ?_
                              rintro e Z3 ⟨rfl, z3⟩
                              have HZ3 := hide ((unhide HZ2).below z3)
                              clear z3
                              go_wp2_with fail
                              refine (unhide HA _ (unhide HZ3)).mono ?_
                              rintro e Z4 ⟨rfl, z4⟩
                              have HZ4 := hide ((unhide HZ3).below z4)
                              clear z4
                              go_wp2_with fail
                              refine (unhide JO _ (unhide HZ4)).mono ?_
                              rintro e Z5 ⟨rfl, z5⟩
                              have HZ5 := hide ((unhide HZ4).below z5)
                              clear z5
                              go_wp2
                              go_roundw
                              case measure => show 20 - ((y : Int) + 1).toNat < 20 - ((y : Nat) : Int).toNat; omega
                              case rel => exact ⟨y, by go_num, by omega, HZ5⟩
                        · have hq6' : ¬ ((q + 1 : Nat) : Int) ≤ 16 := by omega
                          obtain rfl : q = 16 := by omega
                          go_wp2_with fail
                          refine (unhide HK _).mono ?_
                          rintro e Z1 ⟨rfl, z1⟩
                          go_wp2
                          go_ret
                          exact ⟨rfl, bnext (unhide HQ).bel z1⟩

theorem own : ownKnob Try.prog.godebug = none := by kernel_rfl
theorem laidOut2 : laidOutB Try.prog = true := by kernel_rfl

set_option maxRecDepth 100000 in
theorem lifted (os : Os) (started : os.Started) (H : Type) (enc : TypeId × Value → H) :
    ReturnsInHanded {} Try.checked os 7 .any (Rows.rollOrderSpec.pre6 enc Try.prog Try.f7 Rows.rollOrderRow.domain false) (Rows.rollOrderSpec.post enc Try.prog Try.f7 false true false false) := by
  refine returnsInHanded_of_change (C := Try.checked) own started (by kernel_rfl) Try.func7
    (ChangeSpec.witness6 (enc := enc) (C := Try.checked) false ⟨#[], #[.slice none 0 0, .slice none 0 0], []⟩ 8 (by kernel_rfl) (by kernel_rfl) (by kernel_rfl) (by kernel_rfl)) ?_
  intro W base args ds gs before hval0 hW hcnd _
  have hval : ∀ (j : Nat) t v, Try.f7.params[j]? = some t → args[j]? = some v → Value.okWide Try.prog W .any base t v := hval0
  have hW' := hW
  obtain ⟨p, q, hA0, hV, rfl, hfz, hnd⟩ := hW
  have hA : DataW.TrodAll enc Try.prog W 0 (fun _ => true) true Try.f7.params.toList args.toList ds p := hA0
  rw [Try.params7] at hA hval
  obtain ⟨v0, vs0, d0, ds0, p0, q0, hargs, rfl, rfl, h0, r0⟩ := trodAll_cons hA
  obtain ⟨v1, vs1, d1, ds1, p1, q1, rfl, rfl, rfl, h1, r1⟩ := trodAll_cons r0
  obtain ⟨rfl, rfl, rfl⟩ := trodAll_nil r1
  obtain rfl : args = #[v0, v1] := by cases args; simp_all
  obtain ⟨rfl, rfl⟩ := trodVars_none hV
  obtain ⟨a0, len0, cap0, rfl⟩ := okWide_slice Try.underlying22 (hval 0 22 v0 rfl rfl)
  have k0 := h0
  have lt0 : ∀ x ∈ p0, x.block < W.heap.size := by obtain ⟨m, hm⟩ := k0; exact DataW.trod_lt m _ _ _ hm
  obtain ⟨z0, w0⟩ : ∃ l : List Stp, RSt W (.slice a0 len0 cap0) l ∧ l.length = len0 ∧ len0 ≤ maxLen ∧ ∀ e ∈ l, StW e := by
    obtain ⟨fuel, hf⟩ := h0
    simp only [Value.cells] at hf
    exact open_steps hf
  obtain ⟨a1, len1, cap1, rfl⟩ := okWide_slice Try.underlying34 (hval 1 34 v1 rfl rfl)
  have k1 := h1
  have lt1 : ∀ x ∈ p1, x.block < W.heap.size := by obtain ⟨m, hm⟩ := k1; exact DataW.trod_lt m _ _ _ hm
  obtain ⟨z1, w1⟩ : ∃ l : List Int, RN W (.slice a1 len1 cap1) l ∧ l.length = len1 ∧ len1 ≤ maxLen ∧ ∀ e ∈ l, in64 e := by
    obtain ⟨fuel, hf⟩ := h1
    simp only [Value.cells] at hf
    exact open_nums hf
  clear hA0 hval0
  refine (walk a0 len0 cap0 z0 a1 len1 cap1 z1 W w0 w1).mono fun e W' ⟨he, bel⟩ => ?_
  subst he
  exact ⟨_, rfl, _, _, _, [], _, [], hW', trodAll_mk1 (shut_bool Try.underlying4 _), (trodAll_cons_mk (Below.trod laidOut2 (by kernel_rfl) (of_decide_eq_true (by kernel_rfl)) k0 bel lt0) (trodAll_cons_mk (Below.trod laidOut2 (by kernel_rfl) (of_decide_eq_true (by kernel_rfl)) k1 bel lt1) trodAll_mk0)), rfl, bel.frame _, fun h => by cases h⟩

theorem over : Rows.rollOrderRow.holds Try.pinned (OpenSpec.ofChange Rows.rollOrderSpec) :=
  OpenClaim.holds_of_wide 7 Try.f7 rfl rfl rfl rfl rfl rfl rfl ⟨rfl, rfl, rfl, rfl, rfl⟩ rfl rfl rfl rfl rfl (by kernel_rfl) Try.func7 (by kernel_rfl)
    (of_decide_eq_true (by kernel_rfl)) (by unfold Func.isWrapper; first | (rw [if_pos (by decide +kernel)]; kernel_rfl) | (rw [if_neg (by decide +kernel)]; exact ⟨rfl, rfl⟩))
    (fun os started H enc _ => lifted os started H enc)

end LRollOrder

theorem rollOrder_holds : Rows.RollOrderSaid := LRollOrder.over

end Go.Proofs.Ytjcdfjnlpfineaa
