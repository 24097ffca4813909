/-
  Chapter 1's law GlyphRange returns true for every text and every list of runes, and leaves its arguments as they were; no condition.
-/
import Derived.Test.YtnejgbjidonpiaaRows
import Derived.WalkKit
import Derived.ProofKit
import Derived.OpenShut
import Derived.ShutString
import Derived.ChangeOld
import Derived.Below
import Derived.Test.YtnejgbjidonpiaaKnown
import Derived.Test.YtnejgbjidonpiaaRt
import Derived.Test.YtnejgbjidonpiaaRng
import Derived.Test.YtnejgbjidonpiaaConv
import Derived.Laws.EntriesVeiled
set_option linter.unusedVariables false
set_option linter.unusedSimpArgs false
namespace Go.Proofs.Ytnejgbjidonpiaa
namespace LGlyphRange
open Go.ChangeShapes Go.WideShapes Go.ChangeAt Go.RowKit Go.Lib
open Go.ChangeMaps (open_string shut_string)

theorem run_equalIn_func_nil {P : Program} (w : World) (d : Nat) (t : TypeId) {x y z} (f : Fn) (bs cs : Array Value) (h : P.underlying t = some (.func x y z)) : (Op.equalIn (d + 1) t (.func f bs cs) .nilFunc).run P w = .ok false w := by
  simp [Op.equalIn, run_underlying h]
theorem run_equal_func_nil {P : Program} (w : World) (t : TypeId) {x y z} (f : Fn) (bs cs : Array Value) (h : P.underlying t = some (.func x y z)) : (Op.equal t (.func f bs cs) .nilFunc).run P w = .ok false w := run_equalIn_func_nil w 9999 t f bs cs h
theorem run_eql_func_nil {P : Program} (w : World) (t : TypeId) {x y z} (f : Fn) (bs cs : Array Value) (h : P.underlying t = some (.func x y z)) : (binOp .eql t (.func f bs cs) .nilFunc).run P w = .ok (.bool false) w := by
  simp only [binOp]
  simp [run_equal_func_nil w t f bs cs h]

structure RJ (s : ByteArray) (w0 : World) (bs bp : Nat) (pv lv : Value) (zs : List Int) (w : World) : Prop where
  bel : Below w0.heap.size w0 w
  cs : w.cell? ⟨bs, 0, none⟩ = some (.string s)
  cp : w.cell? ⟨bp, 0, none⟩ = some pv
  ls : bs < w.heap.size
  lp : bp < w.heap.size
  rs : RS w lv zs

theorem RJ.later {s : ByteArray} {w0 : World} {bs bp : Nat} {pv lv : Value} {zs : List Int} {w w' : World} (h : RJ s w0 bs bp pv lv zs w) (hB : Below w.heap.size w w') : RJ s w0 bs bp pv lv zs w' :=
  ⟨h.bel.trans (hB.mono h.bel.size), (hB.cell (p := ⟨bs, 0, none⟩) h.ls).trans h.cs, (hB.cell (p := ⟨bp, 0, none⟩) h.lp).trans h.cp, Nat.lt_of_lt_of_le h.ls hB.size, Nat.lt_of_lt_of_le h.lp hB.size, RS.below hB h.rs⟩

def rsV (zs : List Int) : World → Value → Prop := fun w v => RS w v zs

theorem owns_form {W : World} {B e n : Nat} {v : Value} {xs : List Value} (h : W.ownsRow B e 1 v n xs) : ∃ a c, v = .slice a n c := by
  rcases h.2 with ⟨rfl, rfl⟩ | ⟨g, cap, cur, rfl, _⟩
  · exact ⟨_, _, rfl⟩
  · exact ⟨_, _, rfl⟩
theorem owns_addr {W : World} {B e n cap : Nat} {a : Option Addr} {xs : List Value} (h : W.ownsRow B e 1 (.slice a n cap) n xs) (hn : 0 < n) : ∃ g, a = some ⟨g, 0, none⟩ := by
  rcases h.2 with ⟨e1, e2⟩ | ⟨g, c, cur, e1, _⟩
  · omega
  · exact ⟨g, by simpa using (congrArg (fun v => match v with | Value.slice a _ _ => a | _ => none) e1)⟩

set_option maxRecDepth 100000 in
set_option maxHeartbeats 4000000 in
theorem walk (a0 : ByteArray) (a1 : Option Addr) (len1 cap1 : Nat) (z1 : List Int) (w : World) (w0 : a0.size ≤ maxLen) (w1 : IsRow .i32 w a1 len1 cap1 z1) :
    Calls Try.prog 8 #[.string a0, .slice a1 len1 cap1] w fun e w' => e = .returned (.bool true) ∧ Below w.heap.size w w' := by
  obtain ⟨hrs, hlen, hwf⟩ := w1.rs
  have hl63 : len1 ≤ 9223372036854775807 := by
    rcases w1 with ⟨_, h, _⟩ | ⟨_, _, h1, h2, _⟩
    · omega
    · unfold maxLen at h2; omega
  generalize z1.take len1 = zs at hrs hlen hwf
  clear w1
  unfold maxLen at w0
  by_cases hbig : 20000 < a0.size
  · go_enter Try.func8, Try.ntmps8
    go_wp2_with (go_at_call 9; refine (known_in _).mono ?_; rintro e w' ⟨rfl, hB⟩)
    go_ret
    exact ⟨rfl, ((Below.refl _ w).alloc (Nat.le_refl _) _).trans (hB.mono (by simp))⟩
  · by_cases hbig2 : 20000 < len1
    · go_enter Try.func8, Try.ntmps8
      go_wp2_with (go_at_call 9; refine (known_in _).mono ?_; rintro e w' ⟨rfl, hB⟩)
      go_ret
      exact ⟨rfl, ((Below.refl _ w).alloc (Nat.le_refl _) _).trans (hB.mono (by simp))⟩
    · have f1 : decide ((20000 : Int) < (a0.size : Int)) = false := by simp; omega
      have f2 : decide ((20000 : Int) < (len1 : Int)) = false := by simp; omega
      have Hrs := hide hrs
      clear hrs
      go_enter Try.func8, Try.ntmps8
      go_wp2_with fail
      refine (callsIn_wide.1 (all_in Fence.wide 1 trivial rfl _ _)).mono ?_
      rintro e w' ⟨rfl, rfl⟩
      go_wp2_with fail
      rw [run_eql_func_nil _ _ _ _ _ Try.underlying40]
      go_wp2_with fail
      have b0 := Boxed.new w 9 (.string a0)
      have b2 := Boxed.new ((w.alloc (.cells #[.string a0] 9)).alloc (.cells #[.string a0] 9)) 46 (.slice none 0 0)
      have b3 := Boxed.new (((w.alloc (.cells #[.string a0] 9)).alloc (.cells #[.string a0] 9)).alloc (.cells #[.slice none 0 0] 46)) 31 (.slice none 0 0)
      have b1 := Boxed.new (w.alloc (.cells #[.string a0] 9)) 9 (.string a0)
      simp only [World.size_alloc] at b1 b2 b3
      have hB0 : Below w.heap.size w ((((w.alloc (.cells #[.string a0] 9)).alloc (.cells #[.string a0] 9)).alloc (.cells #[.slice none 0 0] 46)).alloc (.cells #[.slice none 0 0] 31)) := ((((Below.refl _ w).alloc (Nat.le_refl _) _).alloc (by simp) _).alloc (by simp; omega) _).alloc (by simp; omega) _
      have hJ0 : JR a0 w.heap.size w.heap.size (w.heap.size + 1 + 1) (w.heap.size + 1 + 1 + 1) w [] ((((w.alloc (.cells #[.string a0] 9)).alloc (.cells #[.string a0] 9)).alloc (.cells #[.slice none 0 0] 46)).alloc (.cells #[.slice none 0 0] 31)) :=
        ⟨_, _, ⟨((b0.alloc _).alloc _).alloc _, b2.alloc _, b3⟩, World.ownsRow_nil _ _ _ _, World.ownsRow_nil _ _ _ _, hB0⟩
      refine (all1_clo 35 _ (w.heap.size + 1) a0 (JR a0 w.heap.size w.heap.size (w.heap.size + 1 + 1) (w.heap.size + 1 + 1 + 1) w) (fun _ _ => False) _ (JR_abides a0 w.heap.size _ _ _ _ w rfl (by simp; omega)) (enters_of Try.func35 (by kernel_rfl) rfl) (range1_in a0 (by omega) w.heap.size _ _ _ w rfl (by omega) (by omega) (by omega) (by omega) (by omega) (by omega)) ((b1.alloc _).alloc _).cell hJ0).mono ?_
      rintro e W1 ⟨rfl, hJ1 | ⟨_, _, hf⟩⟩
      · clear b0 b1 b2 b3 hB0 hJ0
        generalize w.heap.size + 1 + 1 = bp at *
        generalize bp + 1 = bf at *
        have HJ1 := hide hJ1
        have hwW : w.heap.size ≤ W1.heap.size := by obtain ⟨_, _, _, _, _, h⟩ := hJ1; exact h.size
        have hc0 : W1.cell? ⟨w.heap.size, 0, none⟩ = some (.string a0) := by obtain ⟨_, _, ⟨h, _⟩, _⟩ := hJ1; exact h.cell
        clear hJ1
        go_wp2
        go_loopw [8] (fun nv wr => ∃ (pos f : Nat) (pre : List Nat), nv = .int .i64 (pre.length : Nat) ∧ wr.heap[W1.heap.size]? = some (.stringIter a0 pos) ∧ Hid (pre ++ posL a0 f pos = allL a0) ∧ a0.size ≤ pos + f ∧ Hid (JR a0 w.heap.size w.heap.size bp bf w (allL a0) wr))
          (fun _ wr => a0.size - wr.iterPos W1.heap.size)
        case atStart =>
          exact ⟨0, a0.size, [], rfl, World.iter_heap W1 a0 0, hide rfl, by omega, hide (JR_abides a0 w.heap.size _ _ _ w.heap.size w rfl (Nat.le_refl _) _ _ _ none (unhide HJ1) (World.grownBy_alloc W1 _ none) (fun r e => by cases e))⟩
        case round =>
          obtain ⟨pos, f, pre, rfl, hit, hacc, hfu, hJs⟩ := hrel
          by_cases hp : pos < a0.size
          · have hnx : ∀ ty, (Instr.next (.pointer (some ⟨W1.heap.size, 0, none⟩)) true ty).run Try.prog wr = .ok (.tuple #[.bool true, .int .i64 (pos : Nat), .int .i32 (rn a0 pos : Nat)]) (wr.iterAt W1.heap.size a0 (pos + wd a0 pos)) := fun ty => Lib.run_next_any_at wr W1.heap.size a0 pos ty hit hp
            have hwd := wd_pos a0 pos hp
            have hit2 := Lib.iterAt_heap wr W1.heap.size a0 pos (pos + wd a0 pos) hit
            obtain ⟨g, rfl⟩ : ∃ g, f = g + 1 := ⟨f - 1, by omega⟩
            have hacc2 : Hid (pre ++ pos :: posL a0 g (pos + wd a0 pos) = allL a0) := by rw [← posL_step a0 g pos hp]; exact hacc
            clear hacc
            have hJ2 : JR a0 w.heap.size w.heap.size bp bf w (allL a0) (wr.iterAt W1.heap.size a0 (pos + wd a0 pos)) := JR_abides a0 w.heap.size _ _ _ w.heap.size w rfl (Nat.le_refl _) _ _ _ _ (unhide hJs) (iterAt_grown wr _ a0 _) (fun r e => by cases e; exact ⟨hwW, _, hit, rfl⟩)
            have HJ2 := hide hJ2
            have hx : (allL a0)[pre.length]? = some pos := by rw [← unhide hacc2]; simp
            have hlt : pre.length < (allL a0).length := (List.getElem?_eq_some_iff.1 hx).1
            have hL2 := allL_length a0
            obtain ⟨pv, fv, ⟨c0, c1, c2⟩, rp, rf, hB⟩ := hJ2
            obtain ⟨ga, ca, rfl⟩ := owns_form rp
            obtain ⟨gb, cb, rfl⟩ := owns_form rf
            obtain ⟨g3, rfl⟩ := owns_addr rp (by omega)
            obtain ⟨g4, rfl⟩ := owns_addr rf (by omega)
            have ce : (wr.iterAt W1.heap.size a0 (pos + wd a0 pos)).cell? ⟨g3, pre.length, none⟩ = some (.int .i64 (pos : Int)) := by
              rw [rp.cellAt pre.length (by omega)]; simp [atsC, hx]
            have cf : (wr.iterAt W1.heap.size a0 (pos + wd a0 pos)).cell? ⟨g4, pre.length, none⟩ = some (.int .i32 (rn a0 pos : Int)) := by
              rw [rf.cellAt pre.length (by omega)]; simp [rnsC, hx]
            have k1 := c1.cell
            have k2 := c2.cell
            have i1 : (pre.length : Int) < ((allL a0).length : Int) := by omega
            have d1 : decide (((allL a0).length : Int) ≤ (pre.length : Int)) = false := by simp; omega
            have d2 : ((pos : Int) != (pos : Int)) = false := by simp
            have d3 : ((rn a0 pos : Int) != (rn a0 pos : Int)) = false := by simp
            clear hJs c0 c1 c2 rp rf hB hx
            go_wp2
            go_roundw
            case rel => exact ⟨pos + wd a0 pos, g, pre ++ [pos], by simp, hit2, hide (by rw [← unhide hacc2]; simp), by omega, HJ2⟩
            case measure =>
              simp only [World.iterPos, hit2, hit]
              omega
          · have hnx : ∀ ty, (Instr.next (.pointer (some ⟨W1.heap.size, 0, none⟩)) true ty).run Try.prog wr = .ok (.tuple #[.bool false]) wr := fun ty => Lib.run_next_end_at wr W1.heap.size a0 pos ty hit hp
            have hpre : pre = allL a0 := by rw [← unhide hacc, posL_end a0 f pos hp]; simp
            subst hpre
            obtain ⟨pv, fv, ⟨c0, c1, c2⟩, rp, rf, hB⟩ := unhide hJs
            obtain ⟨ga, ca, rfl⟩ := owns_form rp
            have hRJ : RJ a0 w w.heap.size bp (.slice ga (allL a0).length ca) (.slice a1 len1 cap1) zs wr.drew := ⟨hB.drew, c0.cell, c1.cell, c0.lt, c1.lt, RS.below hB.drew (unhide Hrs)⟩
            have HRJ := hide hRJ
            clear c0 c1 c2 rp rf hJs hacc hB hRJ
            go_wp2_with fail
            refine wp_region_any (by kernel_rfl) ?_
            change wpAny _ _ _ _ _ _ _ (World.drew _)
            refine region_inv 84 (fun j => if j = 29 then 4 else 55 + j) [(1, .slice a1 len1 cap1), (2, .pointer (some ⟨w.heap.size, 0, none⟩)), (6, .pointer (some ⟨bp, 0, none⟩)), (8, .int .i64 ((allL a0).length : Nat))]
              (RJ a0 w w.heap.size bp (.slice ga (allL a0).length ca) (.slice a1 len1 cap1) zs)
              (valsOf [isV (.int .i64 ((allL a0).length : Nat)), isV (.slice ga (allL a0).length ca), isV (.int .i64 ((allL a0).length : Nat)), isV (.bool true), isV (.bool true), isV (.string a0), rsV (runeL a0), isV (.string a0), rsV (runeL a0), isV (.bool true), isV (.bool true), isV (.bool true), isV (.slice a1 len1 cap1), isV (.string (runesBytes zs)), isV (.slice a1 len1 cap1), isV (.string (runesBytes zs)), isV (.bool true), isV (.bool true), isV (.bool true), isV (.string a0), isV (.string (runesBytes (runeL a0))), isV (.string a0), rsV (runeL a0), isV (.string (runesBytes (runeL a0))), isV (.bool true), isV (.bool true), isV (.bool true), isV (.bool true), isV (.bool true), isV (.bool true)])
              (fun w w' => Below w.heap.size w w') ?fit (fun w w' h hG => h.later hG) (valsOf_stable ?stable) [(4, true), (11, true), (18, true), (26, true)] ?gs ?gv ?steps ?fin _ _ ?sz rfl ?base (unhide HRJ)
            case fit => kernel_rfl
            case sz => rfl
            case gs => kernel_rfl
            case gv => intro p hp w v hv; simp at hp; rcases hp with rfl | rfl | rfl | rfl <;> exact hv
            case base => intro p hp; simp at hp; rcases hp with rfl | rfl | rfl | rfl <;> rfl
            case stable => exact Stables.all (by repeat (first | exact .nil | refine .same ?_ | refine .other (fun w w' v _ hv hG => RS.below hG hv) ?_))
            case steps =>
              have hrl := runeL_length a0
              have hal := allL_length a0
              refine .cons (fun ρ w hρ hJ hb hd => ?_) ?_
              · have e8 := hb (8, _) (.tail _ (.tail _ (.tail _ (.head _))))
                exact step_move (.tmp 8) rfl ⟨Below.refl _ _, e8⟩
              refine .cons (fun ρ w hρ hJ hb hd => ?_) ?_
              · have e6 := hb (6, _) (.tail _ (.tail _ (.head _)))
                have hc := hJ.cp
                exact step_val (by simp [go_sem, execOp, e6, hc]) ⟨Below.refl _ _, rfl⟩
              refine .cons (fun ρ w hρ hJ hb hd => ?_) ?_
              · have d : ρ (.tmp 56) = .slice ga (allL a0).length ca := hd 0 _ rfl rfl
                exact step_val (by simp [go_sem, execOp, d]) ⟨Below.refl _ _, rfl⟩
              refine .cons (fun ρ w hρ hJ hb hd => ?_) ?_
              · have d : ρ (.tmp 55) = .int .i64 ((allL a0).length : Nat) := hd 0 _ rfl rfl
                have d2 : ρ (.tmp 57) = .int .i64 ((allL a0).length : Nat) := hd 1 _ rfl rfl
                exact step_val (by simp [go_sem, execOp, d, d2]) ⟨Below.refl _ _, rfl⟩
              refine .cons (fun ρ w hρ hJ hb hd => ?_) ?_
              · have d : ρ (.tmp 58) = .bool true := hd 0 _ rfl rfl
                exact step_move (.tmp 58) rfl ⟨Below.refl _ _, d⟩
              refine .cons (fun ρ w hρ hJ hb hd => ?_) ?_
              · have e2 := hb (2, _) (.tail _ (.head _))
                have hc := hJ.cs
                exact step_val (by simp [go_sem, execOp, e2, hc]) ⟨Below.refl _ _, rfl⟩
              refine .cons (fun ρ w hρ hJ hb hd => ?_) ?_
              · have d : ρ (.tmp 60) = .string a0 := hd 0 _ rfl rfl
                have he := enters_of Try.func23 (by kernel_rfl) rfl
                refine step_func 23 _ _ #[.string a0] hρ rfl he (by simp [d]) ?_
                refine (runes_in a0 (by omega) _).mono ?_
                rintro e w2 ⟨v, rfl, ho, hB, _⟩
                exact ⟨v, rfl, hB, RS.of_owns ho⟩
              refine .cons (fun ρ w hρ hJ hb hd => ?_) ?_
              · have e2 := hb (2, _) (.tail _ (.head _))
                have hc := hJ.cs
                exact step_val (by simp [go_sem, execOp, e2, hc]) ⟨Below.refl _ _, rfl⟩
              refine .cons (fun ρ w hρ hJ hb hd => ?_) ?_
              · have d : ρ (.tmp 62) = .string a0 := hd 0 _ rfl rfl
                obtain ⟨v, w2, hr, hrs, hB⟩ := conv_runes a0 (by omega) w
                exact step_val (by simp [go_sem, execOp, d, hr]) ⟨hB, hrs⟩
              refine .cons (fun ρ w hρ hJ hb hd => ?_) ?_
              · have d : RS w (ρ (.tmp 61)) (runeL a0) := hd 0 _ rfl rfl
                have d2 : RS w (ρ (.tmp 63)) (runeL a0) := hd 1 _ rfl rfl
                have he := enters_of Try.func22 (by kernel_rfl) rfl
                refine step_func 22 _ _ #[ρ (.tmp 61), ρ (.tmp 63)] hρ rfl he (by simp []) ?_
                refine (same_in _ _ _ _ _ d d2 (by omega) (by omega)).mono ?_
                rintro e w2 ⟨rfl, nn, rfl⟩
                have hB0 := Below.refl w.heap.size w
                exact ⟨_, rfl, ⟨hB0.os, hB0.tape, hB0.output, hB0.size, hB0.block⟩, by simp [valsOf, isV]⟩
              refine .cons (fun ρ w hρ hJ hb hd => ?_) ?_
              · have d : ρ (.tmp 59) = .bool true := hd 0 _ rfl rfl
                have d2 : ρ (.tmp 64) = .bool true := hd 1 _ rfl rfl
                exact step_val (by simp [go_sem, execOp, d, d2]) ⟨Below.refl _ _, rfl⟩
              refine .cons (fun ρ w hρ hJ hb hd => ?_) ?_
              · have d : ρ (.tmp 65) = .bool true := hd 0 _ rfl rfl
                exact step_move (.tmp 65) rfl ⟨Below.refl _ _, d⟩
              refine .cons (fun ρ w hρ hJ hb hd => ?_) ?_
              · have e1 := hb (1, _) (.head _)
                exact step_move (.tmp 1) rfl ⟨Below.refl _ _, e1⟩
              refine .cons (fun ρ w hρ hJ hb hd => ?_) ?_
              · have d : ρ (.tmp 67) = .slice a1 len1 cap1 := hd 0 _ rfl rfl
                have he := enters_of Try.func27 (by kernel_rfl) rfl
                refine step_func 27 _ _ #[.slice a1 len1 cap1] hρ rfl he (by simp [d]) ?_
                refine (text_in _ zs _ hJ.rs).mono ?_
                rintro e w2 ⟨rfl, rfl⟩
                exact ⟨_, rfl, Below.refl _ _, rfl⟩
              refine .cons (fun ρ w hρ hJ hb hd => ?_) ?_
              · have e1 := hb (1, _) (.head _)
                exact step_move (.tmp 1) rfl ⟨Below.refl _ _, e1⟩
              refine .cons (fun ρ w hρ hJ hb hd => ?_) ?_
              · have d : ρ (.tmp 69) = .slice a1 len1 cap1 := hd 0 _ rfl rfl
                have hr := conv_text _ zs w hJ.rs
                exact step_val (by simp [go_sem, execOp, d, hr]) ⟨Below.refl _ _, rfl⟩
              refine .cons (fun ρ w hρ hJ hb hd => ?_) ?_
              · have d : ρ (.tmp 68) = .string (runesBytes zs) := hd 0 _ rfl rfl
                have d2 : ρ (.tmp 70) = .string (runesBytes zs) := hd 1 _ rfl rfl
                exact step_val (by simp [go_sem, execOp, d, d2]) ⟨Below.refl _ _, rfl⟩
              refine .cons (fun ρ w hρ hJ hb hd => ?_) ?_
              · have d : ρ (.tmp 66) = .bool true := hd 0 _ rfl rfl
                have d2 : ρ (.tmp 71) = .bool true := hd 1 _ rfl rfl
                exact step_val (by simp [go_sem, execOp, d, d2]) ⟨Below.refl _ _, rfl⟩
              refine .cons (fun ρ w hρ hJ hb hd => ?_) ?_
              · have d : ρ (.tmp 72) = .bool true := hd 0 _ rfl rfl
                exact step_move (.tmp 72) rfl ⟨Below.refl _ _, d⟩
              refine .cons (fun ρ w hρ hJ hb hd => ?_) ?_
              · have e2 := hb (2, _) (.tail _ (.head _))
                have hc := hJ.cs
                exact step_val (by simp [go_sem, execOp, e2, hc]) ⟨Below.refl _ _, rfl⟩
              refine .cons (fun ρ w hρ hJ hb hd => ?_) ?_
              · have d : ρ (.tmp 74) = .string a0 := hd 0 _ rfl rfl
                have he := enters_of Try.func20 (by kernel_rfl) rfl
                refine step_func 20 _ _ #[.string a0] hρ rfl he (by simp [d]) ?_
                refine (mend_in a0 (by omega) _).mono ?_
                rintro e w2 ⟨rfl, hB⟩
                exact ⟨_, rfl, hB, rfl⟩
              refine .cons (fun ρ w hρ hJ hb hd => ?_) ?_
              · have e2 := hb (2, _) (.tail _ (.head _))
                have hc := hJ.cs
                exact step_val (by simp [go_sem, execOp, e2, hc]) ⟨Below.refl _ _, rfl⟩
              refine .cons (fun ρ w hρ hJ hb hd => ?_) ?_
              · have d : ρ (.tmp 76) = .string a0 := hd 0 _ rfl rfl
                obtain ⟨v, w2, hr, hrs, hB⟩ := conv_runes a0 (by omega) w
                exact step_val (by simp [go_sem, execOp, d, hr]) ⟨hB, hrs⟩
              refine .cons (fun ρ w hρ hJ hb hd => ?_) ?_
              · have d : RS w (ρ (.tmp 77)) (runeL a0) := hd 0 _ rfl rfl
                have hr := conv_text _ _ w d
                exact step_val (by simp [go_sem, execOp, hr]) ⟨Below.refl _ _, rfl⟩
              refine .cons (fun ρ w hρ hJ hb hd => ?_) ?_
              · have d : ρ (.tmp 75) = .string (runesBytes (runeL a0)) := hd 0 _ rfl rfl
                have d2 : ρ (.tmp 78) = .string (runesBytes (runeL a0)) := hd 1 _ rfl rfl
                exact step_val (by simp [go_sem, execOp, d, d2]) ⟨Below.refl _ _, rfl⟩
              refine .cons (fun ρ w hρ hJ hb hd => ?_) ?_
              · have d : ρ (.tmp 73) = .bool true := hd 0 _ rfl rfl
                have d2 : ρ (.tmp 79) = .bool true := hd 1 _ rfl rfl
                exact step_val (by simp [go_sem, execOp, d, d2]) ⟨Below.refl _ _, rfl⟩
              refine .cons (fun ρ w hρ hJ hb hd => ?_) ?_
              · have d : ρ (.tmp 80) = .bool true := hd 0 _ rfl rfl
                exact step_move (.tmp 80) rfl ⟨Below.refl _ _, d⟩
              refine .cons (fun ρ w hρ hJ hb hd => ?_) ?_
              · have he := enters_of Try.func9 (by kernel_rfl) rfl
                refine step_func 9 _ _ #[] hρ rfl he (by simp []) ?_
                refine (known_in _).mono ?_
                rintro e w2 ⟨rfl, hB⟩
                exact ⟨_, rfl, hB, rfl⟩
              refine .cons (fun ρ w hρ hJ hb hd => ?_) ?_
              · have d : ρ (.tmp 81) = .bool true := hd 0 _ rfl rfl
                have d2 : ρ (.tmp 82) = .bool true := hd 1 _ rfl rfl
                exact step_val (by simp [go_sem, execOp, d, d2]) ⟨Below.refl _ _, rfl⟩
              refine .cons (fun ρ w hρ hJ hb hd => ?_) ?_
              · have d : ρ (.tmp 83) = .bool true := hd 0 _ rfl rfl
                exact step_assign (.tmp 83) rfl ⟨Below.refl _ _, d⟩
              exact .nil _
            case fin =>
              intro a w2 h1 h2 h3 h4
              have h29 : a.eval (.tmp 4) = .bool true := h4 29 (by decide)
              have hbel := h3.bel
              clear h4 h3
              go_wp2
              refine bodyPost_ret (v := .bool true) ?_ h2 ⟨rfl, hbel⟩
              have h4s := eval_some (a := a) (t := 4) (by omega)
              rw [h29] at h4s
              simp [results, Try.f8, h4s]
      · exact hf.elim

theorem own : ownKnob Try.prog.godebug = none := by kernel_rfl
theorem laidOut : laidOutB Try.prog = true := by kernel_rfl

set_option maxRecDepth 100000 in
theorem lifted (os : Os) (started : os.Started) (H : Type) (enc : TypeId × Value → H) :
    ReturnsInHanded {} Try.checked os 8 .any (Rows.glyphRangeSpec.pre6 enc Try.prog Try.f8 Rows.glyphRangeRow.domain false) (Rows.glyphRangeSpec.post enc Try.prog Try.f8 false true false false) := by
  refine returnsInHanded_of_change (C := Try.checked) own started (by kernel_rfl) Try.func8
    (ChangeSpec.witness6 (enc := enc) (C := Try.checked) false ⟨#[], #[.string ByteArray.empty, .slice none 0 0], []⟩ 8 (by kernel_rfl) (by kernel_rfl) (by kernel_rfl) (by kernel_rfl)) ?_
  intro W base args ds gs before hval0 hW hcnd _
  have hval : ∀ (j : Nat) t v, Try.f8.params[j]? = some t → args[j]? = some v → Value.okWide Try.prog W .any base t v := hval0
  have hW' := hW
  obtain ⟨p, q, hA0, hV, rfl, hfz, hnd⟩ := hW
  have hA : DataW.TrodAll enc Try.prog W 0 (fun _ => true) true Try.f8.params.toList args.toList ds p := hA0
  rw [Try.params8] at hA hval
  obtain ⟨v0, vs0, d0, ds0, p0, q0, hargs, rfl, rfl, h0, r0⟩ := trodAll_cons hA
  obtain ⟨v1, vs1, d1, ds1, p1, q1, rfl, rfl, rfl, h1, r1⟩ := trodAll_cons r0
  obtain ⟨rfl, rfl, rfl⟩ := trodAll_nil r1
  obtain rfl : args = #[v0, v1] := by cases args; simp_all
  obtain ⟨rfl, rfl⟩ := trodVars_none hV
  obtain ⟨a0, rfl, rfl, rfl, w0⟩ := open_string Try.underlying9 (hval 0 9 v0 rfl rfl) h0
  obtain ⟨a1, len1, cap1, rfl⟩ := okWide_slice Try.underlying31 (hval 1 31 v1 rfl rfl)
  have k1 := h1
  have lt1 : ∀ x ∈ p1, x.block < W.heap.size := by obtain ⟨m, hm⟩ := k1; exact DataW.trod_lt m _ _ _ hm
  obtain ⟨z1, w1⟩ : ∃ zs, IsRow .i32 W a1 len1 cap1 zs := by
    obtain ⟨fuel, hf⟩ := h1
    rcases open_ints Try.underlying31 Try.underlying21 (by kernel_rfl) hf with ⟨hcs, _⟩ | ⟨x, l, c, zs, hcs, _, hl, hm, hz, _, hcell, hwz⟩
    · simp [Value.cells] at hcs
      obtain ⟨rfl, rfl, rfl⟩ := hcs
      exact ⟨[], .inl ⟨rfl, rfl, rfl, rfl⟩⟩
    · simp [Value.cells] at hcs
      obtain ⟨rfl, rfl, rfl⟩ := hcs
      exact ⟨zs, .inr ⟨_, rfl, hl, hm, by simpa using hz, hcell, hwz⟩⟩
  clear hA0 hval0
  refine (walk a0 a1 len1 cap1 z1 W w0 w1).mono fun e W' ⟨he, bel⟩ => ?_
  subst he
  exact ⟨_, rfl, _, _, _, [], _, [], hW', trodAll_mk1 (shut_bool Try.underlying4 _), (trodAll_cons_mk (shut_string Try.underlying9 w0) (trodAll_cons_mk (Below.trod laidOut (by kernel_rfl) (of_decide_eq_true (by kernel_rfl)) k1 bel lt1) trodAll_mk0)), rfl, bel.frame _, fun h => by cases h⟩

theorem over : Rows.glyphRangeRow.holds Try.pinned (OpenSpec.ofChange Rows.glyphRangeSpec) :=
  OpenClaim.holds_of_wide 8 Try.f8 rfl rfl rfl rfl rfl rfl rfl ⟨rfl, rfl, rfl, rfl, rfl⟩ rfl rfl rfl rfl rfl (by kernel_rfl) Try.func8 (by kernel_rfl)
    (of_decide_eq_true (by kernel_rfl)) (by unfold Func.isWrapper; first | (rw [if_pos (by decide +kernel)]; kernel_rfl) | (rw [if_neg (by decide +kernel)]; exact ⟨rfl, rfl⟩))
    (fun os started H enc _ => lifted os started H enc)

end LGlyphRange

theorem glyphRange_holds : Rows.GlyphRangeSaid := LGlyphRange.over

end Go.Proofs.Ytnejgbjidonpiaa
