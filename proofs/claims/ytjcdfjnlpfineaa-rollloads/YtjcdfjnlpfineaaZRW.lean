/-
  The document's own Members, Joined, Left; rising.
-/
import Derived.Test.YtjcdfjnlpfineaaZRV
import Derived.Test.YtjcdfjnlpfineaaZRT
set_option linter.unusedSimpArgs false
set_option linter.unusedVariables false
namespace Go.Proofs.Ytjcdfjnlpfineaa
open Go.RowKit Go.Lib
variable {w W W' : World} {r : Nat} {s : St}

theorem app_below {w W : World} {v : Value} {l : List Int} (hb : Below w.heap.size w W) (ho : OwN W w.heap.size v l) {x : Int} {W2 : World} (hg : (W.alloc (.cells #[.int .i64 x] 3)).grownBy W2 v.ownBlock) : Below w.heap.size w W2 :=
  (Kp.of_grown (N := fun k => v.ownBlock = some k) hg (fun k e => e)).below (bnext hb (ballc (Below.refl _ _) _)) (fun i hi => (World.ownsRow.lt ho i hi).1)

set_option maxRecDepth 100000 in
set_option maxHeartbeats 4000000 in
theorem rMembers_in (h : DB w r s) : Calls Try.prog 33 #[.pointer (some ⟨r, 0, none⟩)] w (Told w (s.m)) := by
  have H := hide h
  unfold Told
  clear h
  obtain ⟨m, hm⟩ : ∃ m, s.m = m := ⟨_, rfl⟩
  have HM := hide hm
  rw [hm]
  clear hm
  go_enter Try.func33, Try.ntmps33
  go_wp2
  go_loopw [3, 4] (fun lv iv wr => ∃ (k : Nat) (a : Option Addr) (c : Nat), k ≤ 16 ∧ iv = .int .i64 ((k + 1 : Nat) : Int) ∧ lv = .slice a (lsN m k).length c ∧ Hid (OwN wr w.heap.size (.slice a (lsN m k).length c) (lsN m k) ∧ Below w.heap.size w wr)) (fun _ iv _ => 20 - (RowKit.intOf iv).toNat)
  case atStart => exact ⟨0, none, 0, Nat.zero_le _, rfl, rfl, hide ⟨World.ownsRow_nil _ _ _ _, Below.refl _ _⟩⟩
  case round =>
    obtain ⟨k, a, c, hk, rfl, rfl, HI⟩ := hrel
    by_cases hlt : k < 16
    · have hsucc := lsN_succ m k
      have b1 := (unhide HI).2
      have d1 := (unhide H).below b1
      have HH := hide (rHas_in d1 ((k + 1 : Nat) : Int))
      have e1 : hasB s ((k + 1 : Nat) : Int) = m.getLsbD (k + 1) := by
        rw [← unhide HM]
        unfold hasB St.m
        rw [memW_at, siteB_iff.2 (by omega), Bool.true_and, Int.toNat_natCast]
      rw [e1] at HH
      clear d1
      obtain ⟨y, hy⟩ : ∃ y : Nat, k + 1 = y := ⟨_, rfl⟩
      have y1 : 1 ≤ y := by omega
      have y2 : y ≤ 16 := by omega
      cases hb : m.getLsbD (k + 1) with
      | false =>
        rw [hb, if_neg (by decide), List.append_nil] at hsucc
        rw [hb] at HH
        rw [hy] at HH ⊢
        have HI2 : Hid (OwN wr w.heap.size (.slice a (lsN m k).length c) (lsN m y) ∧ Below w.heap.size w wr ∧ (lsN m k).length = (lsN m y).length) := by
          rw [← hy, hsucc]; exact ⟨(unhide HI).1, (unhide HI).2, rfl⟩
        clear hsucc hb b1 HI
        generalize (lsN m k).length = n0 at *
        go_wp2_with fail
        refine (unhide HH).mono ?_
        rintro e W1 ⟨rfl, rfl⟩
        go_wp2
        go_roundw
        case rel => exact ⟨y, a, c, by omega, by go_num, by rw [(unhide HI2).2.2], hide ⟨by rw [← (unhide HI2).2.2]; exact (unhide HI2).1, (unhide HI2).2.1⟩⟩
        case measure => show 20 - ((y : Int) + 1).toNat < 20 - ((y : Nat) : Int).toNat; omega
      | true =>
        rw [hb, if_pos rfl] at hsucc
        rw [hb] at HH
        have hlen := lsN_len m k
        obtain ⟨v', W2, hr, hown, hgr, _⟩ := append_n wr 34 w.heap.size _ (lsN m k) ((k + 1 : Nat) : Int) (unhide HI).1 b1.size (by omega)
        rw [← hsucc] at hown
        have b2 := app_below b1 (unhide HI).1 hgr
        obtain ⟨a2, c2, rfl⟩ := OwN.form hown
        rw [hy] at HH hown hr ⊢
        have Hr := hide hr
        have R2 := hide (show OwN W2 w.heap.size (.slice a2 (lsN m y).length c2) (lsN m y) ∧ Below w.heap.size w W2 from ⟨hown, b2⟩)
        clear hsucc hb b1 b2 hown hgr hr HI hlen
        generalize (lsN m k).length = n0 at *
        go_wp2_with fail
        refine (unhide HH).mono ?_
        rintro e W1 ⟨rfl, rfl⟩
        go_wp2_with (at_builtin; refine wpList_append_eq rfl _ _ _ _ rfl _ _ _ _ rfl rfl (unhide Hr) ?_)
        go_roundw
        case rel => exact ⟨y, a2, c2, by omega, by go_num, rfl, R2⟩
        case measure => show 20 - ((y : Int) + 1).toNat < 20 - ((y : Nat) : Int).toNat; omega
    · obtain rfl : k = 16 := by omega
      go_wp2
      go_ret
      exact ⟨a, c, rfl, (unhide HI).1, (unhide HI).2⟩

set_option maxRecDepth 100000 in
set_option maxHeartbeats 4000000 in
theorem rJoined_in (h : DB w r s) : Calls Try.prog 34 #[.pointer (some ⟨r, 0, none⟩)] w (Told w (s.j)) := by
  have H := hide h
  unfold Told
  clear h
  obtain ⟨m, hm⟩ : ∃ m, s.j = m := ⟨_, rfl⟩
  have HM := hide hm
  rw [hm]
  clear hm
  go_enter Try.func34, Try.ntmps34
  go_wp2
  go_loopw [3, 4] (fun lv iv wr => ∃ (k : Nat) (a : Option Addr) (c : Nat), k ≤ 16 ∧ iv = .int .i64 ((k + 1 : Nat) : Int) ∧ lv = .slice a (lsN m k).length c ∧ Hid (OwN wr w.heap.size (.slice a (lsN m k).length c) (lsN m k) ∧ Below w.heap.size w wr)) (fun _ iv _ => 20 - (RowKit.intOf iv).toNat)
  case atStart => exact ⟨0, none, 0, Nat.zero_le _, rfl, rfl, hide ⟨World.ownsRow_nil _ _ _ _, Below.refl _ _⟩⟩
  case round =>
    obtain ⟨k, a, c, hk, rfl, rfl, HI⟩ := hrel
    by_cases hlt : k < 16
    · have hsucc := lsN_succ m k
      have b1 := (unhide HI).2
      have d1 := (unhide H).below b1
      have cj := d1.j (k + 1) (by omega)
      rw [unhide HM] at cj
      clear d1
      obtain ⟨y, hy⟩ : ∃ y : Nat, k + 1 = y := ⟨_, rfl⟩
      have y1 : 1 ≤ y := by omega
      have y2 : y ≤ 16 := by omega
      cases hb : m.getLsbD (k + 1) with
      | false =>
        rw [hb, if_neg (by decide), List.append_nil] at hsucc
        rw [hb] at cj
        rw [hy] at cj ⊢
        have HI2 : Hid (OwN wr w.heap.size (.slice a (lsN m k).length c) (lsN m y) ∧ Below w.heap.size w wr ∧ (lsN m k).length = (lsN m y).length) := by
          rw [← hy, hsucc]; exact ⟨(unhide HI).1, (unhide HI).2, rfl⟩
        clear hsucc hb b1 HI
        generalize (lsN m k).length = n0 at *
        go_wp2
        go_roundw
        case rel => exact ⟨y, a, c, by omega, by go_num, by rw [(unhide HI2).2.2], hide ⟨by rw [← (unhide HI2).2.2]; exact (unhide HI2).1, (unhide HI2).2.1⟩⟩
        case measure => show 20 - ((y : Int) + 1).toNat < 20 - ((y : Nat) : Int).toNat; omega
      | true =>
        rw [hb, if_pos rfl] at hsucc
        rw [hb] at cj
        have hlen := lsN_len m k
        obtain ⟨v', W2, hr, hown, hgr, _⟩ := append_n wr 34 w.heap.size _ (lsN m k) ((k + 1 : Nat) : Int) (unhide HI).1 b1.size (by omega)
        rw [← hsucc] at hown
        have b2 := app_below b1 (unhide HI).1 hgr
        obtain ⟨a2, c2, rfl⟩ := OwN.form hown
        rw [hy] at cj hown hr ⊢
        have Hr := hide hr
        have R2 := hide (show OwN W2 w.heap.size (.slice a2 (lsN m y).length c2) (lsN m y) ∧ Below w.heap.size w W2 from ⟨hown, b2⟩)
        clear hsucc hb b1 b2 hown hgr hr HI hlen
        generalize (lsN m k).length = n0 at *
        go_wp2_with (at_builtin; refine wpList_append_eq rfl _ _ _ _ rfl _ _ _ _ rfl rfl (unhide Hr) ?_)
        go_roundw
        case rel => exact ⟨y, a2, c2, by omega, by go_num, rfl, R2⟩
        case measure => show 20 - ((y : Int) + 1).toNat < 20 - ((y : Nat) : Int).toNat; omega
    · obtain rfl : k = 16 := by omega
      go_wp2
      go_ret
      exact ⟨a, c, rfl, (unhide HI).1, (unhide HI).2⟩

set_option maxRecDepth 100000 in
set_option maxHeartbeats 4000000 in
theorem rLeft_in (h : DB w r s) : Calls Try.prog 35 #[.pointer (some ⟨r, 0, none⟩)] w (Told w (s.l)) := by
  have H := hide h
  unfold Told
  clear h
  obtain ⟨m, hm⟩ : ∃ m, s.l = m := ⟨_, rfl⟩
  have HM := hide hm
  rw [hm]
  clear hm
  go_enter Try.func35, Try.ntmps35
  go_wp2
  go_loopw [3, 4] (fun lv iv wr => ∃ (k : Nat) (a : Option Addr) (c : Nat), k ≤ 16 ∧ iv = .int .i64 ((k + 1 : Nat) : Int) ∧ lv = .slice a (lsN m k).length c ∧ Hid (OwN wr w.heap.size (.slice a (lsN m k).length c) (lsN m k) ∧ Below w.heap.size w wr)) (fun _ iv _ => 20 - (RowKit.intOf iv).toNat)
  case atStart => exact ⟨0, none, 0, Nat.zero_le _, rfl, rfl, hide ⟨World.ownsRow_nil _ _ _ _, Below.refl _ _⟩⟩
  case round =>
    obtain ⟨k, a, c, hk, rfl, rfl, HI⟩ := hrel
    by_cases hlt : k < 16
    · have hsucc := lsN_succ m k
      have b1 := (unhide HI).2
      have d1 := (unhide H).below b1
      have cj := d1.l (k + 1) (by omega)
      rw [unhide HM] at cj
      clear d1
      obtain ⟨y, hy⟩ : ∃ y : Nat, k + 1 = y := ⟨_, rfl⟩
      have y1 : 1 ≤ y := by omega
      have y2 : y ≤ 16 := by omega
      cases hb : m.getLsbD (k + 1) with
      | false =>
        rw [hb, if_neg (by decide), List.append_nil] at hsucc
        rw [hb] at cj
        rw [hy] at cj ⊢
        have HI2 : Hid (OwN wr w.heap.size (.slice a (lsN m k).length c) (lsN m y) ∧ Below w.heap.size w wr ∧ (lsN m k).length = (lsN m y).length) := by
          rw [← hy, hsucc]; exact ⟨(unhide HI).1, (unhide HI).2, rfl⟩
        clear hsucc hb b1 HI
        generalize (lsN m k).length = n0 at *
        go_wp2
        go_roundw
        case rel => exact ⟨y, a, c, by omega, by go_num, by rw [(unhide HI2).2.2], hide ⟨by rw [← (unhide HI2).2.2]; exact (unhide HI2).1, (unhide HI2).2.1⟩⟩
        case measure => show 20 - ((y : Int) + 1).toNat < 20 - ((y : Nat) : Int).toNat; omega
      | true =>
        rw [hb, if_pos rfl] at hsucc
        rw [hb] at cj
        have hlen := lsN_len m k
        obtain ⟨v', W2, hr, hown, hgr, _⟩ := append_n wr 34 w.heap.size _ (lsN m k) ((k + 1 : Nat) : Int) (unhide HI).1 b1.size (by omega)
        rw [← hsucc] at hown
        have b2 := app_below b1 (unhide HI).1 hgr
        obtain ⟨a2, c2, rfl⟩ := OwN.form hown
        rw [hy] at cj hown hr ⊢
        have Hr := hide hr
        have R2 := hide (show OwN W2 w.heap.size (.slice a2 (lsN m y).length c2) (lsN m y) ∧ Below w.heap.size w W2 from ⟨hown, b2⟩)
        clear hsucc hb b1 b2 hown hgr hr HI hlen
        generalize (lsN m k).length = n0 at *
        go_wp2_with (at_builtin; refine wpList_append_eq rfl _ _ _ _ rfl _ _ _ _ rfl rfl (unhide Hr) ?_)
        go_roundw
        case rel => exact ⟨y, a2, c2, by omega, by go_num, rfl, R2⟩
        case measure => show 20 - ((y : Int) + 1).toNat < 20 - ((y : Nat) : Int).toNat; omega
    · obtain rfl : k = 16 := by omega
      go_wp2
      go_ret
      exact ⟨a, c, rfl, (unhide HI).1, (unhide HI).2⟩

end Go.Proofs.Ytjcdfjnlpfineaa
