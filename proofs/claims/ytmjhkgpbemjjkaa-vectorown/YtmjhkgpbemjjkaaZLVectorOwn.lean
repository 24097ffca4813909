/-
  Chapter 7's law VectorOwn returns true for every two lists of Dots, and leaves its arguments as they were; no condition.
-/
import Derived.Test.YtmjhkgpbemjjkaaRows
import Derived.WalkKit
import Derived.ProofKit
import Derived.OpenShut
import Derived.ShutString
import Derived.ChangeOld
import Derived.Below
import Derived.Test.YtmjhkgpbemjjkaaZO2
import Derived.Test.YtmjhkgpbemjjkaaZU3
import Derived.Test.YtmjhkgpbemjjkaaZU4
import Derived.Test.YtmjhkgpbemjjkaaZOp
set_option linter.unusedVariables false
set_option linter.unusedSimpArgs false
namespace Go.Proofs.Ytmjhkgpbemjjkaa
namespace LVectorOwn
open Go.ChangeShapes Go.WideShapes Go.ChangeAt Go.RowKit Go.Lib
open Go.ChangeMaps (open_string shut_string)

open O

theorem infoRow : (Try.prog.info? 23).map (fun i => (i.zero, i.size, i.bytes)) = some (some (.slice none 0 0), 1, 24) := by kernel_rfl
theorem hide_drew {W W' : World} {k : Nat} (h : W' = W.drewN k) : Below W.heap.size W W' := by rw [h]; exact bdrew (Below.refl _ _) k
theorem addV_len (l : List (Int × Int)) (d : Int × Int) : (addV l d).1.length ≤ 17 := by
  unfold addV
  split
  · simp
  · split
    · simp
    · split
      · simp
      · exact vec_len _
theorem tkL_len : ∀ (n : Nat) (site : Int) (acc : List (Int × Int)) (st : List Nat × Int), (tkL n site acc st).1.1.length ≤ acc.length + n
  | 0, site, acc, st => by simp [tkL]
  | n + 1, site, acc, st => by
    rw [tkL]
    split
    · simp
    · split
      · simp
      · have := tkL_len n ((tkN st (site + 1) 16).1.1 : Nat) (acc ++ [(((tkN st (site + 1) 16).1.1 : Int), ((tkN (tkN st (site + 1) 16).2 1 2147483647).1.1 : Int))]) (tkN (tkN st (site + 1) 16).2 1 2147483647).2
        rw [List.length_append, List.length_singleton] at this
        omega
theorem takeV_len (st : List Nat × Int) : (takeV st).1.1.length ≤ 16 := by
  unfold takeV
  split
  · simp
  · rename_i h
    have h1 := tkN_ok (st := st) (least := 0) (most := 16) (by simpa using h)
    have h2 := tkL_len (tkN st 0 16).1.1 0 [] (tkN st 0 16).2
    simp only [List.length_nil] at h2
    omega
theorem own_addr {W : World} {B e s n c : Nat} {ag : Option Addr} {xs : List Value} (h : W.ownsRow B e s (.slice ag n c) n xs) : (ag = none ∧ n = 0 ∧ c = 0) ∨ ∃ g, ag = some ⟨g, 0, none⟩ := by
  rcases h.2 with ⟨e0, _⟩ | ⟨g, cap, cur, e1, _⟩
  · simp only [Value.slice.injEq] at e0
    exact .inl e0
  · simp only [Value.slice.injEq] at e1
    exact .inr ⟨g, e1.1⟩
theorem new_cells (W : World) (cs : Array Value) (t : TypeId) : ∀ j u, cs.toList[j]? = some u → (W.alloc (.cells cs t)).cell? ((⟨W.heap.size, 0, none⟩ : Addr).add j) = some u := by
  intro j u h
  rw [Addr.add_lit, Nat.zero_add]
  exact (Bx.new W t cs).cell j u (by simpa using h)

/-- the order in which they are kept, off the order in which they are made -/
def pm (j : Nat) : Nat := 6 * (j / 6) + (if j % 6 = 0 then 2 else if j % 6 = 1 then 3 else if j % 6 = 2 then 0 else if j % 6 = 3 then 1 else j % 6)
theorem pm_at (i r q : Nat) (hr : r < 6) (hq : (if r = 0 then 2 else if r = 1 then 3 else if r = 2 then 0 else if r = 3 then 1 else r) = q) : pm (6 * i + r) = 6 * i + q := by
  unfold pm
  rw [show (6 * i + r) / 6 = i by omega, show (6 * i + r) % 6 = r by omega, hq]
theorem pm_lt {i j : Nat} (h : j < 6 * i) : pm j < 6 * i := by
  unfold pm
  split
  · omega
  · split
    · omega
    · split
      · omega
      · split <;> omega
theorem pm_inj {j k : Nat} (h : pm j = pm k) : j = k := by
  have h6 : ∀ x, pm x / 6 = x / 6 ∧ pm x % 6 = (if x % 6 = 0 then 2 else if x % 6 = 1 then 3 else if x % 6 = 2 then 0 else if x % 6 = 3 then 1 else x % 6) := fun x => by
    unfold pm
    constructor
    · split
      · omega
      · split
        · omega
        · split
          · omega
          · split <;> omega
    · split
      · omega
      · split
        · omega
        · split
          · omega
          · split <;> omega
  have a1 := h6 j
  have a2 := h6 k
  rw [h] at a1
  have e1 : j / 6 = k / 6 := a1.1.symm.trans a2.1
  have e2 := a1.2.symm.trans a2.2
  have e3 : j % 6 = k % 6 := by
    have l1 := Nat.mod_lt j (show 0 < 6 by decide)
    have l2 := Nat.mod_lt k (show 0 < 6 by decide)
    revert e2
    generalize j % 6 = x at *
    generalize k % 6 = y at *
    match x, l1, y, l2 with
    | 0, _, 0, _ | 0, _, 1, _ | 0, _, 2, _ | 0, _, 3, _ | 0, _, 4, _ | 0, _, 5, _ => simp
    | 1, _, 0, _ | 1, _, 1, _ | 1, _, 2, _ | 1, _, 3, _ | 1, _, 4, _ | 1, _, 5, _ => simp
    | 2, _, 0, _ | 2, _, 1, _ | 2, _, 2, _ | 2, _, 3, _ | 2, _, 4, _ | 2, _, 5, _ => simp
    | 3, _, 0, _ | 3, _, 1, _ | 3, _, 2, _ | 3, _, 3, _ | 3, _, 4, _ | 3, _, 5, _ => simp
    | 4, _, 0, _ | 4, _, 1, _ | 4, _, 2, _ | 4, _, 3, _ | 4, _, 4, _ | 4, _, 5, _ => simp
    | 5, _, 0, _ | 5, _, 1, _ | 5, _, 2, _ | 5, _, 3, _ | 5, _, 4, _ | 5, _, 5, _ => simp
  omega
def six (v : Nat → Value) (i : Nat) (c t m1 l1 m2 l2 : Value) : Nat → Value := upd (upd (upd (upd (upd (upd v (6 * i) c) (6 * i + 1) t) (6 * i + 1 + 1) m1) (6 * i + 1 + 1 + 1) l1) (6 * i + 1 + 1 + 1 + 1) m2) (6 * i + 1 + 1 + 1 + 1 + 1) l2
theorem range_six (v : Nat → Value) (i : Nat) (c t m1 l1 m2 l2 : Value) : (List.range (6 * (i + 1))).map (fun j => six v i c t m1 l1 m2 l2 (pm j)) = (List.range (6 * i)).map (fun j => v (pm j)) ++ [m1, l1, c, t, m2, l2] := by
  rw [show 6 * (i + 1) = 6 * i + 1 + 1 + 1 + 1 + 1 + 1 by omega]
  simp only [List.range_succ, List.map_append, List.map_cons, List.map_nil, List.append_assoc]
  have e0 : pm (6 * i) = 6 * i + 1 + 1 := pm_at i 0 2 (by omega) rfl
  have e1 : pm (6 * i + 1) = 6 * i + 1 + 1 + 1 := pm_at i 1 3 (by omega) rfl
  have e2 : pm (6 * i + 1 + 1) = 6 * i := pm_at i 2 0 (by omega) rfl
  have e3 : pm (6 * i + 1 + 1 + 1) = 6 * i + 1 := pm_at i 3 1 (by omega) rfl
  have e4 : pm (6 * i + 1 + 1 + 1 + 1) = 6 * i + 1 + 1 + 1 + 1 := pm_at i 4 4 (by omega) rfl
  have e5 : pm (6 * i + 1 + 1 + 1 + 1 + 1) = 6 * i + 1 + 1 + 1 + 1 + 1 := pm_at i 5 5 (by omega) rfl
  rw [e0, e1, e2, e3, e4, e5]
  congr 1
  · apply List.map_congr_left
    intro j hj
    have := pm_lt (List.mem_range.1 hj)
    unfold six
    rw [upd_ne _ _ (by omega), upd_ne _ _ (by omega), upd_ne _ _ (by omega), upd_ne _ _ (by omega), upd_ne _ _ (by omega), upd_ne _ _ (by omega)]
  · have g0 : six v i c t m1 l1 m2 l2 (6 * i) = c := by unfold six; rw [upd_ne _ _ (by omega), upd_ne _ _ (by omega), upd_ne _ _ (by omega), upd_ne _ _ (by omega), upd_ne _ _ (by omega), upd_same]
    have g1 : six v i c t m1 l1 m2 l2 (6 * i + 1) = t := by unfold six; rw [upd_ne _ _ (by omega), upd_ne _ _ (by omega), upd_ne _ _ (by omega), upd_ne _ _ (by omega), upd_same]
    have g2 : six v i c t m1 l1 m2 l2 (6 * i + 1 + 1) = m1 := by unfold six; rw [upd_ne _ _ (by omega), upd_ne _ _ (by omega), upd_ne _ _ (by omega), upd_same]
    have g3 : six v i c t m1 l1 m2 l2 (6 * i + 1 + 1 + 1) = l1 := by unfold six; rw [upd_ne _ _ (by omega), upd_ne _ _ (by omega), upd_same]
    have g4 : six v i c t m1 l1 m2 l2 (6 * i + 1 + 1 + 1 + 1) = m2 := by unfold six; rw [upd_ne _ _ (by omega), upd_same]
    have g5 : six v i c t m1 l1 m2 l2 (6 * i + 1 + 1 + 1 + 1 + 1) = l2 := by unfold six; rw [upd_same]
    rw [g0, g1, g2, g3, g4, g5]
    rfl
theorem map_mark (v : Nat → Value) (x : Value) : (List.range 18).map (upd v 100 x) = (List.range 18).map v := by
  apply List.map_congr_left
  intro j hj
  have := List.mem_range.1 hj
  rw [upd_ne _ _ (by omega)]

set_option maxRecDepth 100000 in
set_option maxHeartbeats 20000000 in
theorem inner (a0 : Option Addr) (len0 cap0 : Nat) (z0 : List (Int × Int)) (a1 : Option Addr) (len1 cap1 : Nat) (z1 : List (Int × Int)) (w : World) (r0 : RI w (.slice a0 len0 cap0) z0) (r1 : RI w (.slice a1 len1 cap1) z1) (e0 : z0.length = len0) (e1 : z1.length = len1) (h0 : len0 ≤ 4000) (h1 : len1 ≤ 4000) :
    Calls Try.prog 8 #[.slice a0 len0 cap0, .slice a1 len1 cap1] w fun e W => e = .returned (.bool true) ∧ Below w.heap.size w W := by
  have h0' : decide ((4000 : Int) < (len0 : Int)) = false := by rw [decide_eq_false_iff_not]; omega
  have h1' : decide ((4000 : Int) < (len1 : Int)) = false := by rw [decide_eq_false_iff_not]; omega
  have l0 : z0.length ≤ 140737488355328 := by omega
  have l1 : z1.length ≤ 140737488355328 := by omega
  have s0 : z0.length ≤ 4000 := by omega
  have K := hide (Get_in _ z0 2 w r0 l0)
  obtain ⟨N0, hN0⟩ : ∃ N, getV z0 2 = N := ⟨_, rfl⟩
  rw [hN0] at K
  have hNa : 0 ≤ N0 ∧ N0 ≤ 2147483647 := by
    rw [← hN0]
    unfold getV
    rw [if_pos (by omega)]
    exact ⟨(sy_good z0).lo _, (sy_good z0).hi _⟩
  have R0 := hide r0
  have R1 := hide r1
  have E0 := hide e0
  clear r0 r1 e0 e1 hN0
  obtain ⟨i0, hinf, hz0, hz1, hz2⟩ := info_parts infoRow
  obtain ⟨q0, einf, ez0, ez1, ez2⟩ := info_parts infoD
  have Hinf := hide hinf
  have Hz0 := hide hz0
  have Hz1 := hide hz1
  have Hz2 := hide hz2
  have Einf := hide einf
  have Ez0 := hide ez0
  have Ez1 := hide ez1
  have Ez2 := hide ez2
  clear hinf hz0 hz1 hz2 einf ez0 ez1 ez2
  go_enter Try.func8, Try.ntmps8
  go_wp2_with fail
  refine (unhide K).mono ?_
  rintro e Wa ⟨rfl, hb⟩
  have BX := hide hb
  have hwa : w.heap.size ≤ Wa.heap.size := hb.size
  obtain ⟨Xb, hXb⟩ : ∃ X, (Wa.alloc (.cells #[.int .i64 2, .int .i64 (N0 + 1)] 25)).alloc (.cells #[.slice none 0 0, .int .i64 0] 43) = X := ⟨_, rfl⟩
  have bXb : Below Wa.heap.size Wa Xb := by rw [← hXb]; exact ballc (ballc (Below.refl _ _) _) _
  have XD : Bx Xb Wa.heap.size 25 #[.int .i64 2, .int .i64 (N0 + 1)] := by rw [← hXb]; exact (Bx.new _ _ _).below (ballc (Below.refl _ _) _)
  have XW : Wr Xb (Wa.heap.size + 1) (.slice none 0 0) [] 0 := by
    rw [← hXb]
    have := Wr.new (Wa.alloc (.cells #[.int .i64 2, .int .i64 (N0 + 1)] 25))
    rw [show (Wa.alloc (.cells #[.int .i64 2, .int .i64 (N0 + 1)] 25)).heap.size = Wa.heap.size + 1 by simp] at this
    exact this
  replace BX := hide (bnext (unhide BX) bXb)
  have K2 := hide (Put_in z0 XW ((unhide R0).below (unhide BX)) l0 (by simp))
  have HD := hide (show ∀ x ∈ vec (sy z0), 0 ≤ x.1 ∧ 0 ≤ x.2 from fun x hx => by have := vec_in (sy_good z0) hx; omega)
  rw [putV_pb _ _ (unhide HD)] at K2
  simp only [List.nil_append] at K2
  obtain ⟨LB, hLB⟩ : ∃ L, num (vec (sy z0)).length ++ pb (vec (sy z0)) = L := ⟨_, rfl⟩
  rw [hLB] at K2
  have hlb : LB.length ≤ 1000 := by
    rw [← hLB, List.length_append]
    have t1 := num_len (vec (sy z0)).length
    have t2 := pb_len (vec (sy z0))
    have t3 := vec_len (sy z0)
    omega
  have HBy := hide (show ∀ x ∈ LB, x < 256 from fun x hx => by
    rw [← hLB] at hx
    have t3 := vec_len (sy z0)
    rcases List.mem_append.1 hx with h | h
    · exact num_lt _ (by omega) x h
    · unfold pb at h
      obtain ⟨t, ht, hy⟩ := List.mem_flatMap.1 h
      have := vec_in (sy_good z0) ht
      rcases List.mem_append.1 hy with h | h
      · exact num_lt _ (by omega) x h
      · exact num_lt _ (by omega) x h)
  replace hXb := hide hXb
  have XDh := hide XD
  clear K hb bXb XW hLB HD XD
  go_wp2_with fail
  rw [unhide hXb]
  refine (unhide K2).mono ?_
  rintro e W1 ⟨rfl, v1, hw, hk, _⟩
  have hnil : ∀ i, wOwn (Wa.heap.size + 1) (.slice none 0 0) i → i = Wa.heap.size + 1 := fun i hi => by
    rcases hi with h | h
    · exact h
    · cases h
  have hBw := hide (hk.below (unhide BX) (fun i hi => by have := hnil i hi; omega))
  have HDt := hide ((unhide XDh).kp hk (fun e => by have := hnil _ e; omega))
  have HW := hide hw
  clear K2 hw hk hnil BX hXb XDh
  obtain ⟨D, hD⟩ : ∃ D, Wa.heap.size = D := ⟨_, rfl⟩
  simp only [hD]
  rw [hD] at HDt HW
  clear hD
  have RA := hide ((unhide R0).below (unhide hBw))
  have RB := hide ((unhide R1).below (unhide hBw))
  go_wp2_with fail
  go_loopw [5, 8] (fun lv iv wr => ∃ (i : Nat) (v : Nat → Value) (n : Nat → Nat) (xs : Nat → List Value), iv = .int .i64 (i : Nat) ∧ i ≤ 3 ∧ Hid (Fm W1 false (6 * i) v n xs wr) ∧ Hid (wr.ownsRow W1.heap.size 23 1 lv (6 * i) ((List.range (6 * i)).map (fun j => v (pm j)))) ∧ Hid (∀ j, n j ≤ 100)) (fun _ iv _ => 3 - (RowKit.intOf iv).toNat)
  case atStart => exact ⟨0, fun _ => .slice none 0 0, fun _ => 0, fun _ => [], rfl, by omega, hide Fm.start, hide (World.ownsRow_nil _ _ _ _), hide (fun _ => Nat.zero_le _)⟩
  case round =>
    obtain ⟨i, v, n, xs, rfl, hi3, hF, hO, hn⟩ := hrel
    by_cases hi : i < 3
    · have i1 : (i : Int) < 3 := by omega
      have DB := (unhide HDt).below (unhide hF).bel
      have c0 := DB.cell 0 _ rfl
      have c1 := DB.cell 1 _ rfl
      have cl := DB.lt
      have K := hide (Add_in _ z0 2 (N0 + 1) wr ((unhide RA).below (unhide hF).bel) l0 (by omega))
      have al := addV_len z0 (2, N0 + 1)
      generalize addV z0 (2, N0 + 1) = A at *
      obtain ⟨Al, Ae⟩ := A
      simp only at K al
      clear DB
      go_wp2_with fail
      refine (unhide K).mono ?_
      rintro e W2 ⟨u2, rfl, o2, b2⟩
      obtain ⟨a2, c2, hu2⟩ := o2.form
      have F2 := hide ((unhide hF).add b2 o2)
      have O2' := hide (O.own_below (unhide hO) b2)
      clear K o2 b2 hF hO c0 c1 cl
      obtain ⟨nA, hnA⟩ : ∃ n, Al.length = n := ⟨_, rfl⟩
      rw [hnA] at hu2 F2 al
      subst hu2
      have K := hide (wData_in ((unhide HW).below (unhide F2).bel) (by omega))
      go_wp2_with fail
      refine (unhide K).mono ?_
      rintro e W3 ⟨u3, rfl, o3, b3⟩
      have K2 := hide (rRead_in W3 u3 LB (RC.of_owns o3) (unhide HBy) (by omega))
      obtain ⟨a3, c3, rfl⟩ := owns_form o3
      have B3 := hide b3
      clear K o3 b3
      go_wp2_with fail
      refine (unhide K2).mono ?_
      rintro e W4 ⟨p2, v4, rfl, rd, b4, hp2, _⟩
      have B4 := hide (bnext (unhide B3) b4)
      have hp3 : W2.heap.size ≤ p2 := by have := (unhide B3).size; omega
      have hs4 : W2.heap.size ≤ W4.heap.size := (unhide B4).size
      have K := hide (Take_in (st := (LB, 0)) rd)
      have tl := takeV_len (LB, 0)
      generalize takeV (LB, 0) = T at *
      obtain ⟨⟨Tl, Te⟩, Tr⟩ := T
      simp only at K tl
      clear K2 rd b4 B3 hp2
      go_wp2_with fail
      refine (unhide K).mono ?_
      rintro e W5 ⟨ut, rfl, o5, v5, _, k5, _⟩
      have b5 : Below W2.heap.size W2 W5 := k5.below (unhide B4) (fun i hi => by omega)
      obtain ⟨a5, c5, hut⟩ := o5.form
      have F5 := hide ((unhide F2).add b5 (own_base o5 hs4))
      have O5 := hide (O.own_below (unhide O2') b5)
      clear K o5 b5 k5 F2 O2' B4
      obtain ⟨nT, hnT⟩ : ∃ n, Tl.length = n := ⟨_, rfl⟩
      rw [hnT] at hut F5 tl
      subst hut
      have K := hide (Merge_in _ _ z0 z1 W5 ((unhide RA).below (unhide F5).bel) ((unhide RB).below (unhide F5).bel) l0 l1)
      go_wp2_with fail
      refine (unhide K).mono ?_
      rintro e W6 ⟨u6, rfl, o6, b6⟩
      obtain ⟨a6, c6, hu6⟩ := o6.form
      have F6 := hide ((unhide F5).add b6 o6)
      have O6 := hide (O.own_below (unhide O5) b6)
      have nl6 := vec_len (mrg (sy z0) (sy z1))
      obtain ⟨n6, hn6⟩ : ∃ n, (vec (mrg (sy z0) (sy z1))).length = n := ⟨_, rfl⟩
      rw [hn6] at hu6 F6 nl6
      subst hu6
      clear K o6 b6 hn6 F5 O5
      have K := hide (Least_in _ _ z0 z0 W6 ((unhide RA).below (unhide F6).bel) ((unhide RA).below (unhide F6).bel) l0 l0)
      go_wp2_with fail
      refine (unhide K).mono ?_
      rintro e W7 ⟨u7, rfl, o7, b7⟩
      obtain ⟨a7, c7, hu7⟩ := o7.form
      have F7 := hide ((unhide F6).add b7 o7)
      have O7 := hide (O.own_below (unhide O6) b7)
      have nl7 := vec_len (lst (sy z0) (sy z0))
      obtain ⟨n7, hn7⟩ : ∃ n, (vec (lst (sy z0) (sy z0))).length = n := ⟨_, rfl⟩
      rw [hn7] at hu7 F7 nl7
      subst hu7
      clear K o7 b7 hn7 F6 O6
      have K := hide (Merge_in _ _ z0 [] W7 ((unhide RA).below (unhide F7).bel) (RC.nil _ none 0) l0 (by simp))
      go_wp2_with fail
      refine (unhide K).mono ?_
      rintro e W8 ⟨u8, rfl, o8, b8⟩
      obtain ⟨a8, c8, hu8⟩ := o8.form
      have F8 := hide ((unhide F7).add b8 o8)
      have O8 := hide (O.own_below (unhide O7) b8)
      have nl8 := vec_len (mrg (sy z0) (sy []))
      obtain ⟨n8, hn8⟩ : ∃ n, (vec (mrg (sy z0) (sy []))).length = n := ⟨_, rfl⟩
      rw [hn8] at hu8 F8 nl8
      subst hu8
      clear K o8 b8 hn8 F7 O7
      have K := hide (Least_in _ _ z0 z1 W8 ((unhide RA).below (unhide F8).bel) ((unhide RB).below (unhide F8).bel) l0 l1)
      go_wp2_with fail
      refine (unhide K).mono ?_
      rintro e W9 ⟨u9, rfl, o9, b9⟩
      obtain ⟨a9, c9, hu9⟩ := o9.form
      have F9 := hide ((unhide F8).add b9 o9)
      have O9 := hide (O.own_below (unhide O8) b9)
      have nl9 := vec_len (lst (sy z0) (sy z1))
      obtain ⟨n9, hn9⟩ : ∃ n, (vec (lst (sy z0) (sy z1))).length = n := ⟨_, rfl⟩
      rw [hn9] at hu9 F9 nl9
      subst hu9
      clear K o9 b9 hn9 F8 O8
      have hs9 := (unhide F9).bel.size
      go_wp2_with (at_builtin; refine wpList_append_own _ rfl _ _ 67 rfl W1.heap.size 23 i0 _ 1 24 Try.underlying67 (unhide Hinf) (unhide Hz0) (unhide Hz1) (unhide Hz2) rfl (by decide) u5 (6 * i) ((List.range (6 * i)).map (fun j => v (pm j))) rfl (World.ownsRow.alloc (unhide O9) _) ⟨W9.heap.size, 0, none⟩ 6 6 [.slice a6 n6 c6, .slice a7 n7 c7, .slice a2 nA c2, .slice a5 nT c5, .slice a8 n8 c8, .slice a9 n9 c9] rfl rfl (new_cells _ #[_, _, _, _, _, _] _) (by simp [Value.oneCell']) (by unfold maxLen; omega) (by omega) (by simp; omega) ?_; intro v10 W10 ho10 hg10 _; have F10 := hide (((unhide F9).alloc _).other (World.ownsRow.alloc (unhide O9) _) (Nat.le_refl _) (by decide) hg10); have O10 := hide ho10; clear ho10 hg10 O9 F9)
      have O11 : Hid (W10.ownsRow W1.heap.size 23 1 v10 (6 * (i + 1)) ((List.range (6 * (i + 1))).map (fun j => six v i (.slice a2 nA c2) (.slice a5 nT c5) (.slice a6 n6 c6) (.slice a7 n7 c7) (.slice a8 n8 c8) (.slice a9 n9 c9) (pm j)))) := by
        rw [range_six]; exact O10
      have hn10 : Hid (∀ j, upd (upd (upd (upd (upd (upd n (6 * i) nA) (6 * i + 1) nT) (6 * i + 1 + 1) n6) (6 * i + 1 + 1 + 1) n7) (6 * i + 1 + 1 + 1 + 1) n8) (6 * i + 1 + 1 + 1 + 1 + 1) n9 j ≤ 100) := hide (fun j => by
        have := unhide hn j
        unfold upd
        split
        · omega
        · split
          · omega
          · split
            · omega
            · split
              · omega
              · split
                · omega
                · split
                  · omega
                  · exact this)
      clear O10 hn
      go_wp2
      go_roundw
      case rel => exact ⟨i + 1, _, _, _, by simp, by omega, F10, O11, hn10⟩
      case measure => simp [RowKit.intOf]; omega
    · have i3 : i = 3 := by omega
      have e18 : 6 * i = 18 := by omega
      have d3 : decide ((i : Int) < 3) = false := by rw [decide_eq_false_iff_not]; omega
      rw [e18] at hF hO
      have hFp := (unhide hF).perm pm (fun j hj => pm_lt (i := 3) hj) (fun j k _ _ h => pm_inj h)
      have hnp : ∀ j, (fun j => n (pm j)) j ≤ 100 := fun j => unhide hn (pm j)
      generalize (fun j => v (pm j)) = v' at *
      generalize (fun j => n (pm j)) = n' at *
      generalize (fun j => xs (pm j)) = xs' at *
      have HF := hide hFp
      have HN := hide hnp
      clear hi hi3 hF i3 e18 hFp hnp hn
      have K := hide (room_in _ z0 wr ((unhide RA).below (unhide HF).bel) s0)
      go_wp2_with fail
      refine (unhide K).mono ?_
      rintro e W2 ⟨ax, cx, rfl, rm, b2⟩
      have HF2 := hide ((unhide HF).mark b2 rm)
      have HO2 : Hid (W2.ownsRow W1.heap.size 23 1 u5 18 ((List.range 18).map (upd v' 100 (.slice ax (mk1 z0).length cx)))) := by
        rw [map_mark]; exact O.own_below (unhide hO) b2
      have HN2 : Hid (∀ j, j < 18 → upd n' 100 (mk1 z0).length j ≤ 100) := hide (fun j hj => by rw [upd_ne _ _ (by omega)]; exact unhide HN j)
      have HM : Hid (upd v' 100 (.slice ax (mk1 z0).length cx) 100 = .slice ax (mk1 z0).length cx ∧ upd n' 100 (mk1 z0).length 100 = (mk1 z0).length ∧ upd xs' 100 (flat encI (mk1 z0)) 100 = flat encI (mk1 z0)) := hide ⟨upd_same _ _ _, upd_same _ _ _, upd_same _ _ _⟩
      rw [unhide E0]
      generalize upd v' 100 (.slice ax (mk1 z0).length cx) = v at *
      generalize upd n' 100 (mk1 z0).length = n at *
      generalize upd xs' 100 (flat encI (mk1 z0)) = xs at *
      obtain ⟨lb, lc, rfl⟩ := own_some (unhide HO2) (by omega)
      clear K rm b2 HF hO HN d3
      go_wp2_with fail
      go_loopw [14] (fun iv wr => ∃ (i : Nat) (xs : Nat → List Value), iv = .int .i64 (i : Nat) ∧ i ≤ 18 ∧ Hid (Fm W1 true 18 v n xs wr) ∧ Hid (wr.ownsRow W1.heap.size 23 1 (.slice (some ⟨lb, 0, none⟩) 18 lc) 18 ((List.range 18).map v)) ∧ Hid (Sd n xs i 0) ∧ Hid (xs 100 = flat encI (mk1 z0))) (fun iv _ => 18 - (RowKit.intOf iv).toNat)
      case atStart => exact ⟨0, xs, rfl, by omega, HF2, HO2, hide ⟨fun j hj => by omega, fun q hq => by omega⟩, hide (unhide HM).2.2⟩
      case round =>
        clear HF2 HO2
        obtain ⟨i, xs2, rfl, hi6, hF, hO, hS, hM⟩ := hrel
        by_cases hi : i < 18
        · have i1 : (i : Int) < 18 := by omega
          go_wp2_with fail
          go_loopw [15] (fun kv wr => ∃ (k : Nat) (xs : Nat → List Value), kv = .int .i64 (k : Nat) ∧ k ≤ n i ∧ Hid (Fm W1 true 18 v n xs wr) ∧ Hid (wr.ownsRow W1.heap.size 23 1 (.slice (some ⟨lb, 0, none⟩) 18 lc) 18 ((List.range 18).map v)) ∧ Hid (Sd n xs i k) ∧ Hid (xs 100 = flat encI (mk1 z0))) (fun kv _ => n i - (RowKit.intOf kv).toNat)
          case atStart => exact ⟨0, xs2, rfl, by omega, hF, hO, hS, hM⟩
          case round =>
            clear hF hO hS hM
            obtain ⟨k, xs3, rfl, hk, hF, hO, hS, hM⟩ := hrel
            have hni := unhide HN2 i hi
            obtain ⟨ai, ci, hvi⟩ := own_formO ((unhide hF).own i (.inl hi))
            have ce := outer_cell (unhide hO) hi
            rw [hvi] at ce
            by_cases hk2 : k < n i
            · have k1 : (k : Int) < ((n i : Nat) : Int) := by omega
              obtain ⟨g, c, hvg⟩ := own_some ((unhide hF).own i (.inl hi)) (by omega)
              have hvv := hvi.symm.trans hvg
              simp only [Value.slice.injEq, true_and] at hvv
              obtain ⟨rfl, rfl⟩ := hvv
              have hrow := (unhide hF).own i (.inl hi)
              rw [hvg] at hrow
              have hlx := hrow.1
              obtain ⟨y0, hy0⟩ : ∃ y, (xs3 i)[k * 2]? = some y := ⟨_, List.getElem?_eq_getElem (by omega)⟩
              obtain ⟨y1, hy1⟩ : ∃ y, (xs3 i)[k * 2 + 1]? = some y := ⟨_, List.getElem?_eq_getElem (by omega)⟩
              have c0 := (hrow.cellAt (k * 2) (by omega)).trans hy0
              have c1 := (hrow.cellAt (k * 2 + 1) (by omega)).trans hy1
              have f0 := hrow.frozenAt (k * 2)
              have f1 := hrow.frozenAt (k * 2 + 1)
              obtain ⟨hFn, hGn⟩ := (unhide hF).store2 hi hvg (k * 2) (.int .i64 (1000 + (i : Int))) (.int .i64 (k : Nat))
              have hOn := hide ((unhide hO).kept hGn (rows_two (unhide hO) hrow (by decide)))
              have hSn := hide ((unhide hS).store (by omega))
              have hMn : Hid (upd xs3 i (((xs3 i).set (k * 2) (.int .i64 (1000 + (i : Int)))).set (k * 2 + 1) (.int .i64 (k : Nat))) 100 = flat encI (mk1 z0)) := hide (by rw [upd_ne _ _ (by omega)]; exact unhide hM)
              have HF := hide hFn
              clear hFn hGn hF hO hS hrow hlx hy0 hy1 hvi hvg hM
              go_wp2
              go_roundw
              case rel => exact ⟨k + 1, _, by simp, by omega, HF, hOn, hSn, hMn⟩
              case measure => simp [RowKit.intOf]; omega
            · have hke : k = n i := by omega
              subst hke
              clear hk hk2 hvi
              go_wp2
              go_roundw
              case rel => exact ⟨i + 1, _, by simp, by omega, hF, hO, hide (unhide hS).next, hM⟩
              case measure => simp [RowKit.intOf]; omega
        · have i6 : i = 18 := by omega
          have d6 : decide ((i : Int) < 18) = false := by rw [decide_eq_false_iff_not]; omega
          have hG := hide (G4.start (unhide hF) (unhide hO) (show Sd n xs2 18 0 from i6 ▸ unhide hS))
          rw [unhide hM] at hG
          obtain ⟨B5, hB5⟩ : ∃ B, wr.heap.size = B := ⟨_, rfl⟩
          rw [hB5] at hG
          clear hi hi6 hF hO hS hB5 i6 hM
          go_wp2_with fail
          clear d6
          go_loopw [16, 17] (fun mv iv wr => ∃ (i : Nat) (v' : Nat → Value) (n' : Nat → Nat) (xs : Nat → List Value), iv = .int .i64 (i : Nat) ∧ i ≤ 18 ∧ Hid (G4 (flat encI (mk1 z0)) W1 B5 v n (.slice (some ⟨lb, 0, none⟩) 18 lc) i v' n' xs mv wr)) (fun _ iv _ => 18 - (RowKit.intOf iv).toNat)
          case atStart => exact ⟨0, v, n, xs2, rfl, by omega, hG⟩
          case round =>
            clear hG
            obtain ⟨i, v4, n4, xs4, rfl, hi6, hG⟩ := hrel
            by_cases hi : i < 18
            · have i1 : (i : Int) < 18 := by omega
              have ce := outer_cell (unhide hG).out hi
              have hG5 := hide ((unhide hG).begin hi)
              clear hG
              go_wp2_with fail
              go_loopw [18, 19] (fun gv kv wr => ∃ (k : Nat) (v' : Nat → Value) (n' : Nat → Nat) (xs : Nat → List Value), gv = v' (18 + i) ∧ kv = .int .i64 (k : Nat) ∧ k ≤ 20 ∧ Hid (G5 (flat encI (mk1 z0)) W1 B5 v n (.slice (some ⟨lb, 0, none⟩) 18 lc) i k v' n' xs u16 wr)) (fun _ kv _ => 20 - (RowKit.intOf kv).toNat)
              case atStart => exact ⟨0, _, _, _, (upd_same _ _ _).symm, rfl, by omega, hG5⟩
              case round =>
                clear hG5 ce
                obtain ⟨k, v5, n5, xs5, hgv, rfl, hk20, hG⟩ := hrel
                have hrow := (unhide hG).fm.own (18 + i) (.inl (by omega))
                have hni := unhide HN2 i hi
                have hnl : n5 (18 + i) ≤ 200 := by have := (unhide hG).cur.1; omega
                clear hni
                obtain ⟨ag, cg, hform⟩ := own_formO hrow
                rw [hform] at hgv hrow
                subst hgv
                by_cases hk : k < 20
                · have k1 : (k : Int) < 20 := by omega
                  have Hrow := hide hrow
                  have hlo := hrow.1
                  have Hform := hide hform
                  clear hrow hform
                  by_cases hc : n5 (18 + i) + 1 ≤ cg
                  · obtain ⟨g, rfl⟩ : ∃ g, ag = some ⟨g, 0, none⟩ := by
                      rcases own_addr (unhide Hrow) with ⟨_, _, h0⟩ | h
                      · omega
                      · exact h
                    go_wp2_with (at_builtin; refine wpList_append_fits _ rfl _ _ 23 rfl W1.heap.size 25 q0 2 Try.underlying23 (unhide Einf) (unhide Ez1) g (n5 (18 + i)) cg (xs5 (18 + i)) rfl (World.ownsRow.alloc (unhide Hrow) _) ⟨wr.heap.size, 0, none⟩ 1 1 [.int .i64 (2000 + (i : Int)), .int .i64 (k : Nat)] rfl rfl (new_cells _ #[_, _] _) (by simp [Value.oneCell']) hc ?_; intro W5 ho5 hg5; have hG6 := hide (((unhide hG).alloc _).fits hi (unhide Hform) ho5 hg5); clear ho5 hg5 hG)
                    go_wp2
                    go_roundw
                    case rel => exact ⟨k + 1, _, _, _, (upd_same _ _ _).symm, by simp, by omega, hG6⟩
                    case measure => simp [RowKit.intOf]; omega
                  · have hnone : ag = none → n5 (18 + i) = 0 ∧ cg = 0 := fun e1 => by
                      rcases own_addr (unhide Hrow) with ⟨_, h0, h1⟩ | ⟨g, h⟩
                      · exact ⟨h0, h1⟩
                      · rw [e1] at h; cases h
                    have holds : ∀ (o : Obj) (b' : Addr), ag = some b' → ∀ j u, (xs5 (18 + i))[j]? = some u → (wr.alloc o).cell? (b'.add j) = some u := fun o b' e1 j u hj => by
                      rcases own_addr (unhide Hrow) with ⟨h0, _⟩ | ⟨g, h⟩
                      · rw [e1] at h0; cases h0
                      · obtain rfl : b' = ⟨g, 0, none⟩ := by rw [e1] at h; simpa using h
                        exact (World.ownsRow.alloc (unhide Hrow) o).cells (by rw [e1]; rfl) j u hj
                    go_wp2_with (at_builtin; refine wpList_append_grows _ rfl _ _ 23 rfl 25 q0 _ 2 16 Try.underlying23 (unhide Einf) (unhide Ez0) (unhide Ez1) (unhide Ez2) rfl (by decide) ag (n5 (18 + i)) cg (xs5 (18 + i)) rfl hnone hlo (holds _) ⟨wr.heap.size, 0, none⟩ 1 1 [.int .i64 (2000 + (i : Int)), .int .i64 (k : Nat)] rfl rfl (new_cells _ #[_, _] _) (by simp [Value.oneCell']) (by omega) (by unfold maxLen; omega) (by omega) ?_; intro v6 W5 ho5 hg5; have hG6 := hide (((unhide hG).alloc _).grows hi ho5 hg5); clear ho5 hg5 hG)
                    go_wp2
                    go_roundw
                    case rel => exact ⟨k + 1, _, _, _, (upd_same _ _ _).symm, by simp, by omega, hG6⟩
                    case measure => simp [RowKit.intOf]; omega
                · have hke : k = 20 := by omega
                  have dk : decide ((k : Int) < 20) = false := by rw [decide_eq_false_iff_not]; omega
                  rw [hke] at hG
                  have hs6 := (unhide hG).hi
                  have hf6 := hide hform
                  clear hrow hform hk hk20 hke
                  go_wp2_with (at_builtin; refine wpList_append_own _ rfl _ _ 67 rfl B5 23 i0 _ 1 24 Try.underlying67 (unhide Hinf) (unhide Hz0) (unhide Hz1) (unhide Hz2) rfl (by decide) u16 i ((List.range i).map (fun j => v5 (18 + j))) rfl (World.ownsRow.alloc (unhide hG).more _) ⟨wr.heap.size, 0, none⟩ 1 1 [.slice ag (n5 (18 + i)) cg] rfl rfl (new_cells _ #[_] _) (by simp [Value.oneCell']) (by unfold maxLen; omega) (by omega) (by simp; omega) ?_; intro v6 W5 ho5 hg5 _; have hG6 := hide (((unhide hG).alloc _).done (by rw [unhide hf6]; exact ho5) hg5); clear ho5 hg5 hG hs6)
                  go_wp2
                  go_roundw
                  case rel => exact ⟨i + 1, _, _, _, by simp, by omega, hG6⟩
                  case measure => simp [RowKit.intOf]; omega
            · have i6 : i = 18 := by omega
              have d6 : decide ((i : Int) < 18) = false := by rw [decide_eq_false_iff_not]; omega
              have hG6 : Hid (G4 (flat encI (mk1 z0)) W1 B5 v n (.slice (some ⟨lb, 0, none⟩) 18 lc) 18 v4 n4 xs4 u16 wr) := i6 ▸ hG
              obtain ⟨mb, mc, rfl⟩ := own_some (unhide hG6).more (by omega)
              obtain ⟨W6, hW6⟩ : ∃ W, W = wr := ⟨_, rfl⟩
              subst hW6
              clear hG hi hi6 i6
              go_wp2_with fail
              clear d6
              go_loopw [20] (fun iv w3 => ∃ (i : Nat), iv = .int .i64 (i : Nat) ∧ i ≤ 18 ∧ Hid (Below W6.heap.size W6 w3)) (fun iv _ => 18 - (RowKit.intOf iv).toNat)
              case atStart => exact ⟨0, rfl, by omega, hide (Below.refl _ _)⟩
              case round =>
                obtain ⟨i, rfl, hi6, HB⟩ := hrel
                by_cases hi : i < 18
                · have i1 : (i : Int) < 18 := by omega
                  have ce0 := outer_cell (unhide hG6).out hi
                  have cm0 := outer_cell (unhide hG6).more hi
                  have hrl := (unhide hG6).fm.own i (.inl (by omega))
                  have hrm := (unhide hG6).fm.own (18 + i) (.inl (by omega))
                  have hse := (unhide hG6).se i hi
                  have hsd := (unhide hG6).sd i hi
                  rw [((unhide hG6).same i hi).1, ((unhide hG6).same i hi).2] at hrl
                  rw [hse.1] at hrm
                  obtain ⟨ai, ci, hvi⟩ := own_formO hrl
                  obtain ⟨g, c, hvm⟩ := own_some hrm (by omega)
                  rw [hvi] at ce0 hrl
                  rw [hvm] at cm0 hrm
                  have hni := unhide HN2 i hi
                  have HL := hide hrl
                  have HMr := hide hrm
                  have HS := hide hsd
                  have HE := hide hse.2
                  obtain ⟨N, hN⟩ : ∃ N, n i = N := ⟨_, rfl⟩
                  rw [hN] at ce0 cm0 HL HMr HS HE hni
                  have HCE := hide ce0
                  have HCM := hide cm0
                  have ce := cell_below ce0 (unhide HB)
                  have cm := cell_below cm0 (unhide HB)
                  clear hrl hrm hse hsd hvi hvm hN ce0 cm0
                  go_wp2_with fail
                  go_loopw [22] (fun kv w3 => ∃ (k : Nat), kv = .int .i64 (k : Nat) ∧ k ≤ N + 20 ∧ Hid (Below W6.heap.size W6 w3)) (fun kv _ => N + 20 - (RowKit.intOf kv).toNat)
                  case atStart => exact ⟨0, rfl, by omega, HB⟩
                  case round =>
                    clear ce cm HB
                    obtain ⟨k, rfl, hkn, HB⟩ := hrel
                    have ce := cell_below (unhide HCE) (unhide HB)
                    have cm := cell_below (unhide HCM) (unhide HB)
                    have cel := cell_lt ce
                    have cml := cell_lt cm
                    by_cases hk : k < N + 20
                    · have k1 : (k : Int) < (((N + 20 : Nat)) : Int) := by omega
                      have k1' : (k : Int) < (N : Int) + 20 := by omega
                      have m0 := fun (s t : Int) (h : Is (xs4 (18 + i)) k s t) => cell_below (((unhide HMr).cellAt (k * 2) (by omega)).trans h.1) (unhide HB)
                      have m1 := fun (s t : Int) (h : Is (xs4 (18 + i)) k s t) => cell_below (((unhide HMr).cellAt (k * 2 + 1) (by omega)).trans h.2) (unhide HB)
                      by_cases hk2 : k < N
                      · have k2 : (k : Int) < (N : Int) := by omega
                        have k3 : decide ((N : Int) ≤ (k : Int)) = false := by rw [decide_eq_false_iff_not]; omega
                        obtain ⟨g2, rfl⟩ : ∃ g, ai = some ⟨g, 0, none⟩ := by
                          rcases own_addr (unhide HL) with ⟨_, h0, _⟩ | h
                          · omega
                          · exact h
                        have c0 := cell_below (((unhide HL).cellAt (k * 2) (by omega)).trans (unhide HS k hk2).1) (unhide HB)
                        have c1 := cell_below (((unhide HL).cellAt (k * 2 + 1) (by omega)).trans (unhide HS k hk2).2) (unhide HB)
                        have cl := cell_lt c0
                        have e0' := m0 _ _ ((unhide HE).1 k hk2)
                        have e1' := m1 _ _ ((unhide HE).1 k hk2)
                        have el := cell_lt e0'
                        have hnq := fun W => neqD (1000 + (i : Int)) (k : Nat) (1000 + (i : Int)) (k : Nat) W
                        rw [show decide (((1000 + (i : Int)), ((k : Nat) : Int)) = ((1000 + (i : Int)), ((k : Nat) : Int))) = true by simp] at hnq
                        simp only [Bool.not_true] at hnq
                        clear m0 m1
                        go_wp2
                        go_quiet (fail)
                        go_wp2
                        go_roundw
                        case rel => exact ⟨k + 1, by simp, by omega, hide (bdrew (ballc (unhide HB) _) _)⟩
                        case measure => simp [RowKit.intOf]; omega
                      · have k2 : decide ((k : Int) < (N : Int)) = false := by rw [decide_eq_false_iff_not]; omega
                        have k3 : (N : Int) ≤ (k : Int) := by omega
                        have e0' := m0 _ _ ((unhide HE).2 k (by omega) hk)
                        have e1' := m1 _ _ ((unhide HE).2 k (by omega) hk)
                        have el := cell_lt e0'
                        have hnq := fun W => neqD (2000 + (i : Int)) ((k : Int) - (N : Int)) (2000 + (i : Int)) ((k : Int) - (N : Int)) W
                        rw [show decide (((2000 + (i : Int)), ((k : Int) - (N : Int))) = ((2000 + (i : Int)), ((k : Int) - (N : Int)))) = true by simp] at hnq
                        simp only [Bool.not_true] at hnq
                        clear m0 m1
                        go_wp2
                        go_quiet (fail)
                        go_wp2
                        go_roundw
                        case rel => exact ⟨k + 1, by simp, by omega, hide (bdrew (ballc (unhide HB) _) _)⟩
                        case measure => simp [RowKit.intOf]; omega
                    · have k1 : decide ((k : Int) < (((N + 20 : Nat)) : Int)) = false := by rw [decide_eq_false_iff_not]; omega
                      have k1' : decide ((k : Int) < (N : Int) + 20) = false := by rw [decide_eq_false_iff_not]; omega
                      go_wp2
                      go_roundw
                      case rel => exact ⟨i + 1, by simp, by omega, HB⟩
                      case measure => simp [RowKit.intOf]; omega
                · have d6 : decide ((i : Int) < 18) = false := by rw [decide_eq_false_iff_not]; omega
                  have hbel := bnext (unhide hG6).fm.bel (unhide HB)
                  have BB := hide (bnext (unhide hBw) hbel)
                  have RMx : Rm W6 W1.heap.size ax cx z0 := by
                    have o := (unhide hG6).fm.own 100 (.inr ⟨rfl, rfl⟩)
                    rw [(unhide hG6).mark.1, (unhide hG6).mark.2.1, (unhide hG6).mark.2.2, (unhide HM).1, (unhide HM).2.1] at o
                    exact o
                  have rx := (RMx.below (unhide HB)).row
                  rw [unhide E0] at rx
                  have RA2 := hide ((unhide RA).below hbel)
                  have RB2 := hide ((unhide RB).below hbel)
                  have K := hide (Same_in z0 z0 _ _ wr (unhide RA2) rx l0 l0)
                  rw [show decide (z0 = z0) = true by simp] at K
                  clear hi hi6 hG6 hbel RMx rx HB
                  go_wp2_with fail
                  refine (unhide K).mono ?_
                  rintro e W7 ⟨rfl, k7, hk7⟩
                  have b7 := hide_drew hk7
                  replace RA2 := hide ((unhide RA2).below b7)
                  replace RB2 := hide ((unhide RB2).below b7)
                  replace BB := hide (bnext (unhide BB) b7)
                  clear K b7 hk7 d6
                  have K := hide (Merge_in _ _ z0 z1 W7 (unhide RA2) (unhide RB2) l0 l1)
                  go_wp2_with fail
                  refine (unhide K).mono ?_
                  rintro e W8 ⟨v8, rfl, o8, b8⟩
                  obtain ⟨a8, c8, rfl⟩ := o8.form
                  have R8 := o8.row
                  generalize (vec (mrg (sy z0) (sy z1))).length = n8 at R8 ⊢
                  replace R8 := hide R8
                  replace RA2 := hide ((unhide RA2).below b8)
                  replace RB2 := hide ((unhide RB2).below b8)
                  replace BB := hide (bnext (unhide BB) b8)
                  clear K o8 b8
                  have K := hide (refMerge_in _ _ z0 z1 W8 (unhide RA2) (unhide RB2) l0 l1)
                  go_wp2_with fail
                  refine (unhide K).mono ?_
                  rintro e W9 ⟨v9, rfl, o9, b9⟩
                  obtain ⟨a9, c9, rfl⟩ := o9.form
                  have R9 := o9.row
                  generalize (vec (mrg (sy z0) (sy z1))).length = n9 at R9 ⊢
                  have vl := vec_len (mrg (sy z0) (sy z1))
                  have K2 := hide (Same_in (vec (mrg (sy z0) (sy z1))) (vec (mrg (sy z0) (sy z1))) _ _ W9 ((unhide R8).below b9) R9 (by omega) (by omega))
                  rw [show decide (vec (mrg (sy z0) (sy z1)) = vec (mrg (sy z0) (sy z1))) = true by simp] at K2
                  replace BB := hide (bnext (unhide BB) b9)
                  clear K o9 b9 R9 vl
                  go_wp2_with fail
                  refine (unhide K2).mono ?_
                  rintro e W10 ⟨rfl, k10, hk10⟩
                  have b10 := hide_drew hk10
                  replace BB := hide (bnext (unhide BB) b10)
                  have K := hide (known_in W10)
                  clear K2 b10 hk10
                  go_wp2_with fail
                  refine (unhide K).mono ?_
                  rintro e W11 ⟨rfl, b11⟩
                  replace BB := hide (bnext (unhide BB) b11)
                  clear K b11
                  go_wp2
                  go_ret
                  exact ⟨rfl, unhide BB⟩

set_option maxRecDepth 100000 in
set_option maxHeartbeats 4000000 in
theorem walk (a0 : Option Addr) (len0 cap0 : Nat) (z0 : List (Int × Int)) (a1 : Option Addr) (len1 cap1 : Nat) (z1 : List (Int × Int)) (w : World) (w0 : RI w (.slice a0 len0 cap0) z0 ∧ z0.length = len0 ∧ len0 ≤ maxLen ∧ ∀ e ∈ z0, idIn e) (w1 : RI w (.slice a1 len1 cap1) z1 ∧ z1.length = len1 ∧ len1 ≤ maxLen ∧ ∀ e ∈ z1, idIn e) :
    Calls Try.prog 8 #[.slice a0 len0 cap0, .slice a1 len1 cap1] w fun e W => e = .returned (.bool true) ∧ Below w.heap.size w W := by
  obtain ⟨r0, e0, _, _⟩ := w0
  obtain ⟨r1, e1, _, _⟩ := w1
  have K := hide (known_in w)
  by_cases h0 : 4000 < len0
  · have h0' : (4000 : Int) < (len0 : Int) := by omega
    clear e0 e1
    go_enter Try.func8, Try.ntmps8
    go_wp2_with (go_at_call 9; refine (unhide K).mono ?_; rintro e W3 ⟨rfl, hb⟩; replace hb := hide hb)
    go_ret
    exact ⟨rfl, unhide hb⟩
  · by_cases h1 : 4000 < len1
    · have h0' : ¬ (4000 : Int) < (len0 : Int) := by omega
      have h1' : (4000 : Int) < (len1 : Int) := by omega
      clear e0 e1
      go_enter Try.func8, Try.ntmps8
      go_wp2_with (go_at_call 9; refine (unhide K).mono ?_; rintro e W3 ⟨rfl, hb⟩; replace hb := hide hb)
      go_ret
      exact ⟨rfl, unhide hb⟩
    · exact inner a0 len0 cap0 z0 a1 len1 cap1 z1 w r0 r1 e0 e1 (by omega) (by omega)

theorem own : ownKnob Try.prog.godebug = none := by kernel_rfl
theorem laidOut2 : laidOutB Try.prog = true := by kernel_rfl

set_option maxRecDepth 100000 in
theorem lifted (os : Os) (started : os.Started) (H : Type) (enc : TypeId × Value → H) :
    ReturnsInHanded {} Try.checked os 8 .any (Rows.vectorOwnSpec.pre6 enc Try.prog Try.f8 Rows.vectorOwnRow.domain false) (Rows.vectorOwnSpec.post enc Try.prog Try.f8 false true false false) := by
  refine returnsInHanded_of_change (C := Try.checked) own started (by kernel_rfl) Try.func8
    (ChangeSpec.witness6 (enc := enc) (C := Try.checked) false ⟨#[], #[.slice none 0 0, .slice none 0 0], []⟩ 8 (by kernel_rfl) (by kernel_rfl) (by kernel_rfl) (by kernel_rfl)) ?_
  intro W base args ds gs before hval0 hW hcnd _
  have hval : ∀ (j : Nat) t v, Try.f8.params[j]? = some t → args[j]? = some v → Value.okWide Try.prog W .any base t v := hval0
  have hW' := hW
  obtain ⟨p, q, hA0, hV, rfl, hfz, hnd⟩ := hW
  have hA : DataW.TrodAll enc Try.prog W 0 (fun _ => true) true Try.f8.params.toList args.toList ds p := hA0
  rw [Try.params8] at hA hval
  obtain ⟨v0, vs0, d0, ds0, p0, q0, hargs, rfl, rfl, h0, r0⟩ := trodAll_cons hA
  obtain ⟨v1, vs1, d1, ds1, p1, q1, rfl, rfl, rfl, h1, r1⟩ := trodAll_cons r0
  obtain ⟨rfl, rfl, rfl⟩ := trodAll_nil r1
  obtain rfl : args = #[v0, v1] := by cases args; simp_all
  obtain ⟨rfl, rfl⟩ := trodVars_none hV
  obtain ⟨a0, len0, cap0, rfl⟩ := okWide_slice Try.underlying23 (hval 0 23 v0 rfl rfl)
  have k0 := h0
  have lt0 : ∀ x ∈ p0, x.block < W.heap.size := by obtain ⟨m, hm⟩ := k0; exact DataW.trod_lt m _ _ _ hm
  obtain ⟨z0, w0⟩ : ∃ l : List (Int × Int), RI W (.slice a0 len0 cap0) l ∧ l.length = len0 ∧ len0 ≤ maxLen ∧ ∀ e ∈ l, idIn e := by
    obtain ⟨fuel, hf⟩ := h0
    simp only [Value.cells] at hf
    exact open_dots hf
  obtain ⟨a1, len1, cap1, rfl⟩ := okWide_slice Try.underlying23 (hval 1 23 v1 rfl rfl)
  have k1 := h1
  have lt1 : ∀ x ∈ p1, x.block < W.heap.size := by obtain ⟨m, hm⟩ := k1; exact DataW.trod_lt m _ _ _ hm
  obtain ⟨z1, w1⟩ : ∃ l : List (Int × Int), RI W (.slice a1 len1 cap1) l ∧ l.length = len1 ∧ len1 ≤ maxLen ∧ ∀ e ∈ l, idIn e := by
    obtain ⟨fuel, hf⟩ := h1
    simp only [Value.cells] at hf
    exact open_dots hf
  clear hA0 hval0
  refine (walk a0 len0 cap0 z0 a1 len1 cap1 z1 W w0 w1).mono fun e W' ⟨he, bel⟩ => ?_
  subst he
  exact ⟨_, rfl, _, _, _, [], _, [], hW', trodAll_mk1 (shut_bool Try.underlying4 _), (trodAll_cons_mk (Below.trod laidOut2 (by kernel_rfl) (of_decide_eq_true (by kernel_rfl)) k0 bel lt0) (trodAll_cons_mk (Below.trod laidOut2 (by kernel_rfl) (of_decide_eq_true (by kernel_rfl)) k1 bel lt1) trodAll_mk0)), rfl, bel.frame _, fun h => by cases h⟩

theorem over : Rows.vectorOwnRow.holds Try.pinned (OpenSpec.ofChange Rows.vectorOwnSpec) :=
  OpenClaim.holds_of_wide 8 Try.f8 rfl rfl rfl rfl rfl rfl rfl ⟨rfl, rfl, rfl, rfl, rfl⟩ rfl rfl rfl rfl rfl (by kernel_rfl) Try.func8 (by kernel_rfl)
    (of_decide_eq_true (by kernel_rfl)) (by unfold Func.isWrapper; first | (rw [if_pos (by decide +kernel)]; kernel_rfl) | (rw [if_neg (by decide +kernel)]; exact ⟨rfl, rfl⟩))
    (fun os started H enc _ => lifted os started H enc)

end LVectorOwn

theorem vectorOwn_holds : Rows.VectorOwnSaid := LVectorOwn.over

end Go.Proofs.Ytmjhkgpbemjjkaa
