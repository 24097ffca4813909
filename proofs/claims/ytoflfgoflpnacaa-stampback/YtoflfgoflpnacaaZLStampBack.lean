/-
  Chapter 6's law StampBack returns true for every list of items, all bytes and every two numbers, and leaves its arguments as they were; no condition.
-/
import Derived.Test.YtoflfgoflpnacaaRows
import Derived.WalkKit
import Derived.ProofKit
import Derived.OpenShut
import Derived.ShutString
import Derived.ChangeOld
import Derived.Below
import Derived.Test.YtoflfgoflpnacaaZNB
import Derived.Test.YtoflfgoflpnacaaZQ7
import Derived.Test.YtoflfgoflpnacaaZEQ
import Derived.Test.YtoflfgoflpnacaaZQB
import Derived.Deep.CutRange
import Derived.Deep.RegionWith
set_option linter.unusedVariables false
set_option linter.unusedSimpArgs false
namespace Go.Proofs.Ytoflfgoflpnacaa
namespace LStampBack
open Go.ChangeShapes Go.WideShapes Go.ChangeAt Go.RowKit Go.Lib
open Go.ChangeMaps (open_string shut_string)

theorem sl_toB (w : World) (a : Option Addr) (n c k : Nat) (hk : k ≤ c) :
    (Instr.sliceAt 41 (.slice a n c) none (some (.int .i64 (k : Nat))) none).run Try.prog w = .ok (.slice a k c) w := by
  obtain ⟨i0, hi, hz0, hz1, hz2⟩ := info_parts infoB
  have h1 : (k : Int) ≤ (c : Int) := by omega
  simp [Instr.sliceAt, Instr.slice, run_underlying Try.underlying41, sizeOf, typeInfo, hi, hz1, go_sem, h1, hk]
theorem neqT (t : Bool) (n : Int) (s : ByteArray) (w : World) : (binOp .neq 52 (.agg #[.bool t, .int .i64 n, .string s]) (.agg #[.bool t, .int .i64 n, .string s])).run Try.prog w = .ok (.bool false) w := by
  simp [go_sem]
theorem numF_byte : ∀ (f n : Nat), n < 128 ^ (f + 1) → ∀ b ∈ numF f n, b < 256
  | 0, n, h => by
    intro b hb
    simp only [Nat.zero_add, Nat.pow_one] at h
    rw [numF] at hb
    simp at hb
    omega
  | f + 1, n, h => by
    intro b hb
    rw [numF] at hb
    split at hb
    · simp at hb; omega
    · rcases List.mem_cons.1 hb with rfl | hb
      · omega
      · exact numF_byte f (n / 128) (Nat.div_lt_of_lt_mul (by rw [Nat.mul_comm, ← Nat.pow_succ]; exact h)) b hb
theorem num_byte {n : Nat} (h : n < 9223372036854775808) : ∀ b ∈ num n, b < 256 := numF_byte 10 n (by
  have : (128 : Nat) ^ 11 = 151115727451828646838272 := by decide
  omega)
theorem sB_byte (t : ByteArray) : ∀ b ∈ sB t, b < 256 := by
  intro b hb
  unfold sB at hb
  obtain ⟨x, _, rfl⟩ := List.mem_map.1 hb
  exact x.toNat_lt
theorem eIt_byte {x : Bool × Int × ByteArray} (h : okI x) : ∀ b ∈ eIt x, b < 256 := by
  intro b hb
  obtain ⟨t, n, s⟩ := x
  obtain ⟨h1, h2⟩ := h
  simp only at h1 h2
  unfold eIt at hb
  cases t with
  | true =>
    rcases List.mem_append.1 (show b ∈ num s.size ++ sB s from hb) with h | h
    · exact num_byte (by omega) b h
    · exact sB_byte s b h
  | false => exact num_byte (n := n.toNat) (by have := h1 rfl; omega) b hb

/-- cells that a callee leaves: of one box, of two -/
structure C3 (W : World) (b : Nat) (u0 u1 u2 : Value) : Prop where
  c0 : W.cell? ⟨b, 0, none⟩ = some u0
  c1 : W.cell? ⟨b, 1, none⟩ = some u1
  c2 : W.cell? ⟨b, 2, none⟩ = some u2
  f0 : W.frozen? ⟨b, 0, none⟩ = false
  f1 : W.frozen? ⟨b, 1, none⟩ = false
  f2 : W.frozen? ⟨b, 2, none⟩ = false
  lt : b < W.heap.size
theorem C3.of {W : World} {b : Nat} {t : TypeId} {u0 u1 u2 : Value} (h : Bx W b t #[u0, u1, u2]) : C3 W b u0 u1 u2 := ⟨h.cell 0 _ rfl, h.cell 1 _ rfl, h.cell 2 _ rfl, h.frozen 0, h.frozen 1, h.frozen 2, h.lt⟩

/-- a Reader, and a Writer that lays again what was taken -/
structure S3 (X W : World) (p q : Nat) (ov : Option Nat) (z : List Nat) (at' : Nat) (e : Int) : Prop where
  rd : ∃ v, Rd W p v (z.drop at') e ∧ v.ownBlock = ov
  wr : ∃ u, Wr W q u (z.take at') 0
  bel : Below X.heap.size X W
  lt : X.heap.size ≤ p ∧ p < q
  own : 0 < z.length → ∀ i, ov = some i → i < q
theorem S3.below {X W W' : World} {p q : Nat} {ov : Option Nat} {z : List Nat} {at' : Nat} {e : Int} (h : S3 X W p q ov z at' e) (hb : Below W.heap.size W W') : S3 X W' p q ov z at' e :=
  ⟨by obtain ⟨v, h1, h2⟩ := h.rd; exact ⟨v, h1.below hb, h2⟩, by obtain ⟨u, h1⟩ := h.wr; exact ⟨u, h1.below hb⟩, bnext h.bel hb, h.lt, h.own⟩
/-- one thing taken -/
theorem S3.take {X W W' : World} {p q : Nat} {ov : Option Nat} {z : List Nat} {at' k : Nat} {e e' : Int} {v v' : Value} (h : S3 X W p q ov z at' e) (hr : Rd W' p v' ((z.drop at').drop k) e') (hk : Kp (fun i => i = p) W W') (ho : v'.ownBlock = v.ownBlock) (hv : v.ownBlock = ov) : (∃ v, Rd W' p v (z.drop (at' + k)) e' ∧ v.ownBlock = ov) ∧ (∃ u, Wr W' q u (z.take at') 0) ∧ Below X.heap.size X W' := by
  obtain ⟨h1, h2⟩ := h.lt
  refine ⟨⟨v', by rw [List.drop_drop] at hr; exact hr, ho.trans hv⟩, ?_, hk.below h.bel (fun i e => by omega)⟩
  obtain ⟨u, hu⟩ := h.wr
  exact ⟨u, hu.kp hk (by omega) (fun i hi e => by have := (hu.row.lt i hi).1; omega)⟩
/-- the same thing laid -/
theorem S3.lay {X W W' : World} {p q : Nat} {ov : Option Nat} {z : List Nat} {at' k : Nat} {e : Int} {u u' : Value} (hr : ∃ v, Rd W p v (z.drop (at' + k)) e ∧ v.ownBlock = ov) (hu : Wr W q u (z.take at') 0) (hb : Below X.heap.size X W) (hl : X.heap.size ≤ p ∧ p < q) (ho : 0 < z.length → ∀ i, ov = some i → i < q)
    (hw : Wr W' q u' (z.take (at' + k)) 0) (hk : Kp (wOwn q u) W W') : S3 X W' p q ov z (at' + k) e := by
  obtain ⟨l1, l2⟩ := hl
  have hw0 : ∀ i, wOwn q u i → q ≤ i := fun i hi => by
    rcases hi with h | h
    · omega
    · have := (hu.row.lt i h).1; omega
  obtain ⟨v, h1, h2⟩ := hr
  refine ⟨⟨v, h1.kpn hk (fun e => by have := hw0 _ e; omega) (fun h0 i hi e => ?_), h2⟩, ⟨u', hw⟩, hk.below hb (fun i e => by have := hw0 _ e; omega), ⟨l1, l2⟩, ho⟩
  have h3 := ho (by rw [List.length_drop] at h0; omega) i (by rw [← h2]; exact hi)
  have := hw0 _ e
  omega

theorem own_none {p i : Nat} (h : wOwn p (.slice none 0 0) i) : i = p := by
  rcases h with h | h
  · exact h
  · simp [Value.ownBlock] at h

/-- may it be laid? -/
def okN (x : Bool × Int × ByteArray) : Prop := x.1 = false → 0 ≤ x.2.1
theorem fm_len {l : List (Bool × Int × ByteArray)} (hl : ∀ x ∈ l, x.2.2.size ≤ 50000) : (l.flatMap eIt).length ≤ l.length * 50011 := by
  induction l with
  | nil => simp
  | cons x l ih =>
    rw [List.flatMap_cons, List.length_append, List.length_cons]
    have h1 := ih (fun y hy => hl y (List.mem_cons_of_mem _ hy))
    have h2 : (eIt x).length ≤ 50011 := by
      unfold eIt
      have := hl x (List.mem_cons_self ..)
      split
      · have := num_len x.2.2.size; rw [List.length_append, sB_len]; omega
      · have := num_len x.2.1.toNat; omega
    omega
theorem fm_small {z : List (Bool × Int × ByteArray)} (hl : ∀ x ∈ z, x.2.2.size ≤ 50000) (hz : z.length ≤ 400) (j : Nat) : ((z.take j).flatMap eIt).length ≤ 20004400 := by
  refine Nat.le_trans (fm_len (fun x hx => hl x (List.mem_of_mem_take hx))) ?_
  have : (z.take j).length ≤ 400 := by rw [List.length_take]; omega
  exact Nat.le_trans (Nat.mul_le_mul_right _ this) (by decide)
theorem take_ok {z : List (Bool × Int × ByteArray)} {j : Nat} {x : Bool × Int × ByteArray} (h : ∀ y ∈ z.take j, okN y) (hx : z[j]? = some x) (ho : okN x) : ∀ y ∈ z.take (j + 1), okN y := fun y hy => by
  rw [List.take_add_one, hx] at hy
  simp only [Option.toList_some, List.mem_append, List.mem_singleton] at hy
  rcases hy with h1 | h1
  · exact h y h1
  · rw [h1]; exact ho
theorem fm_step {z : List (Bool × Int × ByteArray)} {j : Nat} {x : Bool × Int × ByteArray} (hx : z[j]? = some x) : (z.take (j + 1)).flatMap eIt = (z.take j).flatMap eIt ++ eIt x := by
  rw [List.take_add_one, hx]
  simp

set_option maxRecDepth 100000 in
set_option maxHeartbeats 8000000 in
theorem walk (a0 : Option Addr) (len0 cap0 : Nat) (z0 : List (Bool × Int × ByteArray)) (a1 : Option Addr) (len1 cap1 : Nat) (z1 : List Nat) (n2 n3 : Int) (w : World)
    (w0 : RT w (.slice a0 len0 cap0) z0 ∧ z0.length = len0 ∧ len0 ≤ maxLen ∧ ∀ e ∈ z0, itemIn e) (w1 : RC w (.slice a1 len1 cap1) z1.length (bC z1) ∧ z1.length = len1 ∧ len1 ≤ maxLen ∧ ∀ e ∈ z1, e < 256) (w2 : (Lit.int .i64 n2).wf = true) (w3 : (Lit.int .i64 n3).wf = true) :
    Calls Try.prog 8 #[.slice a0 len0 cap0, .slice a1 len1 cap1, .int .i64 n2, .int .i64 n3] w fun e W => e = .returned (.bool true) ∧ Below w.heap.size w W := by
  obtain ⟨r0, e0, _, hin0⟩ := w0
  obtain ⟨r1, e1, _, hby⟩ := w1
  have HK := hide (fun W => known_in W)
  have HM := hide (much_in _ z0 a1 len1 cap1 w r0)
  have R0 := hide r0
  have E0 := hide e0
  have E1 := hide e1
  have Hby := hide hby
  have I0 := hide hin0
  have R1 := hide r1
  have I2 := hide (wf64 w2)
  have I3 := hide (wf64 w3)
  clear r0 r1 e0 e1 hby hin0 w2 w3
  go_enter Try.func8, Try.ntmps8
  go_wp2_with fail
  refine (unhide HM).mono ?_
  rintro r X ⟨⟨b, rfl, hb⟩, hX⟩
  subst hX
  cases b with
  | true =>
    clear hb
    go_wp2_with fail
    refine (unhide HK _).mono ?_
    rintro r W1 ⟨rfl, hb⟩
    go_wp2
    go_ret
    exact ⟨rfl, hb⟩
  | false =>
  obtain ⟨n0, n1, hz⟩ := hb rfl
  have hs0 : len0 ≤ 400 := by have := unhide E0; omega
  have Hn0 := hide n0
  have Hz := hide hz
  have HSm := hide (fun j => fm_small hz n0 j)
  clear hb HM n0 hz
  obtain ⟨Y, hY⟩ : ∃ Y, X.alloc (.cells #[.slice none 0 0, .int .i64 0] 71) = Y := ⟨_, rfl⟩
  have HW : Hid (Wr Y X.heap.size (.slice none 0 0) ((z0.take 0).flatMap eIt) 0 ∧ Below X.heap.size X Y) := by rw [← hY]; exact hide ⟨by simpa using Wr.new X, ballc (Below.refl _ _) _⟩
  go_wp2
  clear hY
  go_loopw [10] (fun iv wr => ∃ (i j : Nat) (e : Int) (v : Value), iv = .int .i64 (i : Nat) ∧ i ≤ len0 ∧ (e = 0 ∧ j = i ∨ e = 1 ∧ i = j + 1) ∧ Hid (Wr wr X.heap.size v ((z0.take j).flatMap eIt) e ∧ Below X.heap.size X wr) ∧ Hid (∀ x ∈ z0.take j, okN x)) (fun iv _ => len0 - (Lib.intOf iv).toNat)
  case atStart => exact ⟨0, 0, 0, _, rfl, by omega, .inl ⟨rfl, rfl⟩, HW, hide (fun x hx => by simp at hx)⟩
  case round =>
    clear HW
    obtain ⟨i, j, e, v, rfl, hi, hor, hW, hA⟩ := hrel
    have HE := hide (wErr_in (unhide hW).1)
    obtain ⟨cc, hcc⟩ : ∃ cc, decide (i < len0 ∧ e = 0) = cc := ⟨_, rfl⟩
    go_upto_region 5 with fail
    go_cut [36] from 28 to 35 (fun v36 wx => v36 = .bool cc ∧ wx = wr)
    case first =>
      by_cases hlt : i < len0
      · have hlt' : (i : Int) < (len0 : Int) := by omega
        rcases hor with ⟨rfl, rfl⟩ | ⟨rfl, rfl⟩
        · rw [decide_eq_true ⟨hlt, rfl⟩] at hcc
          subst hcc
          go_wp2_with (go_at_call 29; refine (unhide HE).mono ?_; rintro r W ⟨rfl, rfl⟩)
          go_meet
          exact ⟨rfl, rfl⟩
        · rw [decide_eq_false (fun h => by have := h.2; omega)] at hcc
          subst hcc
          go_wp2_with (go_at_call 29; refine (unhide HE).mono ?_; rintro r W ⟨rfl, rfl⟩)
          go_meet
          exact ⟨rfl, rfl⟩
      · have hlt' : ¬ (i : Int) < (len0 : Int) := by omega
        rw [decide_eq_false (fun h => hlt h.1)] at hcc
        subst hcc
        go_wp2
        go_meet
        exact ⟨rfl, rfl⟩
    case rest =>
      obtain ⟨rfl, rfl⟩ := hcut
      cases cc with
      | true =>
        obtain ⟨hlt, rfl⟩ := of_decide_eq_true hcc
        have hij : j = i := by omega
        subst hij
        have hlt' : (j : Int) < (len0 : Int) := by omega
        obtain ⟨x, hx⟩ : ∃ x, z0[j]? = some x := ⟨_, List.getElem?_eq_getElem (by have := unhide E0; omega)⟩
        obtain ⟨h1, h2⟩ := unhide hW
        obtain ⟨b, off, rfl, hbl, c0, c1, c2⟩ := RT.at (RT.below (unhide R0) h2) hx
        have hxin := unhide I0 x (List.mem_of_getElem? hx)
        have hxs := unhide Hz x (List.mem_of_getElem? hx)
        have HLy := hide (lay_in x.1 x.2.1 x.2.2 h1 hxin.1 hxs (Nat.le_trans (unhide HSm j) (by omega)))
        obtain ⟨bt, m, s⟩ := x
        simp only at c0 c1 c2 HLy
        have Hx := hide hx
        have H1 := hide h1
        have H2 := hide h2
        clear h1 h2 hxin hxs HE hcc hx
        go_wp2_with fail
        refine (unhide HLy).mono ?_
        rintro r W1 ⟨rfl, v', k1, k2, k3⟩
        have HB := hide (bkp (unhide H2) (unhide H1) k2 (Nat.le_refl _))
        have K1 := hide k1
        clear k1 k2 k3 HLy c0 c1 c2 hbl
        by_cases ho : okN (bt, m, s)
        · go_wp2
          go_roundw
          case measure => show len0 - ((j : Int) + 1).toNat < len0 - ((j : Nat) : Int).toNat; omega
          case rel => exact ⟨j + 1, j + 1, 0, v', by go_num, by omega, .inl ⟨rfl, rfl⟩, hide ⟨by have h := unhide K1; rw [wItm_ok _ ho, ← fm_step (unhide Hx)] at h; exact h, unhide HB⟩, hide (take_ok (unhide hA) (unhide Hx) ho)⟩
        · go_wp2
          go_roundw
          case measure => show len0 - ((j : Int) + 1).toNat < len0 - ((j : Nat) : Int).toNat; omega
          case rel => exact ⟨j + 1, j, 1, v', by go_num, by omega, .inr ⟨rfl, rfl⟩, hide ⟨by have h := unhide K1; rw [wItm_bad _ ho] at h; exact h, unhide HB⟩, hA⟩
      | false =>
        have hnot := of_decide_eq_false hcc
        have HE2 := hide (wErr_in (unhide hW).1)
        clear HE
        go_upto_if 47 with (go_at_call 29; refine (unhide HE2).mono ?_; rintro r W ⟨rfl, rfl⟩)
        go_cut [10] from 48 to 49 (fun v10 wx => v10 = .int .i64 (j : Nat) ∧ wx = wc)
        case first =>
          rcases hor with ⟨rfl, rfl⟩ | ⟨rfl, rfl⟩
          · go_wp2
            go_meet
            exact ⟨rfl, rfl⟩
          · go_wp2
            go_meet
            exact ⟨by push_cast; congr 1, rfl⟩
        case rest =>
          obtain ⟨rfl, rfl⟩ := hcut
          have hjl : j ≤ len0 := by omega
          clear hor hnot HE2
          obtain ⟨D, hD⟩ : ∃ D, (z0.take j).flatMap eIt = D := ⟨_, rfl⟩
          rw [hD] at hW
          have hDs := unhide HSm j
          rw [hD] at hDs
          have HDa := hide (wData_in (unhide hW).1 (by omega))
          have HOk : Hid (∀ x ∈ z0.take j, okI x) := hide (fun x hx => ⟨fun h => ⟨unhide hA x hx h, (unhide I0 x (List.mem_of_mem_take hx)).1.2⟩, unhide Hz x (List.mem_of_mem_take hx)⟩)
          have HDb : Hid (∀ b ∈ D, b < 256) := by
            rw [← hD]
            exact hide (fun b hb => by
              obtain ⟨x, hx, hb⟩ := List.mem_flatMap.1 hb
              exact eIt_byte (unhide HOk x hx) b hb)
          have B0 := hide (unhide hW).2
          have HD := hide hD
          clear hD hW HSm hA hcc
          go_wp2_with fail
          refine (unhide HDa).mono ?_
          rintro r W2 ⟨vd, rfl, ho2, hb2⟩
          have HRd := hide (rRead_in W2 vd D (RC.of_owns ho2) (unhide HDb) (by omega))
          replace B0 := hide (bnext (unhide B0) hb2)
          obtain ⟨ad, cd, hvd⟩ := owns_form ho2
          subst hvd
          clear HDa ho2 hb2
          go_wp2_with fail
          refine (unhide HRd).mono ?_
          rintro r W3 ⟨p, vr, rfl, hRd, hb3, hp3, ho3⟩
          have hpX : X.heap.size ≤ p := by have := (unhide B0).size; omega
          replace B0 := hide (bnext (unhide B0) hb3)
          have HR0 : Hid (Rd W3 p vr (((z0.take j).drop 0).flatMap eIt) 0) := by rw [List.drop_zero, unhide HD]; exact hide hRd
          clear HRd hRd hb3 ho3 hDs hp3
          go_wp2
          go_loopw [12] (fun iv wr => ∃ (i : Nat) (v : Value), iv = .int .i64 (i : Nat) ∧ i ≤ j ∧ Hid (Rd wr p v (((z0.take j).drop i).flatMap eIt) 0) ∧ Hid (Below X.heap.size X wr)) (fun iv _ => j - (Lib.intOf iv).toNat)
          case atStart => exact ⟨0, _, rfl, by omega, HR0, B0⟩
          case round =>
            clear HR0 B0
            obtain ⟨i2, v2, rfl, hi2, hR2, B2⟩ := hrel
            by_cases hlt : i2 < j
            · have hlt' : (i2 : Int) < (j : Int) := by omega
              have hlt2 : (i2 : Int) < (len0 : Int) := by omega
              obtain ⟨x, hx⟩ : ∃ x, z0[i2]? = some x := ⟨_, List.getElem?_eq_getElem (by have := unhide E0; omega)⟩
              obtain ⟨b, off, rfl, hbl, c0, c1, c2⟩ := RT.at (RT.below (unhide R0) (unhide B2)) hx
              have hxt : (z0.take j)[i2]? = some x := by rw [List.getElem?_take, if_pos hlt]; exact hx
              have hok := unhide HOk x (List.mem_of_getElem? hxt)
              have hfm : ((z0.take j).drop i2).flatMap eIt = eIt x ++ ((z0.take j).drop (i2 + 1)).flatMap eIt := by rw [drop_at hxt, List.flatMap_cons]
              have hIt := rItm_eIt hok (((z0.take j).drop (i2 + 1)).flatMap eIt)
              rw [← hfm] at hIt
              have hdr : (((z0.take j).drop i2).flatMap eIt).drop (eIt x).length = ((z0.take j).drop (i2 + 1)).flatMap eIt := by rw [hfm, List.drop_left]
              have HIt := hide hIt
              have Hdr := hide hdr
              have Hx := hide hx
              obtain ⟨bt, m, s⟩ := x
              simp only at c0 c1 c2
              clear hxt hok hfm hIt hdr hx
              cases bt with
              | true =>
                go_wp2
                go_region
                go_wp2
                have hpl := (unhide hR2).box.lt
                have xb := (Bx.new wr 52 #[.bool true, .int .i64 0, .string s]).below (Below.refl _ _).drew
                have rq := (unhide hR2).below ((ballc (Below.refl _ wr) (.cells #[.bool true, .int .i64 0, .string s] 52)).drew)
                have bq := (ballc (unhide B2) (.cells #[.bool true, .int .i64 0, .string s] 52)).drew
                clear c0 c1 c2 hbl hR2 B2
                generalize wr.heap.size = tb at *
                generalize (wr.alloc (.cells #[.bool true, .int .i64 0, .string s] 52)).drew = Wq at *
                obtain ⟨b', off', hab, hbl, c0, c1, c2⟩ := RT.at (RT.below (unhide R0) bq) (unhide Hx)
                simp only [Option.some.injEq, Addr.mk.injEq, and_true] at hab
                obtain ⟨rfl, rfl⟩ := hab
                simp only at c0 c1 c2
                have q0 := xb.cell 0 _ rfl
                have q1 := xb.cell 1 _ rfl
                have q2 := xb.cell 2 _ rfl
                have HT := hide (fun (W : World) (hb : Below Wq.heap.size Wq W) => take_in true m s (rq.below hb))
                rw [unhide HIt] at HT
                simp only [itC, nrm, if_true, Bool.false_eq_true, if_false] at HT
                rw [unhide Hdr] at HT
                have hneq := fun W => neqT true 0 s W
                have XB := hide (xb.below (Below.refl _ _).drew)
                have BQ := hide bq
                clear xb bq rq HIt Hdr
                go_region_with (go_at_call 25; refine (unhide HT _ (Below.refl _ _).drew).mono ?_; rintro r W5 ⟨rfl, v5, h1, h2, h3⟩; have hx3 := C3.of ((unhide XB).kp h2 (by omega)); obtain ⟨x0, x1, x2, x3, x4, x5, x6⟩ := hx3; replace h1 := hide h1; replace h2 := hide h2; clear h3)
                all_goals go_wp2
                all_goals go_roundw
                all_goals first | (show j - ((i2 : Int) + 1).toNat < j - ((i2 : Nat) : Int).toNat; omega) | exact ⟨i2 + 1, v5, by go_num, by omega, h1, hide ((unhide h2).below ((unhide BQ).drew) (fun i e => by omega))⟩
              | false =>
                go_wp2
                go_region
                go_wp2
                have hpl := (unhide hR2).box.lt
                have xb := (Bx.new wr 52 #[.bool false, .int .i64 m, .string ⟨#[]⟩]).below (Below.refl _ _).drew
                have rq := (unhide hR2).below ((ballc (Below.refl _ wr) (.cells #[.bool false, .int .i64 m, .string ⟨#[]⟩] 52)).drew)
                have bq := (ballc (unhide B2) (.cells #[.bool false, .int .i64 m, .string ⟨#[]⟩] 52)).drew
                clear c0 c1 c2 hbl hR2 B2
                generalize wr.heap.size = tb at *
                generalize (wr.alloc (.cells #[.bool false, .int .i64 m, .string ⟨#[]⟩] 52)).drew = Wq at *
                obtain ⟨b', off', hab, hbl, c0, c1, c2⟩ := RT.at (RT.below (unhide R0) bq) (unhide Hx)
                simp only [Option.some.injEq, Addr.mk.injEq, and_true] at hab
                obtain ⟨rfl, rfl⟩ := hab
                simp only at c0 c1 c2
                have q0 := xb.cell 0 _ rfl
                have q1 := xb.cell 1 _ rfl
                have q2 := xb.cell 2 _ rfl
                have HT := hide (fun (W : World) (hb : Below Wq.heap.size Wq W) => take_in false m s (rq.below hb))
                rw [unhide HIt] at HT
                simp only [itC, nrm, if_true, Bool.false_eq_true, if_false] at HT
                rw [unhide Hdr] at HT
                have hneq := fun W => neqT false m ⟨#[]⟩ W
                have XB := hide (xb.below (Below.refl _ _).drew)
                have BQ := hide bq
                clear xb bq rq HIt Hdr
                go_region_with (go_at_call 25; refine (unhide HT _ (Below.refl _ _).drew).mono ?_; rintro r W5 ⟨rfl, v5, h1, h2, h3⟩; have hx3 := C3.of ((unhide XB).kp h2 (by omega)); obtain ⟨x0, x1, x2, x3, x4, x5, x6⟩ := hx3; replace h1 := hide h1; replace h2 := hide h2; clear h3)
                all_goals go_wp2
                all_goals go_roundw
                all_goals first | (show j - ((i2 : Int) + 1).toNat < j - ((i2 : Nat) : Int).toNat; omega) | exact ⟨i2 + 1, v5, by go_num, by omega, h1, hide ((unhide h2).below ((unhide BQ).drew) (fun i e => by omega))⟩
            · have hlt' : ¬ (i2 : Int) < (j : Int) := by omega
              have HEn := hide (rEnd_in (unhide hR2))
              have eE : rEnd (((z0.take j).drop i2).flatMap eIt) 0 = 0 := by
                rw [List.drop_eq_nil_of_le (by rw [List.length_take]; omega)]
                rfl
              rw [eE] at HEn
              clear eE hR2
              go_wp2_with fail
              refine (unhide HEn).mono ?_
              rintro r W ⟨rfl, rfl⟩
              have HRd := hide (rRead_in wr _ z1 (RC.below (unhide R1) (unhide B2)) (unhide Hby) (by have := unhide E1; omega))
              clear HEn HOk HDb HD
              go_wp2_with fail
              refine (unhide HRd).mono ?_
              rintro r W3 ⟨p3, v3, rfl, hRd, hb3, hp3, ho3⟩
              have hpl := hRd.box.lt
              have hol := hRd.row.ownlt
              have HS0 : Hid (S3 X (W3.alloc (.cells #[.slice none 0 0, .int .i64 0] 71)) p3 W3.heap.size v3.ownBlock z1 0 0) := hide ⟨⟨v3, by rw [List.drop_zero]; exact hRd.below (ballc (Below.refl _ _) _), rfl⟩, ⟨_, by rw [List.take_zero]; exact Wr.new W3⟩, ballc (bnext (unhide B2) hb3) _, ⟨by have := (unhide B2).size; omega, hpl⟩, hol⟩
              have hcap : len1 ≤ cap1 := by
                rcases unhide R1 with ⟨h0, a9, c9, e9⟩ | ⟨b, off, cap, e, h1, _⟩
                · have := unhide E1; omega
                · simp at e; have := unhide E1; omega
              clear HRd hRd hb3 hp3 ho3 hol B2 hpX
              go_wp2
              generalize W3.heap.size = p4 at *
              generalize v3.ownBlock = ov at *
              go_loopw [15] (fun iv wr => ∃ (i at' : Nat), iv = .int .i64 (i : Nat) ∧ i ≤ len0 ∧ at' ≤ len1 ∧ Hid (S3 X wr p3 p4 ov z1 at' 0)) (fun iv _ => len0 - (Lib.intOf iv).toNat)
              case atStart => exact ⟨0, 0, rfl, by omega, by omega, HS0⟩
              case round =>
                clear HS0
                obtain ⟨i3, at', rfl, hi3, hat, HS⟩ := hrel
                by_cases hlt3 : i3 < len0
                · have hlt3' : (i3 : Int) < (len0 : Int) := by omega
                  obtain ⟨x, hx⟩ : ∃ x, z0[i3]? = some x := ⟨_, List.getElem?_eq_getElem (by have := unhide E0; omega)⟩
                  obtain ⟨b, off, rfl, hbl, c0, c1, c2⟩ := RT.at (RT.below (unhide R0) (unhide HS).bel) hx
                  obtain ⟨v, hv, hvo⟩ := (unhide HS).rd
                  obtain ⟨bt, m, s⟩ := x
                  simp only at c0 c1 c2
                  have HT := hide (take_in bt m s hv)
                  have hle := rItm_le (z1.drop at') 0 bt
                  have herr := hide (rItm_err (l := z1.drop at') (t := bt))
                  have hbk := hide (rItm_back (l := z1.drop at') (t := bt) (fun b hb => unhide Hby b (List.mem_of_mem_drop hb)))
                  generalize rItm (z1.drop at') 0 bt = RI at *
                  obtain ⟨⟨t', n', s'⟩, k', e'⟩ := RI
                  simp only [itC] at HT hle herr hbk
                  have hkl : at' + k' ≤ len1 := by rw [List.length_drop, unhide E1] at hle; omega
                  have Hvo := hide hvo
                  clear hv hvo hle hx
                  go_wp2_with fail
                  refine (unhide HT).mono ?_
                  rintro r W5 ⟨rfl, v5, h1, h2, h3⟩
                  obtain ⟨t1, t2, t3⟩ := (unhide HS).take h1 h2 h3 (unhide Hvo)
                  have bW := ballc (Below.refl _ W5) (.cells #[.bool t', .int .i64 n', .string s'] 52)
                  have xb := Bx.new W5 52 #[.bool t', .int .i64 n', .string s']
                  obtain ⟨v6, hv6, hvo6⟩ := t1
                  have hv6' := hv6.below bW
                  obtain ⟨u6, hu6⟩ := t2
                  have hu6' := hu6.below bW
                  have b6 := bnext t3 bW
                  have HEr := hide (rErr_in hv6')
                  have XB := hide xb
                  have HV6 := hide hv6'
                  have HVO6 := hide hvo6
                  have HU6 := hide hu6'
                  have B6 := hide b6
                  have hl3 := (unhide HS).lt
                  have ho3 := hide (unhide HS).own
                  clear h1 h2 h3 t3 bW xb hv6 hv6' hvo6 hu6 hu6' b6 HT c0 c1 c2 hbl HS
                  go_wp2_with fail
                  generalize W5.heap.size = tb at *
                  generalize W5.alloc (.cells #[.bool t', .int .i64 n', .string s'] 52) = W6 at *
                  refine (unhide HEr).mono ?_
                  rintro r W ⟨rfl, rfl⟩
                  by_cases he : e' = 0
                  · subst he
                    obtain ⟨g1, g2, g3⟩ := unhide hbk rfl (by rw [List.length_drop, unhide E1]; omega)
                    have hlay := lay_in t' n' s' (unhide HU6) g3 g2.2 (by rw [List.length_take]; omega)
                    rw [wItm_ok _ (fun h => (g2.1 h).1), g1, ← List.take_add] at hlay
                    have HLy := hide hlay
                    have q0 := (unhide XB).cell 0 _ rfl
                    have q1 := (unhide XB).cell 1 _ rfl
                    have q2 := (unhide XB).cell 2 _ rfl
                    clear g1 g2 g3 hlay HEr
                    go_wp2_with fail
                    refine (unhide HLy).mono ?_
                    rintro r W8 ⟨rfl, u8, m1, m2, m3⟩
                    have HS8 := hide (S3.lay (k := k') ⟨v6, unhide HV6, unhide HVO6⟩ (unhide HU6) (unhide B6) hl3 (unhide ho3) m1 m2)
                    clear m1 m2 m3 HLy q0 q1 q2
                    go_wp2
                    go_roundw
                    case measure => show len0 - ((i3 : Int) + 1).toNat < len0 - ((i3 : Nat) : Int).toNat; omega
                    case rel => exact ⟨i3 + 1, at' + k', by go_num, by omega, hkl, HS8⟩
                  · have hk0 : k' = 0 := unhide herr he
                    subst hk0
                    rw [Nat.add_zero] at HV6
                    have HF : Hid (S3 X W6 p3 p4 ov z1 at' e') := hide ⟨⟨v6, unhide HV6, unhide HVO6⟩, ⟨u6, unhide HU6⟩, unhide B6, hl3, unhide ho3⟩
                    have heb : (e' == 0) = false := by simpa using he
                    clear HEr herr hbk HV6 HU6 B6 XB HVO6 ho3 Hvo
                    obtain ⟨u, hu⟩ := (unhide HF).wr
                    obtain ⟨v, hv, _⟩ := (unhide HF).rd
                    have BF := hide (unhide HF).bel
                    have hlen : (z1.take at').length = at' := by rw [List.length_take, unhide E1]; omega
                    have hlen2 : (z1.drop at').length = len1 - at' := by rw [List.length_drop, unhide E1]
                    have HDa := hide (wData_in hu (by omega))
                    have HU := hide hu
                    have HV := hide hv
                    clear hu hv
                    go_wp2_with fail
                    refine (unhide HDa).mono ?_
                    rintro r W7 ⟨vd, rfl, ho7, hb7⟩
                    rw [hlen] at ho7
                    obtain ⟨ad, cd, hvd⟩ := owns_form ho7
                    subst hvd
                    have HErr := hide (wErr_in ((unhide HU).below hb7))
                    have HLe := hide (rLeft_in ((unhide HV).below hb7))
                    rw [hlen2] at HLe
                    have B7 := hide (bnext (unhide BF) hb7)
                    have ro7 : RB W7 (.slice ad at' cd) (z1.take at') := by unfold RB; rw [hlen]; exact RC.of_owns ho7
                    have rb7 : RB W7 (.slice a1 at' cap1) (z1.take at') := by
                      unfold RB
                      rw [hlen]
                      exact RC.takeN (C := bC z1) (n := len1) (RC.below (by have := unhide R1; rw [unhide E1] at this; exact this) (unhide B7)) at' hat _ (fun j x hx => by
                        rw [← bC_take, List.getElem?_take] at hx
                        split at hx
                        · exact hx
                        · cases hx)
                    have HBy := hide (bytes_in (z1.take at') (z1.take at') (.slice ad at' cd) (.slice a1 at' cap1) W7 ro7 rb7 (by omega) (by omega))
                    have hdd : decide (z1.take at' = z1.take at') = true := by simp
                    rw [hdd] at HBy
                    have hsl := fun W => sl_toB W a1 len1 cap1 at' (by omega)
                    have eL : ((len1 - at' : Nat) : Int) = (len1 : Int) - (at' : Int) := by omega
                    rw [eL] at HLe
                    have hacap : (at' : Int) ≤ (cap1 : Int) := by omega
                    have hal : (at' : Int) ≤ (len1 : Int) := by omega
                    have hsub : (len1 : Int) - ((len1 : Int) - (at' : Int)) = (at' : Int) := by omega
                    have hl1' : (len1 : Int) ≤ 50000 := by omega
                    clear ho7 hb7 ro7 rb7 hdd hlen hlen2 eL HDa HU HV
                    go_wp2_with (first | (go_at_call 29; refine (unhide HErr).mono ?_; rintro r W ⟨rfl, rfl⟩) | (go_at_call 30; refine (unhide HLe).mono ?_; rintro r W ⟨rfl, rfl⟩))
                    refine (unhide HBy).mono ?_
                    rintro r W8 ⟨rfl, k8, hW8⟩
                    have B8 : Hid (Below X.heap.size X W8) := by rw [hW8]; exact hide (bdrew (unhide B7) k8)
                    clear HBy hW8 HErr HLe B7 hsl
                    have hk8 := hide (known_in W8)
                    by_cases hn2 : n2 < 0
                    · go_wp2_with fail
                      refine (unhide hk8).mono ?_
                      rintro r W9 ⟨rfl, hb9⟩
                      go_wp2
                      go_ret
                      exact ⟨rfl, bnext (unhide B8) hb9⟩
                    by_cases hn3 : n3 < 0
                    · go_wp2_with fail
                      refine (unhide hk8).mono ?_
                      rintro r W9 ⟨rfl, hb9⟩
                      go_wp2
                      go_ret
                      exact ⟨rfl, bnext (unhide B8) hb9⟩
                    obtain ⟨m2, rfl⟩ : ∃ m : Nat, n2 = (m : Int) := ⟨n2.toNat, by omega⟩
                    obtain ⟨m3, rfl⟩ : ∃ m : Nat, n3 = (m : Int) := ⟨n3.toNat, by omega⟩
                    obtain ⟨_, hm2⟩ := unhide I2
                    obtain ⟨_, hm3⟩ := unhide I3
                    have b1 := ballc (Below.refl _ W8) (.cells #[.slice none 0 0, .int .i64 0] 71)
                    have b2 := ballc (Below.refl _ (W8.alloc (.cells #[.slice none 0 0, .int .i64 0] 71))) (.cells #[.slice none 0 0, .int .i64 0] 71)
                    have x5 := (Wr.new W8).below b2
                    have x6 := Wr.new (W8.alloc (.cells #[.slice none 0 0, .int .i64 0] 71))
                    rw [show (W8.alloc (.cells #[.slice none 0 0, .int .i64 0] 71)).heap.size = W8.heap.size + 1 by simp] at x6
                    have by' := bnext (bnext (unhide B8) b1) b2
                    have hsz : ((W8.alloc (.cells #[.slice none 0 0, .int .i64 0] 71)).alloc (.cells #[.slice none 0 0, .int .i64 0] 71)).heap.size = W8.heap.size + 2 := by simp
                    have HX5 := hide x5
                    have HX6 := hide x6
                    have HBY := hide by'
                    have HSZ := hide hsz
                    have hX8 : X.heap.size ≤ W8.heap.size := (unhide B8).size
                    clear b1 b2 x5 x6 by' hsz hk8
                    go_wp2_with fail
                    generalize ((W8.alloc (.cells #[.slice none 0 0, .int .i64 0] 71)).alloc (.cells #[.slice none 0 0, .int .i64 0] 71)) = Yb at *
                    generalize W8.heap.size = p5 at *
                    refine (wNumber_in (m2 : Int) (unhide HX5) (by omega) (by omega) (by simp)).mono ?_
                    rintro r W9 ⟨rfl, v5, h1, h2, h3⟩
                    rw [wNum_pos [] (by omega), List.nil_append, Int.toNat_natCast] at h1
                    have h6 := (unhide HX6).kp h2 (fun e => by have := own_none e; omega) (fun i hi => by simp [Value.ownBlock] at hi)
                    have hb9 := h2.below (unhide HBY) (fun i e => by have := own_none e; omega)
                    have hv5 : ∀ i, v5.ownBlock = some i → i ≠ p5 + 1 := fun i hi => by
                      rcases h3 i hi with e | e
                      · simp [Value.ownBlock] at e
                      · have := unhide HSZ; omega
                    have H1 := hide h1
                    have H6 := hide h6
                    have B9 := hide hb9
                    have HV5 := hide hv5
                    clear h1 h2 h3 h6 hb9 hv5 HX5 HX6 HBY
                    go_wp2_with fail
                    refine (wNumber_in (m3 : Int) (unhide H6) (by omega) (by omega) (by simp)).mono ?_
                    rintro r W10 ⟨rfl, v6, k1, k2, k3⟩
                    rw [wNum_pos [] (by omega), List.nil_append, Int.toNat_natCast] at k1
                    have k5 := (unhide H1).kp k2 (fun e => by have := own_none e; omega) (fun i hi e => unhide HV5 i hi (own_none e))
                    have hb10 := k2.below (unhide B9) (fun i e => by have := own_none e; omega)
                    have hq2 := num_len m2
                    have hq3 := num_len m3
                    have HD5 := hide (wData_in k5 (by omega))
                    have K1 := hide k1
                    have B10 := hide hb10
                    have hpre := num_pre (u := m3) (v := m2) (by omega) (by omega)
                    obtain ⟨N2, hN2⟩ : ∃ N, num m2 = N := ⟨_, rfl⟩
                    obtain ⟨N3, hN3⟩ : ∃ N, num m3 = N := ⟨_, rfl⟩
                    rw [hN2, hN3] at hpre
                    rw [hN2] at HD5 hq2
                    rw [hN3] at K1 hq3
                    obtain ⟨L2, hL2⟩ : ∃ L, N2.length = L := ⟨_, rfl⟩
                    obtain ⟨L3, hL3⟩ : ∃ L, N3.length = L := ⟨_, rfl⟩
                    rw [hL2] at HD5 hq2 hpre
                    rw [hL3] at hq3 hpre
                    have Hpre := hide hpre
                    have HL2 := hide hL2
                    have HL3 := hide hL3
                    have HN2 := hide hN2
                    have HN3 := hide hN3
                    clear k1 k2 k3 k5 hb10 H1 H6 B9 HV5 hN2 hN3 hL2 hL3 hpre
                    go_wp2_with fail
                    refine (unhide HD5).mono ?_
                    rintro r W11 ⟨vx, rfl, ox, bx⟩
                    obtain ⟨ax, cx, hvx⟩ := owns_form ox
                    subst hvx
                    have HD6 := hide (wData_in ((unhide K1).below bx) (by rw [unhide HL3]; omega))
                    rw [unhide HL3] at HD6
                    have OX := hide ox
                    have B11 := hide (bnext (unhide B10) bx)
                    clear ox bx HD5 K1 B10
                    go_wp2_with fail
                    refine (unhide HD6).mono ?_
                    rintro r W12 ⟨vy, rfl, oy, b12⟩
                    obtain ⟨ay, cy, hvy⟩ := owns_form oy
                    subst hvy
                    have hcy : L3 ≤ cy := by
                      rcases RC.of_owns oy with ⟨h0, a9, c9, e9⟩ | ⟨b, off, cap, e, h1, _⟩
                      · omega
                      · simp at e; omega
                    have B12 := hide (bnext (unhide B11) b12)
                    have rx : RB W12 (.slice ax L2 cx) N2 := by unfold RB; rw [unhide HL2]; exact (RC.of_owns (unhide OX)).below b12
                    have RX := hide rx
                    have OY := hide (RC.of_owns oy)
                    have HKn := hide (fun W => known_in W)
                    clear rx oy b12 HD6 OX B11
                    by_cases hle : L2 ≤ L3
                    · have hle' : (L2 : Int) ≤ (L3 : Int) := by omega
                      have hlt : (N3.take L2).length = L2 := by rw [List.length_take, unhide HL3]; omega
                      have ry : RB W12 (.slice ay L2 cy) (N3.take L2) := by
                        unfold RB
                        rw [hlt]
                        exact RC.takeN (C := bC N3) (n := L3) (unhide OY) L2 hle _ (fun j x hx => by
                          rw [← bC_take, List.getElem?_take] at hx
                          split at hx
                          · exact hx
                          · cases hx)
                      have HBy := hide (bytes_in N2 (N3.take L2) (.slice ax L2 cx) (.slice ay L2 cy) W12 (unhide RX) ry (by rw [unhide HL2]; omega) (by omega))
                      have hsl := fun W => sl_toB W ay L3 cy L2 (by omega)
                      have hcy' : (L2 : Int) ≤ (cy : Int) := by omega
                      have eB : decide (N2 = N3.take L2) = decide (m3 = m2) := by
                        rw [Bool.eq_iff_iff, decide_eq_true_eq, decide_eq_true_eq, ← unhide Hpre]
                        exact ⟨fun h => ⟨hle, h⟩, fun h => h.2⟩
                      rw [eB] at HBy
                      clear ry hlt eB RX OY Hpre HL2 HL3 HN2 HN3
                      by_cases hmm : m3 = m2
                      · subst hmm
                        rw [decide_eq_true rfl] at HBy
                        go_wp2_with fail
                        refine (unhide HBy).mono ?_
                        rintro r W13 ⟨rfl, k13, hW13⟩
                        have B13 : Hid (Below X.heap.size X W13) := by rw [hW13]; exact hide (bdrew (unhide B12) k13)
                        clear HBy hW13 hsl
                        go_wp2_with fail
                        refine (unhide HKn _).mono ?_
                        rintro r W14 ⟨rfl, hb14⟩
                        go_wp2
                        go_ret
                        exact ⟨rfl, bnext (unhide B13) hb14⟩
                      · rw [decide_eq_false hmm] at HBy
                        have hmb : ((m3 : Int) == (m2 : Int)) = false := by simp; omega
                        have hmi : ¬ (m3 : Int) = (m2 : Int) := by omega
                        go_wp2_with fail
                        refine (unhide HBy).mono ?_
                        rintro r W13 ⟨rfl, k13, hW13⟩
                        have B13 : Hid (Below X.heap.size X W13) := by rw [hW13]; exact hide (bdrew (unhide B12) k13)
                        clear HBy hW13 hsl
                        go_wp2_with fail
                        refine (unhide HKn _).mono ?_
                        rintro r W14 ⟨rfl, hb14⟩
                        go_wp2
                        go_ret
                        exact ⟨rfl, bnext (unhide B13) hb14⟩
                    · have hle' : ¬ (L2 : Int) ≤ (L3 : Int) := by omega
                      have hmm : ¬ m3 = m2 := fun h => hle (unhide Hpre |>.2 h).1
                      have hmb : ((m3 : Int) == (m2 : Int)) = false := by simp; omega
                      have hmi : ¬ (m3 : Int) = (m2 : Int) := by omega
                      clear RX OY Hpre HL2 HL3 HN2 HN3
                      go_wp2_with fail
                      refine (unhide HKn _).mono ?_
                      rintro r W14 ⟨rfl, hb14⟩
                      go_wp2
                      go_ret
                      exact ⟨rfl, bnext (unhide B12) hb14⟩
                · have hlt3' : ¬ (i3 : Int) < (len0 : Int) := by omega
                  have HF := HS
                  clear HS
                  obtain ⟨u, hu⟩ := (unhide HF).wr
                  obtain ⟨v, hv, _⟩ := (unhide HF).rd
                  have BF := hide (unhide HF).bel
                  have hlen : (z1.take at').length = at' := by rw [List.length_take, unhide E1]; omega
                  have hlen2 : (z1.drop at').length = len1 - at' := by rw [List.length_drop, unhide E1]
                  have HDa := hide (wData_in hu (by omega))
                  have HU := hide hu
                  have HV := hide hv
                  clear hu hv
                  go_wp2_with fail
                  refine (unhide HDa).mono ?_
                  rintro r W7 ⟨vd, rfl, ho7, hb7⟩
                  rw [hlen] at ho7
                  obtain ⟨ad, cd, hvd⟩ := owns_form ho7
                  subst hvd
                  have HErr := hide (wErr_in ((unhide HU).below hb7))
                  have HLe := hide (rLeft_in ((unhide HV).below hb7))
                  rw [hlen2] at HLe
                  have B7 := hide (bnext (unhide BF) hb7)
                  have ro7 : RB W7 (.slice ad at' cd) (z1.take at') := by unfold RB; rw [hlen]; exact RC.of_owns ho7
                  have rb7 : RB W7 (.slice a1 at' cap1) (z1.take at') := by
                    unfold RB
                    rw [hlen]
                    exact RC.takeN (C := bC z1) (n := len1) (RC.below (by have := unhide R1; rw [unhide E1] at this; exact this) (unhide B7)) at' hat _ (fun j x hx => by
                      rw [← bC_take, List.getElem?_take] at hx
                      split at hx
                      · exact hx
                      · cases hx)
                  have HBy := hide (bytes_in (z1.take at') (z1.take at') (.slice ad at' cd) (.slice a1 at' cap1) W7 ro7 rb7 (by omega) (by omega))
                  have hdd : decide (z1.take at' = z1.take at') = true := by simp
                  rw [hdd] at HBy
                  have hsl := fun W => sl_toB W a1 len1 cap1 at' (by omega)
                  have eL : ((len1 - at' : Nat) : Int) = (len1 : Int) - (at' : Int) := by omega
                  rw [eL] at HLe
                  have hacap : (at' : Int) ≤ (cap1 : Int) := by omega
                  have hal : (at' : Int) ≤ (len1 : Int) := by omega
                  have hsub : (len1 : Int) - ((len1 : Int) - (at' : Int)) = (at' : Int) := by omega
                  have hl1' : (len1 : Int) ≤ 50000 := by omega
                  clear ho7 hb7 ro7 rb7 hdd hlen hlen2 eL HDa HU HV
                  go_wp2_with (first | (go_at_call 29; refine (unhide HErr).mono ?_; rintro r W ⟨rfl, rfl⟩) | (go_at_call 30; refine (unhide HLe).mono ?_; rintro r W ⟨rfl, rfl⟩))
                  refine (unhide HBy).mono ?_
                  rintro r W8 ⟨rfl, k8, hW8⟩
                  have B8 : Hid (Below X.heap.size X W8) := by rw [hW8]; exact hide (bdrew (unhide B7) k8)
                  clear HBy hW8 HErr HLe B7 hsl
                  have hk8 := hide (known_in W8)
                  by_cases hn2 : n2 < 0
                  · go_wp2_with fail
                    refine (unhide hk8).mono ?_
                    rintro r W9 ⟨rfl, hb9⟩
                    go_wp2
                    go_ret
                    exact ⟨rfl, bnext (unhide B8) hb9⟩
                  by_cases hn3 : n3 < 0
                  · go_wp2_with fail
                    refine (unhide hk8).mono ?_
                    rintro r W9 ⟨rfl, hb9⟩
                    go_wp2
                    go_ret
                    exact ⟨rfl, bnext (unhide B8) hb9⟩
                  obtain ⟨m2, rfl⟩ : ∃ m : Nat, n2 = (m : Int) := ⟨n2.toNat, by omega⟩
                  obtain ⟨m3, rfl⟩ : ∃ m : Nat, n3 = (m : Int) := ⟨n3.toNat, by omega⟩
                  obtain ⟨_, hm2⟩ := unhide I2
                  obtain ⟨_, hm3⟩ := unhide I3
                  have b1 := ballc (Below.refl _ W8) (.cells #[.slice none 0 0, .int .i64 0] 71)
                  have b2 := ballc (Below.refl _ (W8.alloc (.cells #[.slice none 0 0, .int .i64 0] 71))) (.cells #[.slice none 0 0, .int .i64 0] 71)
                  have x5 := (Wr.new W8).below b2
                  have x6 := Wr.new (W8.alloc (.cells #[.slice none 0 0, .int .i64 0] 71))
                  rw [show (W8.alloc (.cells #[.slice none 0 0, .int .i64 0] 71)).heap.size = W8.heap.size + 1 by simp] at x6
                  have by' := bnext (bnext (unhide B8) b1) b2
                  have hsz : ((W8.alloc (.cells #[.slice none 0 0, .int .i64 0] 71)).alloc (.cells #[.slice none 0 0, .int .i64 0] 71)).heap.size = W8.heap.size + 2 := by simp
                  have HX5 := hide x5
                  have HX6 := hide x6
                  have HBY := hide by'
                  have HSZ := hide hsz
                  have hX8 : X.heap.size ≤ W8.heap.size := (unhide B8).size
                  clear b1 b2 x5 x6 by' hsz hk8
                  go_wp2_with fail
                  generalize ((W8.alloc (.cells #[.slice none 0 0, .int .i64 0] 71)).alloc (.cells #[.slice none 0 0, .int .i64 0] 71)) = Yb at *
                  generalize W8.heap.size = p5 at *
                  refine (wNumber_in (m2 : Int) (unhide HX5) (by omega) (by omega) (by simp)).mono ?_
                  rintro r W9 ⟨rfl, v5, h1, h2, h3⟩
                  rw [wNum_pos [] (by omega), List.nil_append, Int.toNat_natCast] at h1
                  have h6 := (unhide HX6).kp h2 (fun e => by have := own_none e; omega) (fun i hi => by simp [Value.ownBlock] at hi)
                  have hb9 := h2.below (unhide HBY) (fun i e => by have := own_none e; omega)
                  have hv5 : ∀ i, v5.ownBlock = some i → i ≠ p5 + 1 := fun i hi => by
                    rcases h3 i hi with e | e
                    · simp [Value.ownBlock] at e
                    · have := unhide HSZ; omega
                  have H1 := hide h1
                  have H6 := hide h6
                  have B9 := hide hb9
                  have HV5 := hide hv5
                  clear h1 h2 h3 h6 hb9 hv5 HX5 HX6 HBY
                  go_wp2_with fail
                  refine (wNumber_in (m3 : Int) (unhide H6) (by omega) (by omega) (by simp)).mono ?_
                  rintro r W10 ⟨rfl, v6, k1, k2, k3⟩
                  rw [wNum_pos [] (by omega), List.nil_append, Int.toNat_natCast] at k1
                  have k5 := (unhide H1).kp k2 (fun e => by have := own_none e; omega) (fun i hi e => unhide HV5 i hi (own_none e))
                  have hb10 := k2.below (unhide B9) (fun i e => by have := own_none e; omega)
                  have hq2 := num_len m2
                  have hq3 := num_len m3
                  have HD5 := hide (wData_in k5 (by omega))
                  have K1 := hide k1
                  have B10 := hide hb10
                  have hpre := num_pre (u := m3) (v := m2) (by omega) (by omega)
                  obtain ⟨N2, hN2⟩ : ∃ N, num m2 = N := ⟨_, rfl⟩
                  obtain ⟨N3, hN3⟩ : ∃ N, num m3 = N := ⟨_, rfl⟩
                  rw [hN2, hN3] at hpre
                  rw [hN2] at HD5 hq2
                  rw [hN3] at K1 hq3
                  obtain ⟨L2, hL2⟩ : ∃ L, N2.length = L := ⟨_, rfl⟩
                  obtain ⟨L3, hL3⟩ : ∃ L, N3.length = L := ⟨_, rfl⟩
                  rw [hL2] at HD5 hq2 hpre
                  rw [hL3] at hq3 hpre
                  have Hpre := hide hpre
                  have HL2 := hide hL2
                  have HL3 := hide hL3
                  have HN2 := hide hN2
                  have HN3 := hide hN3
                  clear k1 k2 k3 k5 hb10 H1 H6 B9 HV5 hN2 hN3 hL2 hL3 hpre
                  go_wp2_with fail
                  refine (unhide HD5).mono ?_
                  rintro r W11 ⟨vx, rfl, ox, bx⟩
                  obtain ⟨ax, cx, hvx⟩ := owns_form ox
                  subst hvx
                  have HD6 := hide (wData_in ((unhide K1).below bx) (by rw [unhide HL3]; omega))
                  rw [unhide HL3] at HD6
                  have OX := hide ox
                  have B11 := hide (bnext (unhide B10) bx)
                  clear ox bx HD5 K1 B10
                  go_wp2_with fail
                  refine (unhide HD6).mono ?_
                  rintro r W12 ⟨vy, rfl, oy, b12⟩
                  obtain ⟨ay, cy, hvy⟩ := owns_form oy
                  subst hvy
                  have hcy : L3 ≤ cy := by
                    rcases RC.of_owns oy with ⟨h0, a9, c9, e9⟩ | ⟨b, off, cap, e, h1, _⟩
                    · omega
                    · simp at e; omega
                  have B12 := hide (bnext (unhide B11) b12)
                  have rx : RB W12 (.slice ax L2 cx) N2 := by unfold RB; rw [unhide HL2]; exact (RC.of_owns (unhide OX)).below b12
                  have RX := hide rx
                  have OY := hide (RC.of_owns oy)
                  have HKn := hide (fun W => known_in W)
                  clear rx oy b12 HD6 OX B11
                  by_cases hle : L2 ≤ L3
                  · have hle' : (L2 : Int) ≤ (L3 : Int) := by omega
                    have hlt : (N3.take L2).length = L2 := by rw [List.length_take, unhide HL3]; omega
                    have ry : RB W12 (.slice ay L2 cy) (N3.take L2) := by
                      unfold RB
                      rw [hlt]
                      exact RC.takeN (C := bC N3) (n := L3) (unhide OY) L2 hle _ (fun j x hx => by
                        rw [← bC_take, List.getElem?_take] at hx
                        split at hx
                        · exact hx
                        · cases hx)
                    have HBy := hide (bytes_in N2 (N3.take L2) (.slice ax L2 cx) (.slice ay L2 cy) W12 (unhide RX) ry (by rw [unhide HL2]; omega) (by omega))
                    have hsl := fun W => sl_toB W ay L3 cy L2 (by omega)
                    have hcy' : (L2 : Int) ≤ (cy : Int) := by omega
                    have eB : decide (N2 = N3.take L2) = decide (m3 = m2) := by
                      rw [Bool.eq_iff_iff, decide_eq_true_eq, decide_eq_true_eq, ← unhide Hpre]
                      exact ⟨fun h => ⟨hle, h⟩, fun h => h.2⟩
                    rw [eB] at HBy
                    clear ry hlt eB RX OY Hpre HL2 HL3 HN2 HN3
                    by_cases hmm : m3 = m2
                    · subst hmm
                      rw [decide_eq_true rfl] at HBy
                      go_wp2_with fail
                      refine (unhide HBy).mono ?_
                      rintro r W13 ⟨rfl, k13, hW13⟩
                      have B13 : Hid (Below X.heap.size X W13) := by rw [hW13]; exact hide (bdrew (unhide B12) k13)
                      clear HBy hW13 hsl
                      go_wp2_with fail
                      refine (unhide HKn _).mono ?_
                      rintro r W14 ⟨rfl, hb14⟩
                      go_wp2
                      go_ret
                      exact ⟨rfl, bnext (unhide B13) hb14⟩
                    · rw [decide_eq_false hmm] at HBy
                      have hmb : ((m3 : Int) == (m2 : Int)) = false := by simp; omega
                      have hmi : ¬ (m3 : Int) = (m2 : Int) := by omega
                      go_wp2_with fail
                      refine (unhide HBy).mono ?_
                      rintro r W13 ⟨rfl, k13, hW13⟩
                      have B13 : Hid (Below X.heap.size X W13) := by rw [hW13]; exact hide (bdrew (unhide B12) k13)
                      clear HBy hW13 hsl
                      go_wp2_with fail
                      refine (unhide HKn _).mono ?_
                      rintro r W14 ⟨rfl, hb14⟩
                      go_wp2
                      go_ret
                      exact ⟨rfl, bnext (unhide B13) hb14⟩
                  · have hle' : ¬ (L2 : Int) ≤ (L3 : Int) := by omega
                    have hmm : ¬ m3 = m2 := fun h => hle (unhide Hpre |>.2 h).1
                    have hmb : ((m3 : Int) == (m2 : Int)) = false := by simp; omega
                    have hmi : ¬ (m3 : Int) = (m2 : Int) := by omega
                    clear RX OY Hpre HL2 HL3 HN2 HN3
                    go_wp2_with fail
                    refine (unhide HKn _).mono ?_
                    rintro r W14 ⟨rfl, hb14⟩
                    go_wp2
                    go_ret
                    exact ⟨rfl, bnext (unhide B12) hb14⟩

theorem own : ownKnob Try.prog.godebug = none := by kernel_rfl
theorem laidOut2 : laidOutB Try.prog = true := by kernel_rfl

set_option maxRecDepth 100000 in
theorem lifted (os : Os) (started : os.Started) (H : Type) (enc : TypeId × Value → H) :
    ReturnsInHanded {} Try.checked os 8 .any (Rows.stampBackSpec.pre6 enc Try.prog Try.f8 Rows.stampBackRow.domain false) (Rows.stampBackSpec.post enc Try.prog Try.f8 false true false false) := by
  refine returnsInHanded_of_change (C := Try.checked) own started (by kernel_rfl) Try.func8
    (ChangeSpec.witness6 (enc := enc) (C := Try.checked) false ⟨#[], #[.slice none 0 0, .slice none 0 0, .int .i64 0, .int .i64 0], []⟩ 8 (by kernel_rfl) (by kernel_rfl) (by kernel_rfl) (by kernel_rfl)) ?_
  intro W base args ds gs before hval0 hW hcnd _
  have hval : ∀ (j : Nat) t v, Try.f8.params[j]? = some t → args[j]? = some v → Value.okWide Try.prog W .any base t v := hval0
  have hW' := hW
  obtain ⟨p, q, hA0, hV, rfl, hfz, hnd⟩ := hW
  have hA : DataW.TrodAll enc Try.prog W 0 (fun _ => true) true Try.f8.params.toList args.toList ds p := hA0
  rw [Try.params8] at hA hval
  obtain ⟨v0, vs0, d0, ds0, p0, q0, hargs, rfl, rfl, h0, r0⟩ := trodAll_cons hA
  obtain ⟨v1, vs1, d1, ds1, p1, q1, rfl, rfl, rfl, h1, r1⟩ := trodAll_cons r0
  obtain ⟨v2, vs2, d2, ds2, p2, q2, rfl, rfl, rfl, h2, r2⟩ := trodAll_cons r1
  obtain ⟨v3, vs3, d3, ds3, p3, q3, rfl, rfl, rfl, h3, r3⟩ := trodAll_cons r2
  obtain ⟨rfl, rfl, rfl⟩ := trodAll_nil r3
  obtain rfl : args = #[v0, v1, v2, v3] := by cases args; simp_all
  obtain ⟨rfl, rfl⟩ := trodVars_none hV
  obtain ⟨a0, len0, cap0, rfl⟩ := okWide_slice Try.underlying42 (hval 0 42 v0 rfl rfl)
  have k0 := h0
  have lt0 : ∀ x ∈ p0, x.block < W.heap.size := by obtain ⟨m, hm⟩ := k0; exact DataW.trod_lt m _ _ _ hm
  obtain ⟨z0, w0⟩ : ∃ l : List (Bool × Int × ByteArray), RT W (.slice a0 len0 cap0) l ∧ l.length = len0 ∧ len0 ≤ maxLen ∧ ∀ e ∈ l, itemIn e := by
    obtain ⟨fuel, hf⟩ := h0
    simp only [Value.cells] at hf
    exact open_items hf
  obtain ⟨a1, len1, cap1, rfl⟩ := okWide_slice Try.underlying41 (hval 1 41 v1 rfl rfl)
  have k1 := h1
  have lt1 : ∀ x ∈ p1, x.block < W.heap.size := by obtain ⟨m, hm⟩ := k1; exact DataW.trod_lt m _ _ _ hm
  obtain ⟨z1, w1⟩ : ∃ l : List Nat, RC W (.slice a1 len1 cap1) l.length (bC l) ∧ l.length = len1 ∧ len1 ≤ maxLen ∧ ∀ e ∈ l, e < 256 := by
    obtain ⟨fuel, hf⟩ := h1
    simp only [Value.cells] at hf
    exact open_bytes hf
  obtain ⟨a2, rfl, rfl, rfl, w2⟩ := open_int Try.underlying3 (hval 2 3 v2 rfl rfl) h2
  obtain ⟨a3, rfl, rfl, rfl, w3⟩ := open_int Try.underlying3 (hval 3 3 v3 rfl rfl) h3
  clear hA0 hval0
  refine (walk a0 len0 cap0 z0 a1 len1 cap1 z1 a2 a3 W w0 w1 w2 w3).mono fun e W' ⟨he, bel⟩ => ?_
  subst he
  exact ⟨_, rfl, _, _, _, [], _, [], hW', trodAll_mk1 (shut_bool Try.underlying4 _), (trodAll_cons_mk (Below.trod laidOut2 (by kernel_rfl) (of_decide_eq_true (by kernel_rfl)) k0 bel lt0) (trodAll_cons_mk (Below.trod laidOut2 (by kernel_rfl) (of_decide_eq_true (by kernel_rfl)) k1 bel lt1) (trodAll_cons_mk (shut_int Try.underlying3 w2) (trodAll_cons_mk (shut_int Try.underlying3 w3) trodAll_mk0)))), rfl, bel.frame _, fun h => by cases h⟩

theorem over : Rows.stampBackRow.holds Try.pinned (OpenSpec.ofChange Rows.stampBackSpec) :=
  OpenClaim.holds_of_wide 8 Try.f8 rfl rfl rfl rfl rfl rfl rfl ⟨rfl, rfl, rfl, rfl, rfl⟩ rfl rfl rfl rfl rfl (by kernel_rfl) Try.func8 (by kernel_rfl)
    (of_decide_eq_true (by kernel_rfl)) (by unfold Func.isWrapper; first | (rw [if_pos (by decide +kernel)]; kernel_rfl) | (rw [if_neg (by decide +kernel)]; exact ⟨rfl, rfl⟩))
    (fun os started H enc _ => lifted os started H enc)

end LStampBack

theorem stampBack_holds : Rows.StampBackSaid := LStampBack.over

end Go.Proofs.Ytoflfgoflpnacaa
