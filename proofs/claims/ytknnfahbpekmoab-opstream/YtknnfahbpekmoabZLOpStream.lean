/-
  Chapter 8's law OpStream returns true for every row of operations, and leaves its argument as it was; no condition.
-/
import Derived.Test.YtknnfahbpekmoabRows
import Derived.WalkKit
import Derived.ProofKit
import Derived.OpenShut
import Derived.ShutString
import Derived.ChangeOld
import Derived.Below
import Derived.Test.YtknnfahbpekmoabZQ4
import Derived.Test.YtknnfahbpekmoabZSR
import Derived.Test.YtknnfahbpekmoabZXReg
set_option linter.unusedVariables false
set_option linter.unusedSimpArgs false
namespace Go.Proofs.Ytknnfahbpekmoab
namespace LOpStream
open Go.ChangeShapes Go.WideShapes Go.ChangeAt Go.RowKit Go.Lib
open Go.ChangeMaps (open_string shut_string)

/-- the eleven cells of an operation in a row -/
theorem RO.cells {W : World} {b off n c : Nat} {l : List (Opn × Value × Value)} (h : RO W (.slice (some ⟨b, off, none⟩) n c) l) {i : Nat} {e : Opn × Value × Value} (hi : l[i]? = some e) :
    W.cell? ⟨b, off + i * 11, none⟩ = some (.int .i64 e.1.ds) ∧ W.cell? ⟨b, off + i * 11 + 1, none⟩ = some (.int .i64 e.1.dq) ∧ W.cell? ⟨b, off + i * 11 + 2, none⟩ = some e.2.1 ∧ W.cell? ⟨b, off + i * 11 + 3, none⟩ = some (.int .i64 e.1.kind) ∧ W.cell? ⟨b, off + i * 11 + 4, none⟩ = some (.int .i64 e.1.it) ∧ W.cell? ⟨b, off + i * 11 + 5, none⟩ = some (.int .i64 e.1.is) ∧ W.cell? ⟨b, off + i * 11 + 6, none⟩ = some (.int .i64 e.1.rt) ∧ W.cell? ⟨b, off + i * 11 + 7, none⟩ = some (.int .i64 e.1.rs) ∧ W.cell? ⟨b, off + i * 11 + 8, none⟩ = some (.string e.1.text) ∧ W.cell? ⟨b, off + i * 11 + 9, none⟩ = some e.2.2 ∧ W.cell? ⟨b, off + i * 11 + 10, none⟩ = some (.int .i64 e.1.site) := by
  obtain ⟨b', off', e', _, h3⟩ := RO.at h hi
  simp only [Option.some.injEq, Addr.mk.injEq, and_true] at e'
  obtain ⟨rfl, rfl⟩ := e'
  exact ⟨h3 0 _ rfl, h3 1 _ rfl, h3 2 _ rfl, h3 3 _ rfl, h3 4 _ rfl, h3 5 _ rfl, h3 6 _ rfl, h3 7 _ rfl, h3 8 _ rfl, h3 9 _ rfl, h3 10 _ rfl⟩
theorem long_no {o : Opn} (h : longO o = false) : o.deps.length ≤ 3000 ∧ o.gone.length ≤ 3000 ∧ o.text.size ≤ 60000 := by
  unfold longO at h
  simp at h
  omega
theorem putO_no {o : Opn} (h : okO o = false) (st : List Nat × Int) : putO st o = st := by unfold putO; rw [h]; rfl

theorem numF_byte : ∀ (f n : Nat), n < 128 ^ (f + 1) → ∀ b ∈ numF f n, b < 256
  | 0, n, h => by
    intro b hb
    simp only [Nat.zero_add, Nat.pow_one] at h
    rw [numF] at hb
    simp at hb
    omega
  | f + 1, n, h => by
    intro b hb
    rw [numF] at hb
    split at hb
    · simp at hb; omega
    · rcases List.mem_cons.1 hb with rfl | hb
      · omega
      · exact numF_byte f (n / 128) (Nat.div_lt_of_lt_mul (by rw [Nat.mul_comm, ← Nat.pow_succ]; exact h)) b hb
theorem num_byte {n : Nat} (h : n < 9223372036854775808) : ∀ b ∈ num n, b < 256 := numF_byte 10 n (by
  have : (128 : Nat) ^ 11 = 151115727451828646838272 := by decide
  omega)
theorem sB_byte (t : ByteArray) : ∀ b ∈ sB t, b < 256 := by
  intro b hb
  unfold sB at hb
  obtain ⟨x, _, rfl⟩ := List.mem_map.1 hb
  exact x.toNat_lt
theorem pb_byte (d : List (Int × Int)) (h : chk d = 0) : ∀ b ∈ pb d, b < 256 := by
  intro b hb
  unfold pb at hb
  obtain ⟨x, hx, hb⟩ := List.mem_flatMap.1 hb
  have hv := vec_of_chk h
  rw [← hv] at hx
  have := vec_in (sy_good d) hx
  rcases List.mem_append.1 hb with hb | hb
  · exact num_byte (by omega) b hb
  · exact num_byte (by omega) b hb
theorem gb_byte (g : List ((Int × Int) × Int)) (h : ∀ r ∈ g, isR r = true) : ∀ b ∈ gb g, b < 256 := by
  intro b hb
  unfold gb at hb
  obtain ⟨r, hr, hb⟩ := List.mem_flatMap.1 hb
  have := isR_full (h r hr)
  rcases List.mem_append.1 hb with hb | hb
  · exact num_byte (by omega) b hb
  · rcases List.mem_append.1 hb with hb | hb
    · exact num_byte (by omega) b hb
    · exact num_byte (by omega) b hb
theorem ob_byte {o : Opn} (h : okO o = true) (ht : o.text.size < 9223372036854775808) (hd : o.deps.length < 9223372036854775808) : ∀ b ∈ ob o, b < 256 := by
  have k := OkN.of h
  have hk := k.kind
  have h1 := k.ds
  have h2 := k.dq
  intro b hb
  unfold ob at hb
  simp only [List.mem_append] at hb
  rcases hb with hb | hb | hb | (hb | hb) | hb
  · exact num_byte (by omega) b hb
  · exact num_byte (by omega) b hb
  · exact num_byte (by omega) b hb
  · exact num_byte hd b hb
  · exact pb_byte _ k.deps b hb
  · unfold kb at hb
    split at hb
    · rename_i e
      obtain ⟨_, i1, i2, i3, _⟩ := k.ins e
      simp only [List.mem_append] at hb
      rcases hb with hb | hb | hb | hb | hb
      · exact num_byte (by omega) b hb
      · exact num_byte (by omega) b hb
      · exact num_byte (by omega) b hb
      · exact num_byte ht b hb
      · exact sB_byte _ b hb
    · split at hb
      · rename_i e
        obtain ⟨_, _, _, _, _, _, i7, i8⟩ := k.del e
        rcases List.mem_append.1 hb with hb | hb
        · exact num_byte (by omega) b hb
        · exact gb_byte _ i8 b hb
      · split at hb
        · rename_i e
          obtain ⟨_, _, _, _, _, _, i7, i8⟩ := k.join e
          exact num_byte (by omega) b hb
        · cases hb

theorem obs_byte {ks : List (Opn × Value × Value)} (h : ∀ e ∈ ks, okO e.1 = true ∧ longO e.1 = false) : ∀ b ∈ obs ks, b < 256 := by
  intro b hb
  obtain ⟨e, he, hb⟩ := List.mem_flatMap.1 hb
  obtain ⟨h1, h2⟩ := h e he
  have := long_no h2
  exact ob_byte h1 (by omega) (by omega) b hb
theorem StS.app {w W W' : World} {p : Nat} {wv kv kv' : Value} {ks ks' : List (Opn × Value × Value)} (hw : Wr W p wv (obs ks') 0) (k1 : W.ownsRow (p + 1) 38 11 kv ks.length (flat encO ks)) (k2 : Below w.heap.size w W) (k3 : ∀ k, kv.ownBlock = some k → wv.ownBlock ≠ some k) (hle : w.heap.size ≤ p)
    (ho : W'.ownsRow (p + 1) 38 11 kv' ks'.length (flat encO ks')) (hg : W.grownBy W' kv.ownBlock) (ha : kv'.ownBlock = kv.ownBlock ∨ kv'.ownBlock = some W.heap.size) : StS w W' p wv kv' ks' := by
  have hk := Kp.of_grown (N := fun k => kv.ownBlock = some k) hg (fun k h => h)
  refine ⟨hw.kp hk (fun e => by have := (k1.lt p e).1; omega) (fun i hi e => k3 i e hi), ho, hk.below k2 (fun i e => by have := (k1.lt i e).1; omega), fun k hk' e => ?_, hle⟩
  rcases ha with h | h
  · exact k3 k (by rw [← h]; exact hk') e
  · rw [h] at hk'
    cases hk'
    have := (hw.row.lt _ e).2
    omega

set_option maxRecDepth 100000 in
set_option maxHeartbeats 2000000 in
theorem walk (a0 : Option Addr) (len0 cap0 : Nat) (z : List (Opn × Value × Value)) (w : World) (w0 : RO w (.slice a0 len0 cap0) z ∧ z.length = len0 ∧ len0 ≤ maxLen ∧ ∀ e ∈ z, ElW w e) :
    Calls Try.prog 3 #[.slice a0 len0 cap0] w fun e W => e = .returned (.bool true) ∧ Below w.heap.size w W := by
  obtain ⟨r0, e0, m0, hz0⟩ := w0
  unfold maxLen at m0
  have HK := hide (fun W => known_in W)
  have HZ := hide hz0
  by_cases hl0 : 60 < len0
  · have hl0' : (60 : Int) < (len0 : Int) := by omega
    go_enter Try.func3, Try.ntmps3
    go_wp2_with fail
    refine (unhide HK _).mono ?_
    rintro r W1 ⟨rfl, hb⟩
    go_wp2
    go_ret
    exact ⟨rfl, hb⟩
  have hl0' : ¬ (60 : Int) < (len0 : Int) := by omega
  have HR := hide r0
  have E0 := hide e0
  obtain ⟨X, hX⟩ : ∃ X, w.alloc (.cells #[.slice none 0 0, .int .i64 0] 28) = X := ⟨_, rfl⟩
  have HW : Wr X w.heap.size (.slice none 0 0) [] 0 := by rw [← hX]; exact Wr.new w
  have HS : Hid (StS w X w.heap.size (.slice none 0 0) (.slice none 0 0) []) := hide ⟨HW, World.ownsRow_nil _ _ _ _, by rw [← hX]; exact ballc (Below.refl _ _) _, (fun k hk => by cases hk), Nat.le_refl _⟩
  clear HW r0 hz0 e0
  go_enter Try.func3, Try.ntmps3
  go_wp2_with fail
  clear hX
  go_loopw [4, 5] (fun kv iv wr => ∃ (i : Nat) (ks : List (Opn × Value × Value)) (wv : Value), iv = .int .i64 (i : Nat) ∧ i ≤ len0 ∧ ks.length ≤ i ∧ Hid ((obs ks).length ≤ i * 102000) ∧ Hid (StS w wr w.heap.size wv kv ks) ∧ Hid (∀ e ∈ ks, okO e.1 = true ∧ longO e.1 = false ∧ ElW w e)) (fun _ iv _ => len0 - (Lib.intOf iv).toNat)
  case atStart => exact ⟨0, [], _, rfl, by omega, by simp, hide (by simp [obs]), HS, hide (fun e he => by cases he)⟩
  case round =>
    clear HS
    obtain ⟨i, ks, wv, rfl, hin, hks, hob, hS, hA⟩ := hrel
    by_cases hi : i < len0
    · have i1 : (i : Int) < (len0 : Int) := by omega
      obtain ⟨e, he⟩ : ∃ e, z[i]? = some e := ⟨_, List.getElem?_eq_getElem (by have := unhide E0; omega)⟩
      have hel := unhide HZ e (List.mem_of_getElem? he)
      obtain ⟨b, off, ha, hbl, _⟩ := RO.at (unhide HR) he
      subst ha
      obtain ⟨o, vd, vg⟩ := e
      obtain ⟨ad, cd, hvd⟩ := hel.vd
      obtain ⟨ag, cg, hvg⟩ := hel.vg
      simp only at hvd hvg
      subst hvd hvg
      have Hel := hide hel
      have HC := hide (fun (W : World) (hb : Below w.heap.size w W) => RO.cells (RC.below (unhide HR) hb) he)
      simp only at HC
      have B0 := hide (unhide hS).bel
      obtain ⟨x0, x1, x2, x3, x4, x5, x6, x7, x8, x9, x10⟩ := unhide HC wr (unhide B0)
      have HL := hide (long_in o ad ag cd cg wr hel.inn.text)
      obtain ⟨lo, hlo⟩ : ∃ b, longO o = b := ⟨_, rfl⟩
      rw [hlo] at HL
      replace hlo := hide hlo
      unfold opA at HL
      clear hel
      have bl : b < wr.heap.size := Nat.lt_of_lt_of_le hbl (unhide B0).size
      go_wp2_with fail
      refine (unhide HL).mono ?_
      rintro r W1 ⟨rfl, hb⟩
      clear HL x0 x1 x2 x3 x4 x5 x6 x7 x8 x9 x10
      cases lo
      rotate_left
      · go_wp2_with fail
        refine (unhide HK _).mono ?_
        rintro r W2 ⟨rfl, hb2⟩
        go_wp2
        go_ret
        exact ⟨rfl, bnext (bnext (unhide B0) hb) hb2⟩
      have hn := long_no (unhide hlo)
      have S1 := hide ((unhide hS).below hb)
      have B1 := hide (unhide S1).bel
      obtain ⟨x0, x1, x2, x3, x4, x5, x6, x7, x8, x9, x10⟩ := unhide HC W1 (unhide B1)
      have hinn : InA o := (unhide Hel).inn
      have hin1 : InO o := hinn.fit (by omega) (by omega) (by omega)
      have HIn := hide hin1
      have hx1 : ∀ k, rb (.slice ad o.deps.length cd) o.deps.length k → ¬ wOwn w.heap.size wv k ∧ k < W1.heap.size := fun k hk => by
        have h1 := RC.rlt (unhide Hel).rd k (by simpa [rb] using hk)
        have h2 := (unhide B1).size
        refine ⟨fun e => ?_, by omega⟩
        rcases e with e | e
        · omega
        · have := ((unhide S1).wr.row.lt k e).1; omega
      have hx2 : ∀ k, rb (.slice ag o.gone.length cg) o.gone.length k → ¬ wOwn w.heap.size wv k ∧ k < W1.heap.size := fun k hk => by
        have h1 := RC.rlt (unhide Hel).rg k (by simpa [rb] using hk)
        have h2 := (unhide B1).size
        refine ⟨fun e => ?_, by omega⟩
        rcases e with e | e
        · omega
        · have := ((unhide S1).wr.row.lt k e).1; omega
      have HP := hide (OPut_in (st := (obs ks, 0)) o hin1 (unhide S1).wr ((unhide Hel).rd.below (unhide B1)) (RC.below (unhide Hel).rg (unhide B1)) (by omega) (Nat.le_trans (unhide hob) (Nat.le_trans (Nat.mul_le_mul_right _ (by omega : i ≤ 60)) (by decide))) hx1 hx2)
      unfold opA at HP
      have bl1 : b < W1.heap.size := Nat.lt_of_lt_of_le hbl (unhide B1).size
      clear hb hS hx1 hx2 hin1 hinn
      go_wp2_with fail
      refine (unhide HP).mono ?_
      rintro r W2 ⟨rfl, wv2, hw2, hk2, ho2⟩
      clear HP x0 x1 x2 x3 x4 x5 x6 x7 x8 x9 x10
      have hpl := putO_len (obs ks, 0) o
      cases hok : okO o
      · rw [putO_no hok] at hw2
        obtain ⟨k1, k2, k3⟩ := (unhide S1).put hw2 hk2 ho2
        have S2 : Hid (StS w W2 w.heap.size wv2 u4 ks) := hide ⟨hw2, k1, k2, k3, Nat.le_refl _⟩
        have B2 := hide k2
        obtain ⟨x0, x1, x2, x3, x4, x5, x6, x7, x8, x9, x10⟩ := unhide HC W2 k2
        have HQ := hide (OCheck_in o _ _ W2 ((unhide Hel).rd.below k2) (RC.below (unhide Hel).rg k2) (unhide HIn))
        have hck : chkO o = 10 := by unfold chkO; rw [hok]; rfl
        rw [hck] at HQ
        unfold opA at HQ
        have bl2 : b < W2.heap.size := Nat.lt_of_lt_of_le hbl k2.size
        clear hw2 hk2 ho2 k1 k2 k3 hok hck hpl
        go_wp2_with fail
        refine (unhide HQ).mono ?_
        rintro r W3 ⟨rfl, hb⟩
        have S3 := hide ((unhide S2).below hb)
        clear HQ x0 x1 x2 x3 x4 x5 x6 x7 x8 x9 x10 hb
        go_wp2
        go_roundw
        case measure => show len0 - ((i : Int) + 1).toNat < len0 - ((i : Nat) : Int).toNat; omega
        case rel => exact ⟨i + 1, ks, wv2, by go_num, by omega, by omega, hide (Nat.le_trans (unhide hob) (Nat.mul_le_mul_right _ (Nat.le_succ i))), S3, hA⟩
      · rw [putO_ob hok] at hw2
        simp only at hw2
        rw [← obs_snoc ks (o, .slice ad o.deps.length cd, .slice ag o.gone.length cg)] at hw2
        rw [putO_ob hok] at hpl
        simp only at hpl
        rw [← obs_snoc ks (o, .slice ad o.deps.length cd, .slice ag o.gone.length cg)] at hpl
        obtain ⟨k1, k2, k3⟩ := (unhide S1).put hw2 hk2 ho2
        obtain ⟨x0, x1, x2, x3, x4, x5, x6, x7, x8, x9, x10⟩ := unhide HC W2 k2
        have HQ := hide (OCheck_in o _ _ W2 ((unhide Hel).rd.below k2) (RC.below (unhide Hel).rg k2) (unhide HIn))
        have hck : chkO o = 0 := by unfold chkO; rw [hok]; rfl
        rw [hck] at HQ
        unfold opA at HQ
        have bl2 : b < W2.heap.size := Nat.lt_of_lt_of_le hbl k2.size
        have Hw2 := hide hw2
        have K1 := hide k1
        have K2 := hide k2
        have K3 := hide k3
        have Hok := hide hok
        have Hpl := hide hpl
        clear hw2 hk2 ho2 k1 k2 k3 hok hck hpl
        go_wp2_with fail
        refine (unhide HQ).mono ?_
        rintro r W3 ⟨rfl, hb⟩
        replace K2 := hide (bnext (unhide K2) hb)
        obtain ⟨Y, hY⟩ : ∃ Y, W3.alloc (.cells #[.int .i64 o.ds, .int .i64 o.dq, .slice ad o.deps.length cd, .int .i64 o.kind, .int .i64 o.it, .int .i64 o.is, .int .i64 o.rt, .int .i64 o.rs, .string o.text, .slice ag o.gone.length cg, .int .i64 o.site] 38) = Y := ⟨_, rfl⟩
        have bY : Below W3.heap.size W3 Y := by rw [← hY]; exact ballc (Below.refl _ _) _
        have HB : Bx Y W3.heap.size 38 (encO (o, .slice ad o.deps.length cd, .slice ag o.gone.length cg)).toArray := by rw [← hY]; exact Bx.new W3 _ _
        have hw4 := ((unhide Hw2).below hb).below bY
        have k4 := owns_kp (N := fun _ => False) (owns_kp (N := fun _ => False) (unhide K1) (Kp.of_below hb) (fun _ _ e => e)) (Kp.of_below bY) (fun _ _ e => e)
        have k5 := bnext (unhide K2) bY
        obtain ⟨kv', W4, hap, hown, hgr, hat⟩ := append_op Y 22 (w.heap.size + 1) _ ks (o, .slice ad o.deps.length cd, .slice ag o.gone.length cg) W3.heap.size k4 HB (unhide Hel).one (by have := hw4.box.lt; omega) (by omega)
        have S4 := hide (StS.app hw4 k4 k5 (unhide K3) (Nat.le_refl _) hown hgr hat)
        have Hap := hide hap
        obtain ⟨x0, x1, x2, x3, x4, x5, x6, x7, x8, x9, x10⟩ := unhide HC W3 (unhide K2)
        have bl3 : b < W3.heap.size := Nat.lt_of_lt_of_le hbl (unhide K2).size
        clear HQ hb hap hown hgr hat k4 k5 hw4 HB bY
        go_wp2_with (at_builtin; refine wpList_append_eq rfl _ _ 22 rfl _ _ _ _ rfl rfl (unhide Hap) ?_)
        go_roundw
        case measure => show len0 - ((i : Int) + 1).toNat < len0 - ((i : Nat) : Int).toNat; omega
        case rel => exact ⟨i + 1, _, wv2, by go_num, by omega, by simp; omega, hide (by have h1 := unhide hob; have h2 := unhide Hpl; rw [Nat.succ_mul]; generalize i * 102000 = q at h1 ⊢; omega), S4, hide (fun e he' => by
          rcases List.mem_append.1 he' with h | h
          · exact unhide hA e h
          · simp at h
            subst h
            exact ⟨unhide Hok, unhide hlo, unhide Hel⟩)⟩
    · have hie : ¬ (i : Int) < (len0 : Int) := by omega
      have hob2 : (obs ks).length ≤ 10000000 := Nat.le_trans (unhide hob) (Nat.le_trans (Nat.mul_le_mul_right _ (by omega : i ≤ 60)) (by decide))
      have HD := hide (wData_in (unhide hS).wr (by omega))
      obtain ⟨ak, ck, hkv⟩ := owns_form (unhide hS).kr
      subst hkv
      have Hby := hide (obs_byte (fun e he => ⟨(unhide hA e he).1, (unhide hA e he).2.1⟩))
      go_wp2_with fail
      refine (unhide HD).mono ?_
      rintro r W1 ⟨v1, rfl, ho1, hb1⟩
      have HR2 := hide (rReadL_in W1 v1 (obs ks) (RC.of_owns ho1) (unhide Hby) (by omega))
      have S1 := hide ((unhide hS).below hb1)
      clear HD ho1 hb1 hS
      go_wp2_with fail
      refine (unhide HR2).mono ?_
      rintro r W2 ⟨p2, v2, rfl, hr2, hb2, hp2, hv2⟩
      have R2 := hide hr2
      have V2 : Hid (∀ j, v2.ownBlock = some j → j < W2.heap.size) := hide (fun j hj => (hv2 j hj).2)
      have B2 := hide hb2
      have P2 := hide hp2
      obtain ⟨N, hN⟩ : ∃ N, ks.length = N := ⟨_, rfl⟩
      have hN60 : N ≤ 60 := by omega
      rw [hN]
      replace hN := hide hN
      clear HR2 hr2 hb2 hp2 hv2
      go_wp2_with fail
      go_loopw [7] (fun iv wq => ∃ (k : Nat) (v : Value), iv = .int .i64 (k : Nat) ∧ k ≤ N ∧ Hid (Rd wq p2 v (obs (ks.drop k)) 0) ∧ Hid (∀ j, v.ownBlock = some j → j < wq.heap.size) ∧ Hid (Below W1.heap.size W1 wq)) (fun iv _ => N - (Lib.intOf iv).toNat)
      case atStart => exact ⟨0, v2, rfl, by omega, R2, V2, B2⟩
      case round =>
        clear R2 V2 B2
        obtain ⟨k, v, rfl, hk, hrd, hvl, hB⟩ := hrel
        by_cases hkN : k < N
        · have k1 : (k : Int) < (N : Int) := by omega
          have hkl : k < ks.length := by have := unhide hN; omega
          obtain ⟨e, he, hdr⟩ : ∃ e, ks[k]? = some e ∧ ks.drop k = e :: ks.drop (k + 1) := ⟨_, List.getElem?_eq_getElem hkl, List.drop_eq_getElem_cons hkl⟩
          have hobs : obs (ks.drop k) = ob e.1 ++ obs (ks.drop (k + 1)) := by rw [hdr]; simp [obs]
          obtain ⟨hok, hlo, hel⟩ := unhide hA e (List.mem_of_getElem? he)
          obtain ⟨o, vd, vg⟩ := e
          obtain ⟨ad, cd, hvd⟩ := hel.vd
          obtain ⟨ag, cg, hvg⟩ := hel.vg
          simp only at hvd hvg hobs hok hlo
          subst hvd hvg
          have hn := long_no hlo
          have HT := hide (OTake_in (st := (obs (ks.drop k), 0)) (unhide hrd) (unhide hvl))
          rw [hobs, takeO_back hok (by omega)] at HT
          simp only at HT
          unfold opA at HT
          have He := hide he
          have Hel := hide hel
          clear hdr hobs hok hlo he hel hkl
          go_wp2_with fail
          refine (unhide HT).mono ?_
          rintro r W3 ⟨vd3, vg3, rfl, hod, hog, hne, v3, hr3, hk3, hv3⟩
          obtain ⟨ae, ce, rfl⟩ := OwD.form hod
          obtain ⟨af, cf, rfl⟩ := OwR.form hog
          obtain ⟨Y, hY⟩ : ∃ Y, W3.alloc (.cells #[.int .i64 o.ds, .int .i64 o.dq, .slice ae o.deps.length ce, .int .i64 o.kind, .int .i64 o.it, .int .i64 o.is, .int .i64 o.rt, .int .i64 o.rs, .string o.text, .slice af o.gone.length cf, .int .i64 o.site] 38) = Y := ⟨_, rfl⟩
          have bY : Below W3.heap.size W3 Y := by rw [← hY]; exact ballc (Below.refl _ _) _
          have HZ2 : Hid (Bx Y W3.heap.size 38 #[.int .i64 o.ds, .int .i64 o.dq, .slice ae o.deps.length ce, .int .i64 o.kind, .int .i64 o.it, .int .i64 o.is, .int .i64 o.rt, .int .i64 o.rs, .string o.text, .slice af o.gone.length cf, .int .i64 o.site]) := by rw [← hY]; exact Bx.new W3 _ _
          have B3 : Below W1.heap.size W1 W3 := hk3.below (unhide hB) (fun i e => by have := unhide P2; omega)
          have BY := hide (bnext B3 bY)
          have SY := (unhide S1).below (unhide BY)
          have RdY := hide (hr3.below bY)
          have V3 : Hid (∀ j, v3.ownBlock = some j → j < Y.heap.size) := hide (fun j hj => by
            have h1 := unhide hvl j (by rw [← hv3]; exact hj)
            have h2 := hk3.size
            have h3 := bY.size
            omega)
          have HSm : Hid (∀ W, Below Y.heap.size Y W → Calls Try.prog 13 #[opA o (.slice ae o.deps.length ce) (.slice af o.gone.length cf), opA o (.slice ad o.deps.length cd) (.slice ag o.gone.length cg)] W fun e W' => e = .returned (.bool true) ∧ Below W.heap.size W W') := hide (fun W hb => by
            have q := same_in o o (.slice ae o.deps.length ce) (.slice af o.gone.length cf) (.slice ad o.deps.length cd) (.slice ag o.gone.length cg) W (((OwD.row hod).below bY).below hb) (RC.below (RC.below (OwR.row hog) bY) hb) ((unhide Hel).rd.below (bnext SY.bel hb)) (RC.below (unhide Hel).rg (bnext SY.bel hb)) (by omega) (by omega)
            rwa [(sameB_iff o o).2 rfl] at q)
          unfold opA at HSm
          obtain ⟨g, hgk, hkc⟩ : ∃ g, ak = some ⟨g, 0, none⟩ ∧ N ≤ ck := by
            have hNN := unhide hN
            rcases SY.kr.2 with ⟨e, e2⟩ | ⟨g, cap, cur, e, _, _, h1, _⟩
            · omega
            · simp only [Value.slice.injEq] at e
              exact ⟨g, e.1, by omega⟩
          subst hgk
          have hro : RO Y (.slice (some ⟨g, 0, none⟩) ks.length ck) ks := RC.of_owns SY.kr
          have HCk := hide (fun (W : World) (hb : Below Y.heap.size Y W) => RO.cells (RC.below hro hb) (unhide He))
          simp only [Nat.zero_add] at HCk
          clear hod hog hne hr3 hk3 hv3 bY B3 SY hro HT
          go_wp2
          refine wp_region_any (by kernel_rfl) ?_
          change wpAny _ _ _ _ _ _ _ (World.drew _)
          refine region_invG 83 (fun j => 61 + j) ((0, (Value.slice a0 len0 cap0)) :: (1, undef) :: (2, u2) :: (3, (Value.pointer (some { block := w.heap.size, off := 0 }))) :: (4, (Value.slice (some { block := g, off := 0 }) N ck)) :: (5, (Value.int IntKind.i64 (i : Int))) :: (6, (Value.pointer (some { block := p2, off := 0 }))) :: (7, (Value.int IntKind.i64 (k : Int))) :: (8, (Value.pointer (some { block := W3.heap.size, off := 0 }))) :: (9, (Value.int IntKind.i64 0)) :: (10, (Value.slice a0 len0 cap0)) :: (11, (Value.int IntKind.i64 (len0 : Int))) :: (12, (Value.bool false)) :: (13, undef) :: (14, (Value.agg #[Value.slice none 0 0, Value.int IntKind.i64 0])) :: (15, (Value.pointer (some { block := w.heap.size, off := 0 }))) :: (16, (Value.int IntKind.i64 (i : Int))) :: (17, (Value.slice a0 len0 cap0)) :: (18, (Value.int IntKind.i64 (len0 : Int))) :: (19, (Value.bool false)) :: (20, u20) :: (21, u21) :: (22, u22) :: (23, u23) :: (24, u24) :: (25, u25) :: (26, u26) :: (27, u27) :: (28, u28) :: (29, u29) :: (30, u30) :: (31, u31) :: (32, u32) :: (33, u33) :: (34, u34) :: (35, u35) :: (36, u36) :: (37, u37) :: (38, u38) :: (39, u39) :: (40, u40) :: (41, u41) :: (42, u42) :: (43, u43) :: (44, u44) :: (45, u45) :: (46, u46) :: (47, (Value.pointer (some { block := w.heap.size, off := 0 }))) :: (48, v1) :: (49, (Value.pointer (some { block := p2, off := 0 }))) :: (50, (Value.int IntKind.i64 (k : Int))) :: (51, (Value.slice (some { block := g, off := 0 }) N ck)) :: (52, (Value.int IntKind.i64 (N : Int))) :: (53, (Value.bool true)) :: (54, u54) :: (55, u55) :: (56, (Value.tuple #[Value.agg #[Value.int IntKind.i64 o.ds, Value.int IntKind.i64 o.dq, Value.slice ae o.deps.length ce, Value.int IntKind.i64 o.kind, Value.int IntKind.i64 o.it, Value.int IntKind.i64 o.is, Value.int IntKind.i64 o.rt, Value.int IntKind.i64 o.rs, Value.string o.text, Value.slice af o.gone.length cf, Value.int IntKind.i64 o.site], Value.int IntKind.i64 0])) :: (57, (Value.pointer (some { block := p2, off := 0 }))) :: (58, (Value.tuple #[Value.agg #[Value.int IntKind.i64 o.ds, Value.int IntKind.i64 o.dq, Value.slice ae o.deps.length ce, Value.int IntKind.i64 o.kind, Value.int IntKind.i64 o.it, Value.int IntKind.i64 o.is, Value.int IntKind.i64 o.rt, Value.int IntKind.i64 o.rs, Value.string o.text, Value.slice af o.gone.length cf, Value.int IntKind.i64 o.site], Value.int IntKind.i64 0])) :: (59, (Value.agg #[Value.int IntKind.i64 o.ds, Value.int IntKind.i64 o.dq, Value.slice ae o.deps.length ce, Value.int IntKind.i64 o.kind, Value.int IntKind.i64 o.it, Value.int IntKind.i64 o.is, Value.int IntKind.i64 o.rt, Value.int IntKind.i64 o.rs, Value.string o.text, Value.slice af o.gone.length cf, Value.int IntKind.i64 o.site])) :: (60, (Value.int IntKind.i64 0)) :: (72, undef) :: (73, undef) :: (74, undef) :: (75, undef) :: (76, undef) :: (77, undef) :: (78, undef) :: (79, undef) :: (80, undef) :: (81, undef) :: (82, undef) :: [])
            (fun W => Below Y.heap.size Y W)
            (valsOf [isV (Value.int IntKind.i64 0), isV (.bool false), isV (.bool false), isV (.agg #[.int .i64 o.ds, .int .i64 o.dq, .slice ae o.deps.length ce, .int .i64 o.kind, .int .i64 o.it, .int .i64 o.is, .int .i64 o.rt, .int .i64 o.rs, .string o.text, .slice af o.gone.length cf, .int .i64 o.site]), isV (Value.slice (some { block := g, off := 0 }) N ck), isV (Value.int IntKind.i64 (k : Int)), isV (.pointer (some ⟨g, k * 11, none⟩)), isV (.agg #[.int .i64 o.ds, .int .i64 o.dq, .slice ad o.deps.length cd, .int .i64 o.kind, .int .i64 o.it, .int .i64 o.is, .int .i64 o.rt, .int .i64 o.rs, .string o.text, .slice ag o.gone.length cg, .int .i64 o.site]), isV (.bool true), isV (.bool false), isV (.bool false)])
            (fun w w' => Below w.heap.size w w') ?fit (fun w1 w2 h hG => h.trans (hG.mono h.size)) (valsOf_stable ?stable) (fun _ => true) [(2, false)] ?gs ?gv ?steps ?fin _ _ ?sz rfl ?base ?start
          case fit => kernel_rfl
          case sz => rfl
          case gs => kernel_rfl
          case gv => intro p hp w v hv; simp only [List.mem_cons, List.not_mem_nil, or_false] at hp; rcases hp with rfl <;> exact hv
          case base => intro p hp; repeat (first | (rcases List.mem_cons.1 hp with rfl | hp; · rfl) | cases hp)
          case stable => exact Stables.all (by repeat (first | exact .nil | refine .same ?_))
          case start => exact (Below.refl _ _).drew
          case steps =>
            refine .cons (fun ρ wz hρ hJ hb hd => by
              refine Eq.mpr (if_neg (by decide)) ?_
              have dd0 : ρ (.tmp 9) = (Value.int IntKind.i64 0) := hb (9, _) (List.mem_of_getElem? (i := 9) rfl)
              exact step_move (.tmp 9) rfl ⟨Below.refl _ _, dd0⟩) ?_
            refine .cons (fun ρ wz hρ hJ hb hd => by
              refine Eq.mpr (if_neg (by decide)) ?_
              have dd0 : ρ (.tmp 61) = (Value.int IntKind.i64 0) := hd 0 _ rfl rfl
              exact step_val (v := (.bool false)) (w' := wz) (by simp [go_sem, execOp, dd0, hρ.const, k1, hkc]) ⟨Below.refl _ _, rfl⟩) ?_
            refine .cons (fun ρ wz hρ hJ hb hd => by
              refine Eq.mpr (if_neg (by decide)) ?_
              have dd0 : ρ (.tmp 62) = (.bool false) := hd 0 _ rfl rfl
              exact step_move (.tmp 62) rfl ⟨Below.refl _ _, dd0⟩) ?_
            refine .cons (fun ρ wz hρ hJ hb hd => by
              refine Eq.mpr (if_neg (by decide)) ?_
              have dd0 : ρ (.tmp 8) = (Value.pointer (some { block := W3.heap.size, off := 0 })) := hb (8, _) (List.mem_of_getElem? (i := 8) rfl)
              have q := (unhide HZ2).below hJ
              obtain ⟨x0, x1, x2, x3, x4, x5, x6, x7, x8, x9, x10⟩ := cells_op q
              exact step_val (v := (.agg #[.int .i64 o.ds, .int .i64 o.dq, .slice ae o.deps.length ce, .int .i64 o.kind, .int .i64 o.it, .int .i64 o.is, .int .i64 o.rt, .int .i64 o.rs, .string o.text, .slice af o.gone.length cf, .int .i64 o.site])) (w' := wz) (by simp [go_sem, execOp, dd0, x0, x1, x2, x3, x4, x5, x6, x7, x8, x9, x10]) ⟨Below.refl _ _, rfl⟩) ?_
            refine .cons (fun ρ wz hρ hJ hb hd => by
              refine Eq.mpr (if_neg (by decide)) ?_
              have dd0 : ρ (.tmp 4) = (Value.slice (some { block := g, off := 0 }) N ck) := hb (4, _) (List.mem_of_getElem? (i := 4) rfl)
              exact step_move (.tmp 4) rfl ⟨Below.refl _ _, dd0⟩) ?_
            refine .cons (fun ρ wz hρ hJ hb hd => by
              refine Eq.mpr (if_neg (by decide)) ?_
              have dd0 : ρ (.tmp 7) = (Value.int IntKind.i64 (k : Int)) := hb (7, _) (List.mem_of_getElem? (i := 7) rfl)
              exact step_move (.tmp 7) rfl ⟨Below.refl _ _, dd0⟩) ?_
            refine .cons (fun ρ wz hρ hJ hb hd => by
              refine Eq.mpr (if_neg (by decide)) ?_
              have dd0 : ρ (.tmp 65) = (Value.slice (some { block := g, off := 0 }) N ck) := hd 0 _ rfl rfl
              have dd1 : ρ (.tmp 66) = (Value.int IntKind.i64 (k : Int)) := hd 1 _ rfl rfl
              exact step_val (v := (.pointer (some ⟨g, k * 11, none⟩))) (w' := wz) (by simp [go_sem, execOp, dd0, dd1, hρ.const, k1, hkc]) ⟨Below.refl _ _, rfl⟩) ?_
            refine .cons (fun ρ wz hρ hJ hb hd => by
              refine Eq.mpr (if_neg (by decide)) ?_
              have dd0 : ρ (.tmp 67) = (.pointer (some ⟨g, k * 11, none⟩)) := hd 0 _ rfl rfl
              obtain ⟨x0, x1, x2, x3, x4, x5, x6, x7, x8, x9, x10⟩ := unhide HCk wz hJ
              exact step_val (v := (.agg #[.int .i64 o.ds, .int .i64 o.dq, .slice ad o.deps.length cd, .int .i64 o.kind, .int .i64 o.it, .int .i64 o.is, .int .i64 o.rt, .int .i64 o.rs, .string o.text, .slice ag o.gone.length cg, .int .i64 o.site])) (w' := wz) (by simp [go_sem, execOp, dd0, x0, x1, x2, x3, x4, x5, x6, x7, x8, x9, x10]) ⟨Below.refl _ _, rfl⟩) ?_
            refine .cons (fun ρ wz hρ hJ hb hd => by
              refine Eq.mpr (if_neg (by decide)) ?_
              have dd0 : ρ (.tmp 64) = (.agg #[.int .i64 o.ds, .int .i64 o.dq, .slice ae o.deps.length ce, .int .i64 o.kind, .int .i64 o.it, .int .i64 o.is, .int .i64 o.rt, .int .i64 o.rs, .string o.text, .slice af o.gone.length cf, .int .i64 o.site]) := hd 0 _ rfl rfl
              have dd1 : ρ (.tmp 68) = (.agg #[.int .i64 o.ds, .int .i64 o.dq, .slice ad o.deps.length cd, .int .i64 o.kind, .int .i64 o.it, .int .i64 o.is, .int .i64 o.rt, .int .i64 o.rs, .string o.text, .slice ag o.gone.length cg, .int .i64 o.site]) := hd 1 _ rfl rfl
              refine step_func 13 _ _ #[.agg #[.int .i64 o.ds, .int .i64 o.dq, .slice ae o.deps.length ce, .int .i64 o.kind, .int .i64 o.it, .int .i64 o.is, .int .i64 o.rt, .int .i64 o.rs, .string o.text, .slice af o.gone.length cf, .int .i64 o.site], .agg #[.int .i64 o.ds, .int .i64 o.dq, .slice ad o.deps.length cd, .int .i64 o.kind, .int .i64 o.it, .int .i64 o.is, .int .i64 o.rt, .int .i64 o.rs, .string o.text, .slice ag o.gone.length cg, .int .i64 o.site]] hρ rfl (enters_of Try.func13 (by kernel_rfl) rfl) (by simp [dd0, dd1]) ?_
              refine (unhide HSm wz hJ).mono ?_
              rintro r W' ⟨rfl, hb2⟩
              exact ⟨_, rfl, hb2, rfl⟩) ?_
            refine .cons (fun ρ wz hρ hJ hb hd => by
              refine Eq.mpr (if_neg (by decide)) ?_
              have dd0 : ρ (.tmp 69) = (.bool true) := hd 0 _ rfl rfl
              exact step_val (v := (.bool false)) (w' := wz) (by simp [go_sem, execOp, dd0, hρ.const, k1, hkc]) ⟨Below.refl _ _, rfl⟩) ?_
            refine .cons (fun ρ wz hρ hJ hb hd => by
              refine Eq.mpr (if_neg (by decide)) ?_
              have dd0 : ρ (.tmp 63) = (.bool false) := hd 0 _ rfl rfl
              have dd1 : ρ (.tmp 70) = (.bool false) := hd 1 _ rfl rfl
              exact step_val (v := (.bool false)) (w' := wz) (by simp [go_sem, execOp, dd0, dd1, hρ.const, k1, hkc]) ⟨Below.refl _ _, rfl⟩) (.nil _)
          case fin =>
            intro aQ WQ hsz2 hds hb hJ hv
            obtain rfl := frame_of (((0, (Value.slice a0 len0 cap0)) :: (1, undef) :: (2, u2) :: (3, (Value.pointer (some { block := w.heap.size, off := 0 }))) :: (4, (Value.slice (some { block := g, off := 0 }) N ck)) :: (5, (Value.int IntKind.i64 (i : Int))) :: (6, (Value.pointer (some { block := p2, off := 0 }))) :: (7, (Value.int IntKind.i64 (k : Int))) :: (8, (Value.pointer (some { block := W3.heap.size, off := 0 }))) :: (9, (Value.int IntKind.i64 0)) :: (10, (Value.slice a0 len0 cap0)) :: (11, (Value.int IntKind.i64 (len0 : Int))) :: (12, (Value.bool false)) :: (13, undef) :: (14, (Value.agg #[Value.slice none 0 0, Value.int IntKind.i64 0])) :: (15, (Value.pointer (some { block := w.heap.size, off := 0 }))) :: (16, (Value.int IntKind.i64 (i : Int))) :: (17, (Value.slice a0 len0 cap0)) :: (18, (Value.int IntKind.i64 (len0 : Int))) :: (19, (Value.bool false)) :: (20, u20) :: (21, u21) :: (22, u22) :: (23, u23) :: (24, u24) :: (25, u25) :: (26, u26) :: (27, u27) :: (28, u28) :: (29, u29) :: (30, u30) :: (31, u31) :: (32, u32) :: (33, u33) :: (34, u34) :: (35, u35) :: (36, u36) :: (37, u37) :: (38, u38) :: (39, u39) :: (40, u40) :: (41, u41) :: (42, u42) :: (43, u43) :: (44, u44) :: (45, u45) :: (46, u46) :: (47, (Value.pointer (some { block := w.heap.size, off := 0 }))) :: (48, v1) :: (49, (Value.pointer (some { block := p2, off := 0 }))) :: (50, (Value.int IntKind.i64 (k : Int))) :: (51, (Value.slice (some { block := g, off := 0 }) N ck)) :: (52, (Value.int IntKind.i64 (N : Int))) :: (53, (Value.bool true)) :: (54, u54) :: (55, u55) :: (56, (Value.tuple #[Value.agg #[Value.int IntKind.i64 o.ds, Value.int IntKind.i64 o.dq, Value.slice ae o.deps.length ce, Value.int IntKind.i64 o.kind, Value.int IntKind.i64 o.it, Value.int IntKind.i64 o.is, Value.int IntKind.i64 o.rt, Value.int IntKind.i64 o.rs, Value.string o.text, Value.slice af o.gone.length cf, Value.int IntKind.i64 o.site], Value.int IntKind.i64 0])) :: (57, (Value.pointer (some { block := p2, off := 0 }))) :: (58, (Value.tuple #[Value.agg #[Value.int IntKind.i64 o.ds, Value.int IntKind.i64 o.dq, Value.slice ae o.deps.length ce, Value.int IntKind.i64 o.kind, Value.int IntKind.i64 o.it, Value.int IntKind.i64 o.is, Value.int IntKind.i64 o.rt, Value.int IntKind.i64 o.rs, Value.string o.text, Value.slice af o.gone.length cf, Value.int IntKind.i64 o.site], Value.int IntKind.i64 0])) :: (59, (Value.agg #[Value.int IntKind.i64 o.ds, Value.int IntKind.i64 o.dq, Value.slice ae o.deps.length ce, Value.int IntKind.i64 o.kind, Value.int IntKind.i64 o.it, Value.int IntKind.i64 o.is, Value.int IntKind.i64 o.rt, Value.int IntKind.i64 o.rs, Value.string o.text, Value.slice af o.gone.length cf, Value.int IntKind.i64 o.site])) :: (60, (Value.int IntKind.i64 0)) :: (72, undef) :: (73, undef) :: (74, undef) :: (75, undef) :: (76, undef) :: (77, undef) :: (78, undef) :: (79, undef) :: (80, undef) :: (81, undef) :: (82, undef) :: []) ++ ((61, (Value.int IntKind.i64 0)) :: (62, (.bool false)) :: (63, (.bool false)) :: (64, (.agg #[.int .i64 o.ds, .int .i64 o.dq, .slice ae o.deps.length ce, .int .i64 o.kind, .int .i64 o.it, .int .i64 o.is, .int .i64 o.rt, .int .i64 o.rs, .string o.text, .slice af o.gone.length cf, .int .i64 o.site])) :: (65, (Value.slice (some { block := g, off := 0 }) N ck)) :: (66, (Value.int IntKind.i64 (k : Int))) :: (67, (.pointer (some ⟨g, k * 11, none⟩))) :: (68, (.agg #[.int .i64 o.ds, .int .i64 o.dq, .slice ad o.deps.length cd, .int .i64 o.kind, .int .i64 o.it, .int .i64 o.is, .int .i64 o.rt, .int .i64 o.rs, .string o.text, .slice ag o.gone.length cg, .int .i64 o.site])) :: (69, (.bool true)) :: (70, (.bool false)) :: (71, (.bool false)) :: [])) ((Value.slice a0 len0 cap0) :: undef :: u2 :: (Value.pointer (some { block := w.heap.size, off := 0 })) :: (Value.slice (some { block := g, off := 0 }) N ck) :: (Value.int IntKind.i64 (i : Int)) :: (Value.pointer (some { block := p2, off := 0 })) :: (Value.int IntKind.i64 (k : Int)) :: (Value.pointer (some { block := W3.heap.size, off := 0 })) :: (Value.int IntKind.i64 0) :: (Value.slice a0 len0 cap0) :: (Value.int IntKind.i64 (len0 : Int)) :: (Value.bool false) :: undef :: (Value.agg #[Value.slice none 0 0, Value.int IntKind.i64 0]) :: (Value.pointer (some { block := w.heap.size, off := 0 })) :: (Value.int IntKind.i64 (i : Int)) :: (Value.slice a0 len0 cap0) :: (Value.int IntKind.i64 (len0 : Int)) :: (Value.bool false) :: u20 :: u21 :: u22 :: u23 :: u24 :: u25 :: u26 :: u27 :: u28 :: u29 :: u30 :: u31 :: u32 :: u33 :: u34 :: u35 :: u36 :: u37 :: u38 :: u39 :: u40 :: u41 :: u42 :: u43 :: u44 :: u45 :: u46 :: (Value.pointer (some { block := w.heap.size, off := 0 })) :: v1 :: (Value.pointer (some { block := p2, off := 0 })) :: (Value.int IntKind.i64 (k : Int)) :: (Value.slice (some { block := g, off := 0 }) N ck) :: (Value.int IntKind.i64 (N : Int)) :: (Value.bool true) :: u54 :: u55 :: (Value.tuple #[Value.agg #[Value.int IntKind.i64 o.ds, Value.int IntKind.i64 o.dq, Value.slice ae o.deps.length ce, Value.int IntKind.i64 o.kind, Value.int IntKind.i64 o.it, Value.int IntKind.i64 o.is, Value.int IntKind.i64 o.rt, Value.int IntKind.i64 o.rs, Value.string o.text, Value.slice af o.gone.length cf, Value.int IntKind.i64 o.site], Value.int IntKind.i64 0]) :: (Value.pointer (some { block := p2, off := 0 })) :: (Value.tuple #[Value.agg #[Value.int IntKind.i64 o.ds, Value.int IntKind.i64 o.dq, Value.slice ae o.deps.length ce, Value.int IntKind.i64 o.kind, Value.int IntKind.i64 o.it, Value.int IntKind.i64 o.is, Value.int IntKind.i64 o.rt, Value.int IntKind.i64 o.rs, Value.string o.text, Value.slice af o.gone.length cf, Value.int IntKind.i64 o.site], Value.int IntKind.i64 0]) :: (Value.agg #[Value.int IntKind.i64 o.ds, Value.int IntKind.i64 o.dq, Value.slice ae o.deps.length ce, Value.int IntKind.i64 o.kind, Value.int IntKind.i64 o.it, Value.int IntKind.i64 o.is, Value.int IntKind.i64 o.rt, Value.int IntKind.i64 o.rs, Value.string o.text, Value.slice af o.gone.length cf, Value.int IntKind.i64 o.site]) :: (Value.int IntKind.i64 0) :: (Value.int IntKind.i64 0) :: (.bool false) :: (.bool false) :: (.agg #[.int .i64 o.ds, .int .i64 o.dq, .slice ae o.deps.length ce, .int .i64 o.kind, .int .i64 o.it, .int .i64 o.is, .int .i64 o.rt, .int .i64 o.rs, .string o.text, .slice af o.gone.length cf, .int .i64 o.site]) :: (Value.slice (some { block := g, off := 0 }) N ck) :: (Value.int IntKind.i64 (k : Int)) :: (.pointer (some ⟨g, k * 11, none⟩)) :: (.agg #[.int .i64 o.ds, .int .i64 o.dq, .slice ad o.deps.length cd, .int .i64 o.kind, .int .i64 o.it, .int .i64 o.is, .int .i64 o.rt, .int .i64 o.rs, .string o.text, .slice ag o.gone.length cg, .int .i64 o.site]) :: (.bool true) :: (.bool false) :: (.bool false) :: undef :: undef :: undef :: undef :: undef :: undef :: undef :: undef :: undef :: undef :: undef :: []) hsz2 hds (fun p hp => by
              rcases List.mem_append.1 hp with h | h
              · exact hb p h
              · simp only [List.mem_cons, List.not_mem_nil, or_false] at h
                rcases h with rfl | rfl | rfl | rfl | rfl | rfl | rfl | rfl | rfl | rfl | rfl
                · exact hv 0 (by decide)
                · exact hv 1 (by decide)
                · exact hv 2 (by decide)
                · exact hv 3 (by decide)
                · exact hv 4 (by decide)
                · exact hv 5 (by decide)
                · exact hv 6 (by decide)
                · exact hv 7 (by decide)
                · exact hv 8 (by decide)
                · exact hv 9 (by decide)
                · exact hv 10 (by decide)) rfl
            clear hb hds hsz2 hv
            go_wp2
            go_roundw
            case measure => show N - ((k : Int) + 1).toNat < N - ((k : Nat) : Int).toNat; omega
            case rel => exact ⟨k + 1, v3, by go_num, by omega, hide ((unhide RdY).below hJ), hide (fun j hj => Nat.lt_of_lt_of_le (unhide V3 j hj) hJ.size), hide (bnext (unhide BY) hJ)⟩
        · have k1 : ¬ (k : Int) < (N : Int) := by omega
          have hd0 : obs (ks.drop k) = [] := by
            have := unhide hN
            rw [List.drop_eq_nil_of_le (by omega)]
            rfl
          have SW := (unhide S1).below (unhide hB)
          have HE := hide (wErr_in SW.wr)
          have hrd2 := unhide hrd
          rw [hd0] at hrd2
          have HE2 := hide (rEnd_in hrd2)
          have hre : rEnd [] 0 = 0 := by decide
          rw [hre] at HE2
          have B9 := hide SW.bel
          clear SW hrd2 hd0 hre
          go_wp2_with fail
          refine (unhide HE).mono ?_
          rintro r W4 ⟨rfl, rfl⟩
          go_wp2_with fail
          refine (unhide HE2).mono ?_
          rintro r W5 ⟨rfl, rfl⟩
          go_wp2_with fail
          refine (unhide HK _).mono ?_
          rintro r W6 ⟨rfl, hb⟩
          go_wp2
          go_ret
          exact ⟨rfl, bnext (unhide B9) hb⟩

theorem own : ownKnob Try.prog.godebug = none := by kernel_rfl
theorem laidOut2 : laidOutB Try.prog = true := by kernel_rfl

set_option maxRecDepth 100000 in
theorem lifted (os : Os) (started : os.Started) (H : Type) (enc : TypeId × Value → H) :
    ReturnsInHanded {} Try.checked os 3 .any (Rows.opStreamSpec.pre6 enc Try.prog Try.f3 Rows.opStreamRow.domain false) (Rows.opStreamSpec.post enc Try.prog Try.f3 false true false false) := by
  refine returnsInHanded_of_change (C := Try.checked) own started (by kernel_rfl) Try.func3
    (ChangeSpec.witness6 (enc := enc) (C := Try.checked) false ⟨#[], #[.slice none 0 0], []⟩ 8 (by kernel_rfl) (by kernel_rfl) (by kernel_rfl) (by kernel_rfl)) ?_
  intro W base args ds gs before hval0 hW hcnd _
  have hval : ∀ (j : Nat) t v, Try.f3.params[j]? = some t → args[j]? = some v → Value.okWide Try.prog W .any base t v := hval0
  have hW' := hW
  obtain ⟨p, q, hA0, hV, rfl, hfz, hnd⟩ := hW
  have hA : DataW.TrodAll enc Try.prog W 0 (fun _ => true) true Try.f3.params.toList args.toList ds p := hA0
  rw [Try.params3] at hA hval
  obtain ⟨v0, vs0, d0, ds0, p0, q0, hargs, rfl, rfl, h0, r0⟩ := trodAll_cons hA
  obtain ⟨rfl, rfl, rfl⟩ := trodAll_nil r0
  obtain rfl : args = #[v0] := by cases args; simp_all
  obtain ⟨rfl, rfl⟩ := trodVars_none hV
  obtain ⟨a0, len0, cap0, rfl⟩ := okWide_slice Try.underlying22 (hval 0 22 v0 rfl rfl)
  have k0 := h0
  have lt0 : ∀ x ∈ p0, x.block < W.heap.size := by obtain ⟨m, hm⟩ := k0; exact DataW.trod_lt m _ _ _ hm
  obtain ⟨z0, w0⟩ : ∃ l : List (Opn × Value × Value), RO W (.slice a0 len0 cap0) l ∧ l.length = len0 ∧ len0 ≤ maxLen ∧ ∀ e ∈ l, ElW W e := by
    obtain ⟨fuel, hf⟩ := h0
    simp only [Value.cells] at hf
    exact open_ops hf
  clear hA0 hval0
  refine (walk a0 len0 cap0 z0 W w0).mono fun e W' ⟨he, bel⟩ => ?_
  subst he
  exact ⟨_, rfl, _, _, _, [], _, [], hW', trodAll_mk1 (shut_bool Try.underlying4 _), (trodAll_cons_mk (Below.trod laidOut2 (by kernel_rfl) (of_decide_eq_true (by kernel_rfl)) k0 bel lt0) trodAll_mk0), rfl, bel.frame _, fun h => by cases h⟩

theorem over : Rows.opStreamRow.holds Try.pinned (OpenSpec.ofChange Rows.opStreamSpec) :=
  OpenClaim.holds_of_wide 3 Try.f3 rfl rfl rfl rfl rfl rfl rfl ⟨rfl, rfl, rfl, rfl, rfl⟩ rfl rfl rfl rfl rfl (by kernel_rfl) Try.func3 (by kernel_rfl)
    (of_decide_eq_true (by kernel_rfl)) (by unfold Func.isWrapper; first | (rw [if_pos (by decide +kernel)]; kernel_rfl) | (rw [if_neg (by decide +kernel)]; exact ⟨rfl, rfl⟩))
    (fun os started H enc _ => lifted os started H enc)

end LOpStream

theorem opStream_holds : Rows.OpStreamSaid := LOpStream.over

end Go.Proofs.Ytknnfahbpekmoab
