/-
  quote.hexadecimal, isRune, saidByte, saidRune: what digits say.
-/
import Derived.Test.YtkndjbmlkfpfoaaGreatDoorZShelfToQu

set_option linter.unusedSimpArgs false
set_option linter.unusedVariables false
namespace Go.Proofs.YtkndjbmlkfpfoaaGreatDoor
open Go.RowKit Go.Lib

theorem rn_low (s : ByteArray) (k : Nat) (hk : k < s.size) (h : rn s k < 128) : by_ s k = rn s k ∧ wd s k = 1 ∧ okR s k = true := by
  cases ho : okR s k with
  | false => have := (ok_false_iff ho).1; omega
  | true =>
    rcases ok_cases s k hk ho with ⟨h1, hr, hw⟩ | ⟨hc, hn, hg, hr, hw⟩ | ⟨hc, hn, hg, hg2, hr, hw⟩ | ⟨hc, hn, hg, hg2, hg3, hr, hw⟩
    · exact ⟨hr.symm, hw, rfl⟩
    · exfalso
      have hb := hW2_range hc
      have hg' := g1_range (by omega) hg
      omega
    · exfalso
      have hb := hW3_range hc
      have hg' := g1_range (by omega) hg
      unfold g2 at hg2
      omega
    · exfalso
      have hb := hW4_range hc
      have hg' := g1_range (by omega) hg
      unfold g2 at hg2
      unfold g3 at hg3
      omega
theorem by_low (s : ByteArray) (k : Nat) (h : by_ s k < 128) : rn s k = by_ s k ∧ wd s k = 1 := ⟨rn_of (dec_one s k (by omega)), wd_of (dec_one s k (by omega))⟩
theorem dg_low {b : Nat} (h : dgV b < 16) : b < 128 := by unfold dgV at h; (repeat' split at h) <;> omega
theorem dg_rn (s : ByteArray) (k : Nat) (hk : k < s.size) : dgV (rn s k) < 16 ↔ dgV (by_ s k) < 16 := by
  constructor
  · intro h; rw [(rn_low s k hk (dg_low h)).1]; exact h
  · intro h; rw [(by_low s k (dg_low h)).1]; exact h

theorem hxR_step {s : ByteArray} {i f n k : Nat} (h : i + k < s.size) (hd : dgV (by_ s (i + k)) < 16) : hxR s i (f + 1) n k = hxR s i f (16 * n + dgV (by_ s (i + k))) (k + 1) := by
  rw [hxR, if_pos ⟨h, hd⟩]
theorem hxR_stop {s : ByteArray} {i f n k : Nat} (h : ¬ (i + k < s.size ∧ dgV (by_ s (i + k)) < 16)) : hxR s i f n k = (n, k) := by
  cases f with
  | zero => rfl
  | succ f => rw [hxR, if_neg h]

theorem shl_or (n d : Nat) (hn : n < 1048576) (hd : d < 16) : bits BinOp.or IntKind.i32 ((n : Int) * 16) (d : Int) = ((16 * n + d : Nat) : Int) := by
  have e : (n : Int) * 16 = ((n * 16 : Nat) : Int) := by omega
  have h2 : n * 16 ||| d = 16 * n + d := by
    have := Nat.two_pow_add_eq_or_of_lt (i := 4) (b := d) (by omega) n
    rw [show n * 16 = 2 ^ 4 * n by omega, ← this]
  show IntKind.i32.wrap ((BitVec.ofInt 32 ((n : Int) * 16) ||| BitVec.ofInt 32 (d : Int)).toNat : Int) = _
  rw [e, BitVec.toNat_or, ofInt_u32 (n * 16) (by omega), ofInt_u32 d (by omega), h2]
  simp [IntKind.wrap, IntKind.bits, IntKind.signed]
  omega

set_option maxRecDepth 100000 in
set_option maxHeartbeats 2000000 in
theorem hex_in (t : ByteArray) (ht : t.size ≤ 1000000000) (f : Nat) (hf : f ≤ 6) (w : World) :
    Calls Tryz.prog 137 #[.string t, .int .i64 (f : Int)] w fun e w' => e = .returned (.tuple #[.int .i32 ((hxR t 0 f 0 0).1 : Int), .int .i64 ((hxR t 0 f 0 0).2 : Int)]) ∧ Below w.heap.size w w' := by
  obtain ⟨A, hA⟩ : ∃ A, hxR t 0 f 0 0 = A := ⟨_, rfl⟩
  rw [hA]
  have HA := hide hA
  clear hA
  go_enter Tryz.func137, Tryz.ntmps137
  go_wp2
  go_loopw [6] (fun a wr => ∃ (n k : Nat), a = .int .i32 n ∧ k ≤ t.size ∧ k ≤ f ∧ n < 16 ^ k ∧ Hid (hxR t 0 (f - k) n k = A ∧ wr.heap[w.heap.size]? = some (.stringIter t k)) ∧ Below w.heap.size w wr) (fun _ wr => t.size - wr.iterPos w.heap.size)
  case atStart => exact ⟨0, 0, rfl, by omega, by omega, by simp, hide ⟨unhide HA, World.iter_heap w t 0⟩, (Below.refl _ w).alloc (Nat.le_refl _) _⟩
  case round =>
    obtain ⟨n, k, rfl, hk, hkf, hn, H, hB⟩ := hrel
    by_cases hp : k < t.size
    · have hnx : ∀ ty, (Instr.next (.pointer (some ⟨w.heap.size, 0, none⟩)) true ty).run Tryz.prog wr = .ok (.tuple #[.bool true, .int .i64 (k : Int), .int .i32 (rn t k : Nat)]) (wr.iterAt w.heap.size t (k + wd t k)) := fun ty => run_next_any_at wr w.heap.size t k ty (unhide H).2 hp
      have hdg := fun W => hide (digit_in (rn t k) (rn_le t k hp) W)
      have HB := hide (below_iterAt hB (Nat.le_refl _) t (k + wd t k))
      have Hit := hide (iterAt_heap wr w.heap.size t k (k + wd t k) (unhide H).2)
      have Hip := hide (show wr.iterPos w.heap.size = k by simp [World.iterPos, (unhide H).2])
      obtain ⟨V0, hV0⟩ : ∃ V, wr.iterAt w.heap.size t (k + wd t k) = V := ⟨_, rfl⟩
      rw [hV0] at hnx HB Hit
      clear hV0 hB
      by_cases hm : k = f
      · have i1 : ((k : Int) == (f : Int)) = true := by rw [beq_iff_eq]; omega
        have HE := hide (show A = (n, k) by rw [← (unhide H).1, hm, Nat.sub_self]; rfl)
        clear hm
        go_wp2_with (go_at_call 151; refine (unhide (hdg _)).mono ?_; rintro e w' ⟨rfl, rfl⟩)
        go_ret2
        rw [unhide HE]
        exact ⟨rfl, unhide HB⟩
      · have i1 : ((k : Int) == (f : Int)) = false := by rw [beq_eq_false_iff_ne]; omega
        by_cases hd : dgV (rn t k) < 16
        · have hdI : dgI (rn t k) = (dgV (rn t k) : Int) := by unfold dgI; rw [if_pos hd]
          have hlow := rn_low t k hp (dg_low hd)
          have i2 : ¬ (dgV (rn t k) : Int) < 0 := by omega
          have hn2 : n < 1048576 := by
            have : 16 ^ k ≤ 16 ^ 5 := Nat.pow_le_pow_right (by decide) (by omega)
            omega
          have hor := shl_or n (dgV (rn t k)) hn2 hd
          have hw32 : wrap32 ((n : Int) * 16) = (n : Int) * 16 := by unfold wrap32; omega
          go_wp2_with (go_at_call 151; refine (unhide (hdg _)).mono ?_; rintro e w' ⟨rfl, rfl⟩)
          go_roundw
          case rel =>
            refine ⟨16 * n + dgV (rn t k), k + 1, by push_cast; rfl, by omega, by omega, ?_, hide ⟨?_, ?_⟩, unhide HB⟩
            · rw [Nat.pow_succ]; omega
            · have h1 := (unhide H).1
              have hb := hlow.1
              obtain ⟨g, hg⟩ : ∃ g, f - k = g + 1 := ⟨f - k - 1, by omega⟩
              rw [hg, hxR_step (by omega) (by rw [Nat.zero_add, hb]; exact hd), Nat.zero_add, hb] at h1
              rw [show f - (k + 1) = g by omega]
              exact h1
            · have := unhide Hit
              rw [hlow.2.1] at this
              exact this
          case measure =>
            rw [unhide Hip]
            simp only [World.iterPos, unhide Hit]
            have := hlow.2.1
            omega
        · have hdI : dgI (rn t k) = -1 := by unfold dgI; rw [if_neg hd]
          have HE := hide (show A = (n, k) by rw [← (unhide H).1]; exact hxR_stop (by rw [Nat.zero_add, ← dg_rn t k hp]; exact fun h => hd h.2))
          clear hd
          go_wp2_with (go_at_call 151; refine (unhide (hdg _)).mono ?_; rintro e w' ⟨rfl, rfl⟩)
          go_ret2
          rw [unhide HE]
          exact ⟨rfl, unhide HB⟩
    · have hnx : ∀ ty, (Instr.next (.pointer (some ⟨w.heap.size, 0, none⟩)) true ty).run Tryz.prog wr = .ok (.tuple #[.bool false]) wr := fun ty => run_next_end_at wr w.heap.size t k ty (unhide H).2 hp
      have HE := hide (show A = (n, k) by rw [← (unhide H).1]; exact hxR_stop (by omega))
      have hkt : (k : Int) = (t.size : Int) := by omega
      go_wp2
      go_ret2
      rw [unhide HE]
      refine ⟨?_, hB⟩
      show Ending.returned (.tuple #[.int .i32 (n : Int), .int .i64 (t.size : Int)]) = Ending.returned (.tuple #[.int .i32 (n : Int), .int .i64 (k : Int)])
      rw [hkt]

theorem enc_back (n : Int) : ofL (encL n) = Utf8.encode n := by unfold encL; generalize Utf8.encode n = b; simp [bL, ofL]
theorem dec_back (n : Int) : Utf8.decode (Utf8.encode n) 0 = (fixN n, (encL n).length) := by
  have h := (dec_enc [] [] n).1
  rw [List.nil_append, List.append_nil, enc_back] at h
  exact h
theorem rn_back (n : Int) : rn (Utf8.encode n) 0 = fixN n := rn_of (dec_back n)
theorem size_back (n : Int) : 0 < (Utf8.encode n).size := by rw [← encL_size]; exact encL_pos _
theorem dR_back (n : Int) : dR (Utf8.encode n) 0 = ((fixN n : Nat) : Int) := by
  have h := dR_in (Utf8.encode n) 0 (size_back n)
  rw [rn_back] at h
  exact h
theorem fix_no (n : Int) (hv : Utf8.valid n = false) : ((fixN n : Nat) : Int) ≠ n := by
  intro e
  have := fixN_valid n
  have h3 : Utf8.valid n = true := (valid_iff n).2 (by omega)
  rw [h3] at hv
  cases hv
theorem isRune_enc (n : Nat) : (dR (Utf8.encode (n : Int)) 0 == (n : Int)) = Utf8.valid (n : Int) := by
  rw [dR_back]
  cases hv : Utf8.valid (n : Int) with
  | true =>
    have : fixN (n : Int) = n := by unfold fixN; rw [if_pos hv]; omega
    rw [this, beq_self_eq_true]
  | false => exact beq_eq_false_iff_ne.2 (fix_no _ hv)

set_option maxHeartbeats 800000 in
theorem isRune_in (n : Nat) (hn : n < 16777216) (w : World) :
    Calls Tryz.prog 138 #[.int .i32 (n : Int)] w fun e w' => e = .returned (.bool (Utf8.valid (n : Int))) ∧ w = w' := by
  have henc := fun W => hide (encode_any (n : Int) W)
  have hdec := fun W => hide (decode_any (Utf8.encode (n : Int)) 0 W (by have := encL_le4 (n : Int); rw [encL_size] at this; unfold maxLen; omega))
  have hv := hide (isRune_enc n)
  go_enter Tryz.func138, Tryz.ntmps138
  go_wp2_with (first | (go_at_call 98; refine (unhide (henc _)).mono ?_; rintro e w' ⟨rfl, rfl⟩) | (go_at_call 114; refine (unhide (hdec _)).mono ?_; rintro e w' ⟨rfl, rfl⟩))
  go_ret
  refine ⟨?_, rfl⟩
  rw [← unhide hv]
  generalize dR (Utf8.encode (n : Int)) 0 = x
  rfl

/-- a text behind so many bytes -/
def frS (s : ByteArray) (i : Nat) : ByteArray := s.extract i s.size
theorem frS_list (s : ByteArray) (i : Nat) : (frS s i).data.toList = s.data.toList.drop i := by
  unfold frS
  simp
  rw [List.take_of_length_le]
  simp
theorem ofL_drop (s : ByteArray) (i : Nat) : (⟨(s.data.toList.drop i).toArray⟩ : ByteArray) = frS s i := by
  apply toList_inj
  rw [frS_list]
theorem frS_size (s : ByteArray) (i : Nat) : (frS s i).size = s.size - i := by unfold frS; rw [ByteArray.size_extract]; omega
theorem frS_by (s : ByteArray) (i k : Nat) (h : i + k < s.size) : by_ (frS s i) k = by_ s (i + k) := by unfold frS; exact by_ext s i s.size k (Nat.le_refl _) h
theorem hxR_drop (s : ByteArray) (i : Nat) : ∀ (f j n k : Nat), hxR (frS s i) j f n k = hxR s (i + j) f n k
  | 0, j, n, k => rfl
  | f + 1, j, n, k => by
    unfold hxR
    by_cases h : i + j + k < s.size
    · rw [frS_size, frS_by s i (j + k) (by omega), show i + (j + k) = i + j + k by omega]
      by_cases hd : dgV (by_ s (i + j + k)) < 16
      · rw [if_pos ⟨by omega, hd⟩, if_pos ⟨h, hd⟩, hxR_drop s i f j _ _]
      · rw [if_neg (fun x => hd x.2), if_neg (fun x => hd x.2)]
    · rw [frS_size, if_neg (by omega), if_neg (by omega)]

theorem conv_one (b : UInt8) (w : World) : (convert 38 9 (.slice (some ⟨w.heap.size, 0, none⟩) 1 1)).run Tryz.prog (w.alloc (.cells #[.int .u8 (b.toNat : Int)] 5)) = .ok (.string (ofL [b])) (w.alloc (.cells #[.int .u8 (b.toNat : Int)] 5)) := by
  have := conv_bytes (w.alloc (.cells #[.int .u8 (b.toNat : Int)] 5)) ⟨w.heap.size, 0, none⟩ 1 1 [(b.toNat : Int)] rfl (fun j hj => by
    have : j = 0 := by simpa using hj
    subst this
    have hb : (w.alloc (.cells #[.int .u8 (b.toNat : Int)] 5)).heap[w.heap.size]? = some (.cells #[.int .u8 (b.toNat : Int)] 5) := by show (w.heap.push _)[w.heap.size]? = _; simp
    show World.cell? _ ⟨w.heap.size, 0, none⟩ = _
    unfold World.cell?
    simp only [hb]
    rfl)
  rw [this]
  simp

def resE (o : Option (List UInt8 × Nat)) : ByteArray × Nat := match o with | some (x, n) => (ofL x, n) | none => (ofL [], 0)
theorem hxR_val (s : ByteArray) (i : Nat) : ∀ (f n k : Nat), n < 16 ^ k → (hxR s i f n k).1 < 16 ^ (hxR s i f n k).2
  | 0, n, k, h => h
  | f + 1, n, k, h => by
    unfold hxR
    split
    · rename_i h2
      exact hxR_val s i f _ _ (by rw [Nat.pow_succ]; omega)
    · exact h

set_option maxRecDepth 100000 in
set_option maxHeartbeats 800000 in
theorem saidByte_in (t : ByteArray) (ht : t.size ≤ 1000000000) (w : World) :
    Calls Tryz.prog 119 #[.string t] w fun e w' => e = .returned (.tuple #[.string (resE (byteE t 0)).1, .int .i64 ((resE (byteE t 0)).2 : Int)]) ∧ Below w.heap.size w w' := by
  have hhx := fun W => hide (hex_in t ht 2 (by omega) W)
  have hb := hxR_snd t 0 2 0 0
  have hv := hxR_val t 0 2 0 0 (by simp)
  by_cases h2 : (hxR t 0 2 0 0).2 = 2
  · have HE := hide (show byteE t 0 = some ([UInt8.ofNat (hxR t 0 2 0 0).1], 4) by unfold byteE; rw [if_pos h2])
    rw [h2] at hv hhx
    generalize (hxR t 0 2 0 0).1 = n at hv hhx HE
    have hcv : ∀ W : World, (convert 38 9 (.slice (some ⟨W.heap.size, 0, none⟩) 1 1)).run Tryz.prog (W.alloc (.cells #[.int .u8 ((n : Int) % 256)] 5)) = .ok (.string (ofL [UInt8.ofNat n])) (W.alloc (.cells #[.int .u8 ((n : Int) % 256)] 5)) := fun W => by
      rw [show (n : Int) % 256 = ((UInt8.ofNat n).toNat : Int) by rw [u8n n (by omega)]; omega]
      exact conv_one _ W
    clear hb h2 hv
    rw [unhide HE]
    go_enter Tryz.func119, Tryz.ntmps119
    go_wp2_with (go_at_call 137; refine (unhide (hhx _)).mono ?_; rintro e w' ⟨rfl, hB⟩)
    go_ret2
    exact ⟨rfl, hB.alloc hB.size _⟩
  · have HE := hide (show byteE t 0 = none by unfold byteE; rw [if_neg h2])
    have i1 : ((hxR t 0 2 0 0).2 : Int) < 2 := by omega
    generalize (hxR t 0 2 0 0).1 = n at hv hhx
    generalize (hxR t 0 2 0 0).2 = k at i1 hv hhx
    clear hb h2 hv
    rw [unhide HE]
    go_enter Tryz.func119, Tryz.ntmps119
    go_wp2_with (go_at_call 137; refine (unhide (hhx _)).mono ?_; rintro e w' ⟨rfl, hB⟩)
    go_ret2
    exact ⟨rfl, hB⟩

end Go.Proofs.YtkndjbmlkfpfoaaGreatDoor
