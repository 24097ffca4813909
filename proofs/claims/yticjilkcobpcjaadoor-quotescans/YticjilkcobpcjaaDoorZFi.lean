/-
  strconv.FormatInt at base 16, of a number that is no greater than a rune.
-/
import Derived.Test.YticjilkcobpcjaaDoorZSm
import Derived.Test.YticjilkcobpcjaaDoorZXPq
import Derived.Test.YticjilkcobpcjaaDoorZShelf
import Derived.Laws.BitsAll
import Derived.Laws.Shifts
set_option linter.unusedSimpArgs false
set_option linter.unusedVariables false
namespace Go.Proofs.YticjilkcobpcjaaDoor
open Go.RowKit Go.Lib

theorem toList_inj {x y : ByteArray} (h : x.data.toList = y.data.toList) : x = y := by
  cases x; cases y; congr; exact Array.toList_inj.1 h

theorem repeat_one (s : ByteArray) (w : World) : Calls Tryd.prog 51 #[.string s, .int .i64 1] w fun e w' => e = .returned (.string s) ∧ w' = w := Go.Proofs.Any.strings_Repeat_one sh105 s w
theorem repeat_zero (s : ByteArray) (w : World) : Calls Tryd.prog 51 #[.string s, .int .i64 0] w fun e w' => e = .returned (.string ⟨#[]⟩) ∧ w' = w := Go.Proofs.Any.strings_Repeat_zero sh105 s w

/-- the one cell of a table of the library that is read -/
def Tab (w : World) : Prop := w.cell? ⟨5, 15, none⟩ = some (.int .u8 4) ∧ 5 < w.heap.size
theorem Tab.below {w w' : World} {B : Nat} (h : Tab w) (hb : Below B w w') (hB : 5 < B) : Tab w' :=
  ⟨(hb.cell (p := ⟨5, 15, none⟩) hB).trans h.1, Nat.lt_of_lt_of_le h.2 hb.size⟩

set_option maxHeartbeats 400000 in
theorem tz_in (w : World) (hT : Tab w) : Calls Tryd.prog 88 #[.int .u64 16] w fun e w' => e = .returned (.int .i64 4) ∧ w = w' := by
  have hc := hT.1
  have e1 : IntKind.u64.wrap (-16) = 18446744073709551600 := by decide
  have e2 : bits BinOp.and IntKind.u64 16 18446744073709551600 = 16 := by decide
  have e3 : IntKind.u64.wrap (16 * 285870213051353865) = 4573923408821661840 := by decide
  go_enter Tryd.func88, Tryd.ntmps88
  go_wp2
  go_ret
  exact ⟨rfl, rfl⟩

def fbF : Nat → Nat → List UInt8
  | 0, u => [hxD u]
  | f + 1, u => if u < 16 then [hxD u] else fbF f (u / 16) ++ [hxD (u % 16)]
theorem fbF_fuel : ∀ (f g u : Nat), u ≤ f → u ≤ g → fbF f u = fbF g u
  | 0, 0, u, _, _ => rfl
  | 0, g + 1, u, h, _ => by unfold fbF; rw [if_pos (by omega)]
  | f + 1, 0, u, _, h => by unfold fbF; rw [if_pos (by omega)]
  | f + 1, g + 1, u, h, h2 => by
    unfold fbF
    split
    · rfl
    · rw [fbF_fuel f g (u / 16) (by omega) (by omega)]
def fb (u : Nat) : List UInt8 := fbF u u
theorem fb_small {u : Nat} (h : u < 16) : fb u = [hxD u] := by unfold fb; cases u with | zero => rfl | succ n => unfold fbF; rw [if_pos h]
theorem fb_step {u : Nat} (h : ¬ u < 16) : fb u = fb (u / 16) ++ [hxD (u % 16)] := by
  unfold fb
  obtain ⟨n, rfl⟩ : ∃ n, u = n + 1 := ⟨u - 1, by omega⟩
  rw [show fbF (n + 1) (n + 1) = fbF n ((n + 1) / 16) ++ [hxD ((n + 1) % 16)] by rw [fbF]; rw [if_neg h]]
  rw [fbF_fuel n ((n + 1) / 16) ((n + 1) / 16) (by omega) (Nat.le_refl _)]
theorem hxF_fuel : ∀ (f g u : Nat), u ≤ f → u ≤ g → hxF f u = hxF g u
  | 0, 0, u, _, _ => rfl
  | 0, g + 1, u, h, _ => by unfold hxF; rw [if_pos (by omega)]
  | f + 1, 0, u, _, h => by unfold hxF; rw [if_pos (by omega)]
  | f + 1, g + 1, u, h, h2 => by
    unfold hxF
    split
    · rfl
    · rw [hxF_fuel f g (u / 16) (by omega) (by omega)]
theorem fb_hx : ∀ (f u : Nat), u ≤ f → u ≠ 0 → fb u = hxL u
  | 0, u, h, h0 => by omega
  | f + 1, u, h, h0 => by
    have e : hxL u = hxL (u / 16) ++ [hxD (u % 16)] := by
      unfold hxL
      obtain ⟨n, rfl⟩ : ∃ n, u = n + 1 := ⟨u - 1, by omega⟩
      rw [show hxF (n + 1) (n + 1) = hxF n ((n + 1) / 16) ++ [hxD ((n + 1) % 16)] by rw [hxF]; rw [if_neg h0]]
      rw [hxF_fuel n ((n + 1) / 16) ((n + 1) / 16) (by omega) (Nat.le_refl _)]
    by_cases h1 : u < 16
    · rw [fb_small h1, e, show u / 16 = 0 by omega, show u % 16 = u by omega]; rfl
    · rw [fb_step h1, e, fb_hx f (u / 16) (by omega) (by omega)]

theorem dig_get (m : Nat) (h : m < 16) (hq : m < (⟨#[48, 49, 50, 51, 52, 53, 54, 55, 56, 57, 97, 98, 99, 100, 101, 102, 103, 104, 105, 106, 107, 108, 109, 110, 111, 112, 113, 114, 115, 116, 117, 118, 119, 120, 121, 122]⟩ : ByteArray).size) : ((⟨#[48, 49, 50, 51, 52, 53, 54, 55, 56, 57, 97, 98, 99, 100, 101, 102, 103, 104, 105, 106, 107, 108, 109, 110, 111, 112, 113, 114, 115, 116, 117, 118, 119, 120, 121, 122]⟩ : ByteArray)[m]'hq).toNat = (hxD m).toNat := by
  rcases (by omega : m = 0 ∨ m = 1 ∨ m = 2 ∨ m = 3 ∨ m = 4 ∨ m = 5 ∨ m = 6 ∨ m = 7 ∨ m = 8 ∨ m = 9 ∨ m = 10 ∨ m = 11 ∨ m = 12 ∨ m = 13 ∨ m = 14 ∨ m = 15) with rfl | rfl | rfl | rfl | rfl | rfl | rfl | rfl | rfl | rfl | rfl | rfl | rfl | rfl | rfl | rfl <;> rfl

theorem fold_push (ns : List Int) : ∀ s : ByteArray, ns.foldl (fun r n => r.push (UInt8.ofNat n.toNat)) s = ⟨(s.data.toList ++ ns.map fun z => UInt8.ofNat z.toNat).toArray⟩ := by
  induction ns with
  | nil => intro s; simp
  | cons n ns ih => intro s; rw [List.foldl_cons, ih]; simp [ByteArray.push]

/-- bytes to a text -/
theorem conv_bytes (w : World) (a : Addr) (len cap : Nat) (zs : List Int) (hl : len = zs.length) (hc : ∀ j, j < zs.length → w.cell? (a.add j) = some (.int .u8 (zs.getD j 0))) :
    (convert 60 9 (.slice (some a) len cap)).run Tryd.prog w = .ok (.string (ofL (zs.map fun z => UInt8.ofNat z.toNat))) w := by
  subst hl
  rw [run_convert_bytes_string _ 60 9 5 _ _ _ Tryd.underlying60 Tryd.underlying5 Tryd.underlying9]
  have h := run_loadCells (P := Tryd.prog) w a zs.length (fun j => .int .u8 (zs.getD j 0)) hc
  rw [range_map_take _ zs zs.length (Nat.le_refl _), List.take_length] at h
  rw [run_bytesToString w a zs.length cap zs h, fold_push]
  simp [ofL]

theorem u8_back (l : List UInt8) : (l.map fun b => ((b.toNat : Nat) : Int)).map (fun z => UInt8.ofNat z.toNat) = l := by
  induction l with
  | nil => rfl
  | cons x l ih => simp only [List.map_cons, ih]; simp

/-- digits that were laid into an array, from its end on -/
def Lays65 (W : World) (b i : Nat) (ds : List UInt8) : Prop := ∃ arr, W.heap[b]? = some (.cells arr 133 (0, 0)) ∧ arr.size = 65 ∧ i + ds.length = 65 ∧ ∀ j d, ds[j]? = some d → arr[i + j]? = some (.int .u8 (d.toNat : Int))
theorem Lays65.cell {W : World} {b i : Nat} {ds : List UInt8} (h : Lays65 W b i ds) (k : Nat) (hk : k < 65) : (∃ v, W.cell? ⟨b, k, none⟩ = some v) ∧ W.frozen? ⟨b, k, none⟩ = false := by
  obtain ⟨arr, hb, hs, _, _⟩ := h
  exact ⟨⟨arr[k]'(by omega), by simp [World.cell?, hb, show k < arr.size by omega]⟩, by simp [World.frozen?, hb]⟩
theorem Lays65.store {W : World} {b i : Nat} {ds : List UInt8} (h : Lays65 W b i ds) (hi : 0 < i) (d : UInt8) : Lays65 (W.setCell ⟨b, i - 1, none⟩ (.int .u8 (d.toNat : Int))) b (i - 1) (d :: ds) := by
  obtain ⟨arr, hb, hs, hl, ha⟩ := h
  refine ⟨_, heap_setCell_same W b (i - 1) arr _ _ hb, by simpa using hs, by simp; omega, fun j x hx => ?_⟩
  cases j with
  | zero =>
    simp at hx
    subst hx
    simp [show i - 1 < arr.size by omega]
  | succ j =>
    have := ha j x (by simpa using hx)
    rw [show i - 1 + (j + 1) = i + j by omega, Array.getElem?_setIfInBounds_ne (by omega)]
    exact this
theorem Lays65.new (W : World) (arr : Array Value) (hs : arr.size = 65) : Lays65 (W.alloc (.cells arr 133)) W.heap.size 65 [] :=
  ⟨arr, (by show (W.heap.push _)[W.heap.size]? = _; simp), hs, rfl, fun j d h => by cases h⟩
theorem Lays65.conv {W : World} {b i : Nat} {ds : List UInt8} (h : Lays65 W b i ds) (cap : Nat) : (convert 60 9 (.slice (some ⟨b, i, none⟩) (65 - i) cap)).run Tryd.prog W = .ok (.string (ofL ds)) W := by
  obtain ⟨arr, hb, hs, hl, ha⟩ := h
  have := conv_bytes W ⟨b, i, none⟩ (65 - i) cap (ds.map fun b => ((b.toNat : Nat) : Int)) (by simp; omega) (fun j hj => by
    simp at hj
    have h1 := ha j ds[j] (by simp [hj])
    have e : (⟨b, i, none⟩ : Addr).add j = ⟨b, i + j, none⟩ := by unfold Addr.add; split <;> simp_all
    rw [e]
    simp [World.cell?, hb, h1, hj])
  rw [u8_back] at this
  exact this

theorem slice65 (b k : Nat) (hk : k < 65) (W : World) : (Instr.sliceAt 133 (.pointer (some ⟨b, 0, none⟩)) (some (.int .i64 (k : Int))) none none).run Tryd.prog W = .ok (.slice (some ⟨b, k, none⟩) (65 - k) (65 - k)) W := by
  have hal : Tryd.prog.arrayLen 133 = 65 := by kernel_rfl
  rw [run_sliceAt_array_l W 133 ⟨b, 0, none⟩ (by kernel_rfl) .i64 (k : Int) (by omega) (by rw [hal]; omega), hal]
  have hz : ∀ W, (Go.sizeOf (Tryd.prog.elem 133)).run Tryd.prog W = .ok 1 W := fun W => by kernel_rfl
  rw [hz]
  simp [Result.andThen, slicedAt, sliced, Addr.add]
  rw [if_neg (by omega)]
  split
  · rename_i h; rw [h]
  · rfl

set_option maxRecDepth 100000 in
set_option maxHeartbeats 2000000 in
theorem formatBits_in (N : Nat) (hN : N ≤ 1114111) (w : World) (hT : Tab w) :
    Calls Tryd.prog 70 #[.slice none 0 0, .int .u64 (N : Int), .int .i64 16, .bool false, .bool false] w fun e w' => e = .returned (.tuple #[.slice none 0 0, .string (ofL (fb N))]) ∧ Below w.heap.size w w' := by
  have htz := hide (tz_in)
  have e1 : bits BinOp.and IntKind.i64 16 15 = 0 := by decide
  go_enter Tryd.func70, Tryd.ntmps70
  go_wp2_with (first | (go_at_call 88; refine (unhide htz _ (hT.below (B := w.heap.size) ((Below.refl _ _).alloc (Nat.le_refl _) _) hT.2)).mono ?_; rintro e w' ⟨rfl, rfl⟩) | (go_at_call 87; go_in))
  clear htz hT e1
  go_loopw [1, 13] (fun a b wr => ∃ (u i : Nat) (ds : List UInt8), a = .int .u64 u ∧ b = .int .i64 i ∧ i ≤ 65 ∧ u ≤ 1114111 ∧ Hid (u * 16 ^ ds.length ≤ N ∧ fb N = fb u ++ ds ∧ Lays65 wr w.heap.size i ds) ∧ Hid (u = 0 → ds.length = 0) ∧ Below w.heap.size w wr) (fun a _ _ => (Lib.intOf a).toNat)
  case atStart => exact ⟨N, 65, [], rfl, rfl, by omega, hN, hide ⟨by simp, by simp, Lays65.new _ _ (by simp)⟩, hide (fun _ => rfl), (Below.refl _ _).alloc (Nat.le_refl _) _⟩
  case round =>
    obtain ⟨u, i, ds, rfl, rfl, hi, hu, H, H0, hB⟩ := hrel
    by_cases h16 : u < 16
    · have i1 : (u : Int) < 16 := by omega
      have hi0 : 0 < i := by
        have h1 := (unhide H).1
        obtain ⟨_, _, _, h, _⟩ := (unhide H).2.2
        by_cases h5 : ds.length ≤ 5
        · omega
        · by_cases hu0 : u = 0
          · have := unhide H0 hu0; omega
          · have h2 : 16 ^ 6 ≤ 16 ^ ds.length := Nat.pow_le_pow_right (by decide) (by omega)
            have h3 : 1 * 16 ^ 6 ≤ u * 16 ^ ds.length := Nat.mul_le_mul (by omega) h2
            omega
      obtain ⟨⟨v0, c0⟩, f0⟩ := (unhide H).2.2.cell (i - 1) (by omega)
      obtain ⟨k, rfl⟩ : ∃ k, i = k + 1 := ⟨i - 1, by omega⟩
      simp only [Nat.add_sub_cancel] at c0 f0
      have hdg := dig_get u h16 (show u < 36 by omega)
      have s1 : ((k + 1 : Nat) : Int) - 1 = (k : Int) := by omega
      have H2 := Lays65.store (unhide H).2.2 hi0 (hxD u)
      have hcv := H2.conv
      rw [show hxD u :: ds = fb u ++ ds by rw [fb_small h16]; rfl, ← (unhide H).2.1] at hcv
      rw [Nat.add_sub_cancel] at hcv
      have hsl := slice65 w.heap.size k (by omega)
      go_wp2
      go_ret2
      exact ⟨rfl, hB.setCell (Nat.le_refl _) _⟩
    · have hds : ds.length ≤ 5 := by
        have h1 := (unhide H).1
        by_cases h5 : ds.length ≤ 5
        · exact h5
        · have h2 : 16 ^ 6 ≤ 16 ^ ds.length := Nat.pow_le_pow_right (by decide) (by omega)
          have h3 : 16 * 16 ^ 6 ≤ u * 16 ^ ds.length := Nat.mul_le_mul (by omega) h2
          omega
      have hi0 : 0 < i := by have := (unhide H).2.2; obtain ⟨_, _, _, h, _⟩ := this; omega
      obtain ⟨⟨v0, c0⟩, f0⟩ := (unhide H).2.2.cell (i - 1) (by omega)
      obtain ⟨k, rfl⟩ : ∃ k, i = k + 1 := ⟨i - 1, by omega⟩
      simp only [Nat.add_sub_cancel] at c0 f0
      have hm : bits BinOp.and IntKind.u64 (u : Int) 15 = ((u % 16 : Nat) : Int) := by
        have := u64_and_nat u 15 (by omega) (by omega)
        rw [nat_mask4] at this
        exact this
      have hdg := dig_get (u % 16) (by omega) (show u % 16 < 36 by omega)
      have i1 : (16 : Int) ≤ (u : Int) := by omega
      have s1 : ((k + 1 : Nat) : Int) - 1 = (k : Int) := by omega
      have H2 := hide (Lays65.store (unhide H).2.2 hi0 (hxD (u % 16)))
      go_wp2
      go_roundw
      case rel =>
        refine ⟨u / 16, k, hxD (u % 16) :: ds, by simp, rfl, by omega, by omega, hide ⟨?_, ?_, ?_⟩, hide (fun h => by omega), hB.setCell (Nat.le_refl _) _⟩
        · have h1 := (unhide H).1
          rw [List.length_cons, Nat.pow_succ]
          have h2 : u / 16 * (16 ^ ds.length * 16) ≤ u * 16 ^ ds.length := by
            rw [Nat.mul_comm (16 ^ ds.length) 16, ← Nat.mul_assoc]
            exact Nat.mul_le_mul_right _ (by omega)
          omega
        · rw [(unhide H).2.1, fb_step h16]; simp
        · have := unhide H2
          rw [Nat.add_sub_cancel] at this
          exact this
      case measure => simp [Lib.intOf]; omega

set_option maxHeartbeats 400000 in
/-- a number's hexadecimal digits -/
theorem format_in (N : Nat) (hN : N ≤ 1114111) (w : World) (hT : Tab w) :
    Calls Tryd.prog 36 #[.int .i64 (N : Int), .int .i64 16] w fun e w' => e = .returned (.string (ofL (fb N))) ∧ Below w.heap.size w w' := by
  have hfb := fun W h => hide (formatBits_in N hN W h)
  have i1 : ¬ (N : Int) < 0 := by omega
  have u1 : IntKind.u64.wrap (N : Int) = (N : Int) := by rw [IntKind.wrap_u64]; omega
  go_enter Tryd.func36, Tryd.ntmps36
  go_wp2_with (first | (go_at_call 70; refine (unhide (hfb _ hT)).mono ?_; rintro e w' ⟨rfl, hB⟩) | go_in)
  go_ret
  exact ⟨rfl, hB⟩

theorem fb_len (b : Nat) (h : b < 256) : (fb b).length = if b < 16 then 1 else 2 := by
  by_cases h1 : b < 16
  · rw [fb_small h1, if_pos h1]; rfl
  · rw [fb_step h1, fb_small (by omega), if_neg h1]; rfl

set_option maxHeartbeats 800000 in
theorem byteEscape_in (b : Nat) (h : b < 256) (w : World) (hT : Tab w) :
    Calls Tryd.prog 34 #[.int .u8 (b : Int)] w fun e w' => e = .returned (.string (ofL (bxL b))) ∧ Below w.heap.size w w' := by
  have hf := fun W h => hide (format_in b (by omega) W h)
  have hl := fb_len b h
  have hs : (ofL (fb b)).size = (fb b).length := ofL_size _
  by_cases h1 : b < 16
  · rw [if_pos h1] at hl
    have e0 : (ofL (fb b)).size = 1 := by rw [hs, hl]
    have hr := fun W => hide (repeat_one ⟨#[48]⟩ W)
    have he : (⟨#[92, 120]⟩ : ByteArray) ++ ⟨#[48]⟩ ++ ofL (fb b) = ofL (bxL b) := by
      rw [fb_small h1]
      apply toList_inj
      simp [ofL, bxL, show b / 16 = 0 by omega, show b % 16 = b by omega]
      rfl
    have HE := hide he
    clear hl hs he h1
    go_enter Tryd.func34, Tryd.ntmps34
    go_wp2_with (first | (go_at_call 36; refine (unhide (hf _ hT)).mono ?_; rintro e w' ⟨rfl, hB⟩) | (go_at_call 51; refine (unhide (hr _)).mono ?_; rintro e w' ⟨rfl, rfl⟩))
    go_ret
    exact ⟨by rw [← unhide HE]; rfl, hB⟩
  · rw [if_neg h1] at hl
    have e0 : (ofL (fb b)).size = 2 := by rw [hs, hl]
    have hr := fun W => hide (repeat_zero ⟨#[48]⟩ W)
    have he : (⟨#[92, 120]⟩ : ByteArray) ++ ⟨#[]⟩ ++ ofL (fb b) = ofL (bxL b) := by
      rw [fb_step h1, fb_small (by omega)]
      apply toList_inj
      simp [ofL, bxL]
    have HE := hide he
    clear hl hs he h1
    go_enter Tryd.func34, Tryd.ntmps34
    go_wp2_with (first | (go_at_call 36; refine (unhide (hf _ hT)).mono ?_; rintro e w' ⟨rfl, hB⟩) | (go_at_call 51; refine (unhide (hr _)).mono ?_; rintro e w' ⟨rfl, rfl⟩))
    go_ret
    exact ⟨by rw [← unhide HE]; rfl, hB⟩

end Go.Proofs.YticjilkcobpcjaaDoor
