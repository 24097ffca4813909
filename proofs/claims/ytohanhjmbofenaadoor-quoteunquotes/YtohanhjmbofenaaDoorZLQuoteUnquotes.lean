/-
  Chapter 4's law QuoteUnquotes returns true for every text, number and byte, and leaves its arguments as they were; the tables of the library that its row lists hold what the program's text lays (the card ties them).
-/
import Derived.Test.YtohanhjmbofenaaDoorRows
import Derived.Test.YtohanhjmbofenaaDoorCards
import Derived.Test.YtohanhjmbofenaaDoorTie
import Derived.SevenTiedAt
import Derived.LaidMore
import Derived.Stop.Joined
import Derived.WalkKit
import Derived.ProofKit
import Derived.OpenShut
import Derived.ShutString
import Derived.ChangeOld
import Derived.Below
import Derived.Test.YtohanhjmbofenaaDoorZLaid
import Derived.Test.YtohanhjmbofenaaDoorZRu
import Derived.Test.YtohanhjmbofenaaDoorZPK
set_option linter.unusedVariables false
set_option linter.unusedSimpArgs false
namespace Go.Proofs.YtohanhjmbofenaaDoor
namespace LQuoteUnquotes
open Go.ChangeShapes Go.WideShapes Go.ChangeAt Go.RowKit Go.Lib
open Go.ChangeMaps (open_string shut_string)

/-- a row of bytes that the call made of a text -/
def BR (W : World) (b : Nat) (l : List UInt8) : Prop := ∃ arr : Array Value, W.heap[b]? = some (.cells arr 5 (arr.size, arr.size + 1)) ∧ l.length ≤ arr.size ∧ ∀ (j : Nat) (x : UInt8), l[j]? = some x → arr[j]? = some (Value.int .u8 (x.toNat : Int))
theorem BR.cell {W : World} {b : Nat} {l : List UInt8} (h : BR W b l) {j : Nat} (hj : j < l.length) : W.cell? ⟨b, j, none⟩ = some (.int .u8 ((l[j]).toNat : Int)) ∧ W.frozen? ⟨b, j, none⟩ = false := by
  obtain ⟨arr, hb, hl, ha⟩ := h
  have h1 := ha j l[j] (by simp [hj])
  refine ⟨by simp [World.cell?, hb, h1], ?_⟩
  have : ¬ arr.size ≤ j := by omega
  simp [World.frozen?, hb, this]
theorem BR.below {W W' : World} {b B : Nat} {l : List UInt8} (h : BR W b l) (hb : Below B W W') (hB : b < B) : BR W' b l := by
  obtain ⟨arr, h1, h2⟩ := h
  exact ⟨arr, (hb.block b hB).trans h1, h2⟩
theorem BR.set {W : World} {b : Nat} {l : List UInt8} (h : BR W b l) {j : Nat} (hj : j < l.length) (x : UInt8) : BR (W.setCell ⟨b, j, none⟩ (.int .u8 (x.toNat : Int))) b (l.set j x) := by
  obtain ⟨arr, hb, hl, ha⟩ := h
  have hlt : b < W.heap.size := (Array.getElem?_eq_some_iff.1 hb).1
  have e : (W.setCell ⟨b, j, none⟩ (.int .u8 (x.toNat : Int))).heap[b]? = some (.cells (arr.setIfInBounds j (.int .u8 (x.toNat : Int))) 5 (arr.size, arr.size + 1)) := by
    rw [setCell_eq_setRow W b j arr _ _ _ hb]
    exact setRow_heap W b arr _ _ _ hb
  refine ⟨arr.setIfInBounds j (.int .u8 (x.toNat : Int)), by rw [e, Array.size_setIfInBounds], by rw [Array.size_setIfInBounds, List.length_set]; exact hl, fun k y hk => ?_⟩
  by_cases ek : k = j
  · subst ek
    rw [List.getElem?_set_self hj] at hk
    cases hk
    simp [show k < arr.size by omega]
  · rw [List.getElem?_set_ne (fun e => ek e.symm)] at hk
    rw [Array.getElem?_setIfInBounds_ne (fun e => ek e.symm)]
    exact ha k y hk
theorem BR.conv {W : World} {b : Nat} {l : List UInt8} (h : BR W b l) (n cap : Nat) (hn : n = l.length) : (convert 30 9 (.slice (some ⟨b, 0, none⟩) n cap)).run Tryd.prog W = .ok (.string (ofL l)) W := by
  have hc := conv_bytes W ⟨b, 0, none⟩ n cap (l.map fun b => ((b.toNat : Nat) : Int)) (by simp [hn]) (fun j hj => by
    have hj' : j < l.length := by simpa using hj
    have e : (⟨b, 0, none⟩ : Addr).add j = ⟨b, j, none⟩ := by unfold Addr.add; split <;> simp_all
    rw [e, (h.cell hj').1]
    simp [hj'])
  rw [u8_back] at hc
  exact hc
theorem BR.new (w : World) (s : ByteArray) (cap : Nat) : BR (w.drew.alloc (.cells (bytesRow s cap) 5 ((bytesRow s cap).size, (bytesRow s cap).size + 1))) w.heap.size s.data.toList := by
  refine ⟨bytesRow s cap, by show (w.heap.push _)[w.heap.size]? = _; simp, by unfold bytesRow; simp, fun j x hx => ?_⟩
  have hj := (List.getElem?_eq_some_iff.1 hx).1
  unfold bytesRow
  rw [Array.getElem?_append_left (by simpa using hj)]
  simp at hx
  simp [hx]

theorem wf_u8_inv {a : Int} (h : (Lit.int .u8 a).wf = true) : 0 ≤ a ∧ a < 256 := by
  have h1 : IntKind.u8.min ≤ a ∧ a ≤ IntKind.u8.max := by simpa [Lit.wf] using h
  have h2 : IntKind.u8.min = 0 := rfl
  have h3 : IntKind.u8.max = 255 := rfl
  omega
theorem qL_le (s : ByteArray) : ∀ (l : List Nat), (∀ i ∈ l, i < s.size) → (qL s l).length ≤ 10 * l.length
  | [], _ => by simp [qL]
  | i :: l, h => by
    have h1 := qP_len s i (h i (List.mem_cons_self ..))
    have h2 := qL_le s l (fun j hj => h j (List.mem_cons_of_mem _ hj))
    show (qP s i ++ qL s l).length ≤ _
    rw [List.length_append, List.length_cons]; omega
theorem qT_le (s : ByteArray) : (qT s).size ≤ 10 * s.size + 2 := by
  have h1 := qL_le s (allL s) (fun i hi => (mem_allL.1 hi).1)
  have h2 := allL_length s
  rw [qT_size]; omega

set_option maxRecDepth 100000 in
set_option maxHeartbeats 4000000 in
theorem walk (a0 : ByteArray) (a1 a2 : Int) (w0 : a0.size ≤ maxLen) (w1 : (Lit.int .i64 a1).wf = true) (w2 : (Lit.int .u8 a2).wf = true) (w : World) (hT : Tab w) :
    Calls Tryd.prog 4 #[.string a0, .int .i64 a1, .int .u8 a2] w fun e w' => e = .returned (.bool true) ∧ Below w.heap.size w w' := by
  unfold maxLen at w0
  have h3 := fun W h => hide (known_in W h)
  have Ht := hide hT
  clear hT
  by_cases hbig : 20000 < a0.size
  · have i1 : (20000 : Int) < (a0.size : Int) := by omega
    clear hbig
    go_enter Tryd.func4, Tryd.ntmps4
    go_wp2_with fail
    refine (unhide (h3 w (unhide Ht))).mono ?_
    rintro e w3 ⟨rfl, b3⟩
    go_wp2
    go_ret
    exact ⟨rfl, b3⟩
  · have i1 : ¬ (20000 : Int) < (a0.size : Int) := by omega
    have h1 := fun W => hide (unquote_in a0 (by omega) W)
    have h2 := fun W => hide (refUnq_in a0 (by omega) W)
    have hq := fun W => hide (refQuote_in a0 (by omega) W)
    have hql := qT_size a0
    have hqb := qT_le a0
    obtain ⟨q, hqq⟩ : ∃ q, qT a0 = q := ⟨_, rfl⟩
    rw [hqq] at hq hql hqb
    have h2L : 2 ≤ q.size := by omega
    have hLb : q.size ≤ 1000000000 := by omega
    have u1 := fun (t : ByteArray) (ht : t.size ≤ 1000000000) W => hide (unquote_in t ht W)
    have u2 := fun (t : ByteArray) (ht : t.size ≤ 1000000000) W => hide (refUnq_in t ht W)
    obtain ⟨T0, hT0⟩ : ∃ T0, uqT a0 = T0 := ⟨_, rfl⟩
    obtain ⟨N0, hN0⟩ : ∃ N0, uqN a0 = N0 := ⟨_, rfl⟩
    obtain ⟨E0, hE0⟩ : ∃ E0, uqE a0 = E0 := ⟨_, rfl⟩
    rw [hT0, hN0, hE0] at h1 h2
    obtain ⟨c, hc, hc2⟩ : ∃ c : Nat, a2 = (c : Int) ∧ c < 256 := by
      have := wf_u8_inv w2
      exact ⟨a2.toNat, by omega, by omega⟩
    subst hc
    obtain ⟨L, hL⟩ : ∃ L, q.size = L := ⟨_, rfl⟩
    have hidx : ∃ k : Nat, k < L ∧ ((a1.tmod (L : Int) = (k : Int)) ∨ ∃ m : Int, a1.tmod (L : Int) = m ∧ m < 0 ∧ -(L : Int) < m ∧ m + (L : Int) = (k : Int)) := by
      have hp : (0 : Int) < (L : Int) := by omega
      have h5 := Int.tmod_lt_of_pos a1 hp
      have h6 := Int.lt_tmod_of_pos a1 hp
      by_cases h7 : a1.tmod (L : Int) < 0
      · exact ⟨(a1.tmod (L : Int) + L).toNat, by omega, .inr ⟨_, rfl, h7, h6, by omega⟩⟩
      · exact ⟨(a1.tmod (L : Int)).toNat, by omega, .inl (by omega)⟩
    have l0 : ((L : Int) == 0) = false := by rw [beq_eq_false_iff_ne]; omega
    have l1 : ¬ (L : Int) = 0 := by omega
    rw [hL] at h2L hLb
    have HL := hide hL
    clear hql hqb hqq hT0 hN0 hE0 w1 w2 hL hbig w0
    go_enter Tryd.func4, Tryd.ntmps4
    go_wp2_with fail
    refine (unhide (h1 w)).mono ?_
    rintro e W1 ⟨rfl, b1⟩
    go_wp2_with fail
    refine (unhide (h2 W1)).mono ?_
    rintro e W2 ⟨rfl, b2⟩
    have b12 := b1.trans (b2.mono b1.size)
    go_wp2_with fail
    refine (unhide (hq W2)).mono ?_
    rintro e W3 ⟨rfl, b3⟩
    have b13 := b12.trans (b3.mono b12.size)
    have hcv := run_bytes_of_string (P := Tryd.prog) W3 9 30 5 q Tryd.underlying9 Tryd.underlying30 Tryd.underlying5
    obtain ⟨cp, hcp⟩ : ∃ cp, grownCap W3 q.size 0 5 = cp := ⟨_, rfl⟩
    rw [hcp] at hcv
    have R4 := BR.new W3 q cp
    have b4 := b13.drew.alloc b13.size (.cells (bytesRow q cp) 5 ((bytesRow q cp).size, (bytesRow q cp).size + 1))
    have hs4 : W3.heap.size < (W3.drew.alloc (.cells (bytesRow q cp) 5 ((bytesRow q cp).size, (bytesRow q cp).size + 1))).heap.size := by simp
    obtain ⟨W4, hW4⟩ : ∃ W4, W3.drew.alloc (.cells (bytesRow q cp) 5 ((bytesRow q cp).size, (bytesRow q cp).size + 1)) = W4 := ⟨_, rfl⟩
    rw [hW4] at hcv R4 b4 hs4
    rw [unhide HL] at hcv
    have hlen : q.data.toList.length = L := by rw [← unhide HL]; simp
    obtain ⟨l, hl⟩ : ∃ l, q.data.toList = l := ⟨_, rfl⟩
    rw [hl] at R4 hlen
    obtain ⟨B, hBB⟩ : ∃ B, W3.heap.size = B := ⟨_, rfl⟩
    rw [hBB] at hcv R4 hs4
    have hBw : w.heap.size ≤ B := by rw [← hBB]; exact b13.size
    have HR := hide R4
    have Hb4 := hide b4
    clear hW4 hcp R4 hl b1 b2 b3 b12 b13 b4 hBB HL
    obtain ⟨k, hk, hcase⟩ := hidx
    have hkl : k < l.length := by omega
    obtain ⟨f1, f2⟩ := (unhide HR).cell hkl
    have R5 := (unhide HR).set hkl (UInt8.ofNat c)
    rw [u8n c hc2] at R5
    have b5 := (unhide Hb4).setCell (p := ⟨B, k, none⟩) hBw (.int .u8 (c : Int))
    have hcv5 := R5.conv L cp (by rw [List.length_set]; omega)
    have hs5 : (W4.setCell ⟨B, k, none⟩ (.int .u8 (c : Int))).heap.size = W4.heap.size := World.size_setCell ..
    obtain ⟨W5, hW5⟩ : ∃ W5, W4.setCell ⟨B, k, none⟩ (.int .u8 (c : Int)) = W5 := ⟨_, rfl⟩
    rw [hW5] at R5 b5 hcv5 hs5
    have htz : (ofL (l.set k (UInt8.ofNat c))).size ≤ 1000000000 := by rw [ofL_size, List.length_set]; omega
    obtain ⟨t, ht⟩ : ∃ t, ofL (l.set k (UInt8.ofNat c)) = t := ⟨_, rfl⟩
    rw [ht] at hcv5 htz
    have u1 := fun W => hide (unhide (u1 t htz W))
    have u2 := fun W => hide (unhide (u2 t htz W))
    have HR5 := hide R5
    have Hb5 := hide b5
    have HcvF : ∀ W', Below W5.heap.size W5 W' → Hid ((convert 30 9 (.slice (some ⟨B, 0, none⟩) L cp)).run Tryd.prog W' = .ok (.string t) W') := fun W' hW' => hide (by
      have := ((unhide HR5).below hW' (by omega)).conv L cp (by rw [List.length_set]; omega)
      rw [ht] at this
      exact this)
    obtain ⟨v0, hv0⟩ : ∃ v0, W4.cell? ⟨B, k, none⟩ = some v0 := ⟨_, f1⟩
    have k0 : (0 : Int) ≤ (k : Int) := by omega
    have k1 : (k : Int) < (L : Int) := by omega
    clear f1 R5 b5 HR Hb4 ht
    rcases hcase with hm | ⟨m, hm, hm0, hmL, hmk⟩
    · have hnn : ¬ a1.tmod (L : Int) < 0 := by omega
      go_wp2_with fail
      refine (unhide (u1 W5)).mono ?_
      rintro e W6 ⟨rfl, b6⟩
      have hcv6 := unhide (HcvF W6 b6)
      have b56 := (unhide Hb5).trans (b6.mono (unhide Hb5).size)
      go_wp2_with fail
      refine (unhide (u2 W6)).mono ?_
      rintro e W7 ⟨rfl, b7⟩
      have b57 := b56.trans (b7.mono b56.size)
      go_wp2_with fail
      refine (unhide (h3 W7 ((unhide Ht).below b57 (unhide Ht).2))).mono ?_
      rintro e W8 ⟨rfl, b8⟩
      have b58 := b57.trans (b8.mono b57.size)
      go_wp2
      go_ret
      exact ⟨rfl, b58⟩
    · have hm1 : a1.tmod (L : Int) < 0 := by omega
      go_wp2_with fail
      refine (unhide (u1 W5)).mono ?_
      rintro e W6 ⟨rfl, b6⟩
      have hcv6 := unhide (HcvF W6 b6)
      have b56 := (unhide Hb5).trans (b6.mono (unhide Hb5).size)
      go_wp2_with fail
      refine (unhide (u2 W6)).mono ?_
      rintro e W7 ⟨rfl, b7⟩
      have b57 := b56.trans (b7.mono b56.size)
      go_wp2_with fail
      refine (unhide (h3 W7 ((unhide Ht).below b57 (unhide Ht).2))).mono ?_
      rintro e W8 ⟨rfl, b8⟩
      have b58 := b57.trans (b8.mono b57.size)
      go_wp2
      go_ret
      exact ⟨rfl, b58⟩

theorem own : ownKnob Tryd.prog.godebug = none := by kernel_rfl

theorem door_met (os : Os) (args : Array Value) : laidMetH Tryd.prog Rows.quoteUnquotesRow.laid ((World.doorLaid Tryd.prog 400 os).forCall (fun _ _ => 0) ⟨#[], args, []⟩).memory :=
  laidMetH_of_parts3 (fuel := 8) (laidMet_of_run' 8 (by kernel_rfl) (by kernel_rfl)) (by kernel_rfl) (by kernel_rfl)

set_option maxRecDepth 100000 in
theorem lifted (os : Os) (started : os.Started) (H : Type) (enc : TypeId × Value → H) :
    ReturnsInHanded {} Tryd.checked os 4 .any (fun w args => (Rows.quoteUnquotesSpec.pre enc Tryd.prog Tryd.f4 [] false w args ∧ laidMetH Tryd.prog Rows.quoteUnquotesRow.laid w) ∧ sizedMet enc Tryd.prog Tryd.f4 (OpenSpec.ofChange Rows.quoteUnquotesSpec) false w args)
      (Rows.quoteUnquotesSpec.post enc Tryd.prog Tryd.f4 false true false false) := by
  refine returnsInHanded_of_change_and (C := Tryd.checked) (X := fun w _ => laidMetH Tryd.prog Rows.quoteUnquotesRow.laid w) (fun _ _ _ hh h => h.of_heap hh) own started (by kernel_rfl) Tryd.func4
    (ChangeSpec.witness_shaped (enc := enc) (C := Tryd.checked) (os := os) (X := fun w _ => laidMetH Tryd.prog Rows.quoteUnquotesRow.laid w) false (World.doorLaid Tryd.prog 400 os) #[.string ByteArray.empty, .int .i64 0, .int .u8 0] 8 rfl (World.shaped_of_RefB (by kernel_rfl) (by kernel_rfl)) (by kernel_rfl) (by kernel_rfl) (by kernel_rfl) (door_met os _)) ?_
  intro W base args ds gs before hval0 hW _ _ hL _
  rw [MakeChecks.laidMetH_plain _ _ _ (by kernel_rfl)] at hL
  have hT := tab_of (by kernel_rfl) hL
  have hval : ∀ (j : Nat) t v, Tryd.f4.params[j]? = some t → args[j]? = some v → Value.okWide Tryd.prog W .any base t v := hval0
  have hW' := hW
  obtain ⟨p, q, hA0, hV, rfl, hfz, hnd⟩ := hW
  have hA : DataW.TrodAll enc Tryd.prog W 0 (fun _ => true) true Tryd.f4.params.toList args.toList ds p := hA0
  rw [Tryd.params4] at hA hval
  obtain ⟨v0, vs0, d0, ds0, p0, q0, hargs, rfl, rfl, h0, r0⟩ := trodAll_cons hA
  obtain ⟨v1, vs1, d1, ds1, p1, q1, rfl, rfl, rfl, h1, r1⟩ := trodAll_cons r0
  obtain ⟨v2, vs2, d2, ds2, p2, q2, rfl, rfl, rfl, h2, r2⟩ := trodAll_cons r1
  obtain ⟨rfl, rfl, rfl⟩ := trodAll_nil r2
  obtain rfl : args = #[v0, v1, v2] := by cases args; simp_all
  obtain ⟨rfl, rfl⟩ := trodVars_none hV
  obtain ⟨a0, rfl, rfl, rfl, w0⟩ := open_string Tryd.underlying9 (hval 0 9 v0 rfl rfl) h0
  obtain ⟨a1, rfl, rfl, rfl, w1⟩ := open_int Tryd.underlying3 (hval 1 3 v1 rfl rfl) h1
  obtain ⟨a2, rfl, rfl, rfl, w2⟩ := open_int Tryd.underlying5 (hval 2 5 v2 rfl rfl) h2
  clear hA0 hval0
  simp only [List.append_nil] at hW'
  refine (walk a0 a1 a2 w0 w1 w2 W hT).mono fun e W' ⟨he, bel⟩ => ?_
  subst he
  exact ⟨_, rfl, _, _, _, [], _, [], hW', trodAll_mk1 (shut_bool Tryd.underlying4 _), (trodAll_cons_mk (shut_string Tryd.underlying9 w0) (trodAll_cons_mk (shut_int Tryd.underlying3 w1) (trodAll_cons_mk (shut_int Tryd.underlying5 w2) trodAll_mk0))), rfl, bel.frame _, fun h => by cases h⟩

theorem over : Rows.quoteUnquotesRow.holds Tryd.pinned (OpenSpec.ofChange Rows.quoteUnquotesSpec) :=
  OpenClaim.holds_of_wide 4 Tryd.f4 rfl rfl rfl rfl rfl rfl rfl ⟨rfl, rfl, rfl, rfl, rfl⟩ rfl rfl rfl rfl rfl (by kernel_rfl) Tryd.func4 (by kernel_rfl)
    (of_decide_eq_true (by kernel_rfl)) (by unfold Func.isWrapper; first | (rw [if_pos (by decide +kernel)]; kernel_rfl) | (rw [if_neg (by decide +kernel)]; exact ⟨rfl, rfl⟩))
    (fun os started H enc _ => lifted os started H enc)

end LQuoteUnquotes

theorem quoteUnquotes_holds : Rows.QuoteUnquotesCardSaid :=
  Claim7.holds_tied_plain_at .later [] [.data, .data, .data] true (true, "998c4a6e6a127876837f114556346c46969a0b937df30f5889d4ae744ef742ee") true
    LQuoteUnquotes.over (fun _ h => by cases h) (by kernel_rfl) (fun _ h => by cases h) quoteUnquotes_row_tie rfl ⟨rfl, rfl⟩ (by kernel_rfl) rfl
    (fun f fn hf hfn => by
      obtain rfl : f = 4 := Option.some.inj ((show Tryd.prog.funcNamed Rows.quoteUnquotesRow.func = some 4 by kernel_rfl).symm.trans hf) |>.symm
      obtain rfl : fn = Tryd.f4 := (Option.some.inj (Tryd.func4.symm.trans hfn)).symm
      exact ⟨by kernel_rfl, fun j t ht => by
        rw [Tryd.params4] at ht
        have hm : t ∈ [9, 3, 5] := by simpa using Array.mem_of_getElem? ht
        have hall : ([9, 3, 5].all fun u => !Tryd.prog.wantsStandIn u) = true := by kernel_rfl
        exact (show Tryd.prog.wantsStandIn t = false by simpa using List.all_eq_true.1 hall t hm)⟩)
    (by kernel_rfl)

end Go.Proofs.YtohanhjmbofenaaDoor
