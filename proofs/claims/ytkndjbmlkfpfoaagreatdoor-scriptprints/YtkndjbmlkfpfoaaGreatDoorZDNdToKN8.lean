/-
  What the document's Print answers.
-/
import Derived.Test.YtkndjbmlkfpfoaaGreatDoorZTM
import Derived.Test.YtkndjbmlkfpfoaaGreatDoorZDNaToDNc
import Derived.Test.YtkndjbmlkfpfoaaGreatDoorZKN0ToKN2
import Derived.Test.YtkndjbmlkfpfoaaGreatDoorZSv
import Derived.Deep.Slices
import Derived.OpenShut
import Derived.ChangeSame
import Derived.ChangeArms
import Derived.SizedLaws
import Derived.Test.YtkndjbmlkfpfoaaGreatDoorZLN2ToKN4

set_option linter.unusedSimpArgs false
set_option linter.unusedVariables false
namespace Go.Proofs.YtkndjbmlkfpfoaaGreatDoor
open Go.RowKit Go.Lib

set_option maxRecDepth 100000 in
set_option maxHeartbeats 4000000 in
theorem refPrint_in {w : World} {v : Value} {l : List (Sp × Value × Value)} (h : RStp w v l) (hw : ∀ x ∈ l, SpW x.1) (hl : l.length ≤ 1000000) (hs : (pT l).length ≤ 1000000000) (ho : ∀ x ∈ l, (dlT x.1).length ≤ 1000000000) :
    Calls Tryz.prog 16 #[v] w fun e W => PrA l e ∧ Below w.heap.size w W := by
  obtain ⟨a0, c0, rfl⟩ := h.row.form
  have HR := hide h
  have HW := hide hw
  have HS := hide hs
  obtain ⟨N, hN⟩ : ∃ N, l.length = N := ⟨_, rfl⟩
  rw [hN] at hl ⊢
  have HN := hide hN
  clear h hw hs hN
  go_enter Tryz.func16, Tryz.ntmps16
  go_wp2
  go_loopw [4, 5] (fun v4 v5 wr => ∃ (j : Nat), v4 = .string (ofL (pT (l.take j))) ∧ v5 = .int .i64 (j : Int) ∧ j ≤ N ∧ Hid ((∀ x ∈ l.take j, isK x.1) ∧ Below w.heap.size w wr)) (fun _ v5 _ => N - (RowKit.intOf v5).toNat)
  case atStart => exact ⟨0, rfl, rfl, Nat.zero_le _, hide ⟨fun x hx => by simp at hx, Below.refl _ _⟩⟩
  case round =>
    obtain ⟨j, rfl, rfl, hj, H⟩ := hrel
    by_cases hjl : j < N
    · obtain ⟨⟨s, dv, bv⟩, he⟩ : ∃ e, l[j]? = some e := ⟨_, List.getElem?_eq_getElem (by rw [unhide HN]; exact hjl)⟩
      have hmem := List.mem_of_getElem? he
      have hR2 := (unhide HR).below (unhide H).2
      obtain ⟨a1, k1, e1⟩ := RC.form (hR2.dr _ hmem)
      obtain ⟨a2, k2, e2⟩ := RC.form (hR2.by_ _ hmem)
      simp only at e1 e2
      obtain ⟨b3, off, rfl, hblt, hcs⟩ := hR2.at he
      have hdr := hR2.dr _ hmem
      have hby := hR2.by_ _ hmem
      simp only at hdr hby
      subst e1
      subst e2
      have hwx := unhide HW _ hmem
      simp only at hwx
      have hox := ho _ hmem
      simp only at hox
      have hpt := pT_take he
      simp only at hpt
      have hple := pT_le (l := l) (j := j + 1)
      rw [hpt] at hple
      have hnm := hide (name_in s.kind wr)
      have hln := fun (W1 : World) (hb : Below wr.heap.size wr W1) => refLine_in W1 s _ _ (RC.below hdr hb) (RC.below hby hb) hwx hox
      have HLn := hide hln
      obtain ⟨n1, hn1⟩ : ∃ n, s.draws.length = n := ⟨_, rfl⟩
      obtain ⟨n2, hn2⟩ : ∃ n, s.data.length = n := ⟨_, rfl⟩
      rw [hn1, hn2] at HLn
      have HN1 := hide hn1
      have HN2 := hide hn2
      rw [hn1] at hdr hcs
      rw [hn2] at hby hcs
      have HA := hide (unhide H).1
      have HB := hide (unhide H).2
      have HE := hide he
      have HPT := hide hpt
      have HMem := hide hmem
      have k5 : (j : Int) < (N : Int) := by omega
      have c0 := hcs 0 (.int .i64 s.kind) rfl
      rw [Nat.add_zero] at c0
      have HCS := hide hcs
      clear hn1 hn2 hdr hby he hR2 hwx hmem hln hpt hcs
      go_wp2_with fail
      refine (unhide hnm).mono ?_
      rintro e W1 ⟨rfl, hb1⟩
      have HB1 := hide (bnext (unhide HB) hb1)
      by_cases hk : isK s
      · have hne : nmT s.kind ≠ [] := fun e => (nmT_ne _).1 e hk
        have hem : (ofL (nmT s.kind)).toList.isEmpty = false := by
          rw [ByteArray.toList_eq, ofL_list]
          cases hq : nmT s.kind with
          | nil => exact absurd hq hne
          | cons a b => rfl
        obtain ⟨NM, hNM⟩ : ∃ NM, ofL (nmT s.kind) = NM := ⟨_, rfl⟩
        rw [hNM] at hem ⊢
        have hR3 := (unhide HR).below (unhide HB1)
        obtain ⟨b4, off4, e4, hblt4, hcs4⟩ := hR3.at (unhide HE)
        simp only [Option.some.injEq, Addr.mk.injEq, and_true] at e4
        obtain ⟨rfl, rfl⟩ := e4
        rw [unhide HN1, unhide HN2] at hcs4
        have d0 := hcs4 0 (.int .i64 s.kind) rfl
        rw [Nat.add_zero] at d0
        have d1 := hcs4 1 (.int .i64 s.site) rfl
        have d2 := hcs4 2 (.int .i64 s.peer) rfl
        have d3 := hcs4 3 (.int .i64 s.unit) rfl
        have d4 := hcs4 4 (.int .i64 s.at_) rfl
        have d5 := hcs4 5 (.int .i64 s.n) rfl
        have d6 := hcs4 6 (.string s.text) rfl
        have d7 := hcs4 7 (.slice a1 n1 k1) rfl
        have d8 := hcs4 8 (.slice a2 n2 k2) rfl
        have hln := hide (unhide HLn W1 hb1)
        have hdl := hide (dlT_is hk)
        have z0 : (ofL (pT (l.take j))).size + (ofL (dlT s)).size ≤ 1000000000 := by
          rw [ofL_size, ofL_size]
          have := unhide HS
          have h3 := congrArg List.length (dlT_is hk)
          simp at h3
          simp at hple
          omega
        have hT : ofL (pT (l.take j)) ++ ofL (dlT s) ++ (⟨#[10]⟩ : ByteArray) = ofL (pT (l.take (j + 1))) := by
          rw [app_ofL, unhide HPT, ← dlT_is hk, ← List.append_assoc, ← app_ofL _ [10]]
          rfl
        obtain ⟨A, hA⟩ : ∃ A, ofL (pT (l.take j)) = A := ⟨_, rfl⟩
        obtain ⟨B, hB⟩ : ∃ B, ofL (dlT s) = B := ⟨_, rfl⟩
        rw [hA, hB] at z0 hT
        rw [hB] at hln
        rw [hA]
        have z1 : (A ++ B).size ≤ 1000000000 := by rw [ByteArray.size_append]; exact z0
        have HT := hide hT
        have hN2 := hide (show ∀ x ∈ l.take (j + 1), isK x.1 from fun x hx => by
          rw [List.take_add_one, unhide HE] at hx
          rcases List.mem_append.1 hx with h | h
          · exact unhide HA x h
          · simp at h; subst h; exact hk)
        unfold spC at hln
        clear hR3 hcs4 hA hB hT hNM hne hple hdl hox c0 HCS HLn hb1 hblt4 hblt
        go_wp2_with fail
        refine (unhide hln).mono ?_
        rintro e W2 ⟨rfl, hb2⟩
        have HB2 := hide (bnext (unhide HB1) hb2)
        clear hln hb2 d0 d1 d2 d3 d4 d5 d6 d7 d8
        go_wp2
        go_roundw
        case rel => exact ⟨j + 1, by rw [← unhide HT], by go_num, by omega, hide ⟨unhide hN2, unhide HB2⟩⟩
        case measure => simp [RowKit.intOf]; omega
      · have hne : nmT s.kind = [] := (nmT_ne _).2 hk
        have hem : (ofL (nmT s.kind)).toList.isEmpty = true := by rw [hne, ByteArray.toList_eq, ofL_list]; rfl
        obtain ⟨NM, hNM⟩ : ∃ NM, ofL (nmT s.kind) = NM := ⟨_, rfl⟩
        rw [hNM] at hem ⊢
        have HF := hide (show PrA l (.returned (.tuple #[.string ⟨#[]⟩, .int .i64 19])) ∧ Below w.heap.size w W1 from ⟨.inr ⟨⟨_, unhide HMem, hk⟩, rfl⟩, unhide HB1⟩)
        clear HB1 HB hb1
        go_wp2
        refine bodyPost_ret (results_tmp2 rfl _ _ _) rfl ?_
        exact unhide HF
    · obtain rfl : j = N := by omega
      have kd : decide ((j : Int) < (j : Int)) = false := by simp
      have e1 : l.take j = l := List.take_of_length_le (by rw [unhide HN]; exact Nat.le_refl _)
      rw [e1] at H ⊢
      have HF := hide (show PrA l (.returned (.tuple #[.string (ofL (pT l)), .int .i64 0])) ∧ Below w.heap.size w wr from ⟨.inl ⟨(unhide H).1, rfl⟩, (unhide H).2⟩)
      clear H e1
      go_wp2
      refine bodyPost_ret (results_tmp2 rfl _ _ _) rfl ?_
      exact unhide HF
end Go.Proofs.YtkndjbmlkfpfoaaGreatDoor

/-
  Pure: a small script's text is small; what Print answers is told by the steps alone.
-/
set_option linter.unusedSimpArgs false
set_option linter.unusedVariables false
namespace Go.Proofs.YtkndjbmlkfpfoaaGreatDoor
open Go.RowKit Go.Lib

/-- a step's numbers are those of Go's ints -/
structure SpI (s : Sp) : Prop where
  kind : in64 s.kind
  site : in64 s.site
  peer : in64 s.peer
  unit : in64 s.unit
  at_ : in64 s.at_
  n : in64 s.n
  dnum : ∀ x ∈ s.draws, in64 x
theorem SpI.w {s : Sp} (h : SpI s) (h1 : s.text.size ≤ 30000) (h2 : s.draws.length ≤ 400) (h3 : s.data.length ≤ 30000) : SpW s := ⟨h.kind, h.site, h.peer, h.unit, h.at_, h.n, by omega, by omega, h.dnum, by omega⟩
theorem fw_small {s : Sp} (h : SpW s) (h1 : s.text.size ≤ 30000) (h2 : s.draws.length ≤ 400) (h3 : s.data.length ≤ 30000) (f : Nat) : (blT (fw s f)).length ≤ 310000 := by
  have e1 := itoa_lim s.site h.site
  have e2 := itoa_lim s.peer h.peer
  have e3 := itoa_lim s.at_ h.at_
  have e4 := itoa_lim s.n h.n
  have e5 := blT_lim s.draws 400 h.dnum h2
  have e6 := qT_len s.text
  have e7 := qT_len (ofL s.data)
  rw [ofL_size] at e7
  simp at e6 e7
  unfold fw
  split <;> first | (simp [blT]; omega) | omega
theorem flds_small {s : Sp} (hf : ∀ f, (blT (fw s f)).length ≤ 310000) : ∀ (l : List Nat), (blT (l.flatMap (fw s))).length ≤ l.length * 310000
  | [] => by simp [blT]
  | f :: l => by
    have h1 := hf f
    have h2 := flds_small hf l
    rw [List.flatMap_cons, blT_app, List.length_append, List.length_cons]
    omega
theorem tfl_len : ∀ r ∈ tfl, r.length ≤ 3 := by decide
theorem tnm_len : ∀ r ∈ tnm, r.length ≤ 10 := by decide
theorem getD_le {α : Type} {l : List (List α)} {n : Nat} (h : ∀ r ∈ l, r.length ≤ n) (i : Nat) : (l.getD i []).length ≤ n := by
  rw [List.getD_eq_getElem?_getD]
  cases hi : l[i]? with
  | none => simp
  | some r => simpa using h r (List.mem_of_getElem? hi)
theorem stT_small {s : Sp} (h : SpW s) (h1 : s.text.size ≤ 30000) (h2 : s.draws.length ≤ 400) (h3 : s.data.length ≤ 30000) : (stT s).length ≤ 1000000 := by
  have e1 := flds_small (fun f => fw_small h h1 h2 h3 f) (tfl.getD (kx s) [])
  have e2 := getD_le tfl_len (kx s)
  have e3 := getD_le tnm_len (kx s)
  unfold stT lnT stW
  simp only [List.length_append, List.length_cons, List.length_nil]
  omega
theorem dlT_small {s : Sp} (h : SpW s) (h1 : s.text.size ≤ 30000) (h2 : s.draws.length ≤ 400) (h3 : s.data.length ≤ 30000) : (dlT s).length ≤ 1000000000 := by
  by_cases hk : isK s
  · have e := congrArg List.length (dlT_is hk)
    have e2 := stT_small h h1 h2 h3
    simp at e
    omega
  · rw [dlT_no hk]; simp
theorem smL_mem {l : List (Sp × Value × Value)} {x : Sp × Value × Value} (h : x ∈ l) : x.1.text.size + x.1.data.length ≤ smL l := by
  unfold smL
  induction l with
  | nil => cases h
  | cons a l ih =>
    rw [List.map_cons, List.sum_cons]
    rcases List.mem_cons.1 h with rfl | h
    · omega
    · have := ih h; omega
theorem pT_small : ∀ {l : List (Sp × Value × Value)}, (∀ x ∈ l, (stT x.1).length ≤ 1000000) → (pT l).length ≤ l.length * 1000000
  | [], _ => by simp [pT]
  | x :: l, h => by
    have h1 := h x (List.mem_cons_self)
    have h2 := pT_small (l := l) fun y hy => h y (List.mem_cons_of_mem _ hy)
    unfold pT at h2 ⊢
    rw [List.flatMap_cons, List.length_append, List.length_cons]
    omega
structure LitW (l : List (Sp × Value × Value)) : Prop where
  w : ∀ x ∈ l, SpW x.1
  pt : (pT l).length ≤ 1000000000
  dl : ∀ x ∈ l, (dlT x.1).length ≤ 1000000000
theorem LitS.w {l : List (Sp × Value × Value)} (h : LitS l) (hi : ∀ x ∈ l, SpI x.1) : LitW l := by
  have hb : ∀ x ∈ l, x.1.text.size ≤ 30000 ∧ x.1.data.length ≤ 30000 := fun x hx => by
    have h1 := smL_mem hx
    have h2 := h.sm
    omega
  have hw : ∀ x ∈ l, SpW x.1 := fun x hx => (hi x hx).w (hb x hx).1 (h.dr x hx) (hb x hx).2
  refine ⟨hw, ?_, fun x hx => dlT_small (hw x hx) (hb x hx).1 (h.dr x hx) (hb x hx).2⟩
  have := pT_small (l := l) fun x hx => stT_small (hw x hx) (hb x hx).1 (h.dr x hx) (hb x hx).2
  have h2 := h.len
  omega
theorem pT_eq {l m : List (Sp × Value × Value)} (h : m.map Prod.fst = l.map Prod.fst) : pT m = pT l := by
  have e : ∀ k : List (Sp × Value × Value), pT k = (k.map Prod.fst).flatMap stT := fun k => by
    unfold pT
    rw [List.flatMap_map]
  rw [e, e, h]
theorem prA_eq {l m : List (Sp × Value × Value)} (h : m.map Prod.fst = l.map Prod.fst) {e : Ending} (hp : PrA m e) : PrA l e := by
  have hm : ∀ {p : Sp → Prop}, (∀ x ∈ m, p x.1) → ∀ x ∈ l, p x.1 := fun {p} hx x hl => by
    have h1 : x.1 ∈ l.map Prod.fst := List.mem_map_of_mem hl
    rw [← h] at h1
    obtain ⟨y, hy, e⟩ := List.mem_map.1 h1
    rw [← e]
    exact hx y hy
  rcases hp with ⟨h1, h2⟩ | ⟨⟨x, hx, hk⟩, h2⟩
  · exact .inl ⟨hm h1, by rw [← pT_eq h]; exact h2⟩
  · have h1 : x.1 ∈ m.map Prod.fst := List.mem_map_of_mem hx
    rw [h] at h1
    obtain ⟨y, hy, e⟩ := List.mem_map.1 h1
    exact .inr ⟨⟨y, hy, by rw [e]; exact hk⟩, h2⟩
theorem prA_one {l : List (Sp × Value × Value)} {e e' : Ending} (h : PrA l e) (h' : PrA l e') : e = e' := by
  rcases h with ⟨h1, h2⟩ | ⟨⟨x, hx, hk⟩, h2⟩ <;> rcases h' with ⟨k1, k2⟩ | ⟨⟨y, hy, ky⟩, k2⟩
  · rw [h2, k2]
  · exact absurd (h1 y hy) ky
  · exact absurd (k1 x hx) hk
  · rw [h2, k2]

end Go.Proofs.YtkndjbmlkfpfoaaGreatDoor

/-
  Arguments, opened: steps, within the reach of one machine.
-/
set_option linter.unusedSimpArgs false
set_option linter.unusedVariables false
namespace Go.Proofs.YtkndjbmlkfpfoaaGreatDoor
open Go.RowKit Go.Lib

theorem wf8 {n : Int} (h : (Lit.int .u8 n).wf = true) : 0 ≤ n ∧ n ≤ 255 := by
  simp [Lit.wf, IntKind.min, IntKind.max, IntKind.bits, IntKind.signed] at h
  omega
theorem open_nums {H : Type} {enc : TypeId × Value → H} {w : World} {base : Nat} {spare : Nat → Bool} {held : Bool} {fuel : Nat} {c : Value} {x : DataW H × List MemPlace}
    (h : DataW.trod enc Tryz.prog w base spare held fuel 37 [c] = some x) (hw : ∀ n ∈ x.1.weights Tryz.prog 37, n ≤ reachBytes) : ∃ l, RNm w c l ∧ (∀ y ∈ l, in64 y) ∧ l.length ≤ 140737488355328 := by
  have hb8 : Tryz.prog.bytesOf 3 = 8 := by kernel_rfl
  rcases Go.ChangeShapes.open_ints Tryz.underlying37 Tryz.underlying3 (by kernel_rfl) h with ⟨hcs, hx⟩ | ⟨ad, len, cap, zs, hcs, _, hl, hm, hz, rfl, hcell, hwz⟩
  · simp at hcs
    subst hcs
    exact ⟨[], .inl ⟨rfl, _, _, rfl⟩, (fun y hy => by cases hy), by simp⟩
  · simp at hcs
    subst hcs
    have hlz : len ≤ zs.length := by rw [hz]; split <;> omega
    have h8 := hw ((zs.take len).length * 8 + (zs.drop len).length * 8) (by simp [DataW.weights, Tryz.underlying37, hb8, Go.ChangeShapes.lits, Nat.add_mul])
    obtain ⟨l, h1, h2, h3⟩ := mk_each (enc := enN) (k := 1) (fun _ => rfl) (by omega) (Pr := in64) (w := w) (ad := ad) (len := len) (cap := cap) hl (fun i hi => ⟨zs.getD i 0, fun q y hy => by
      match q, hy with
      | 0, hy => simp [enN] at hy; subst hy; rw [Nat.mul_one, Nat.add_zero]; simpa using hcell i (by omega)
      | q + 1, hy => simp [enN] at hy, wf64 (hwz _ (by rw [List.getD_eq_getElem?_getD, List.getElem?_eq_getElem (by omega)]; exact List.getElem_mem _))⟩)
    refine ⟨l, by rw [← h2] at h1 ⊢; exact h1, h3, ?_⟩
    unfold reachBytes at h8
    simp at h8
    omega
theorem flatB : ∀ l : List UInt8, flat (fun b : UInt8 => [Value.int .u8 ((b.toNat : Nat) : Int)]) l = Lib.byteCells l
  | [] => rfl
  | x :: l => by
    have := flatB l
    unfold flat Lib.byteCells at *
    rw [List.flatMap_cons, this]
    rfl
theorem open_byts {H : Type} {enc : TypeId × Value → H} {w : World} {base : Nat} {spare : Nat → Bool} {held : Bool} {fuel : Nat} {c : Value} {x : DataW H × List MemPlace}
    (h : DataW.trod enc Tryz.prog w base spare held fuel 38 [c] = some x) (hw : ∀ n ∈ x.1.weights Tryz.prog 38, n ≤ reachBytes) : ∃ l, RBy w c l ∧ l.length ≤ 140737488355328 := by
  have hb8 : Tryz.prog.bytesOf 5 = 1 := by kernel_rfl
  rcases Go.ChangeShapes.open_ints Tryz.underlying38 Tryz.underlying5 (by kernel_rfl) h with ⟨hcs, hx⟩ | ⟨ad, len, cap, zs, hcs, _, hl, hm, hz, rfl, hcell, hwz⟩
  · simp at hcs
    subst hcs
    exact ⟨[], .inl ⟨rfl, _, _, rfl⟩, by simp⟩
  · simp at hcs
    subst hcs
    have hlz : len ≤ zs.length := by rw [hz]; split <;> omega
    have h8 := hw ((zs.take len).length * 1 + (zs.drop len).length * 1) (by simp [DataW.weights, Tryz.underlying38, hb8, Go.ChangeShapes.lits, Nat.add_mul])
    obtain ⟨l, h1, h2, h3⟩ := mk_each (enc := fun b : UInt8 => [Value.int .u8 ((b.toNat : Nat) : Int)]) (k := 1) (fun _ => rfl) (by omega) (Pr := fun _ => True) (w := w) (ad := ad) (len := len) (cap := cap) hl (fun i hi => ⟨UInt8.ofNat (zs.getD i 0).toNat, fun q y hy => by
      have hq := wf8 (hwz (zs.getD i 0) (by rw [List.getD_eq_getElem?_getD, List.getElem?_eq_getElem (by omega)]; exact List.getElem_mem _))
      match q, hy with
      | 0, hy =>
        simp only [List.getElem?_cons_zero, Option.some.injEq] at hy
        subst hy
        rw [Nat.mul_one, Nat.add_zero, hcell i (by omega)]
        have : ((UInt8.ofNat (zs.getD i 0).toNat).toNat : Int) = zs.getD i 0 := by
          rw [UInt8.toNat_ofNat']
          omega
        rw [this]
      | q + 1, hy => simp at hy, trivial⟩)
    have hfb := flatB l
    refine ⟨l, ?_, ?_⟩
    · unfold RBy
      rw [hfb, ← h2] at h1
      rw [← h2]
      exact h1
    · unfold reachBytes at h8
      simp at h8
      omega

end Go.Proofs.YtkndjbmlkfpfoaaGreatDoor

/-
  Arguments, opened: a row of steps.
-/
set_option linter.unusedSimpArgs false
set_option linter.unusedVariables false
namespace Go.Proofs.YtkndjbmlkfpfoaaGreatDoor
open Go.RowKit Go.Lib

/-- a step that came in -/
structure StI (W : World) (e : Sp × Value × Value) : Prop where
  i : SpI e.1
  dr : RNm W e.2.1 e.1.draws
  by_ : RBy W e.2.2 e.1.data
  rch : e.1.text.size ≤ 140737488355328 ∧ e.1.data.length ≤ 140737488355328 ∧ e.1.draws.length ≤ 140737488355328
set_option maxRecDepth 100000 in
theorem open_step {H : Type} {enc : TypeId × Value → H} {w : World} {base : Nat} {spare : Nat → Bool} {held : Bool} {fuel : Nat} {c0 c1 c2 c3 c4 c5 c6 c7 c8 : Value} {x : DataW H × List MemPlace}
    (hf : DataW.trod enc Tryz.prog w base spare held fuel 40 [c0, c1, c2, c3, c4, c5, c6, c7, c8] = some x) (hw : ∀ n ∈ x.1.weights Tryz.prog 40, n ≤ reachBytes) : ∃ e, [c0, c1, c2, c3, c4, c5, c6, c7, c8] = encS e ∧ StI w e := by
  obtain ⟨xs, n, _, hxe, _, hxl, hfs⟩ := DataW.trod_struct Tryz.underlying40 hf
  have hx : ∀ i, i < 9 → ∃ y, xs[i]? = some y := fun i hi => ⟨xs[i]'(by rw [hxl]; exact hi), List.getElem?_eq_getElem _⟩
  have ci : Tryz.prog.cellsOf 3 = 1 := by kernel_rfl
  have cS : Tryz.prog.cellsOf 9 = 1 := by kernel_rfl
  have cN : Tryz.prog.cellsOf 37 = 1 := by kernel_rfl
  have cB : Tryz.prog.cellsOf 38 = 1 := by kernel_rfl
  have hwe : ∀ (j : Nat) (t : TypeId) (y : DataW H × List MemPlace), ([3, 3, 3, 3, 3, 3, 9, 37, 38] : List TypeId)[j]? = some t → xs[j]? = some y → ∀ n ∈ y.1.weights Tryz.prog t, n ≤ reachBytes := by
    intro j t y ht hy n hn
    refine hw n ?_
    rw [hxe]
    show n ∈ DataW.weights Tryz.prog 40 (.agg (xs.map (·.1)))
    unfold DataW.weights
    rw [Tryz.underlying40]
    exact DataW.weights_mem_each ht (by rw [List.getElem?_map, hy]; rfl) n hn
  obtain ⟨y0, e0⟩ := hx 0 (by omega)
  have g0 := (hfs 0 _ rfl).trans e0
  simp at g0
  rw [ci] at g0
  try simp at g0
  obtain ⟨y1, e1⟩ := hx 1 (by omega)
  have g1 := (hfs 1 _ rfl).trans e1
  simp at g1
  rw [ci] at g1
  try simp at g1
  obtain ⟨y2, e2⟩ := hx 2 (by omega)
  have g2 := (hfs 2 _ rfl).trans e2
  simp at g2
  rw [ci] at g2
  try simp at g2
  obtain ⟨y3, e3⟩ := hx 3 (by omega)
  have g3 := (hfs 3 _ rfl).trans e3
  simp at g3
  rw [ci] at g3
  try simp at g3
  obtain ⟨y4, e4⟩ := hx 4 (by omega)
  have g4 := (hfs 4 _ rfl).trans e4
  simp at g4
  rw [ci] at g4
  try simp at g4
  obtain ⟨y5, e5⟩ := hx 5 (by omega)
  have g5 := (hfs 5 _ rfl).trans e5
  simp at g5
  rw [ci] at g5
  try simp at g5
  obtain ⟨y6, e6⟩ := hx 6 (by omega)
  have g6 := (hfs 6 _ rfl).trans e6
  simp at g6
  rw [cS] at g6
  try simp at g6
  obtain ⟨y7, e7⟩ := hx 7 (by omega)
  have g7 := (hfs 7 _ rfl).trans e7
  simp at g7
  rw [cN] at g7
  try simp at g7
  obtain ⟨y8, e8⟩ := hx 8 (by omega)
  have g8 := (hfs 8 _ rfl).trans e8
  simp at g8
  rw [cB] at g8
  try simp at g8
  obtain ⟨a0, q0, _, w0⟩ := DataW.trod_int Tryz.underlying3 g0
  obtain ⟨a1, q1, _, w1⟩ := DataW.trod_int Tryz.underlying3 g1
  obtain ⟨a2, q2, _, w2⟩ := DataW.trod_int Tryz.underlying3 g2
  obtain ⟨a3, q3, _, w3⟩ := DataW.trod_int Tryz.underlying3 g3
  obtain ⟨a4, q4, _, w4⟩ := DataW.trod_int Tryz.underlying3 g4
  obtain ⟨a5, q5, _, w5⟩ := DataW.trod_int Tryz.underlying3 g5
  obtain ⟨a6, q6, f6, w6⟩ := DataW.trod_string Tryz.underlying9 g6
  simp only [List.cons.injEq, and_true] at q0 q1 q2 q3 q4 q5 q6
  subst q0 q1 q2 q3 q4 q5 q6
  have h6 := hwe 6 9 y6 rfl e6 a6.data.toList.length (by rw [f6]; simp [DataW.weights])
  obtain ⟨dl, d1, d2, d3⟩ := open_nums g7 (hwe 7 37 y7 rfl e7)
  obtain ⟨bl, b1, b2⟩ := open_byts g8 (hwe 8 38 y8 rfl e8)
  refine ⟨(⟨a0, a1, a2, a3, a4, a5, a6, dl, bl⟩, c7, c8), rfl, ⟨wf64 w0, wf64 w1, wf64 w2, wf64 w3, wf64 w4, wf64 w5, d2⟩, d1, b1, ?_, b2, d3⟩
  unfold reachBytes at h6
  simp at h6
  show a6.size ≤ _
  omega
theorem open_steps {H : Type} {enc : TypeId × Value → H} {w : World} {base : Nat} {spare : Nat → Bool} {held : Bool} {fuel : Nat} {a : Option Addr} {len cap : Nat} {x : DataW H × List MemPlace}
    (h : DataW.trod enc Tryz.prog w base spare held fuel 23 [.slice a len cap] = some x) (hw : ∀ n ∈ x.1.weights Tryz.prog 23, n ≤ reachBytes) : ∃ l : List (Sp × Value × Value), RStp w (.slice a len cap) l ∧ (∀ e ∈ l, SpI e.1) ∧ RchS l ∧ l.length ≤ 9223372036854775807 := by
  rcases Go.Deep.open_slice Tryz.underlying23 h with ⟨h0, _⟩ | ⟨ad, ln, cp, m, n, D, Pl, h0, hb, hl, hm, hmm, rfl, hx⟩
  · simp only [List.cons.injEq, Value.slice.injEq, and_true] at h0
    obtain ⟨rfl, rfl, rfl⟩ := h0
    exact ⟨[], ⟨.inl ⟨rfl, _, _, rfl⟩, (fun e he => by cases he), (fun e he => by cases he)⟩, (fun e he => by cases he), (fun e he => by cases he), by simp⟩
  · simp only [List.cons.injEq, Value.slice.injEq, and_true] at h0
    obtain ⟨rfl, rfl, rfl⟩ := h0
    have hlm : len ≤ m := by rw [hmm]; split <;> omega
    have hwd : ∀ i, i < len → ∀ n ∈ (D i).weights Tryz.prog 40, n ≤ reachBytes := by
      intro i hi n hn
      refine hw n ?_
      show n ∈ DataW.weights Tryz.prog 23 (.slice ((List.range len).map D) _)
      unfold DataW.weights
      rw [Tryz.underlying23]
      simp only [List.mem_cons, List.mem_append]
      refine .inr (.inl ?_)
      have gen : ∀ (ds : List (DataW H)) (d : DataW H), d ∈ ds → n ∈ d.weights Tryz.prog 40 → n ∈ DataW.weightsAll Tryz.prog 40 ds := by
        intro ds
        induction ds with
        | nil => intro d hd; cases hd
        | cons d0 ds ih =>
          intro d hd hn
          unfold DataW.weightsAll
          rcases List.mem_cons.1 hd with rfl | hd
          · exact List.mem_append_left _ hn
          · exact List.mem_append_right _ (ih d hd hn)
      exact gen _ (D i) (List.mem_map.2 ⟨i, List.mem_range.2 hi, rfl⟩) hn
    obtain ⟨l, h1, h2, h3⟩ := @mk_each (Sp × Value × Value) ⟨(⟨0, 0, 0, 0, 0, 0, ⟨#[]⟩, [], []⟩, .slice none 0 0, .slice none 0 0)⟩ encS 9 encS_len (by omega) (StI w) w ad len cap hl (fun i hi => by
      obtain ⟨cs', h1, h2⟩ := hx i (by omega)
      have ce : Tryz.prog.cellsOf 40 = 9 := by kernel_rfl
      rw [ce] at h1
      obtain ⟨_, hlen, hcell⟩ := World.cells?_some h1
      match cs', hlen with
      | [v0, v1, v2, v3, v4, v5, v6, v7, v8], _ =>
        obtain ⟨e, he, hw⟩ := open_step h2 (hwd i hi)
        refine ⟨e, fun q x hx => ?_, hw⟩
        rw [← he] at hx
        have hq := (List.getElem?_eq_some_iff.1 hx).1
        have := hcell q (by simpa using hq)
        rw [Go.Deep.add_add] at this
        rw [this]
        exact hx)
    refine ⟨l, ⟨by rw [← h2] at h1 ⊢; exact h1, fun e he => (h3 e he).dr, fun e he => (h3 e he).by_⟩, fun e he => (h3 e he).i, fun e he => (h3 e he).rch, ?_⟩
    unfold maxLen at hm
    omega

end Go.Proofs.YtkndjbmlkfpfoaaGreatDoor

/-
  The walk of ScriptPrints, but for the law's known.
-/
set_option linter.unusedSimpArgs false
set_option linter.unusedVariables false
namespace Go.Proofs.YtkndjbmlkfpfoaaGreatDoor
open Go.RowKit Go.Lib

/-- what is asked of the law's known -/
def KnO (w : World) : Prop := ∀ W, Below w.heap.size w W → Calls Tryz.prog 9 #[] W fun e W' => e = .returned (.bool true) ∧ Below W.heap.size W W'
/-- a pair that is answered -/
theorem prA_form {l : List (Sp × Value × Value)} {e : Ending} (h : PrA l e) : ∃ (t : ByteArray) (k : Int), e = .returned (.tuple #[.string t, .int .i64 k]) := by
  rcases h with ⟨_, h⟩ | ⟨_, h⟩ <;> exact ⟨_, _, h⟩

set_option maxRecDepth 100000 in
set_option maxHeartbeats 8000000 in
theorem prints_in {w : World} (v : Value) (l : List (Sp × Value × Value)) (hr : RStp w v l) (hi : ∀ e ∈ l, SpI e.1) (hR : RchS l) (hn : l.length ≤ 9223372036854775807) (hL : Lw w) (hk : KnO w) :
    Calls Tryz.prog 4 #[v] w fun e W => e = .returned (.bool true) ∧ Below w.heap.size w W := by
  have hm := hide (much_in v l hr hn hR)
  have HR := hide hr
  have HI := hide hi
  have HL := hide hL
  have HK := hide hk
  obtain ⟨a, c, rfl⟩ := RC.form hr.row
  clear hr hi hR hn hL hk
  go_enter Tryz.func4, Tryz.ntmps4
  go_wp2_with fail
  refine (unhide hm).mono ?_
  rintro e W1 ⟨he, hb1⟩
  have HB1 := hide hb1
  clear hb1 hm
  rcases he with rfl | ⟨rfl, hlit⟩
  · have h1 := hide (unhide HK W1 (unhide HB1))
    go_wp2_with fail
    refine (unhide h1).mono ?_
    rintro e W2 ⟨rfl, hb2⟩
    have HB2 := hide (bnext (unhide HB1) hb2)
    clear hb2 h1
    go_wp2
    go_ret
    exact ⟨rfl, unhide HB2⟩
  · have HLit := hide hlit
    have HW := hide (hlit.w (unhide HI))
    have h1 := hide (lent_in _ l ((unhide HR).below (unhide HB1)) hlit)
    clear hlit
    go_wp2_with fail
    refine (unhide h1).mono ?_
    rintro e W2 ⟨x, m, rfl, hx, hb2⟩
    have HX := hide hx
    have HB2 := hide (bnext (unhide HB1) hb2)
    have hq := hx.eq
    have HQ := hide hq
    have hmw : ∀ y ∈ m, SpW y.1 := fun y hy => by
      have h2 : y.1 ∈ m.map Prod.fst := List.mem_map_of_mem hy
      rw [hq] at h2
      obtain ⟨z, hz, e⟩ := List.mem_map.1 h2
      rw [← e]
      exact (unhide HW).w z hz
    have hml : m.length = l.length := by have := congrArg List.length hq; simpa using this
    have h2 := hide (Print_in hx.rs hmw (by have := (unhide HLit).len; omega) ((unhide HL).below (unhide HB2)) (by rw [pT_eq hq]; exact (unhide HW).pt))
    clear hb2 h1 hx hq hmw hml
    go_wp2_with fail
    refine (unhide h2).mono ?_
    rintro e W3 ⟨hp, hb3⟩
    have hp2 := prA_eq (unhide HQ) hp
    obtain ⟨t, k, rfl⟩ := prA_form hp
    have HP := hide hp2
    have HX3 := hide ((unhide HX).below hb3)
    have HB3 := hide (bnext (unhide HB2) hb3)
    have h3 := hide (refPrint_in ((unhide HR).below (unhide HB3)) (unhide HW).w (by have := (unhide HLit).len; omega) (unhide HW).pt (unhide HW).dl)
    clear hb3 h2 hp hp2 HX
    go_wp2_with fail
    refine (unhide h3).mono ?_
    rintro e W4 ⟨hp, hb4⟩
    obtain rfl := prA_one hp (unhide HP)
    have HB4 := hide (bnext (unhide HB3) hb4)
    have h4 := hide (back_in _ _ l m ((unhide HX3).below hb4) ((unhide HR).below (unhide HB4)) (unhide HLit))
    have e2 : (k == k) = true := by simp
    clear hb4 h3 hp HX3
    go_wp2_with fail
    refine (unhide h4).mono ?_
    rintro e W5 ⟨rfl, hb5⟩
    have HB5 := hide (bnext (unhide HB4) hb5)
    have h5 := hide (unhide HK W5 (unhide HB5))
    clear hb5 h4
    go_wp2_with fail
    refine (unhide h5).mono ?_
    rintro e W6 ⟨rfl, hb6⟩
    have HB6 := hide (bnext (unhide HB5) hb6)
    clear hb6 h5
    go_wp2
    go_ret
    exact ⟨rfl, unhide HB6⟩

end Go.Proofs.YtkndjbmlkfpfoaaGreatDoor
