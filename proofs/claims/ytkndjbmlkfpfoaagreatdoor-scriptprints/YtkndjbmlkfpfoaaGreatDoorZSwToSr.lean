/-
  A text that is laid of words, and what the scanner hands on of it. Pure.
-/
import Derived.Test.YtkndjbmlkfpfoaaGreatDoorZSc5ToSp
import Derived.Test.YtkndjbmlkfpfoaaGreatDoorZNuToPG
import Derived.Test.YtkndjbmlkfpfoaaGreatDoorZQuToHx

set_option linter.unusedSimpArgs false
set_option linter.unusedVariables false
namespace Go.Proofs.YtkndjbmlkfpfoaaGreatDoor
open Go.RowKit Go.Lib

theorem by_hd (p : List UInt8) (b : UInt8) (r : List UInt8) : by_ (ofL (p ++ b :: r)) p.length = b.toNat := by
  have := by_at p (b :: r) 0 (by simp)
  simpa using this
theorem lt_hd (p : List UInt8) (b : UInt8) (r : List UInt8) : p.length < (ofL (p ++ b :: r)).size := by
  rw [size_app]; simp
theorem mv1 (p : List UInt8) (b : UInt8) (r : List UInt8) : p ++ b :: r = (p ++ [b]) ++ r := by simp
theorem by_hd2 (p : List UInt8) (b c : UInt8) (r : List UInt8) : by_ (ofL (p ++ b :: c :: r)) (p.length + 1) = c.toNat := by
  have := by_at p (b :: c :: r) 1 (by simp)
  simpa using this
/-- a blank -/
theorem sc_bl {p r : List UInt8} {b : UInt8} {line : Nat} {m : Bool} (h : isBl b.toNat = true) : scA (ofL (p ++ b :: r)) p.length line m = scA (ofL ((p ++ [b]) ++ r)) (p ++ [b]).length line m := by
  have hl : isLn b.toNat = false := by
    unfold isBl at h
    unfold isLn
    simp only [Bool.or_eq_true, beq_iff_eq] at h
    rcases h with h | h <;> rw [h] <;> rfl
  rw [scA_blank (lt_hd p b r) (by rw [by_hd]; exact hl) (by rw [by_hd]; exact h), mv1, List.length_append]
  rfl
theorem sc_bls : ∀ (g p r : List UInt8) (line : Nat) (m : Bool), (∀ b ∈ g, isBl b.toNat = true) → scA (ofL (p ++ (g ++ r))) p.length line m = scA (ofL ((p ++ g) ++ r)) (p ++ g).length line m
  | [], p, r, line, m, _ => by simp
  | b :: g, p, r, line, m, h => by
    rw [List.cons_append, sc_bl (h b (by simp)), sc_bls g (p ++ [b]) r line m (fun x hx => h x (by simp [hx]))]
    simp
/-- a line's end of one byte -/
theorem sc_ln {p r : List UInt8} {b : UInt8} {line : Nat} {m : Bool} (h : isLn b.toNat = true) (hr : b.toNat = 13 → r.head? ≠ some 10) :
    scA (ofL (p ++ b :: r)) p.length line m = (if m then [endI p.length line] else []) ++ scA (ofL ((p ++ [b]) ++ r)) (p ++ [b]).length (line + 1) false := by
  have hb : bhL (ofL (p ++ b :: r)) p.length = p.length + 1 := by
    unfold bhL
    rw [if_neg]
    rintro ⟨h1, h2, h3⟩
    rw [by_hd] at h1
    cases r with
    | nil => rw [size_app] at h2; simp at h2
    | cons c r =>
      rw [by_hd2] at h3
      refine hr h1 ?_
      rw [List.head?_cons, UInt8.toNat_inj.1 (show c.toNat = (10 : UInt8).toNat from h3)]
  rw [scA_line (lt_hd p b r) (by rw [by_hd]; exact h), hb, mv1, List.length_append]
  rfl
/-- of two -/
theorem sc_crlf {p r : List UInt8} {line : Nat} {m : Bool} :
    scA (ofL (p ++ 13 :: 10 :: r)) p.length line m = (if m then [endI p.length line] else []) ++ scA (ofL ((p ++ [13, 10]) ++ r)) (p ++ [13, 10]).length (line + 1) false := by
  have hb : bhL (ofL (p ++ 13 :: 10 :: r)) p.length = p.length + 2 := by
    unfold bhL
    rw [if_pos ⟨by rw [by_hd]; rfl, by rw [size_app]; simp, by rw [by_hd2]; rfl⟩]
  rw [scA_line (lt_hd p 13 (10 :: r)) (by rw [by_hd]; rfl), hb, show p ++ 13 :: 10 :: r = (p ++ [13, 10]) ++ r by simp, List.length_append]
  rfl
/-- a remark -/
theorem rm_go : ∀ (t p r : List UInt8), (∀ b ∈ t, isLn b.toNat = false) → (∀ b, r.head? = some b → isLn b.toNat = true) → rmE (ofL (p ++ (t ++ r))) p.length = (p ++ t).length
  | [], p, r, _, hr => by
    rw [List.nil_append, List.append_nil]
    refine rmE_stop _ _ (fun hlt => ?_)
    cases r with
    | nil => rw [size_app] at hlt; simp at hlt
    | cons c r => rw [by_hd]; exact hr c rfl
  | b :: t, p, r, h, hr => by
    rw [List.cons_append, rmE_go _ _ (lt_hd p b (t ++ r)) (by rw [by_hd]; exact h b (by simp))]
    have := rm_go t (p ++ [b]) r (fun x hx => h x (by simp [hx])) hr
    rw [mv1]
    rw [List.length_append] at this
    rw [show p.length + 1 = p.length + [b].length from rfl, this]
    simp
theorem sc_rm {p t r : List UInt8} {line : Nat} {m : Bool} (h : ∀ b ∈ t, isLn b.toNat = false) (hr : ∀ b, r.head? = some b → isLn b.toNat = true) :
    scA (ofL (p ++ (35 :: (t ++ r)))) p.length line m = scA (ofL ((p ++ (35 :: t)) ++ r)) (p ++ (35 :: t)).length line m := by
  rw [scA_remark (lt_hd p 35 (t ++ r)) (by rw [by_hd]; rfl) (by rw [by_hd]; rfl) (by rw [by_hd]; rfl)]
  have := rm_go (35 :: t) p r (fun b hb => by rcases List.mem_cons.1 hb with e | e; · rw [e]; rfl
                                              · exact h b e) hr
  rw [List.cons_append] at this
  rw [this]
  simp
/-- how a line ends -/
def endT : Nat → List UInt8
  | 0 => [10]
  | 1 => [13, 10]
  | 2 => [13]
  | 3 => [32, 35, 32, 97, 32, 34, 255, 10]
  | 4 => [35, 10]
  | 5 => [10, 32, 10]
  | _ => [9, 13, 13, 10]
def endN : Nat → Nat
  | 0 => 1
  | 1 => 1
  | 2 => 1
  | 3 => 1
  | 4 => 1
  | 5 => 2
  | _ => 2
def endC : Nat → Nat
  | 3 => 7
  | 4 => 1
  | 6 => 1
  | _ => 0
theorem sc_end {p r : List UInt8} {line k : Nat} (hk : k < 7) (hr : r.head? ≠ some 10) :
    scA (ofL (p ++ (endT k ++ r))) p.length line true = endI (p.length + endC k) line :: scA (ofL ((p ++ endT k) ++ r)) (p ++ endT k).length (line + endN k) false := by
  match k, hk with
  | 0, _ =>
    show scA (ofL (p ++ 10 :: r)) p.length line true = _
    rw [sc_ln rfl (fun q => absurd q (by decide))]
    rfl
  | 1, _ =>
    show scA (ofL (p ++ 13 :: 10 :: r)) p.length line true = _
    rw [sc_crlf]
    rfl
  | 2, _ =>
    show scA (ofL (p ++ 13 :: r)) p.length line true = _
    rw [sc_ln rfl (fun _ => hr)]
    rfl
  | 3, _ =>
    show scA (ofL (p ++ 32 :: 35 :: ([32, 97, 32, 34, 255] ++ 10 :: r))) p.length line true = _
    rw [sc_bl rfl, sc_rm (t := [32, 97, 32, 34, 255]) (by decide) (fun b hb => by rw [List.head?_cons, Option.some.injEq] at hb; rw [← hb]; rfl), sc_ln rfl (fun q => absurd q (by decide))]
    simp [endT, endC, endN]
  | 4, _ =>
    show scA (ofL (p ++ 35 :: ([] ++ 10 :: r))) p.length line true = _
    rw [sc_rm (t := []) (by decide) (fun b hb => by rw [List.head?_cons, Option.some.injEq] at hb; rw [← hb]; rfl), sc_ln rfl (fun q => absurd q (by decide))]
    simp [endT, endC, endN]
  | 5, _ =>
    show scA (ofL (p ++ 10 :: 32 :: 10 :: r)) p.length line true = _
    rw [sc_ln rfl (fun q => absurd q (by decide)), sc_bl rfl, sc_ln rfl (fun q => absurd q (by decide))]
    simp [endT, endC, endN]
  | 6, _ =>
    show scA (ofL (p ++ 9 :: 13 :: 13 :: 10 :: r)) p.length line true = _
    rw [sc_bl rfl, sc_ln rfl (fun _ => by simp), sc_crlf]
    simp [endT, endC, endN]
/-- ends a word: nothing, or a blank, a remark, a line's end -/
def Stops (r : List UInt8) : Prop := ∀ b, r.head? = some b → isWe b.toNat = true
theorem endT_stops (k : Nat) (hk : k < 7) (r : List UInt8) : Stops (endT k ++ r) := by
  intro b hb
  match k, hk with
  | 0, _ => cases hb; rfl
  | 1, _ => cases hb; rfl
  | 2, _ => cases hb; rfl
  | 3, _ => cases hb; rfl
  | 4, _ => cases hb; rfl
  | 5, _ => cases hb; rfl
  | 6, _ => cases hb; rfl

/-- bytes of a word that is not quoted -/
def Bare (t : List UInt8) : Prop := (∀ b ∈ t, 33 ≤ b.toNat ∧ b.toNat ≠ 127 ∧ b.toNat ≠ 34 ∧ b.toNat ≠ 35) ∧ ∀ i ∈ allL (ofL t), okR (ofL t) i = true
theorem rn_high {s : ByteArray} {k : Nat} (hk : k < s.size) (ho : okR s k = true) (h : ¬ by_ s k ≤ 127) : 128 ≤ rn s k := by
  have e := enc_ok s k hk ho
  by_cases hr : rn s k < 128
  · rw [enc1 _ hr] at e
    have hw := wd_pos s k hk
    have hw2 := wd_le s k hk
    have hd : subL s k (wd s k) = s.get! k :: (s.data.toList.drop (k + 1)).take (wd s k - 1) := by
      unfold subL
      rw [drop_step s k hk, show wd s k = (wd s k - 1) + 1 by omega, List.take_succ_cons]
      rfl
    rw [hd] at e
    have e1 := (List.cons.inj e).1
    have : by_ s k = rn s k := by
      unfold by_
      rw [← e1, u8n _ (by omega)]
    omega
  · omega
theorem bw_go (p t r : List UInt8) (h : Bare t) (hr : Stops r) : ∀ (f j : Nat), t.length - j ≤ f → j ≤ t.length → (∀ i ∈ frm (ofL t) j, okR (ofL t) i = true) → bwA (ofL (p ++ (t ++ r))) (p.length + j) = (p.length + t.length, 0)
  | f, j, hf, hj, hok => by
    by_cases c : j < t.length
    · have hjs : j < (ofL t).size := by rw [ofL_size]; exact c
      have hok0 := hok j (by rw [frm_step _ _ hjs]; simp)
      have hw := wd_pos _ _ hjs
      have hw2 := wd_le _ _ hjs
      rw [ofL_size] at hw2
      have hbq : ∀ q, q < wd (ofL t) j → by_ (ofL (p ++ (t ++ r))) (p.length + j + q) = by_ (ofL t) (j + q) := fun q hq => by
        rw [Nat.add_assoc, by_at p (t ++ r) (j + q) (by simp; omega), by_list t (j + q) (by omega), List.getElem_append_left (by omega)]
      have hd := dec_move (s := ofL t) (t := ofL (p ++ (t ++ r))) (i := p.length + j) (j := j) hjs hok0 (by rw [size_app]; simp; omega) hbq
      have hb0 := hbq 0 (by omega)
      rw [Nat.add_zero, Nat.add_zero] at hb0
      have hbt : by_ (ofL t) j = (t[j]).toNat := by_list t j c
      have hm := h.1 (t[j]) (List.getElem_mem _)
      rw [← hbt] at hm
      have hne : isWe (by_ (ofL t) j) = false := by
        unfold isWe isBl isLn
        simp only [Bool.or_eq_false_iff, beq_eq_false_iff_ne, ne_eq]
        omega
      have hrn : rn (ofL t) j ≠ 34 ∧ 32 ≤ rn (ofL t) j ∧ rn (ofL t) j ≠ 127 := by
        by_cases q : by_ (ofL t) j ≤ 127
        · rw [rn_of (dec_one _ _ q)]
          omega
        · have := rn_high hjs hok0 q
          omega
      rw [bwA_step _ _ (by rw [size_app]; simp; omega), hb0, if_neg (by rw [hne]; simp), if_neg (by rw [rn_same hd]; exact hrn.1), if_neg, wd_same hd]
      · match f, hf with
        | 0, hf => omega
        | f + 1, hf =>
          rw [Nat.add_assoc]
          exact bw_go p t r h hr f (j + wd (ofL t) j) (by omega) (by omega) (fun i hi => hok i (by rw [frm_step _ _ hjs]; exact List.mem_cons_of_mem _ hi))
      · unfold rawB
        rw [rn_same hd, ok_same hd, hok0, decide_eq_false (by omega), decide_eq_false hrn.2.2]
        simp
    · have e : j = t.length := by omega
      subst e
      cases r with
      | nil =>
        rw [bwA_end _ _ (by rw [size_app]; simp), size_app]
        simp
      | cons b r =>
        have hb : by_ (ofL (p ++ (t ++ b :: r))) (p.length + t.length) = b.toNat := by
          rw [← List.append_assoc, ← List.length_append, by_hd]
        rw [bwA_step _ _ (by rw [size_app]; simp), hb, if_pos (hr b rfl)]
theorem ext_mid (p t r : List UInt8) : (ofL (p ++ (t ++ r))).extract p.length (p.length + t.length) = ofL t := by
  apply ByteArray.ext
  apply Array.toList_inj.1
  rw [ByteArray.data_extract, Array.toList_extract]
  simp [ofL, List.extract]
/-- a bare word, plain -/
theorem wd_plain (p t r : List UInt8) (h : Bare t) (h0 : t ≠ []) (hr : Stops r) (hg : bgN (ofL t) = false) : wdAt (ofL (p ++ (t ++ r))) p.length = ⟨1, ofL t, 0, p.length, p.length + t.length, 0⟩ := by
  obtain ⟨b, t', e⟩ : ∃ b t', t = b :: t' := by
    cases t with
    | nil => exact absurd rfl h0
    | cons b t' => exact ⟨b, t', rfl⟩
  have hb : by_ (ofL (p ++ (t ++ r))) p.length = b.toNat := by rw [e, List.cons_append, by_hd]
  have hm := h.1 b (by rw [e]; simp)
  have hw := bw_go p t r h hr t.length 0 (by omega) (by omega) h.2
  rw [Nat.add_zero] at hw
  unfold wdAt
  rw [if_neg (by rw [hb]; exact hm.2.2.1)]
  unfold bwW
  rw [hw, if_neg (by simp)]
  simp only
  rw [ext_mid, if_pos hg]
/-- a number -/
theorem wd_num (p t r : List UInt8) (h : Bare t) (h0 : t ≠ []) (hr : Stops r) (hg : bgN (ofL t) = true) {v : Int} (hv : decN (ofL t) = some v) : wdAt (ofL (p ++ (t ++ r))) p.length = ⟨3, ⟨#[]⟩, v, p.length, p.length + t.length, 0⟩ := by
  obtain ⟨b, t', e⟩ : ∃ b t', t = b :: t' := by
    cases t with
    | nil => exact absurd rfl h0
    | cons b t' => exact ⟨b, t', rfl⟩
  have hb : by_ (ofL (p ++ (t ++ r))) p.length = b.toNat := by rw [e, List.cons_append, by_hd]
  have hm := h.1 b (by rw [e]; simp)
  have hw := bw_go p t r h hr t.length 0 (by omega) (by omega) h.2
  rw [Nat.add_zero] at hw
  unfold wdAt
  rw [if_neg (by rw [hb]; exact hm.2.2.1)]
  unfold bwW
  rw [hw, if_neg (by simp)]
  simp only
  rw [ext_mid, if_neg (by rw [hg]; simp), hv]
/-- a quoted word -/
theorem wd_quoted (p r : List UInt8) (x : ByteArray) (hr : Stops r) : wdAt (ofL (p ++ ((qT x).data.toList ++ r))) p.length = ⟨2, x, 0, p.length, p.length + (qT x).data.toList.length, 0⟩ := by
  have hq : (qT x).data.toList = 34 :: (qL x (allL x) ++ [34]) := by unfold qT; rw [ofL_list]
  have hf := rd_from x x.size 0 (p ++ [34]) [] (by omega) (by omega)
  rw [← allL_frm] at hf
  rw [hq]
  have hlen : (34 :: (qL x (allL x) ++ [34])).length = (qL x (allL x)).length + 2 := by simp
  have hz : (ofL (p ++ (34 :: (qL x (allL x) ++ [34]) ++ r))).size = p.length + ((qL x (allL x)).length + 2) + r.length := by rw [size_app, List.length_append, hlen]; omega
  have hx : (ofL (p ++ (34 :: (qL x (allL x) ++ [34]) ++ r))).extract 0 (p.length + ((qL x (allL x)).length + 2)) = ofL ((p ++ [34]) ++ (qL x (allL x) ++ [34])) := by
    have := ext_mid [] (p ++ (34 :: (qL x (allL x) ++ [34]))) r
    rw [List.nil_append, List.append_assoc, List.length_nil, Nat.zero_add, List.length_append, hlen] at this
    rw [this]
    simp
  rw [← hx] at hf
  have hg := rdA_pre (by rw [hz]; omega) _ _ _ _ _ (Nat.le_refl _) hf
  rw [← rdA_zero] at hg
  have hpl : (p ++ [34]).length = p.length + 1 := by simp
  rw [hpl] at hg
  unfold wdAt
  rw [if_pos (by rw [List.cons_append, by_hd]; rfl)]
  unfold qdW
  rw [hg]
  simp only [List.nil_append, List.drop_zero, ofL_of]
  have hn : p.length + 1 + (qL x (allL x)).length + 1 = p.length + (34 :: (qL x (allL x) ++ [34])).length := by rw [hlen]; omega
  rw [hn, if_pos]
  refine ⟨trivial, fun hlt => ?_⟩
  cases r with
  | nil => rw [size_app] at hlt; simp at hlt
  | cons b r =>
    rw [← List.append_assoc, ← List.length_append, by_hd]
    exact hr b rfl

/-- ascii bytes are runes -/
theorem ok_low (t : List UInt8) (h : ∀ b ∈ t, b.toNat < 128) : ∀ i ∈ allL (ofL t), okR (ofL t) i = true := by
  obtain ⟨ns, e⟩ := Gd.lows t h
  rw [e]
  exact ok_all ns
/-- digits, and a dash ahead of them -/
theorem itoa_bytes (v : Int) : ∀ b ∈ itoa v, b.toNat = 45 ∨ isDg b := by
  intro b hb
  unfold itoa at hb
  split at hb
  · rcases List.mem_cons.1 hb with e | e
    · rw [e]; exact .inl rfl
    · exact .inr (dd_all _ b e)
  · exact .inr (dd_all _ b hb)
theorem itoa_bare (v : Int) : Bare (itoa v) := by
  refine ⟨fun b hb => ?_, ok_low _ (fun b hb => ?_)⟩
  · rcases itoa_bytes v b hb with e | e
    · omega
    · have := e.1; have := e.2; omega
  · rcases itoa_bytes v b hb with e | e
    · omega
    · have := e.1; have := e.2; omega
theorem itoa_ne (v : Int) : itoa v ≠ [] := by
  unfold itoa
  split
  · simp
  · exact dd_ne _
theorem itoa_bg (v : Int) : bgN (ofL (itoa v)) = true := by
  unfold bgN itoa
  split
  · obtain ⟨c, r, e⟩ : ∃ c r, decDigits v.natAbs = c :: r := by
      cases hd : decDigits v.natAbs with
      | nil => exact absurd hd (dd_ne _)
      | cons c r => exact ⟨c, r, rfl⟩
    have hc := dd_all v.natAbs c (by rw [e]; simp)
    rw [e]
    have h0 : by_ (ofL (45 :: c :: r)) 0 = 45 := by_hd [] 45 (c :: r)
    have h1 : by_ (ofL (45 :: c :: r)) 1 = c.toNat := by_hd2 [] 45 c r
    have hd : dgA (ofL (45 :: c :: r)) = 1 := by
      unfold dgA
      rw [if_pos ⟨by rw [ofL_size]; simp, h0⟩]
    rw [hd, h1]
    exact decide_eq_true ⟨by rw [ofL_size]; simp, hc.1, hc.2⟩
  · obtain ⟨c, r, e⟩ : ∃ c r, decDigits v.toNat = c :: r := by
      cases hd : decDigits v.toNat with
      | nil => exact absurd hd (dd_ne _)
      | cons c r => exact ⟨c, r, rfl⟩
    have hc := dd_all v.toNat c (by rw [e]; simp)
    rw [e]
    have h0 : by_ (ofL (c :: r)) 0 = c.toNat := by_hd [] c r
    have hd : dgA (ofL (c :: r)) = 0 := by
      unfold dgA
      rw [if_neg (by rintro ⟨_, q⟩; rw [h0] at q; have := hc.1; omega)]
    rw [hd, h0]
    exact decide_eq_true ⟨by rw [ofL_size]; simp, hc.1, hc.2⟩

/-- a word to lay: a plain one, a quoted one, a number -/
def Lw1 : Type := Sum (List UInt8) (Sum ByteArray Int)
def Lw1.plain (t : List UInt8) : Lw1 := Sum.inl t
def Lw1.quoted (x : ByteArray) : Lw1 := Sum.inr (Sum.inl x)
def Lw1.num (v : Int) : Lw1 := Sum.inr (Sum.inr v)
theorem Lw1.ways (x : Lw1) : (∃ t, x = .plain t) ∨ (∃ y, x = .quoted y) ∨ ∃ v, x = .num v := by
  rcases x with t | y | v
  · exact .inl ⟨t, rfl⟩
  · exact .inr (.inl ⟨y, rfl⟩)
  · exact .inr (.inr ⟨v, rfl⟩)
def Lw1.txt (x : Lw1) : List UInt8 := match (show Sum (List UInt8) (Sum ByteArray Int) from x) with
  | Sum.inl t => t
  | Sum.inr (Sum.inl x) => (qT x).data.toList
  | Sum.inr (Sum.inr v) => itoa v
def Lw1.wd (x : Lw1) (a : Nat) : Wd := match (show Sum (List UInt8) (Sum ByteArray Int) from x) with
  | Sum.inl t => ⟨1, ofL t, 0, a, a + t.length, 0⟩
  | Sum.inr (Sum.inl x) => ⟨2, x, 0, a, a + (qT x).data.toList.length, 0⟩
  | Sum.inr (Sum.inr v) => ⟨3, ⟨#[]⟩, v, a, a + (itoa v).length, 0⟩
def Lw1.ok (x : Lw1) : Prop := match (show Sum (List UInt8) (Sum ByteArray Int) from x) with
  | Sum.inl t => Bare t ∧ t ≠ [] ∧ bgN (ofL t) = false
  | Sum.inr (Sum.inl x) => True
  | Sum.inr (Sum.inr v) => -9223372036854775808 ≤ v ∧ v ≤ 9223372036854775807
theorem Lw1.nx (x : Lw1) (a : Nat) : (x.wd a).nx = a + x.txt.length := by rcases x.ways with ⟨t, rfl⟩ | ⟨y, rfl⟩ | ⟨v, rfl⟩ <;> rfl
theorem Lw1.e0 (x : Lw1) (a : Nat) : (x.wd a).e = 0 := by rcases x.ways with ⟨t, rfl⟩ | ⟨y, rfl⟩ | ⟨v, rfl⟩ <;> rfl
theorem Lw1.a0 (x : Lw1) (a : Nat) : (x.wd a).a = a := by rcases x.ways with ⟨t, rfl⟩ | ⟨y, rfl⟩ | ⟨v, rfl⟩ <;> rfl
theorem Lw1.at_ (x : Lw1) (p r : List UInt8) (h : x.ok) (hr : Stops r) : wdAt (ofL (p ++ (x.txt ++ r))) p.length = x.wd p.length := by
  rcases x.ways with ⟨t, rfl⟩ | ⟨x, rfl⟩ | ⟨v, rfl⟩
  · exact wd_plain p t r h.1 h.2.1 hr h.2.2
  · exact wd_quoted p r x hr
  · exact wd_num p (itoa v) r (itoa_bare v) (itoa_ne v) hr (itoa_bg v) (decN_itoa h.1 h.2 (ofL_list _))
/-- its first byte ends no word -/
theorem Lw1.head (x : Lw1) (h : x.ok) : ∃ b t, x.txt = b :: t ∧ isWe b.toNat = false := by
  have key : ∀ t : List UInt8, Bare t → t ≠ [] → ∃ b t', t = b :: t' ∧ isWe b.toNat = false := fun t hb hn => by
    cases t with
    | nil => exact absurd rfl hn
    | cons b t' =>
      have := hb.1 b (by simp)
      refine ⟨b, t', rfl, ?_⟩
      unfold isWe isBl isLn
      simp only [Bool.or_eq_false_iff, beq_eq_false_iff_ne, ne_eq]
      omega
  rcases x.ways with ⟨t, rfl⟩ | ⟨x, rfl⟩ | ⟨v, rfl⟩
  · exact key t h.1 h.2.1
  · refine ⟨34, qL x (allL x) ++ [34], ?_, rfl⟩
    show (qT x).data.toList = _
    unfold qT
    rw [ofL_list]
  · exact key _ (itoa_bare v) (itoa_ne v)
theorem sc_word (x : Lw1) (p r : List UInt8) (h : x.ok) (hr : Stops r) (line : Nat) (m : Bool) :
    scA (ofL (p ++ (x.txt ++ r))) p.length line m = ⟨x.wd p.length, line⟩ :: scA (ofL ((p ++ x.txt) ++ r)) (p ++ x.txt).length line true := by
  obtain ⟨b, t, e, hb⟩ := x.head h
  have hby : by_ (ofL (p ++ (x.txt ++ r))) p.length = b.toNat := by rw [e, List.cons_append, by_hd]
  have hlt : p.length < (ofL (p ++ (x.txt ++ r))).size := by rw [e, List.cons_append]; exact lt_hd _ _ _
  unfold isWe at hb
  simp only [Bool.or_eq_false_iff, beq_eq_false_iff_ne, ne_eq] at hb
  rw [scA_word hlt (by rw [hby]; exact hb.2) (by rw [hby]; exact hb.1.1) (by rw [hby]; exact hb.1.2), x.at_ p r h hr, if_pos (x.e0 _), x.nx, List.append_assoc, List.length_append]

/-- an item: what stands ahead, the word, how its line ends -/
structure Ii where
  g : List UInt8
  x : Lw1
  en : Option Nat
def Ii.ok (y : Ii) (m : Bool) : Prop := (∀ b ∈ y.g, isBl b.toNat = true) ∧ (m = true → y.g ≠ []) ∧ y.x.ok ∧ ∀ k, y.en = some k → k < 7
def Ii.et (y : Ii) : List UInt8 := match y.en with | none => [] | some k => endT k
def Ii.txt (y : Ii) : List UInt8 := y.g ++ (y.x.txt ++ y.et)
def Ii.on (y : Ii) : Bool := y.en.isNone
def Ii.ln (y : Ii) (line : Nat) : Nat := match y.en with | none => line | some k => line + endN k
/-- the words of an item that stands at a byte -/
def Ii.its (y : Ii) (a line : Nat) : List It :=
  ⟨y.x.wd (a + y.g.length), line⟩ :: match y.en with
    | none => []
    | some k => [endI (a + y.g.length + y.x.txt.length + endC k) line]
def layT (l : List Ii) : List UInt8 := l.flatMap Ii.txt
def okIs : Bool → List Ii → Prop
  | _, [] => True
  | m, y :: l => y.ok m ∧ okIs y.on l
def layW : Nat → Nat → Bool → List Ii → List It
  | a, line, m, [] => if m then [endI a line] else []
  | a, line, m, y :: l => y.its a line ++ layW (a + y.txt.length) (y.ln line) y.on l
theorem lay_head {m : Bool} {l : List Ii} (h : okIs m l) (b : UInt8) (hb : (layT l).head? = some b) : b.toNat ≠ 10 ∧ (m = true → isWe b.toNat = true) := by
  cases l with
  | nil => simp [layT] at hb
  | cons y l =>
    obtain ⟨⟨h1, h2, h3, h4⟩, h5⟩ := h
    obtain ⟨c, t, e, hc⟩ := y.x.head h3
    have e2 : layT (y :: l) = y.g ++ (y.x.txt ++ (y.et ++ layT l)) := by simp [layT, Ii.txt]
    rw [e2, e] at hb
    cases hg : y.g with
    | nil =>
      rw [hg] at hb
      cases hb
      refine ⟨fun q => ?_, fun q => absurd hg (h2 q)⟩
      rw [q] at hc
      simp [isWe, isLn] at hc
    | cons d g =>
      rw [hg] at hb
      cases hb
      have hd := h1 b (by rw [hg]; simp)
      refine ⟨fun q => ?_, fun _ => by unfold isWe; rw [hd]; simp⟩
      rw [q] at hd
      simp [isBl] at hd
/-- LAID AND SCANNED. -/
theorem sc_lay : ∀ (l : List Ii) (p : List UInt8) (line : Nat) (m : Bool), okIs m l → scA (ofL (p ++ layT l)) p.length line m = layW p.length line m l
  | [], p, line, m, _ => by
    rw [scA_end (by rw [size_app]; simp [layT])]
    rfl
  | y :: l, p, line, m, h => by
    have hh := h
    obtain ⟨⟨h1, h2, h3, h4⟩, h5⟩ := h
    have e2 : layT (y :: l) = y.g ++ (y.x.txt ++ (y.et ++ layT l)) := by simp [layT, Ii.txt]
    have ih := sc_lay l (p ++ y.txt) (y.ln line) y.on h5
    have hst : Stops (y.et ++ layT l) := by
      intro b hb
      cases he : y.en with
      | none =>
        have e3 : y.et = [] := by unfold Ii.et; rw [he]
        rw [e3, List.nil_append] at hb
        exact (lay_head h5 b hb).2 (by unfold Ii.on; rw [he]; rfl)
      | some k =>
        have e3 : y.et = endT k := by unfold Ii.et; rw [he]
        rw [e3] at hb
        exact endT_stops k (h4 k he) _ b hb
    rw [e2, sc_bls y.g p _ line m h1, sc_word y.x (p ++ y.g) _ h3 hst]
    show _ = y.its p.length line ++ layW (p.length + y.txt.length) (y.ln line) y.on l
    rw [← List.length_append, ← ih]
    cases he : y.en with
    | none =>
      have e3 : y.et = [] := by unfold Ii.et; rw [he]
      have e4 : y.ln line = line := by unfold Ii.ln; rw [he]
      have e5 : y.on = true := by unfold Ii.on; rw [he]; rfl
      have e6 : p ++ y.txt = (p ++ y.g) ++ y.x.txt := by unfold Ii.txt; rw [e3]; simp
      unfold Ii.its
      rw [he, e3, e4, e5, e6, show (p ++ y.g).length = p.length + y.g.length from List.length_append]
      rfl
    | some k =>
      have e3 : y.et = endT k := by unfold Ii.et; rw [he]
      have e4 : y.ln line = line + endN k := by unfold Ii.ln; rw [he]
      have e5 : y.on = false := by unfold Ii.on; rw [he]; rfl
      have e6 : p ++ y.txt = ((p ++ y.g) ++ y.x.txt) ++ endT k := by unfold Ii.txt; rw [e3]; simp
      unfold Ii.its
      rw [he, e3, sc_end (h4 k he) (fun q => (lay_head h5 10 q).1 rfl), e4, e5, e6, show ((p ++ y.g) ++ y.x.txt).length = (p ++ y.g).length + y.x.txt.length from List.length_append, show (p ++ y.g).length = p.length + y.g.length from List.length_append]
      rfl
theorem scL_lay (l : List Ii) (h : okIs false l) : scL (ofL (layT l)) = layW 0 1 false l := sc_lay l [] 1 false h

end Go.Proofs.YtkndjbmlkfpfoaaGreatDoor

/-
  What is laid so far: the words of a text that is laid item by item.
-/
set_option linter.unusedSimpArgs false
set_option linter.unusedVariables false
namespace Go.Proofs.YtkndjbmlkfpfoaaGreatDoor
open Go.RowKit Go.Lib

/-- the words, without the last line's end -/
def layV : Nat → Nat → List Ii → List It
  | _, _, [] => []
  | a, line, y :: l => y.its a line ++ layV (a + y.txt.length) (y.ln line) l
def lnL : Nat → List Ii → Nat
  | line, [] => line
  | line, y :: l => lnL (y.ln line) l
def onL : Bool → List Ii → Bool
  | m, [] => m
  | _, y :: l => onL y.on l
theorem layT_cons (y : Ii) (l : List Ii) : layT (y :: l) = y.txt ++ layT l := rfl
theorem layT_snoc (l : List Ii) (y : Ii) : layT (l ++ [y]) = layT l ++ y.txt := by simp [layT]
theorem layW_eq : ∀ (l : List Ii) (a line : Nat) (m : Bool), layW a line m l = layV a line l ++ (if onL m l then [endI (a + (layT l).length) (lnL line l)] else [])
  | [], a, line, m => by cases m <;> rfl
  | y :: l, a, line, m => by
    show y.its a line ++ layW (a + y.txt.length) (y.ln line) y.on l = (y.its a line ++ layV (a + y.txt.length) (y.ln line) l) ++ (if onL y.on l then [endI (a + (layT (y :: l)).length) (lnL (y.ln line) l)] else [])
    rw [layW_eq l, layT_cons, List.length_append, List.append_assoc, Nat.add_assoc]
theorem layV_snoc : ∀ (l : List Ii) (y : Ii) (a line : Nat), layV a line (l ++ [y]) = layV a line l ++ y.its (a + (layT l).length) (lnL line l)
  | [], y, a, line => by
    show y.its a line ++ [] = y.its (a + 0) line
    simp
  | x :: l, y, a, line => by
    show x.its a line ++ layV (a + x.txt.length) (x.ln line) (l ++ [y]) = (x.its a line ++ layV (a + x.txt.length) (x.ln line) l) ++ y.its (a + (layT (x :: l)).length) (lnL (x.ln line) l)
    rw [layV_snoc l, layT_cons, List.length_append, List.append_assoc, Nat.add_assoc]
theorem lnL_snoc : ∀ (l : List Ii) (y : Ii) (line : Nat), lnL line (l ++ [y]) = y.ln (lnL line l)
  | [], y, line => rfl
  | x :: l, y, line => lnL_snoc l y (x.ln line)
theorem onL_snoc : ∀ (l : List Ii) (y : Ii) (m : Bool), onL m (l ++ [y]) = y.on
  | [], y, m => rfl
  | x :: l, y, m => onL_snoc l y x.on
theorem okIs_snoc : ∀ (l : List Ii) (y : Ii) (m : Bool), okIs m l → y.ok (onL m l) → okIs m (l ++ [y])
  | [], y, m, _, h => ⟨h, trivial⟩
  | x :: l, y, m, h, h2 => ⟨h.1, okIs_snoc l y x.on h.2 h2⟩
theorem its_e (y : Ii) (a line : Nat) : ∀ x ∈ y.its a line, x.w.e = 0 := by
  intro x hx
  unfold Ii.its at hx
  rcases List.mem_cons.1 hx with rfl | hx
  · exact y.x.e0 _
  · cases he : y.en with
    | none => rw [he] at hx; cases hx
    | some k =>
      rw [he] at hx
      rcases List.mem_cons.1 hx with rfl | hx
      · rfl
      · cases hx
theorem layV_e : ∀ (l : List Ii) (a line : Nat), ∀ x ∈ layV a line l, x.w.e = 0
  | [], _, _, x, hx => by cases hx
  | y :: l, a, line, x, hx => by
    rcases List.mem_append.1 hx with h | h
    · exact its_e y a line x h
    · exact layV_e l _ _ x h
theorem layW_e (l : List Ii) (a line : Nat) (m : Bool) : ∀ x ∈ layW a line m l, x.w.e = 0 := by
  intro x hx
  rw [layW_eq] at hx
  rcases List.mem_append.1 hx with h | h
  · exact layV_e l _ _ x h
  · split at h
    · rcases List.mem_cons.1 h with rfl | h
      · rfl
      · cases h
    · cases h
theorem its_len (y : Ii) (a line : Nat) : (y.its a line).length ≤ 2 := by
  unfold Ii.its
  cases y.en with
  | none => simp
  | some k => simp
theorem layV_len : ∀ (l : List Ii) (a line : Nat), (layV a line l).length ≤ 2 * l.length
  | [], _, _ => by simp [layV]
  | y :: l, a, line => by
    show (y.its a line ++ layV (a + y.txt.length) (y.ln line) l).length ≤ _
    have := its_len y a line
    have := layV_len l (a + y.txt.length) (y.ln line)
    rw [List.length_append, List.length_cons]
    omega
theorem endN_le (k : Nat) : endN k ≤ 2 := by
  unfold endN
  split <;> omega
theorem lnL_le : ∀ (l : List Ii) (line : Nat), lnL line l ≤ line + 2 * l.length
  | [], line => by simp [lnL]
  | y :: l, line => by
    show lnL (y.ln line) l ≤ _
    have := lnL_le l (y.ln line)
    have h2 : y.ln line ≤ line + 2 := by
      unfold Ii.ln
      cases y.en with
      | none => simp
      | some k => have := endN_le k; simp; omega
    rw [List.length_cons]
    omega
theorem qL_len (s : ByteArray) : ∀ l : List Nat, (∀ i ∈ l, i < s.size) → (qL s l).length ≤ 10 * l.length
  | [], _ => by simp [qL]
  | i :: l, h => by
    have h1 := qP_len s i (h i (List.mem_cons_self ..))
    have h2 := qL_len s l (fun j hj => h j (List.mem_cons_of_mem _ hj))
    show (qP s i ++ qL s l).length ≤ _
    rw [List.length_append, List.length_cons]
    omega
theorem qT_len (s : ByteArray) : (qT s).data.toList.length ≤ 10 * s.size + 2 := by
  have h1 := qL_len s (allL s) (fun i hi => (mem_allL.1 hi).1)
  have h2 := allL_length s
  unfold qT
  rw [ofL_list]
  simp
  omega
theorem endT_len (k : Nat) : (endT k).length ≤ 8 := by
  unfold endT
  split <;> simp
theorem itoa_len (v : Int) (h1 : -9223372036854775808 ≤ v) (h2 : v ≤ 9223372036854775807) : (itoa v).length ≤ 20 := by
  unfold itoa
  split
  · have := dd_len (u := v.natAbs) (by omega)
    simp
    omega
  · have := dd_len (u := v.toNat) (by omega)
    omega
theorem ofL_sz (l : List UInt8) : (ofL l).size = l.length := ofL_size l

end Go.Proofs.YtkndjbmlkfpfoaaGreatDoor

/-
  Words rise. Pure.
-/
set_option linter.unusedSimpArgs false
set_option linter.unusedVariables false
namespace Go.Proofs.YtkndjbmlkfpfoaaGreatDoor
open Go.RowKit Go.Lib

/-- what the law keeps: the last byte of the last word, its line and kind; an error came -/
structure Rs where
  a : Int
  ln : Nat
  kd : Nat
  ov : Bool
def Rs.next (st : Rs) (x : It) : Rs := if x.w.e ≠ 0 then ⟨st.a, st.ln, st.kd, true⟩ else ⟨if x.w.k = 1 then (x.w.a : Int) + (x.w.t.size : Int) - 1 else (x.w.a : Int), x.ln, x.w.k, false⟩
/-- a word is as it should be -/
structure WdOk (s : ByteArray) (x : Wd) (i : Nat) : Prop where
  lo : i ≤ x.a
  hi : x.a ≤ s.size
  er : x.e ≠ 0 → x.k = 0 ∧ x.t = ⟨#[]⟩ ∧ x.n = 0 ∧ (x.e = 18 ∨ x.e = 2 ∨ x.e = 6)
  at_ : x.e = 0 → x.a = i
  k1 : x.e = 0 → 1 ≤ x.k ∧ x.k ≤ 4
  n0 : x.e = 0 → x.k ≠ 3 → x.n = 0
  t0 : x.e = 0 → x.k ≠ 1 → x.k ≠ 2 → x.t = ⟨#[]⟩
  pl : x.e = 0 → x.k = 1 → 0 < x.t.size ∧ i + x.t.size ≤ s.size ∧ s.extract i (i + x.t.size) = x.t ∧ x.nx = i + x.t.size
theorem WdOk.endI (s : ByteArray) (i line : Nat) (h : i ≤ s.size) : WdOk s (endI i line).w i :=
  ⟨Nat.le_refl _, h, fun e => absurd rfl e, fun _ => rfl, fun _ => ⟨by simp [Go.Proofs.YtkndjbmlkfpfoaaGreatDoor.endI], by simp [Go.Proofs.YtkndjbmlkfpfoaaGreatDoor.endI]⟩, fun _ _ => rfl, fun _ _ _ => rfl, fun _ e => absurd e (by simp [Go.Proofs.YtkndjbmlkfpfoaaGreatDoor.endI])⟩
theorem bwF_err (s : ByteArray) : ∀ (f i : Nat), (bwF s f i).2 = 0 ∨ (bwF s f i).2 = 18 ∨ (bwF s f i).2 = 2
  | 0, i => .inl rfl
  | f + 1, i => by
    unfold bwF
    split
    · exact .inl rfl
    · split
      · exact .inl rfl
      · split
        · exact .inr (.inl rfl)
        · split
          · exact .inr (.inr rfl)
          · exact bwF_err s f _
theorem wdAt_ok (s : ByteArray) (i : Nat) (h : i < s.size) (hw : isWe (by_ s i) = false) : WdOk s (wdAt s i) i ∧ ((wdAt s i).e = 0 → (wdAt s i).k ≠ 4) := by
  have hnx := wdAt_nx s i h hw
  unfold wdAt at hnx ⊢
  split
  · rename_i hc
    rw [if_pos hc] at hnx
    have hb := rdA_bounds s _ (i + 1) [] (Nat.le_refl _) (by omega)
    rw [← rdA_zero] at hb
    unfold qdW at hnx ⊢
    split
    · exact ⟨⟨Nat.le_refl _, by show i ≤ s.size; omega, fun e => absurd rfl e, fun _ => rfl, fun _ => ⟨by simp [Go.Proofs.YtkndjbmlkfpfoaaGreatDoor.endI], by simp [Go.Proofs.YtkndjbmlkfpfoaaGreatDoor.endI]⟩, fun _ _ => rfl, fun _ _ e => absurd rfl e, fun _ e => absurd e (by simp [Go.Proofs.YtkndjbmlkfpfoaaGreatDoor.endI])⟩, fun _ => by simp [Go.Proofs.YtkndjbmlkfpfoaaGreatDoor.endI]⟩
    · exact ⟨⟨by show i ≤ (rdE s (i + 1)).2.1; have := hb.2.1; omega, hb.1, fun _ => ⟨rfl, rfl, rfl, .inl rfl⟩, fun e => absurd e (by simp [Go.Proofs.YtkndjbmlkfpfoaaGreatDoor.endI]), fun e => absurd e (by simp [Go.Proofs.YtkndjbmlkfpfoaaGreatDoor.endI]), fun e => absurd e (by simp [Go.Proofs.YtkndjbmlkfpfoaaGreatDoor.endI]), fun e => absurd e (by simp [Go.Proofs.YtkndjbmlkfpfoaaGreatDoor.endI]), fun e => absurd e (by simp [Go.Proofs.YtkndjbmlkfpfoaaGreatDoor.endI])⟩, fun e => absurd e (by simp [Go.Proofs.YtkndjbmlkfpfoaaGreatDoor.endI])⟩
  · rename_i hc
    rw [if_neg hc] at hnx
    have hb := bwA_bounds s _ i (Nat.le_refl _) (by omega)
    have he := bwF_err s (s.size - i) i
    change (bwA s i).2 = 0 ∨ (bwA s i).2 = 18 ∨ (bwA s i).2 = 2 at he
    unfold bwW at hnx ⊢
    split
    · rename_i hd
      exact ⟨⟨hb.1, hb.2, fun _ => ⟨rfl, rfl, rfl, by rcases he with e | e | e; exact absurd e hd; exact .inl e; exact .inr (.inl e)⟩, fun e => absurd e hd, fun e => absurd e hd, fun e => absurd e hd, fun e => absurd e hd, fun e => absurd e hd⟩, fun e => absurd e hd⟩
    · rename_i hd
      rw [if_neg hd] at hnx
      split
      · rename_i hg
        rw [if_pos hg] at hnx
        have hn := hnx rfl
        have hsz : (s.extract i (bwA s i).1).size = (bwA s i).1 - i := by rw [ByteArray.size_extract]; omega
        have hn1 : i < (bwA s i).1 := hn.1
        refine ⟨⟨Nat.le_refl _, by show i ≤ s.size; omega, fun e => absurd rfl e, fun _ => rfl, fun _ => ⟨by simp [Go.Proofs.YtkndjbmlkfpfoaaGreatDoor.endI], by simp [Go.Proofs.YtkndjbmlkfpfoaaGreatDoor.endI]⟩, fun _ _ => rfl, fun _ e => absurd rfl e, fun _ _ => ?_⟩, fun _ => by simp [Go.Proofs.YtkndjbmlkfpfoaaGreatDoor.endI]⟩
        show 0 < (s.extract i (bwA s i).1).size ∧ i + (s.extract i (bwA s i).1).size ≤ s.size ∧ s.extract i (i + (s.extract i (bwA s i).1).size) = s.extract i (bwA s i).1 ∧ (bwA s i).1 = i + (s.extract i (bwA s i).1).size
        rw [hsz, show i + ((bwA s i).1 - i) = (bwA s i).1 by omega]
        exact ⟨by omega, hb.2, rfl, rfl⟩
      · rename_i hg
        rw [if_neg hg] at hnx
        split
        · exact ⟨⟨Nat.le_refl _, by show i ≤ s.size; omega, fun _ => ⟨rfl, rfl, rfl, .inr (.inr rfl)⟩, fun e => absurd e (by simp [Go.Proofs.YtkndjbmlkfpfoaaGreatDoor.endI]), fun e => absurd e (by simp [Go.Proofs.YtkndjbmlkfpfoaaGreatDoor.endI]), fun e => absurd e (by simp [Go.Proofs.YtkndjbmlkfpfoaaGreatDoor.endI]), fun e => absurd e (by simp [Go.Proofs.YtkndjbmlkfpfoaaGreatDoor.endI]), fun e => absurd e (by simp [Go.Proofs.YtkndjbmlkfpfoaaGreatDoor.endI])⟩, fun e => absurd e (by simp [Go.Proofs.YtkndjbmlkfpfoaaGreatDoor.endI])⟩
        · exact ⟨⟨Nat.le_refl _, by show i ≤ s.size; omega, fun e => absurd rfl e, fun _ => rfl, fun _ => ⟨by simp [Go.Proofs.YtkndjbmlkfpfoaaGreatDoor.endI], by simp [Go.Proofs.YtkndjbmlkfpfoaaGreatDoor.endI]⟩, fun _ e => absurd rfl e, fun _ _ _ => rfl, fun _ e => absurd e (by simp [Go.Proofs.YtkndjbmlkfpfoaaGreatDoor.endI])⟩, fun _ => by simp [Go.Proofs.YtkndjbmlkfpfoaaGreatDoor.endI]⟩
/-- what the law asks of a word -/
structure RsOk (s : ByteArray) (st : Rs) (x : It) : Prop where
  ov : st.ov = false
  ln : st.ln ≤ x.ln
  a : st.a < (x.w.a : Int)
  ok : WdOk s x.w x.w.a
  k4 : x.w.e = 0 → st.kd = 4 → x.w.k ≠ 4 ∧ (st.a < 0 ∨ st.ln < x.ln)
  kn : x.w.e = 0 → st.kd ≠ 4 → x.ln = st.ln
def RsL (s : ByteArray) : Rs → List It → Prop
  | st, [] => st.ov = true ∨ st.kd = 4
  | st, x :: l => RsOk s st x ∧ RsL s (st.next x) l
/-- from a byte on -/
structure RsI (st : Rs) (i line : Nat) (m : Bool) : Prop where
  ov : st.ov = false
  a : st.a < (i : Int)
  ln : st.ln ≤ line
  mt : m = true → st.kd ≠ 4 ∧ st.ln = line
  mf : m = false → st.kd = 4 ∧ (st.a < 0 ∨ st.ln < line)
theorem WdOk.self {s : ByteArray} {x : Wd} {i : Nat} (h : WdOk s x i) : WdOk s x x.a :=
  ⟨Nat.le_refl _, h.hi, h.er, fun _ => rfl, h.k1, h.n0, h.t0, fun e k => by rw [h.at_ e]; exact h.pl e k⟩
theorem end_ok (s : ByteArray) {st : Rs} {i line : Nat} (h : RsI st i line true) (hi : i ≤ s.size) : RsOk s st (endI i line) ∧ RsI (st.next (endI i line)) (i + 1) (line + 1) false ∧ (st.next (endI i line)).kd = 4 := by
  have e : st.next (endI i line) = ⟨(i : Int), line, 4, false⟩ := rfl
  refine ⟨⟨h.ov, h.ln, h.a, (WdOk.endI s i line hi).self, fun _ q => absurd q (h.mt rfl).1, fun _ _ => (h.mt rfl).2.symm⟩, ?_, by rw [e]⟩
  rw [e]
  exact ⟨rfl, by show (i : Int) < ((i + 1 : Nat) : Int); omega, by show line ≤ line + 1; omega, fun q => (by cases q), fun _ => ⟨rfl, .inr (by show line < line + 1; omega)⟩⟩
theorem RsI.go {st : Rs} {i j line : Nat} {m : Bool} (h : RsI st i line m) (hj : i ≤ j) : RsI st j line m := ⟨h.ov, by have := h.a; omega, h.ln, h.mt, h.mf⟩
theorem sc_rises (s : ByteArray) : ∀ (f i line : Nat) (m : Bool) (st : Rs), s.size - i ≤ f → i ≤ s.size → RsI st i line m → RsL s st (scA s i line m)
  | f, i, line, m, st, hf, hi, h => by
    by_cases c0 : i < s.size
    · have hrec : ∀ j line' m' st', i < j → j ≤ s.size → RsI st' j line' m' → RsL s st' (scA s j line' m') := fun j line' m' st' hj hjs h' => by
        match f, hf with
        | 0, hf => omega
        | f + 1, hf => exact sc_rises s f j line' m' st' (by omega) hjs h'
      have hb := bhL_bounds s i c0
      cases c1 : isLn (by_ s i) with
      | true =>
        rw [scA_line c0 c1]
        cases m with
        | true =>
          have q := end_ok s h hi
          exact ⟨q.1, hrec _ _ _ _ hb.1 hb.2 (q.2.1.go (by omega))⟩
        | false =>
          refine hrec _ _ _ _ hb.1 hb.2 ⟨h.ov, by have := h.a; omega, by have := h.ln; omega, fun q => (by cases q), fun _ => ⟨(h.mf rfl).1, ?_⟩⟩
          have := h.ln
          right; omega
      | false =>
        cases c2 : isBl (by_ s i) with
        | true =>
          rw [scA_blank c0 c1 c2]
          exact hrec _ _ _ _ (by omega) (by omega) (h.go (by omega))
        | false =>
          by_cases c3 : by_ s i = 35
          · rw [scA_remark c0 c1 c2 c3]
            have hg : rmE s i = rmE s (i + 1) := rmE_go s i c0 c1
            have hr2 := rmE_bounds s _ (i + 1) (Nat.le_refl _) (by omega)
            exact hrec _ _ _ _ (by omega) (by omega) (h.go (by omega))
          · rw [scA_word c0 c1 c2 c3]
            have hw := we_of s i (by rw [c1]; simp) (by rw [c2]; simp) c3
            obtain ⟨hok, hk4⟩ := wdAt_ok s i c0 hw
            have hlo := hok.lo
            refine ⟨⟨h.ov, h.ln, by have := h.a; show st.a < ((wdAt s i).a : Int); omega, hok.self, fun e q => ⟨hk4 e, ?_⟩, fun e q => ?_⟩, ?_⟩
            · cases m with
              | true => exact absurd q (h.mt rfl).1
              | false => exact (h.mf rfl).2
            · cases m with
              | true => exact (h.mt rfl).2.symm
              | false => exact absurd (h.mf rfl).1 q
            · by_cases c4 : (wdAt s i).e = 0
              · rw [if_pos c4]
                have hn := wdAt_nx s i c0 hw c4
                refine hrec _ _ _ _ hn.1 hn.2 ?_
                unfold Rs.next
                rw [if_neg (by simpa using c4)]
                refine ⟨rfl, ?_, Nat.le_refl _, fun _ => ⟨hk4 c4, rfl⟩, fun q => by cases q⟩
                show (if (wdAt s i).k = 1 then ((wdAt s i).a : Int) + ((wdAt s i).t.size : Int) - 1 else ((wdAt s i).a : Int)) < _
                have ha := hok.at_ c4
                split
                · rename_i hk
                  have := hok.pl c4 hk
                  omega
                · omega
              · rw [if_neg c4]
                left
                unfold Rs.next
                rw [if_pos c4]
    · rw [scA_end c0]
      cases m with
      | true =>
        have q := end_ok s h hi
        exact ⟨q.1, .inr q.2.2⟩
      | false => exact .inr (h.mf rfl).1
def stF : Rs → List It → Rs
  | st, [] => st
  | st, x :: l => stF (st.next x) l
theorem stF_snoc : ∀ (st : Rs) (l : List It) (x : It), stF st (l ++ [x]) = (stF st l).next x
  | st, [], x => rfl
  | st, y :: l, x => stF_snoc (st.next y) l x
theorem RsL.at {s : ByteArray} : ∀ {st : Rs} {pre rest : List It} {x : It}, RsL s st (pre ++ x :: rest) → RsOk s (stF st pre) x
  | st, [], rest, x, h => h.1
  | st, y :: pre, rest, x, h => RsL.at (pre := pre) h.2
theorem RsL.fin {s : ByteArray} : ∀ {st : Rs} {l : List It}, RsL s st l → (stF st l).ov = true ∨ (stF st l).kd = 4
  | st, [], h => h
  | st, x :: l, h => RsL.fin (l := l) h.2
def st0 : Rs := ⟨-1, 1, 4, false⟩
theorem scL_rises (s : ByteArray) : RsL s st0 (scL s) := sc_rises s s.size 0 1 false st0 (by omega) (Nat.zero_le _) ⟨rfl, by decide, by decide, fun q => (by cases q), fun _ => ⟨rfl, .inl (by decide)⟩⟩

end Go.Proofs.YtkndjbmlkfpfoaaGreatDoor
