/-
  What Parse and Print say of steps that were read or laid.
-/
import Derived.Test.YtkndjbmlkfpfoaaGreatDoorZKN5ToSB3
import Derived.Test.YtkndjbmlkfpfoaaGreatDoorZSB4ToSB5
import Derived.Deep.CutRange

set_option linter.unusedSimpArgs false
set_option linter.unusedVariables false
namespace Go.Proofs.YtkndjbmlkfpfoaaGreatDoor
open Go.RowKit Go.Lib

theorem in0 : in64 0 := in64_d 0 (by decide)
theorem bareS_w {s : Sp} (hk : isK s) (h : SpW s) : SpW (bareS s) := by
  obtain ⟨k, a, b, c, d, e, f, g, i⟩ := s
  have h1 : k = 1 ∨ k = 2 ∨ k = 3 ∨ k = 4 ∨ k = 5 ∨ k = 6 ∨ k = 7 ∨ k = 8 ∨ k = 9 ∨ k = 10 ∨ k = 11 ∨ k = 12 ∨ k = 13 ∨ k = 14 := by have h1 := hk.1; have h2 := hk.2; simp only at h1 h2; omega
  have z1 : (⟨#[]⟩ : ByteArray).size ≤ 1000000 := by decide
  have z2 : ([] : List Int).length ≤ 1000000 := by decide
  have z3 : ∀ x ∈ ([] : List Int), in64 x := fun x hx => by cases hx
  have z4 : ([] : List UInt8).length ≤ 1000000 := by decide
  rcases h1 with rfl | rfl | rfl | rfl | rfl | rfl | rfl | rfl | rfl | rfl | rfl | rfl | rfl | rfl
  · exact ⟨h.kind, h.site, in0, in0, h.at_, in0, h.text, z2, z3, z4⟩
  · exact ⟨h.kind, h.site, in0, in0, h.at_, h.n, z1, z2, z3, z4⟩
  · exact ⟨h.kind, h.site, h.peer, in0, in0, in0, z1, z2, z3, z4⟩
  · exact ⟨h.kind, h.site, in0, in0, in0, in0, z1, z2, z3, z4⟩
  · exact ⟨h.kind, h.site, in0, in0, in0, in0, z1, z2, z3, z4⟩
  · exact ⟨h.kind, in0, in0, in0, in0, in0, z1, h.draws, h.dnum, z4⟩
  · exact ⟨h.kind, in0, in0, in0, in0, h.n, z1, z2, z3, z4⟩
  · exact ⟨h.kind, in0, in0, in0, in0, h.n, z1, z2, z3, z4⟩
  · exact ⟨h.kind, in0, in0, in0, in0, h.n, z1, z2, z3, z4⟩
  · exact ⟨h.kind, in0, in0, in0, h.at_, h.n, z1, z2, z3, h.data⟩
  · exact ⟨h.kind, in0, in0, in0, h.at_, h.n, z1, z2, z3, z4⟩
  · exact ⟨h.kind, h.site, in0, in0, in0, in0, z1, z2, z3, z4⟩
  · exact ⟨h.kind, h.site, in0, in0, in0, in0, z1, z2, z3, z4⟩
  · exact ⟨h.kind, in0, in0, in0, in0, in0, z1, z2, z3, z4⟩
theorem SpW.spn {s : Sp} (h : SpW s) : SpN s := ⟨h.site, h.peer, h.at_, h.n, h.dnum⟩
theorem SpP.w {t : Sp} (h : SpP t) (hw : wS t ≤ 1000000) : SpW t := by
  unfold wS at hw
  exact ⟨in64_d _ (by have := h.k.1; have := h.k.2; simp only [decide_eq_true_eq]; omega), h.n.site, h.n.peer, by rw [h.u]; exact in0, h.n.at_, h.n.n, by omega, by omega, h.n.dnum, by omega⟩
theorem bare_txt {S : List Sp} (h : ∀ s ∈ S, isK s) : (S.map bareS).flatMap stT = S.flatMap stT := by
  induction S with
  | nil => rfl
  | cons s S ih =>
    rw [List.map_cons, List.flatMap_cons, List.flatMap_cons, (bare_kx (h s (List.mem_cons_self ..))).2.1, ih (fun t ht => h t (List.mem_cons_of_mem _ ht))]
/-- a text that was laid is parsed -/
theorem parse_laid {S : List Sp} (h : ∀ s ∈ S, isK s ∧ SpN s) (h1 : (S.flatMap stT).length ≤ 1000000000) (h2 : sumC S ≤ 1000000) (hb : ∀ s ∈ S, s.text.size ≤ 1000000 ∧ s.data.length ≤ 1000000) (w : World) (hL : Lw w) :
    Calls Tryz.prog 10 #[.string (ofL (S.flatMap stT))] w fun e W' => Below w.heap.size w W' ∧ ∃ v l, e = .returned (.tuple #[v, .int .i64 0, .int .i64 0]) ∧ OwT W' w.heap.size v l ∧ l.map Prod.fst = S.map bareS := by
  refine (Parse_in (ofL (S.flatMap stT)) (by rw [ofL_size]; exact h1) w hL (by rw [laid_len h]; exact h2) (laid_t (by omega) h hb) (sc_words _)).mono ?_
  rintro e W' ⟨hbw, hp⟩
  rw [parse_print h] at hp
  exact ⟨hbw, hp⟩
/-- steps that there are are printed -/
theorem print_all {W : World} {v : Value} {m : List (Sp × Value × Value)} {S : List Sp} (hr : RStp W v m) (hm : m.map Prod.fst = S) (hk : ∀ s ∈ S, isK s ∧ SpW s) (hl : m.length ≤ 1000000) (hL : Lw W) (h1 : (S.flatMap stT).length ≤ 1000000000) :
    Calls Tryz.prog 15 #[v] W fun e W' => e = .returned (.tuple #[.string (ofL (S.flatMap stT)), .int .i64 0]) ∧ Below W.heap.size W W' := by
  have hmem : ∀ x ∈ m, x.1 ∈ S := fun x hx => by rw [← hm]; exact List.mem_map_of_mem hx
  have e1 : pT m = S.flatMap stT := by rw [pT_fst, hm]
  refine (Print_in hr (fun x hx => (hk _ (hmem x hx)).2) hl hL (by rw [e1]; exact h1)).mono ?_
  rintro e W' ⟨hp, hb⟩
  rcases hp with ⟨_, rfl⟩ | ⟨⟨x, hx, hn⟩, _⟩
  · rw [e1]; exact ⟨rfl, hb⟩
  · exact absurd (hk _ (hmem x hx)).1 hn
theorem scF_ln (s : ByteArray) : ∀ (f i line : Nat) (m : Bool), ∀ x ∈ scF s f i line m, line ≤ x.ln
  | 0, _, _, _ => by intro x hx; simp [scF] at hx
  | f + 1, i, line, m => by
    have h1 := scF_ln s f (bhL s i) (line + 1) false
    have h2 := scF_ln s f (i + 1) line m
    have h3 := scF_ln s f (rmE s i) line m
    have h4 := scF_ln s f (wdAt s i).nx line true
    have he : ∀ x ∈ (if m then [endI i line] else []), line ≤ x.ln := fun x hx => by
      cases m with
      | true =>
        simp at hx
        subst hx
        exact Nat.le_refl _
      | false => simp at hx
    intro x hx
    unfold scF at hx
    split at hx
    · exact he x hx
    · split at hx
      · rcases List.mem_append.1 hx with hx | hx
        · exact he x hx
        · exact Nat.le_of_succ_le (h1 x hx)
      · split at hx
        · exact h2 x hx
        · split at hx
          · exact h3 x hx
          · rcases List.mem_cons.1 hx with hx | hx
            · rw [hx]; exact Nat.le_refl _
            · split at hx
              · exact h4 x hx
              · simp at hx
theorem prL_err2 : ∀ (n : Nat) (pre : List It) (ln en : Nat), pre.length = n → (∀ x ∈ pre, 1 ≤ x.ln) → prL pre = .inr (ln, en) → 1 ≤ ln ∧ en ≠ 0 := by
  intro n
  induction n with
  | zero =>
    intro pre ln en hn _ h
    have : pre = [] := List.eq_nil_of_length_eq_zero hn
    subst this
    cases h
  | succ n ih =>
    intro pre ln en hn hi h
    rcases List.eq_nil_or_concat pre with rfl | ⟨p, x, rfl⟩
    · cases hn
    · rw [List.concat_eq_append] at h hn hi
      rw [prL_snoc] at h
      have hp : p.length = n := by simpa using hn
      have hx := hi x (by simp)
      cases hq : prL p with
      | inr q =>
        rw [hq] at h
        obtain ⟨a, b⟩ := q
        have h' : (.inr (a, b) : Pr) = .inr (ln, en) := h
        cases h'
        exact ih p _ _ hp (fun y hy => hi y (List.mem_append_left _ hy)) hq
      | inl q =>
        obtain ⟨S1, L1⟩ := q
        rw [hq] at h
        have h' : (if x.w.e ≠ 0 then (.inr (x.ln, x.w.e) : Pr) else if x.w.k ≠ 4 then .inl (S1, L1 ++ [x]) else match fstR L1 with | some t => .inl (S1 ++ [t], []) | none => .inr (x.ln, 19)) = .inr (ln, en) := h
        split at h'
        · rename_i he
          simp only [Sum.inr.injEq, Prod.mk.injEq] at h'
          obtain ⟨rfl, rfl⟩ := h'
          exact ⟨hx, he⟩
        · split at h'
          · cases h'
          · cases hf : fstR L1 with
            | none =>
              rw [hf] at h'
              simp only [Sum.inr.injEq, Prod.mk.injEq] at h'
              obtain ⟨rfl, rfl⟩ := h'
              exact ⟨hx, by decide⟩
            | some t => rw [hf] at h'; cases h'
/-- are all of them steps that there are? -/
def okB (l : List (Sp × Value × Value)) : Bool := l.all fun e => decide (1 ≤ e.1.kind ∧ e.1.kind ≤ 14)
theorem okB_take {l : List (Sp × Value × Value)} {j : Nat} {e : Sp × Value × Value} (h : l[j]? = some e) : okB (l.take (j + 1)) = (okB (l.take j) && decide (1 ≤ e.1.kind ∧ e.1.kind ≤ 14)) := by
  unfold okB
  rw [List.take_add_one, h, List.all_append]
  simp
theorem okB_iff (l : List (Sp × Value × Value)) : okB l = true ↔ ∀ x ∈ l, isK x.1 := by
  unfold okB
  rw [List.all_eq_true]
  refine ⟨fun h x hx => ?_, fun h x hx => ?_⟩
  · have h1 : 1 ≤ x.1.kind ∧ x.1.kind ≤ 14 := of_decide_eq_true (h x hx)
    exact h1
  · have h1 : 1 ≤ x.1.kind ∧ x.1.kind ≤ 14 := h x hx
    exact decide_eq_true h1
theorem sumC_le {l : List Sp} {B : Nat} (h : ∀ s ∈ l, (wsL s).length ≤ B) : sumC l ≤ l.length * (2 + B) := by
  induction l with
  | nil => exact Nat.zero_le _
  | cons s l ih =>
    have h1 := h s (List.mem_cons_self ..)
    have h2 := ih (fun t ht => h t (List.mem_cons_of_mem _ ht))
    have e : sumC (s :: l) = 2 + (wsL s).length + sumC l := by unfold sumC; rw [List.map_cons, List.sum_cons]
    rw [e, List.length_cons, Nat.succ_mul]
    omega
theorem wsL_len {s : Sp} : (wsL s).length ≤ 3 * (s.draws.length + 1) := by
  unfold wsL
  have hf : ∀ f, (fwL s f).length ≤ s.draws.length + 1 := fun f => by
    unfold fwL
    split <;> simp
  have h3 := getD_le tfl_len (kx s)
  have gen : ∀ fl : List Nat, (fl.flatMap (fwL s)).length ≤ fl.length * (s.draws.length + 1) := by
    intro fl
    induction fl with
    | nil => simp
    | cons f fl ih =>
      rw [List.flatMap_cons, List.length_append, List.length_cons, Nat.succ_mul]
      have := hf f
      omega
  exact Nat.le_trans (gen _) (Nat.mul_le_mul_right _ h3)
end Go.Proofs.YtkndjbmlkfpfoaaGreatDoor

/-
  The walk of ScriptBack.
-/
set_option linter.unusedSimpArgs false
set_option linter.unusedVariables false
namespace Go.Proofs.YtkndjbmlkfpfoaaGreatDoor
open Go.RowKit Go.Lib

set_option maxRecDepth 100000 in
set_option maxHeartbeats 16000000 in
theorem back_law {w : World} (v : Value) (l : List (Sp × Value × Value)) (hr : RStp w v l) (hi : ∀ e ∈ l, SpI e.1) (hR : RchS l) (hn : l.length ≤ 9223372036854775807) (s : ByteArray) (hL : Lw w) :
    Calls Tryz.prog 6 #[v, .string s] w fun e W => e = .returned (.bool true) ∧ Below w.heap.size w W := by
  have hm := hide (much_in v l hr hn hR)
  have hk := hide (known_in hL)
  have HR := hide hr
  have HI := hide hi
  have HL := hide hL
  obtain ⟨a, c, rfl⟩ := RC.form hr.row
  clear hr hi hR hn hL
  have fin : ∀ W, Below w.heap.size w W → Calls Tryz.prog 9 #[] W fun e W' => e = .returned (.bool true) ∧ Below W.heap.size W W' := fun W h => unhide hk W h
  have HFIN := hide fin
  clear fin hk
  go_enter Tryz.func6, Tryz.ntmps6
  go_wp2_with fail
  refine (unhide hm).mono ?_
  rintro e W1 ⟨he, hb1⟩
  have HB1 := hide hb1
  clear hb1 hm
  rcases he with rfl | ⟨rfl, hlit⟩
  · have h1 := hide (unhide HFIN W1 (unhide HB1))
    go_wp2_with fail
    refine (unhide h1).mono ?_
    rintro e W2 ⟨rfl, hb2⟩
    have HB2 := hide (bnext (unhide HB1) hb2)
    clear hb2 h1
    go_wp2
    go_ret
    exact ⟨rfl, unhide HB2⟩
  by_cases hbig : 30000 < s.size
  · have kb : (30000 : Int) < ((s.size : Nat) : Int) := by omega
    have h1 := hide (unhide HFIN W1 (unhide HB1))
    clear hbig
    go_wp2_with fail
    refine (unhide h1).mono ?_
    rintro e W2 ⟨rfl, hb2⟩
    have HB2 := hide (bnext (unhide HB1) hb2)
    clear hb2 h1
    go_wp2
    go_ret
    exact ⟨rfl, unhide HB2⟩
  have kb : ¬ ((30000 : Int) < ((s.size : Nat) : Int)) := by omega
  have HBG := hide hbig
  have HLit := hide hlit
  have HW := hide (hlit.w (unhide HI))
  have hllen : l.length ≤ 200 := hlit.len
  clear hlit hbig
  have h2 := hide (Print_in ((unhide HR).below (unhide HB1)) (unhide HW).w (by omega) ((unhide HL).below (unhide HB1)) (unhide HW).pt)
  obtain ⟨N, hN⟩ : ∃ N, l.length = N := ⟨_, rfl⟩
  have HN := hide hN
  rw [hN] at HR h2 hllen ⊢
  clear hN
  go_wp2_with fail
  refine (unhide h2).mono ?_
  rintro e W2 ⟨hp, hb2⟩
  have HB2 := hide (bnext (unhide HB1) hb2)
  obtain ⟨t, k, rfl⟩ := prA_form hp
  have hcase : (okB l = true ∧ t = ofL (pT l) ∧ k = 0) ∨ (okB l = false ∧ t = ⟨#[]⟩ ∧ k = 19) := by
    rcases hp with ⟨ha, e⟩ | ⟨⟨x, hx, hne⟩, e⟩
    · cases e; exact .inl ⟨(okB_iff l).2 ha, rfl, rfl⟩
    · cases e
      refine .inr ⟨?_, rfl, rfl⟩
      cases hq : okB l with
      | false => rfl
      | true => exact absurd ((okB_iff l).1 hq x hx) hne
  have HC := hide hcase
  have HO0 := hide (show OwB3 w W2 (.slice none 0 0) [] from ⟨unhide HB2, World.ownsRow_nil _ _ _ _, (fun e he => by cases he), (fun e he => by cases he)⟩)
  clear hp hb2 hcase h2 HB1
  go_wp2_with fail
  go_loopw [7, 8, 9] (fun v7 v8 v9 wr => ∃ (j cm : Nat) (am : Option Addr), v9 = .int .i64 (j : Int) ∧ v8 = .slice am j cm ∧ v7 = .bool (okB (l.take j)) ∧ j ≤ N ∧ Hid (∃ m, OwB3 w wr (.slice am j cm) m ∧ m.length = j ∧ m.map Prod.fst = (l.take j).map fun e => bareL e.1)) (fun _ _ v9 _ => N - (RowKit.intOf v9).toNat)
  case atStart => exact ⟨0, 0, none, rfl, rfl, rfl, Nat.zero_le _, hide ⟨[], unhide HO0, rfl, rfl⟩⟩
  case round =>
    clear HO0
    obtain ⟨j, cm, am, rfl, rfl, rfl, hj, H⟩ := hrel
    obtain ⟨m, hom, hml, hmf⟩ := unhide H
    by_cases hjl : j < N
    · obtain ⟨⟨s1, dv, bv⟩, hx⟩ : ∃ e, l[j]? = some e := ⟨_, List.getElem?_eq_getElem (by rw [unhide HN]; exact hjl)⟩
      have hmem := List.mem_of_getElem? hx
      obtain ⟨a1, k1, e1⟩ := RC.form ((unhide HR).dr _ hmem)
      obtain ⟨a2, k2, e2⟩ := RC.form ((unhide HR).by_ _ hmem)
      simp only at e1 e2
      obtain ⟨b3, off, rfl, hblt, hcs⟩ := (unhide HR).at hx
      have hdr := (unhide HR).dr _ hmem
      have hby := (unhide HR).by_ _ hmem
      simp only at hdr hby
      subst e1
      subst e2
      obtain ⟨n1, hn1⟩ : ∃ n, s1.draws.length = n := ⟨_, rfl⟩
      obtain ⟨n2, hn2⟩ : ∃ n, s1.data.length = n := ⟨_, rfl⟩
      rw [hn1] at hdr hcs hx
      rw [hn2] at hby hcs hx
      have c0 := cell_below (hcs 0 (.int .i64 s1.kind) rfl) hom.bel
      rw [Nat.add_zero] at c0
      have c1 := cell_below (hcs 1 (.int .i64 s1.site) rfl) hom.bel
      have c2 := cell_below (hcs 2 (.int .i64 s1.peer) rfl) hom.bel
      have c3 := cell_below (hcs 3 (.int .i64 s1.unit) rfl) hom.bel
      have c4 := cell_below (hcs 4 (.int .i64 s1.at_) rfl) hom.bel
      have c5 := cell_below (hcs 5 (.int .i64 s1.n) rfl) hom.bel
      have c6 := cell_below (hcs 6 (.string s1.text) rfl) hom.bel
      have c7 := cell_below (hcs 7 (.slice a1 n1 k1) rfl) hom.bel
      have c8 := cell_below (hcs 8 (.slice a2 n2 k2) rfl) hom.bel
      have hokt := okB_take hx
      have hbr := hide (bare_in (W0 := w) (W := wr) s1 a1 n1 k1 a2 n2 k2 hdr hby)
      have HX := hide hx
      have HM := hide (And.intro hom (And.intro hml hmf))
      have HOK := hide hokt
      have k5 : (j : Int) < (N : Int) := by omega
      have k6 : (0 : Int) ≤ (j : Int) := by omega
      unfold spC at hbr
      clear hcs hdr hby hx hmem hom hml hmf hokt H hblt hn1 hn2
      go_upto_region 9 with fail
      go_cut [7] from 42 to 58 (fun v wx => v = .bool (okB (l.take (j + 1))) ∧ wr = wx)
      case first =>
        have hok := unhide HOK
        obtain ⟨B, hB⟩ : ∃ B, okB (l.take j) = B := ⟨_, rfl⟩
        rw [hB] at hok
        rw [hB]
        have HOK2 := hide hok
        clear hok hB HOK hbr HM HX
        cases B with
        | false =>
          go_wp2
          go_meet
          case rel => exact ⟨by rw [unhide HOK2]; rfl, rfl⟩
        | true =>
          by_cases q1 : 1 ≤ s1.kind
          · have q1' : decide (s1.kind ≥ 1) = true := by simpa using q1
            by_cases q2 : s1.kind ≤ 14
            · have q2' : decide (s1.kind ≤ 14) = true := by simpa using q2
              go_wp2
              go_meet
              case rel => exact ⟨by rw [unhide HOK2, decide_eq_true ⟨q1, q2⟩]; rfl, rfl⟩
            · have q2' : decide (s1.kind ≤ 14) = false := by simpa using q2
              go_wp2
              go_meet
              case rel => exact ⟨by rw [unhide HOK2, decide_eq_false (fun h => by omega)]; rfl, rfl⟩
          · have q1' : decide (s1.kind ≥ 1) = false := by simpa using q1
            go_wp2
            go_meet
            case rel => exact ⟨by rw [unhide HOK2, decide_eq_false (fun h => by omega)]; rfl, rfl⟩
      case rest =>
      obtain ⟨rfl, rfl⟩ := hcut
      go_wp2_with fail
      refine (unhide hbr).mono ?_
      rintro e W4 ⟨b1, g1, h1, b2, g2, h2, rfl, hd4, hb4', hb4⟩
      have hbz := ballc (Below.refl _ W4) (.cells (spC (bareL s1) (.slice b1 g1 h1) (.slice b2 g2 h2)) 40)
      have hbx := Bq.new W4 40 (spC (bareL s1) (.slice b1 g1 h1) (.slice b2 g2 h2))
      obtain ⟨hom, hml, hmf⟩ := unhide HM
      obtain ⟨a', c', X', p1, p2⟩ := hom.push 23 (bnext hb4 hbz) hbx hd4 hb4' (by omega) hml
      have HN2 := hide (show ∃ m, OwB3 w X' (.slice a' (j + 1) c') m ∧ m.length = j + 1 ∧ m.map Prod.fst = (l.take (j + 1)).map fun e => bareL e.1 from ⟨_, unhide p2, by rw [List.length_append, hml]; rfl, by rw [List.map_append, hmf, List.take_add_one, unhide HX]; simp⟩)
      have HA := hide p1
      unfold spC at HA ⊢
      clear hd4 hb4' hb4 hbz hbx hom hml hmf p1 p2 hbr HM HX HOK
      go_wp2_with (at_builtin; refine wpList_append_eq rfl _ _ 23 23 rfl _ _ _ _ rfl rfl (unhide HA) ?_)
      go_roundw
      case rel => exact ⟨j + 1, c', a', by go_num, rfl, rfl, by omega, HN2⟩
      case measure => simp [RowKit.intOf]; omega
    · obtain rfl : j = N := by omega
      have kd : decide ((j : Int) < (j : Int)) = false := by simp
      have e1 : l.take j = l := List.take_of_length_le (by rw [unhide HN]; exact Nat.le_refl _)
      rw [e1] at hmf ⊢
      have HM := hide (And.intro hom (And.intro hml hmf))
      have hbw := hom.bel
      have HBW := hide hbw
      obtain ⟨wx, hwx⟩ : ∃ W, wr = W := ⟨_, rfl⟩
      rw [hwx] at HM HBW ⊢
      clear hom hml hmf H e1 hbw hwx hj hjl
      have hcs := unhide HC
      clear HC
      rcases hcs with ⟨ho, ht, hk0⟩ | ⟨ho, ht, hk0⟩
      case' inl =>
        subst ht hk0
        rw [ho, pT_fst]
        have hall : ∀ x ∈ l.map Prod.fst, isK x ∧ SpW x := fun x hx => by
          obtain ⟨e, he, rfl⟩ := List.mem_map.1 hx
          exact ⟨(okB_iff l).1 ho e he, (unhide HW).w e he⟩
        have hlen1 : ((l.map Prod.fst).flatMap stT).length ≤ 1000000000 := by rw [← pT_fst]; exact (unhide HW).pt
        have hcnt : sumC (l.map Prod.fst) ≤ 1000000 := by
          have h := sumC_le (l := l.map Prod.fst) (B := 1203) (fun x hx => by
            obtain ⟨e, he, rfl⟩ := List.mem_map.1 hx
            have h1 := wsL_len (s := e.1)
            have h2 := (unhide HLit).dr e he
            omega)
          rw [List.length_map] at h
          have := (unhide HLit).len
          omega
        have hp1 := hide (parse_laid (S := l.map Prod.fst) (fun x hx => ⟨(hall x hx).1, (hall x hx).2.spn⟩) hlen1 hcnt (fun x hx => ⟨(hall x hx).2.text, (hall x hx).2.data⟩) wx ((unhide HL).below (unhide HBW)))
        have HALL := hide hall
        have HLEN := hide hlen1
        have HOK := hide ho
        obtain ⟨T, hT⟩ : ∃ T, ofL ((l.map Prod.fst).flatMap stT) = T := ⟨_, rfl⟩
        rw [hT] at hp1 ⊢
        have HT := hide hT
        clear hall hlen1 hcnt hT ho
        go_wp2_with fail
        refine (unhide hp1).mono ?_
        rintro e W4 ⟨hb4, v4, m4, rfl, ho4, hm4⟩
        obtain ⟨a4, c4, rfl⟩ := owns_form ho4.row
        have HB4 := hide (bnext (unhide HBW) hb4)
        have hm4l : m4.length ≤ 1000000 := by
          have h1 : m4.length = (m4.map Prod.fst).length := by rw [List.length_map]
          rw [hm4, List.length_map, List.length_map] at h1
          have := (unhide HLit).len
          omega
        have hbk : ∀ x ∈ (l.map Prod.fst).map bareS, isK x ∧ SpW x := fun x hx => by
          obtain ⟨y, hy, rfl⟩ := List.mem_map.1 hx
          exact ⟨(bare_kx (unhide HALL y hy).1).2.2.2, bareS_w (unhide HALL y hy).1 (unhide HALL y hy).2⟩
        have hbt : ((l.map Prod.fst).map bareS).flatMap stT = (l.map Prod.fst).flatMap stT := bare_txt (fun x hx => (unhide HALL x hx).1)
        have hp2 := hide (print_all (W := W4) ho4.rs hm4 hbk hm4l ((unhide HL).below (unhide HB4)) (by rw [hbt]; exact unhide HLEN))
        rw [hbt, unhide HT] at hp2
        have HR4 := hide (And.intro ho4.rs (And.intro hm4 (And.intro hm4l hbk)))
        have HB40 := hide hb4
        have HM4L := hide hm4l
        obtain ⟨q4, hq4⟩ : ∃ q, m4.length = q := ⟨_, rfl⟩
        rw [hq4] at hp2 HR4 ⊢
        clear ho4 hm4 hm4l hbk hbt hb4 hp1 hq4
        go_wp2_with fail
        refine (unhide hp2).mono ?_
        rintro e W5 ⟨rfl, hb5⟩
        have HB5 := hide (bnext (unhide HB4) hb5)
        have hM := unhide HM
        obtain ⟨hr4, hm4, hm4l, hbk⟩ := unhide HR4
        have heq : m4.map Prod.fst = m.map Prod.fst := by
          rw [hm4, hM.2.2, List.map_map]
          refine List.map_congr_left fun e he => ?_
          show bareS e.1 = bareL e.1
          exact (bareL_of ((okB_iff l).1 (unhide HOK) e he)).symm
        have hp3 := hide (same_in (w := W5) (.slice a4 q4 c4) (.slice am j cm) m4 m (hr4.below hb5) ((hM.1.below (unhide HB40)).below hb5).rs heq (unhide HM4L) (fun x hx => (hbk x.1 (by rw [← hm4]; exact List.mem_map_of_mem hx)).2.draws))
        clear hb5 hp2 hr4 hm4 hm4l hbk heq hM HB4 HB40 HBW
        go_wp2_with fail
        refine (unhide hp3).mono ?_
        rintro e W6 ⟨rfl, hb6⟩
        have HB6 := hide (bnext (unhide HB5) hb6)
        clear hb6 hp3 HB5 HR4 HM
        go_upto_region 18 with fail
      case' inr =>
        subst ht hk0
        rw [ho]
        obtain ⟨W6, hW6⟩ : ∃ W, wx = W := ⟨_, rfl⟩
        rw [hW6] at HBW ⊢
        have HB6 := hide (unhide HBW)
        clear HBW HM hW6 ho
        go_upto_region 18 with fail
      all_goals (
        have hq := hide (Parse_all s (by have := unhide HBG; omega) W6 ((unhide HL).below (unhide HB6)))
        go_wp2_with fail
        refine (unhide hq).mono ?_
        rintro e W7 ⟨hb7, hp⟩
        have HB7 := hide (bnext (unhide HB6) hb7)
        clear hq hb7
        have hsz : s.size ≤ 30000 := by have := unhide HBG; omega
        cases hq : prL (scL s) with
        | inr q =>
          obtain ⟨ln, en⟩ := q
          rw [hq] at hp
          obtain rfl := hp
          have he := prL_err2 _ (scL s) ln en rfl (scF_ln s _ 0 1 false) hq
          have k1 : ((en : Int) != 0) = true := by rw [bne_iff_ne]; omega
          have k2 : (0 : Int) < (ln : Int) := by omega
          have h9 := hide (unhide HFIN W7 (unhide HB7))
          clear hq he
          go_wp2_with fail
          refine (unhide h9).mono ?_
          rintro e W9 ⟨rfl, hb9⟩
          have HB9 := hide (bnext (unhide HB7) hb9)
          clear hb9 h9
          go_wp2
          go_ret
          exact ⟨rfl, unhide HB9⟩
        | inl q =>
          obtain ⟨S, L⟩ := q
          rw [hq] at hp
          obtain ⟨v7, m7, rfl, ho7, hm7⟩ := hp
          obtain ⟨a7, c7, rfl⟩ := owns_form ho7.row
          obtain ⟨hP, hW7, hC7, -⟩ := prL_p _ (scL s) S L rfl (scL_n s) hq
          have hw7 := scL_w s
          have hl7 := scL_len s
          have hsm : sumW S ≤ 200000 := by omega
          have hw1 : ∀ x ∈ S, SpW x := fun x hx => (hP x hx).w (by have := sumW_mem hx; omega)
          have htl : (S.flatMap stT).length ≤ 1000000000 := by have := all_len2 (l := S) (fun x hx => (hP x hx).n); omega
          have hml : m7.length ≤ 1000000 := by
            have h1 : m7.length = (m7.map Prod.fst).length := by rw [List.length_map]
            rw [hm7] at h1
            have := (prL_draws _ (scL s) S L rfl hq).2.2
            omega
          have hp8 := hide (print_all (W := W7) ho7.rs hm7 (fun x hx => ⟨(hP x hx).k, hw1 x hx⟩) hml ((unhide HL).below (unhide HB7)) htl)
          have HQ := hide (And.intro ho7.rs (And.intro hm7 (And.intro hml (And.intro hP (And.intro hw1 (And.intro htl (And.intro (show sumC S ≤ 1000000 by omega) (show S.length ≤ 1000000 from by have := (prL_draws _ (scL s) S L rfl hq).2.2; omega))))))))
          obtain ⟨q7, hq7⟩ : ∃ q, m7.length = q := ⟨_, rfl⟩
          rw [hq7] at hp8 HQ ⊢
          obtain ⟨T7, hT7⟩ : ∃ T, ofL (S.flatMap stT) = T := ⟨_, rfl⟩
          rw [hT7] at hp8
          have HT7 := hide hT7
          clear ho7 hm7 hP hW7 hC7 hw7 hl7 hsm hw1 htl hml hq hq7 hT7
          go_wp2_with fail
          refine (unhide hp8).mono ?_
          rintro e W8 ⟨rfl, hb8⟩
          have HB8 := hide (bnext (unhide HB7) hb8)
          obtain ⟨hr7, hm7, hml, hP, hw1, htl, hc7, hSl⟩ := unhide HQ
          have hp9 := hide (parse_laid (S := S) (fun x hx => ⟨(hP x hx).k, (hP x hx).n⟩) htl hc7 (fun x hx => ⟨(hw1 x hx).text, (hw1 x hx).data⟩) W8 ((unhide HL).below (unhide HB8)))
          rw [unhide HT7] at hp9
          have HR8 := hide (hr7.below hb8)
          clear hb8 hp8 hr7 hm7 hml hP hw1 htl hc7 hSl HB7
          go_wp2_with fail
          refine (unhide hp9).mono ?_
          rintro e W9 ⟨hb9, v9, m9, rfl, ho9, hm9⟩
          obtain ⟨a9, c9, rfl⟩ := owns_form ho9.row
          have HB9 := hide (bnext (unhide HB8) hb9)
          obtain ⟨hr7, hm7, hml, hP, hw1, htl, hc7, hSl⟩ := unhide HQ
          have hbS : S.map bareS = S := by
            have : ∀ x ∈ S, bareS x = id x := fun x hx => (hP x hx).b
            rw [List.map_congr_left this, List.map_id]
          have hm9l : m9.length ≤ 1000000 := by
            have h1 : m9.length = (m9.map Prod.fst).length := by rw [List.length_map]
            rw [hm9, hbS] at h1
            omega
          have hpa := hide (same_in (w := W9) (.slice a9 m9.length c9) (.slice a7 q7 c7) m9 m7 ho9.rs ((unhide HR8).below hb9) (by rw [hm9, hm7, hbS]) hm9l (fun x hx => (hw1 x.1 (by rw [← hbS, ← hm9]; exact List.mem_map_of_mem hx)).draws))
          obtain ⟨q9, hq9⟩ : ∃ q, m9.length = q := ⟨_, rfl⟩
          rw [hq9] at hpa ⊢
          clear hb9 hp9 ho9 hm9 hr7 hm7 hml hP hw1 htl hc7 hSl hbS hm9l HQ HR8 HB8 hq9
          go_wp2_with fail
          refine (unhide hpa).mono ?_
          rintro e WA ⟨rfl, hbA⟩
          have HBA := hide (bnext (unhide HB9) hbA)
          have hpb := hide (unhide HFIN WA (unhide HBA))
          clear hbA hpa HB9
          go_wp2_with fail
          refine (unhide hpb).mono ?_
          rintro e WB ⟨rfl, hbB⟩
          have HBB := hide (bnext (unhide HBA) hbB)
          clear hbB hpb
          go_wp2
          go_ret
          exact ⟨rfl, unhide HBB⟩)
end Go.Proofs.YtkndjbmlkfpfoaaGreatDoor
