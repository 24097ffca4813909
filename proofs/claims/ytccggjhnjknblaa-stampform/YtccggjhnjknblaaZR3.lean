/-
  Readers: Text, Read.
-/
import Derived.Test.YtccggjhnjknblaaZR2
import Derived.Laws.BytesArg
import Derived.Laws.IdiomStrings
set_option linter.unusedSimpArgs false
set_option linter.unusedVariables false
namespace Go.Proofs.Ytccggjhnjknblaa
open Go.RowKit Go.Lib

/-- bytes as a text -/
def txt (L : List Nat) : ByteArray := ⟨(L.map Nat.toUInt8).toArray⟩
theorem sB_txt (L : List Nat) (h : ∀ b ∈ L, b < 256) : sB (txt L) = L := by
  unfold sB txt
  show (L.map Nat.toUInt8).map (fun x => x.toNat) = L
  rw [List.map_map]
  refine (List.map_congr_left (g := id) fun b hb => ?_).trans (List.map_id L)
  show b.toUInt8.toNat = b
  have := h b hb
  simp [Nat.toUInt8, UInt8.toNat_ofNat']
  omega
theorem txt_size (L : List Nat) : (txt L).size = L.length := by
  show (L.map Nat.toUInt8).toArray.size = L.length
  simp
theorem txt_sB (s : ByteArray) : txt (sB s) = s := by
  unfold sB txt
  rw [List.map_map]
  have : (s.data.toList.map (Nat.toUInt8 ∘ fun x => x.toNat)) = s.data.toList := by
    refine (List.map_congr_left (g := id) fun b _ => ?_).trans (List.map_id _)
    simp [Nat.toUInt8]
  rw [this]

theorem conv_in (w : World) (v : Value) (L : List Nat) (h : RC w v L.length (bC L)) (hb : ∀ b ∈ L, b < 256) : (convert 45 9 v).run Try.prog w = .ok (.string (txt L)) w := by
  have back : ∀ (a : Addr) (c : Nat), v = .slice (some a) L.length c → (∀ j x, (bC L)[j]? = some x → w.cell? (a.add j) = some x) → (convert 45 9 v).run Try.prog w = .ok (.string (txt L)) w := by
    rintro a c rfl hc
    have := run_convert_bytes_back (P := Try.prog) w 45 9 5 a c (L.map Nat.toUInt8) Try.underlying45 Try.underlying5 Try.underlying9 (fun j hj => by
      simp at hj
      rw [hc j (.int .u8 ((L[j] : Nat) : Int)) (bC_get L j L[j] (List.getElem?_eq_getElem hj))]
      have := hb L[j] (List.getElem_mem hj)
      simp [Nat.toUInt8, UInt8.toNat_ofNat']
      omega)
    simp only [List.length_map] at this
    exact this
  rcases h with ⟨h0, a, cap, rfl⟩ | ⟨b, off, cap, rfl, h1, h2, h3⟩
  · have hl : L = [] := List.eq_nil_of_length_eq_zero h0
    subst hl
    cases a with
    | none => exact run_convert_bytes_nil (P := Try.prog) w 45 5 Try.underlying45 Try.underlying5 0 cap 9 Try.underlying9
    | some ad => exact back ad cap rfl (fun j x hx => by simp [bC] at hx)
  · exact back ⟨b, off, none⟩ cap rfl (fun j x hx => by rw [Addr.add_lit]; exact h3 j x hx)

theorem sl_mid (w : World) (a : Option Addr) (n c k m : Nat) (hk : k + m ≤ n) (hn : n ≤ c) :
    (Instr.sliceAt 45 (.slice a n c) (some (.int .i64 (k : Nat))) (some (.int .i64 ((k + m : Nat) : Int))) none).run Try.prog w = .ok (.slice (if c = k then a else a.map (·.add k)) m (c - k)) w := by
  obtain ⟨i0, hi, hz0, hz1, hz2⟩ := info_parts infoB
  have h1 : (k : Int) ≤ ((k + m : Nat) : Int) := by omega
  have h2 : ((k + m : Nat) : Int) ≤ (c : Int) := by omega
  have h3 : k ≤ c := by omega
  have h4 : k + m ≤ c := by omega
  have e : k + m - k = m := by omega
  have h5 : (0 : Int) ≤ (k : Int) + (m : Int) := by omega
  have h6 : (k : Int) + (m : Int) ≤ (c : Int) := by omega
  have h7 : ((k : Int) + (m : Int)).toNat - k = m := by omega
  simp [Instr.sliceAt, Instr.slice, run_underlying Try.underlying45, sizeOf, typeInfo, hi, hz1, go_sem, h1, h2, h3, h4, h5, h6, h7]
  intro h
  omega

theorem RC.mid {W : World} {a : Option Addr} {n c k m : Nat} {C : List Value} (h : RC W (.slice a n c) n C) (hk : k + m ≤ n) (hC : C.length = n) : RC W (.slice (if c = k then a else a.map (·.add k)) m (c - k)) m ((C.drop k).take m) := by
  by_cases h0 : m = 0
  · exact .inl ⟨h0, _, _, by rw [h0]⟩
  · rcases h with ⟨h1, _⟩ | ⟨b, off, cap, e, h1, hl, hc⟩
    · omega
    · simp at e
      obtain ⟨rfl, rfl⟩ := e
      rw [if_neg (by omega)]
      refine .inr ⟨b, off + k, c - k, by simp only [Option.map_some, Addr.add_lit], by omega, hl, fun j x hx => ?_⟩
      rw [List.getElem?_take] at hx
      split at hx
      · rw [List.getElem?_drop] at hx
        rw [Nat.add_assoc]
        exact hc (k + j) x hx
      · cases hx

/-- a text is taken: it, what is left, the error -/
def rTxt (l : List Nat) (e : Int) : ByteArray × List Nat × Int :=
  if (rn0 l e).1 ≠ 0 then (ByteArray.empty, l, (rn0 l e).1) else if l.length - (rn0 l e).2.2 < (rn0 l e).2.1 then (ByteArray.empty, l, 5) else (txt ((l.drop (rn0 l e).2.2).take (rn0 l e).2.1), l.drop ((rn0 l e).2.2 + (rn0 l e).2.1), 0)

set_option maxRecDepth 100000 in
set_option maxHeartbeats 2000000 in
theorem rText_in {w : World} {p : Nat} {v : Value} {l : List Nat} {e : Int} (h : Rd w p v l e) :
    Calls Try.prog 25 #[.pointer (some ⟨p, 0, none⟩)] w fun r W => r = .returned (.string (rTxt l e).1) ∧ ∃ v', Rd W p v' (rTxt l e).2.1 (rTxt l e).2.2 ∧ Kp (fun i => i = p) w W ∧ v'.ownBlock = v.ownBlock := by
  have HN := hide (rnumber_in h)
  have HW := hide (rn0_width l e)
  have HV := hide (rn0_lt l e)
  have hsm := h.small
  have hbyte := hide h.byte
  obtain ⟨R, hR⟩ : ∃ R, rTxt l e = R := ⟨_, rfl⟩
  rw [hR]
  unfold rTxt at hR
  clear h
  generalize rn0 l e = X at *
  obtain ⟨E, V, Wd⟩ := X
  simp only at HN HW HV hR
  obtain ⟨a, c, hv⟩ : ∃ a c, v = .slice a l.length c ∨ True := ⟨none, 0, .inr trivial⟩
  clear hv
  by_cases hE : E = 0
  · subst hE
    rw [if_neg (by simp)] at hR
    by_cases hlt : l.length - Wd < V
    · rw [if_pos hlt] at hR
      subst hR
      go_enter Try.func25, Try.ntmps25
      go_wp2_with fail
      refine (unhide HN).mono ?_
      rintro r W ⟨rfl, H, HK⟩
      have HE := hide (rErr_in H)
      have HL := hide (rLeft_in H)
      have c1 := H.box.cell 1 _ rfl
      have f1 := H.box.frozen 1
      have HS := hide (H.setE 5)
      replace HK := hide HK
      clear H
      have h1 := unhide HW
      have hlt' : (l.length : Int) - (Wd : Int) < (V : Int) := by omega
      have h1' : (Wd : Int) ≤ (l.length : Int) := by omega
      go_wp2_with (first | (go_at_call 42; refine (unhide HE).mono ?_; rintro r W ⟨rfl, rfl⟩) | (go_at_call 43; refine (unhide HL).mono ?_; rintro r W ⟨rfl, rfl⟩))
      go_ret
      exact ⟨rfl, v, unhide HS, (unhide HK).trans (Kp.set (N := fun i => i = p) _ _ _ rfl) (fun i h => .inl h), rfl⟩
    · rw [if_neg hlt] at hR
      subst hR
      go_enter Try.func25, Try.ntmps25
      go_wp2_with fail
      refine (unhide HN).mono ?_
      rintro r W ⟨rfl, H, HK⟩
      have HE := hide (rErr_in H)
      have HL := hide (rLeft_in H)
      have h1 := unhide HW
      have HT := hide (rTake_in (Wd + V) H (by omega))
      have c0 := H.box.cell 0 _ rfl
      obtain ⟨a, c, rfl⟩ := H.row.form
      have hc : l.length ≤ c := by
        rcases H.row with ⟨h0, _⟩ | ⟨b, off, cap, e, h1, _⟩
        · omega
        · simp at e; omega
      have hsl := fun W => sl_mid W a l.length c Wd V (by omega) hc
      have hrow := H.row.mid (k := Wd) (m := V) (by omega) (bC_len l)
      rw [bC_drop, bC_take] at hrow
      have hll : ((l.drop Wd).take V).length = V := by rw [List.length_take, List.length_drop]; omega
      have hcv := conv_in W _ ((l.drop Wd).take V) (by rw [hll]; exact hrow) (fun b hb => unhide hbyte b (List.mem_of_mem_drop (List.mem_of_mem_take hb)))
      generalize (if c = Wd then a else a.map (·.add Wd)) = a2 at hsl hcv
      obtain ⟨S, hS⟩ : ∃ S, txt ((l.drop Wd).take V) = S := ⟨_, rfl⟩
      rw [hS] at hcv
      replace hS := hide hS
      replace HK := hide HK
      have hlt' : ¬ ((l.length : Int) - (Wd : Int) < (V : Int)) := by omega
      have h1' : (Wd : Int) ≤ (l.length : Int) := by omega
      have h3' : (Wd : Int) + (V : Int) ≤ 140737488355328 := by omega
      clear H hrow hll hc
      push_cast at hsl
      go_wp2_with (first | (go_at_call 42; refine (unhide HE).mono ?_; rintro r W ⟨rfl, rfl⟩) | (go_at_call 43; refine (unhide HL).mono ?_; rintro r W ⟨rfl, rfl⟩) | (go_at_call 41; refine (unhide HT).mono ?_; rintro r W2 ⟨rfl, v', H2, HK2, hv⟩; replace H2 := hide H2; replace HK2 := hide HK2; replace hv := hide hv))
      go_ret
      rw [unhide hS]
      exact ⟨rfl, v', unhide H2, (unhide HK).trans (unhide HK2) (fun i h => .inl h), unhide hv⟩
  · rw [if_pos hE] at hR
    subst hR
    have hE' : (E == 0) = false := by simpa using hE
    go_enter Try.func25, Try.ntmps25
    go_wp2_with fail
    refine (unhide HN).mono ?_
    rintro r W ⟨rfl, H, HK⟩
    have HE := hide (rErr_in H)
    replace HK := hide HK
    replace H := hide H
    go_wp2_with (go_at_call 42; refine (unhide HE).mono ?_; rintro r W ⟨rfl, rfl⟩)
    go_ret
    exact ⟨rfl, v, unhide H, unhide HK, rfl⟩

set_option maxRecDepth 100000 in
theorem rText_nil (w : World) : Calls Try.prog 25 #[.pointer none] w fun r W => r = .returned (.string ByteArray.empty) ∧ w = W := by
  have HN := hide (rnumber_nil w)
  have HE := hide (rErr_nil w)
  go_enter Try.func25, Try.ntmps25
  go_wp2_with fail
  refine (unhide HN).mono ?_
  rintro r W ⟨rfl, rfl⟩
  go_wp2_with (go_at_call 42; refine (unhide HE).mono ?_; rintro r W ⟨rfl, rfl⟩)
  go_ret
  exact ⟨rfl, rfl⟩

set_option maxRecDepth 100000 in
theorem rRead_in (w : World) (v : Value) (l : List Nat) (h : RC w v l.length (bC l)) (hb : ∀ b ∈ l, b < 256) (hl : l.length ≤ 140737488355328) :
    Calls Try.prog 21 #[v] w fun r W => ∃ p v', r = .returned (.pointer (some ⟨p, 0, none⟩)) ∧ Rd W p v' l 0 ∧ Below w.heap.size w W ∧ w.heap.size ≤ p ∧ (∀ k, v'.ownBlock = some k → w.heap.size ≤ k) := by
  have HC := hide (bClone_in w v l h hl)
  have Hb := hide hb
  obtain ⟨a, c, rfl⟩ := h.form
  clear h hb
  go_enter Try.func21, Try.ntmps21
  go_wp2_with fail
  refine (unhide HC).mono ?_
  rintro r W ⟨v', rfl, hown, hB⟩
  replace hown := hide hown
  replace hB := hide hB
  obtain ⟨a', c', rfl⟩ := owns_form (unhide hown)
  go_wp2
  go_ret
  have o := unhide hown
  refine ⟨_, _, rfl, ⟨Bx.new _ _ _, RC.of_owns (o.alloc _), fun e => ?_, unhide Hb, hl⟩, ballc (unhide hB) _, (unhide hB).size, fun k hk => (o.lt k hk).1⟩
  have := (o.lt _ e).2
  omega

end Go.Proofs.Ytccggjhnjknblaa
