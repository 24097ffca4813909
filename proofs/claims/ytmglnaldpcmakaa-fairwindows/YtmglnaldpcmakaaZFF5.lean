/-
  slices.Values, AppendSeq, Collect.
-/
import Derived.Test.YtmglnaldpcmakaaZRge
import Derived.Test.YtmglnaldpcmakaaZSh2
import Derived.Test.YtmglnaldpcmakaaZSh3
set_option linter.unusedSimpArgs false
set_option linter.unusedVariables false
namespace Go.Proofs.Ytmglnaldpcmakaa
open Go.RowKit Go.Lib Go.Shelf

attribute [local go_sem] Oper.semAt_some

def SqS (Bs : Nat) (a : Option Addr) (c : Nat) (zs : List Int) (W : World) : Prop := W.cell? ⟨Bs, 0, none⟩ = some (.slice a zs.length c) ∧ RN W (.slice a zs.length c) zs
set_option maxRecDepth 100000 in
set_option maxHeartbeats 2000000 in
theorem values_seq (Bs : Nat) (a : Option Addr) (c : Nat) (zs : List Int) (hz : zs.length ≤ 1000000) : SeqE 36 #[.pointer (some ⟨Bs, 0, none⟩)] (fun (x : Int) _ args => args = #[.int .i64 x]) zs (SqS Bs a c zs) := by
  rintro l J Jx W hJ hS hY h0 n
  have h00 := (hS _ _ h0).1
  obtain ⟨len, hlen⟩ : ∃ len, zs.length = len := ⟨_, rfl⟩
  have Hlen := hide hlen
  rw [hlen] at hz h00
  clear hlen
  refine callsIn_of_wp Try.func36 rfl trivial ?_ rfl
  simp only [Try.ntmps36, List.size_toArray, List.length_cons, List.length_nil, Nat.reduceAdd, Nat.reduceSub, Array.replicate_succ, Array.replicate_zero, List.push_toArray, List.append_toArray, List.nil_append, List.cons_append]
  have HY := hide hY
  have HS := hide hS
  clear hY hS hJ
  gi_wp2
  gi_loopw [7] (fun i wr => ∃ k : Nat, k ≤ len ∧ i = .int .i64 k ∧ Hid (J (zs.take k) wr)) (fun i _ => len - (RowKit.intOf i).toNat)
  case atStart => exact ⟨0, Nat.zero_le _, rfl, by simpa using hide h0⟩
  case round =>
    obtain ⟨k, hk, rfl, hJs⟩ := hrel
    by_cases hlt : k < len
    · have hlt' : (k : Int) < (len : Int) := by omega
      have hkz : k < zs.length := by rw [unhide Hlen]; exact hlt
      obtain ⟨_, hrow⟩ := unhide HS _ _ (unhide hJs)
      obtain ⟨b, off, rfl, hb, hc⟩ := RN.at hrow (List.getElem?_eq_getElem hkz)
      have hsp : zs.take k ++ zs[k] :: zs.drop (k + 1) = zs := by simp
      have hyy := unhide HY (zs.take k) zs[k] (zs.drop (k + 1)) wr _ hsp (unhide hJs) rfl (n - 1)
      have htk : zs.take k ++ [zs[k]] = zs.take (k + 1) := by rw [List.take_add_one, List.getElem?_eq_getElem hkz]; rfl
      rw [htk] at hyy
      obtain ⟨fn, tmps, assign, body, hy, hR⟩ := hyy
      generalize zs[k] = x at *
      clear hrow hsp htk
      gi_wp2
      refine ⟨fun h => (by cases h), hR.mono ?_⟩
      rintro e W3 ⟨bb, rfl, hj⟩
      cases bb
      · simp only [Bool.false_eq_true, if_false] at hj
        have hj' := hide hj
        clear hj
        gi_wp2
        refine bodyPost_ret (results_none rfl _ _ _) rfl ?_
        exact ⟨⟨_, rfl⟩, .inr ⟨_, zs.drop (k + 1), by simp, unhide hj'⟩⟩
      · simp only [if_true] at hj
        have hj' := hide hj
        clear hj
        gi_wp2
        go_roundw
        case rel => exact ⟨k + 1, by omega, by go_num, hj'⟩
        case measure => show len - ((k : Int) + 1).toNat < len - ((k : Nat) : Int).toNat; omega
    · obtain rfl : k = len := by omega
      have hlt' : ¬ (k : Int) < (k : Int) := by omega
      gi_wp2
      go_end0
      refine ⟨⟨_, rfl⟩, .inl ?_⟩
      have := unhide hJs
      rwa [List.take_of_length_le (by rw [unhide Hlen]; exact Nat.le_refl _)] at this

end Go.Proofs.Ytmglnaldpcmakaa
