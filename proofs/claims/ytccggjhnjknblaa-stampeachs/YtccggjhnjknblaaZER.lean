/-
  The document's own Each: the first 3000 identifiers of runs.
-/
import Derived.Test.YtccggjhnjknblaaZEC
import Derived.Test.YtccggjhnjknblaaZK3
import Derived.Deep.RegionHeld3
import Derived.Deep.AppendLies
set_option linter.unusedSimpArgs false
set_option linter.unusedVariables false
namespace Go.Proofs.Ytccggjhnjknblaa
open Go.RowKit Go.Lib

theorem infoIc : (Try.prog.info? 30).map (fun i => (i.zero, i.size, i.bytes)) = some (some (.agg #[.int .i64 0, .int .i64 0]), 2, 16) := by kernel_rfl
theorem take_left3 {α : Type} {a b l : List α} (h : a ++ b = l) (hl : a.length = 3000) : l.take 3000 = a := by rw [← h, ← hl]; exact List.take_left

/-- the identifiers that the document names -/
def wantR (l : List ((Int × Int) × Int)) : List (Int × Int) := (idsR (ownR l)).take 3000

set_option maxRecDepth 100000 in
set_option maxHeartbeats 4000000 in
theorem refEach_in (v : Value) (l : List ((Int × Int) × Int)) (w : World) (h : RR w v l) (hin : ∀ r ∈ l, runIn r) (hl : l.length ≤ 1000000) :
    Calls Try.prog 6 #[v, .int .i64 3000] w fun e W => ∃ u, e = .returned u ∧ W.ownsRow w.heap.size 30 2 u (wantR l).length (flat encI (wantR l)) ∧ Below w.heap.size w W := by
  obtain ⟨a, cap, rfl⟩ := RC.form h
  have HC := hide (refCheck_in (.slice a l.length cap) l w h hin (by omega))
  have Hall := hide (ownR_all l)
  by_cases hk : chk l = 0
  · have ho : ownR l = l := if_pos hk
    unfold wantR
    rw [ho] at Hall ⊢
    rw [hk] at HC
    have H := hide h
    obtain ⟨n, hn⟩ : ∃ n, l.length = n := ⟨_, rfl⟩
    rw [hn] at HC H hl ⊢
    have Hn := hide hn
    obtain ⟨i0, hi, hz0, hz1, hz2⟩ := info_parts infoIc
    obtain ⟨R, hR⟩ : ∃ R, (idsR l).take 3000 = R := ⟨_, rfl⟩
    rw [hR]
    have HR := hide hR
    clear h hin hk ho hn hR
    go_enter Try.func6, Try.ntmps6
    go_wp2_with fail
    refine (unhide HC).mono ?_
    rintro e W1 ⟨rfl, hb1⟩
    have HB1 := hide hb1
    clear HC hb1
    go_wp2
    go_loopw [5, 6] (fun ov iv wr => ∃ i : Nat, iv = .int .i64 (i : Nat) ∧ i ≤ n ∧ Hid ((idsR (l.take i)).length ≤ 3000 ∧ wr.ownsRow w.heap.size 30 2 ov (idsR (l.take i)).length (flat encI (idsR (l.take i))) ∧ Below w.heap.size w wr)) (fun _ iv _ => n - (Lib.intOf iv).toNat)
    case atStart => exact ⟨0, rfl, by omega, hide ⟨by simp [idsR], World.ownsRow_nil _ _ _ _, unhide HB1⟩⟩
    case round =>
      obtain ⟨i, rfl, hin2, HH⟩ := hrel
      by_cases hlt : i < n
      · have hlt' : (i : Int) < (n : Int) := by omega
        obtain ⟨r, hr⟩ : ∃ r, l[i]? = some r := ⟨_, List.getElem?_eq_getElem (by have := unhide Hn; omega)⟩
        have hR := unhide Hall r (List.mem_of_getElem? hr)
        obtain ⟨b0, off, rfl, hb0, c0, c1, c2⟩ := RR.at (unhide H) hr
        have htk : l.take (i + 1) = l.take i ++ [r] := by rw [List.take_add_one, hr]; rfl
        have hdr : l = l.take i ++ r :: l.drop (i + 1) := by
          have hil := (List.getElem?_eq_some_iff.1 hr).1
          rw [List.getElem?_eq_getElem hil] at hr
          simp at hr
          rw [← hr, ← List.drop_eq_getElem_cons hil, List.take_append_drop]
        obtain ⟨⟨t, s⟩, c⟩ := r
        have hrg := isR_range hR
        simp only at hrg c0 c1 c2
        obtain ⟨g1, g2, g3, g4, g5, g6⟩ := hrg
        obtain ⟨cn, rfl⟩ : ∃ cn : Nat, c = (cn : Int) := ⟨c.toNat, by omega⟩
        have hid : idsR l = idsR (l.take i) ++ (runI ((t, s), (cn : Int)) ++ idsR (l.drop (i + 1))) := by
          conv => lhs; rw [hdr]
          rw [idsR_append, show (((t, s), (cn : Int)) :: l.drop (i + 1)) = [((t, s), (cn : Int))] ++ l.drop (i + 1) from rfl, idsR_append, idsR_one]
        have hnx : idsR (l.take (i + 1)) = idsR (l.take i) ++ runI ((t, s), (cn : Int)) := by rw [htk, idsR_append, idsR_one]
        have Hid' := hide hid
        have Hnx := hide hnx
        have C0 := hide c0
        have C1 := hide c1
        have C2 := hide c2
        have HS : Hid ((idsR (l.take i) ++ (runI ((t, s), (cn : Int))).take 0).length ≤ 3000 ∧ wr.ownsRow w.heap.size 30 2 u5 (idsR (l.take i) ++ (runI ((t, s), (cn : Int))).take 0).length (flat encI (idsR (l.take i) ++ (runI ((t, s), (cn : Int))).take 0)) ∧ Below w.heap.size w wr) := by
          rw [List.take_zero, List.append_nil]; exact HH
        clear HH hr hR htk hdr hid hnx c0 c1 c2
        go_wp2
        go_loopw [5, 7] (fun ov jv wq => ∃ m : Nat, jv = .int .i64 (m : Nat) ∧ m ≤ cn ∧ Hid ((idsR (l.take i) ++ (runI ((t, s), (cn : Int))).take m).length ≤ 3000 ∧ wq.ownsRow w.heap.size 30 2 ov (idsR (l.take i) ++ (runI ((t, s), (cn : Int))).take m).length (flat encI (idsR (l.take i) ++ (runI ((t, s), (cn : Int))).take m)) ∧ Below w.heap.size w wq)) (fun _ jv _ => cn - (Lib.intOf jv).toNat)
        case atStart => exact ⟨0, rfl, by omega, HS⟩
        case round =>
          obtain ⟨m, rfl, hm, HH⟩ := hrel
          obtain ⟨hle, hown, hB⟩ := unhide HH
          have d0 := (hB.cell (p := ⟨b0, off + i * 3, none⟩) hb0).trans (unhide C0)
          have d1 := (hB.cell (p := ⟨b0, off + i * 3 + 1, none⟩) hb0).trans (unhide C1)
          have d2 := (hB.cell (p := ⟨b0, off + i * 3 + 2, none⟩) hb0).trans (unhide C2)
          by_cases hml : m < cn
          · have hml' : (m : Int) < (cn : Int) := by omega
            have hcur : (idsR (l.take i) ++ (runI ((t, s), (cn : Int))).take m) ++ ((t + (m : Int), s) :: ((runI ((t, s), (cn : Int))).drop (m + 1) ++ idsR (l.drop (i + 1)))) = idsR l := by
              rw [unhide Hid']; conv => rhs; rw [runI_split t s cn m hml]
              simp
            have hnx2 : idsR (l.take i) ++ (runI ((t, s), (cn : Int))).take (m + 1) = (idsR (l.take i) ++ (runI ((t, s), (cn : Int))).take m) ++ [(t + (m : Int), s)] := by rw [runI_take t s cn m hml, List.append_assoc]
            have Hcur := hide hcur
            have Hnx2 := hide hnx2
            clear hcur hnx2 HS HH
            obtain ⟨L, hL⟩ : ∃ L, idsR (l.take i) ++ (runI ((t, s), (cn : Int))).take m = L := ⟨_, rfl⟩
            rw [hL] at hle hown Hcur Hnx2
            clear hL
            obtain ⟨K, hK⟩ : ∃ K, L.length = K := ⟨_, rfl⟩
            rw [hK] at hle hown
            have HK := hide hK
            clear hK
            by_cases hf : K = 3000
            · have hf' : (3000 : Int) ≤ (K : Int) := by omega
              obtain ⟨x, cx, rfl⟩ := owns_form hown
              obtain rfl : R = L := (unhide HR).symm.trans (take_left3 (unhide Hcur) (by have := unhide HK; omega))
              have Ho := hide hown
              have HB := hide hB
              clear hown hB hf
              go_wp2
              go_ret
              exact ⟨_, rfl, by rw [unhide HK]; exact unhide Ho, unhide HB⟩
            · have hf' : ¬ (3000 : Int) ≤ (K : Int) := by omega
              have hK2 : K < 3000 := by omega
              have hsz := hB.size
              have ak : u5.ownBlock ≠ some b0 := fun e => by have := (hown.lt b0 e).1; omega
              obtain ⟨x, cx, rfl⟩ := owns_form hown
              have hb0w : b0 < wr.heap.size := by omega
              have him : (i : Int) < (n : Int) := hlt'
              have hi0' : (0 : Int) ≤ (i : Int) := Int.natCast_nonneg _
              have HB := hide hB
              have Ho := hide hown
              have HBa := hide (ballc hB (.cells #[.int .i64 (t + (m : Int)), .int .i64 s] 30))
              have hlo := fun q e => (hown.lt q e).1
              have Hlo := hide hlo
              have hwr : IntKind.i64.wrap (t + (m : Int)) = t + (m : Int) := IntWalk.i64_in _ (by omega)
              clear hB hown hlo hf
              go_wp2_with fail
              go_region_held3 (fun w' => w'.cell? ⟨b0, off + i * 3, none⟩ = some (.int .i64 t) ∧ w'.cell? ⟨b0, off + i * 3 + 1, none⟩ = some (.int .i64 s))
                (first
                  | go_keep
                  | (go_split_ands
                     refine ⟨?_, ?_⟩
                     · (rw [hgrow.cell_far _ (by simp; omega) (Ne.symm ak)]; assumption)
                     · (rw [hgrow.cell_far _ (by simp; omega) (Ne.symm ak)]; assumption)))
                ((refine step_append_lies _ (by rfl) _ _ _ (by rfl) w.heap.size 30 i0 _ 2 16 Try.underlying24 hi hz0 hz1 hz2 rfl (by omega) (.slice x K cx) K (flat encI L) (by rfl) (((unhide Ho).alloc _).drew)
                    ⟨wr.heap.size, 0, none⟩ 1 1 [.int .i64 (t + (m : Int)), .int .i64 s] (by rfl) (by rfl) (World.news_of_block (cs := #[.int .i64 (t + (m : Int)), .int .i64 s]) (t := 30) (fr := (0, 0)) (heap_alloc_new wr _)) (by simp [Value.oneCell'])
                    (by omega) (by unfold maxLen; omega) (by omega) (by simp; omega) (wr.heap.size + 1) (by simp) ?_; intro gg cap2 w1 hown1 hgrow hat hlt2))
              have HO1 := hide (show w1.ownsRow w.heap.size 30 2 (.slice (some ⟨gg, 0, none⟩) (K + 1) cap2) (L ++ [(t + (m : Int), s)]).length (flat encI (L ++ [(t + (m : Int), s)])) by
                rw [List.length_append, unhide HK, flat_append]; exact hown1)
              have HB1 := hide (show Below w.heap.size w w1 from (unhide HBa).drew.grown hgrow (unhide HBa).size (fun q e => unhide Hlo q e))
              have hlen : (L ++ [(t + (m : Int), s)]).length ≤ 3000 := by rw [List.length_append, unhide HK]; simp; omega
              have Hlen := hide hlen
              clear hown1 hgrow hat hlt2 hlen
              go_wp2
              go_roundw
              case measure => show cn - ((m : Int) + 1).toNat < cn - ((m : Nat) : Int).toNat; omega
              case rel => exact ⟨m + 1, by go_num, by omega, hide (by rw [unhide Hnx2]; exact ⟨unhide Hlen, unhide HO1, unhide HB1⟩)⟩
          · have hml' : ¬ (m : Int) < (cn : Int) := by omega
            obtain rfl : m = cn := by omega
            have HH2 : Hid ((idsR (l.take (i + 1))).length ≤ 3000 ∧ wr.ownsRow w.heap.size 30 2 u5 (idsR (l.take (i + 1))).length (flat encI (idsR (l.take (i + 1)))) ∧ Below w.heap.size w wr) := by
              rw [unhide Hnx, ← runI_all t s m]; exact hide ⟨hle, hown, hB⟩
            clear HH HS hle hown hB
            go_wp2
            go_roundw
            case measure => show n - ((i : Int) + 1).toNat < n - ((i : Nat) : Int).toNat; omega
            case rel => exact ⟨i + 1, by go_num, by omega, HH2⟩
      · have hlt' : ¬ (i : Int) < (n : Int) := by omega
        obtain ⟨hle, hown, hB⟩ := unhide HH
        rw [List.take_of_length_le (l := l) (by have := unhide Hn; omega)] at hle hown
        have hRl : R = idsR l := (unhide HR).symm.trans (List.take_of_length_le hle)
        rw [← hRl] at hown
        clear hRl
        obtain ⟨K, hK⟩ : ∃ K, R.length = K := ⟨_, rfl⟩
        rw [hK] at hown
        have HK := hide hK
        obtain ⟨x, cx, rfl⟩ := owns_form hown
        have Ho := hide hown
        have HB := hide hB
        clear HH hle hown hB hK
        go_wp2
        go_ret
        exact ⟨_, rfl, by rw [unhide HK]; exact unhide Ho, unhide HB⟩
  · have ho : ownR l = [] := if_neg hk
    unfold wantR
    rw [ho]
    obtain ⟨c, hc⟩ : ∃ c, chk l = c := ⟨_, rfl⟩
    have hk' : (c == 0) = false := by rw [← hc]; simp [hk]
    rw [hc] at HC
    clear h hin hk ho hc Hall
    go_enter Try.func6, Try.ntmps6
    go_wp2_with fail
    refine (unhide HC).mono ?_
    rintro e W1 ⟨rfl, hb1⟩
    have HB1 := hide hb1
    clear HC hb1
    go_wp2
    go_ret
    exact ⟨_, rfl, World.ownsRow_nil _ _ _ _, unhide HB1⟩

end Go.Proofs.Ytccggjhnjknblaa
