/-
  stamp.Each: the identifiers of runs, gone through by a closure.
-/
import Derived.Test.YtccggjhnjknblaaZK2
import Derived.Test.YtccggjhnjknblaaZW0
import Derived.Laws.EntriesVeiled
set_option linter.unusedSimpArgs false
set_option linter.unusedVariables false
namespace Go.Proofs.Ytccggjhnjknblaa
open Go.RowKit Go.Lib

/-- the identifiers of a run, and of runs -/
def runI (r : (Int × Int) × Int) : List (Int × Int) := (List.range r.2.toNat).map fun n : Nat => (r.1.1 + (n : Int), r.1.2)
def idsR (l : List ((Int × Int) × Int)) : List (Int × Int) := l.flatMap runI
/-- what an iterator keeps of runs -/
def ownR (l : List ((Int × Int) × Int)) : List ((Int × Int) × Int) := if chk l = 0 then l else []
theorem runI_len (r : (Int × Int) × Int) : (runI r).length = r.2.toNat := by simp [runI]
theorem runI_at (t s : Int) (c m : Nat) (h : m < c) : (runI ((t, s), (c : Int)))[m]? = some (t + (m : Int), s) := by simp [runI, h]
theorem runI_split (t s : Int) (c m : Nat) (h : m < c) : runI ((t, s), (c : Int)) = (runI ((t, s), (c : Int))).take m ++ (t + (m : Int), s) :: (runI ((t, s), (c : Int))).drop (m + 1) := by
  have hl : m < (runI ((t, s), (c : Int))).length := by rw [runI_len]; simpa using h
  have e := runI_at t s c m h
  rw [List.getElem?_eq_getElem hl] at e
  have e2 : (runI ((t, s), (c : Int)))[m] = (t + (m : Int), s) := by simpa using e
  rw [← e2, ← List.drop_eq_getElem_cons hl, List.take_append_drop]
theorem runI_take (t s : Int) (c m : Nat) (h : m < c) : (runI ((t, s), (c : Int))).take (m + 1) = (runI ((t, s), (c : Int))).take m ++ [(t + (m : Int), s)] := by
  rw [List.take_add_one, runI_at t s c m h]; rfl
theorem runI_all (t s : Int) (c : Nat) : (runI ((t, s), (c : Int))).take c = runI ((t, s), (c : Int)) := List.take_of_length_le (by rw [runI_len]; simp)
theorem idsR_append (a b : List ((Int × Int) × Int)) : idsR (a ++ b) = idsR a ++ idsR b := by simp [idsR]
theorem idsR_one (r : (Int × Int) × Int) : idsR [r] = runI r := by simp [idsR]
theorem ownR_all (l : List ((Int × Int) × Int)) : ∀ r ∈ ownR l, isR r = true := fun r hr => by
  unfold ownR at hr
  split at hr
  · rename_i h
    exact chkA_all l [] h r hr
  · cases hr
theorem ownR_len (l : List ((Int × Int) × Int)) : (ownR l).length ≤ l.length := by
  unfold ownR
  split <;> simp

theorem RC.kpx {N : Nat → Prop} {W W' : World} {v : Value} {n : Nat} {C : List Value} (h : RC W v n C) (k : Kp N W W') (hn : 0 < n → ∀ i, v.ownBlock = some i → ¬ N i) : RC W' v n C := by
  rcases h with h | ⟨b, off, cap, e, h1, hl, hc⟩
  · exact .inl h
  · rcases Nat.eq_zero_or_pos n with h0 | h0
    · subst h0
      exact .inl ⟨rfl, _, _, e⟩
    · refine .inr ⟨b, off, cap, e, h1, Nat.lt_of_lt_of_le hl k.size, fun j x hx => ?_⟩
      have hb := k.block b hl (hn h0 b (by rw [e]; rfl))
      have := hc j x hx
      unfold World.cell? at this ⊢
      rw [hb]
      exact this

theorem owns_weak {W : World} {B B' E k n : Nat} {v : Value} {C : List Value} (h : W.ownsRow B E k v n C) (hb : B' ≤ B) : W.ownsRow B' E k v n C := by
  obtain ⟨h1, h2⟩ := h
  refine ⟨h1, ?_⟩
  rcases h2 with h2 | ⟨g, cap, cur, e, hbg, hg, hc1, hc2, hc3, hc4⟩
  · exact .inl h2
  · exact .inr ⟨g, cap, cur, e, Nat.le_trans hb hbg, hg, hc1, hc2, hc3, hc4⟩

theorem infoRc : (Try.prog.info? 32).map (fun i => (i.zero, i.size, i.bytes)) = some (some (.agg #[.int .i64 0, .int .i64 0, .int .i64 0]), 3, 24) := by kernel_rfl
theorem encR_one1 (l : List ((Int × Int) × Int)) : ∀ u ∈ flat encR l, u.oneCell' = true := fun u hu => by
  obtain ⟨x, _, hx⟩ := flat_mem hu
  unfold encR at hx
  simp at hx
  rcases hx with rfl | rfl | rfl <;> rfl

/-- a copy of runs -/
theorem rClone_in (B : Nat) (w : World) (v : Value) (l : List ((Int × Int) × Int)) (h : w.ownsRow B 32 3 v l.length (flat encR l)) (hl : l.length ≤ 1000000) :
    Calls Try.prog 28 #[v] w fun r W => ∃ v', r = .returned v' ∧ W.ownsRow w.heap.size 32 3 v' l.length (flat encR l) ∧ Below w.heap.size w W := by
  have h0 := h
  obtain ⟨i0, hi, hz0, hz1, hz2⟩ := info_parts infoRc
  rcases h.2 with ⟨rfl, hn⟩ | ⟨g, cap, cur, rfl, hbg, hg, hc1, hc2, hc3, hc4⟩
  · have := AnyE.slices_Clone_nil shClone 0 0 w
    change Calls Try.prog 28 _ _ _ at this
    refine this.mono ?_
    rintro r W ⟨rfl, rfl⟩
    have hl0 : l = [] := List.eq_nil_of_length_eq_zero hn
    subst hl0
    exact ⟨_, rfl, World.ownsRow_nil _ _ _ _, Below.refl _ _⟩
  · have := AnyE.slices_Clone shClone i0 _ 3 24 hi hz0 hz1 hz2 rfl (by decide) (by intro w; exact Try.sizeOf32 w) g 0 l.length cap (flat encR l) w (flat_len encR_len l) (by unfold maxLen; omega) (by omega) (fun j u hj => by
      rw [Nat.zero_add]
      have hj' := (List.getElem?_eq_some_iff.1 hj).1
      rw [flat_len encR_len l] at hj'
      exact (h0.cellAt j (by omega)).trans hj) (encR_one1 l)
    change Calls Try.prog 28 _ _ _ at this
    refine this.mono ?_
    rintro r W ⟨v', rfl, h1, h2, h3⟩
    exact ⟨v', rfl, h1, h3⟩

set_option maxRecDepth 100000 in
set_option maxHeartbeats 4000000 in
theorem Each_in (B : Nat) (v : Value) (l : List ((Int × Int) × Int)) (w : World) (h : w.ownsRow B 32 3 v l.length (flat encR l)) (hin : ∀ r ∈ l, runIn r) (hl : l.length ≤ 1000000) :
    Calls Try.prog 7 #[v] w fun e W => ∃ u, e = .returned (.func (.func 29) #[] #[.pointer (some ⟨w.heap.size, 0, none⟩)]) ∧ Bx W w.heap.size 22 #[u] ∧ W.ownsRow w.heap.size 32 3 u (ownR l).length (flat encR (ownR l)) ∧ Below w.heap.size w W := by
  obtain ⟨X, hX⟩ : ∃ X, w.alloc (.cells #[.slice none 0 0] 22) = X := ⟨_, rfl⟩
  have b0 : Below w.heap.size w X := by rw [← hX]; exact ballc (Below.refl _ w) _
  have x0 : Bx X w.heap.size 22 #[.slice none 0 0] := by rw [← hX]; exact Bx.new w _ _
  have o0 : X.ownsRow B 32 3 v l.length (flat encR l) := owns_kp h (Kp.of_below (N := fun _ => False) b0) (fun _ _ e => e)
  have HC := hide (Check_in v l X (RC.of_owns o0) hin (by omega))
  clear h hin
  by_cases hk : chk l = 0
  · have ho : ownR l = l := if_pos hk
    rw [ho]
    rw [hk] at HC
    have HX := hide x0
    have HB := hide b0
    have HO := hide o0
    clear x0 b0 o0 ho hk
    go_enter Try.func7, Try.ntmps7
    go_wp2_with fail
    refine (unhide HC).mono ?_
    rintro e W1 ⟨rfl, hb1⟩
    have HCl := hide (rClone_in B W1 v l (owns_kp (unhide HO) (Kp.of_below (N := fun _ => False) hb1) (fun _ _ e => e)) hl)
    have x1 := (unhide HX).below hb1
    have HB1 := hide (bnext (unhide HB) hb1)
    have hlt := x1.lt
    have f1 := x1.frozen 0
    have HX1 := hide x1
    clear hb1 HC HX HB HO x1
    go_wp2_with fail
    refine (unhide HCl).mono ?_
    rintro e W2 ⟨u, rfl, hu, hb2⟩
    obtain ⟨ua, uc, rfl⟩ := owns_form hu
    have x2 := (unhide HX1).below hb2
    have f2 := x2.frozen 0
    have c2 := x2.cell 0 _ rfl
    have hs := hb2.size
    have HU := hide hu
    have HX2 := hide x2
    have HB2 := hide (bnext (unhide HB1) hb2)
    clear hb2 hu x2 HX1 HB1
    go_wp2
    go_ret
    have kp := Kp.set (N := fun k => k = w.heap.size) W2 ⟨w.heap.size, 0, none⟩ (.slice ua l.length uc) rfl
    refine ⟨_, rfl, (unhide HX2).set 0 _, owns_weak (owns_kp (unhide HU) kp (fun i hi e => ?_)) (by omega), kp.below (unhide HB2) (fun i e => by omega)⟩
    have := ((unhide HU).lt i hi).1
    omega
  · have ho : ownR l = [] := if_neg hk
    rw [ho]
    have hk' : (chk l == 0) = false := by simp [hk]
    have HX := hide x0
    have HB := hide b0
    obtain ⟨c, hc⟩ : ∃ c, chk l = c := ⟨_, rfl⟩
    rw [hc] at HC hk'
    clear x0 b0 o0 ho hk hc
    go_enter Try.func7, Try.ntmps7
    go_wp2_with fail
    refine (unhide HC).mono ?_
    rintro e W1 ⟨rfl, hb1⟩
    have x1 := (unhide HX).below hb1
    have HB1 := hide (bnext (unhide HB) hb1)
    have HX1 := hide x1
    clear hb1 HC HX HB x1
    go_wp2
    go_ret
    exact ⟨_, rfl, unhide HX1, World.ownsRow_nil _ _ _ _, unhide HB1⟩

/-- what a function that is handed to it says to one identifier -/
def EachY (fc : Nat) (caps : Array Value) (N : Nat → Prop) (n0 : Nat) (L : List (Int × Int)) (J Jx : List (Int × Int) → World → Prop) : Prop :=
  ∀ pre x rest W1, pre ++ x :: rest = L → J pre W1 → n0 ≤ W1.heap.size → Calls Try.prog fc (#[.agg #[.int .i64 x.1, .int .i64 x.2]] ++ caps) W1 fun e W' => ∃ b, e = .returned (.bool b) ∧ Kp N W1 W' ∧ if b then J (pre ++ [x]) W' else Jx (pre ++ [x]) W'

set_option maxRecDepth 100000 in
set_option maxHeartbeats 4000000 in
theorem each_clo (fc : Nat) (caps : Array Value) (Bo : Nat) (u : Value) (l : List ((Int × Int) × Int)) (N : Nat → Prop) (J Jx : List (Int × Int) → World → Prop) (W : World)
    (he : ∀ args w, (callFunc fc args).run Try.prog w = .ok (.enter fc args) w) (hl : l.length ≤ 1000000) (hc : ∀ r ∈ l, isR r = true)
    (hJ : ∀ pre W1 W2, J pre W1 → Below W1.heap.size W1 W2 → J pre W2)
    (hBo : Bx W Bo 22 #[u]) (hu : RR W u l) (hN2 : 0 < l.length → ∀ i, u.ownBlock = some i → ¬ N i) (hN : ∀ i, N i → i < W.heap.size)
    (hY : EachY fc caps N W.heap.size (idsR l) J Jx) (h0 : J [] W) :
    Calls Try.prog 29 #[.func (.func fc) #[] caps, .pointer (some ⟨Bo, 0, none⟩)] W fun e W' => e = .returned (.tuple #[]) ∧ (J (idsR l) W' ∨ ∃ pre rest, pre ++ rest = idsR l ∧ Jx pre W') := by
  obtain ⟨a, cap, rfl⟩ := RC.form hu
  have c0 := hBo.cell 0 _ rfl
  have H := hide hu
  have HN2 := hide hN2
  have Hc := hide hc
  have HJ := hide hJ
  have HY := hide hY
  obtain ⟨n, hn⟩ : ∃ n, l.length = n := ⟨_, rfl⟩
  rw [hn] at H hl c0 HN2
  have Hn := hide hn
  have HNn := hide hN
  clear hu hN2 hc hJ hY hn hBo hN
  go_enter Try.func29, Try.ntmps29
  go_wp2
  go_loopw [8] (fun iv wr => ∃ k : Nat, iv = .int .i64 (k : Nat) ∧ k ≤ n ∧ Hid (J (idsR (l.take k)) wr ∧ Kp N W wr)) (fun iv _ => n - (Lib.intOf iv).toNat)
  case atStart => exact ⟨0, rfl, by omega, hide ⟨by simpa [idsR] using h0, Kp.refl _ _⟩⟩
  case round =>
    clear h0 c0
    obtain ⟨k, rfl, hkn, HH⟩ := hrel
    obtain ⟨hj, hkp⟩ := unhide HH
    by_cases hlt : k < n
    · have hlt' : (k : Int) < (n : Int) := by omega
      obtain ⟨r, hr⟩ : ∃ r, l[k]? = some r := ⟨_, List.getElem?_eq_getElem (by have := unhide Hn; omega)⟩
      have hR := unhide Hc r (List.mem_of_getElem? hr)
      have hrow : RR wr (.slice a n cap) l := RC.kpx (unhide H) hkp (fun h => unhide HN2 (by have := unhide Hn; omega))
      obtain ⟨b0, off, rfl, hb0, c0, c1, c2⟩ := RR.at hrow hr
      have htk : l.take (k + 1) = l.take k ++ [r] := by rw [List.take_add_one, hr]; rfl
      have hdr : l = l.take k ++ r :: l.drop (k + 1) := by
        have hil := (List.getElem?_eq_some_iff.1 hr).1
        rw [List.getElem?_eq_getElem hil] at hr
        simp at hr
        rw [← hr, ← List.drop_eq_getElem_cons hil, List.take_append_drop]
      obtain ⟨⟨t, s⟩, c⟩ := r
      have hrg := isR_range hR
      simp only at hrg c0 c1 c2
      obtain ⟨g1, g2, g3, g4, g5, g6⟩ := hrg
      obtain ⟨cn, rfl⟩ : ∃ cn : Nat, c = (cn : Int) := ⟨c.toNat, by omega⟩
      have hid : idsR l = idsR (l.take k) ++ (runI ((t, s), (cn : Int)) ++ idsR (l.drop (k + 1))) := by
        conv => lhs; rw [hdr]
        rw [idsR_append, show (((t, s), (cn : Int)) :: l.drop (k + 1)) = [((t, s), (cn : Int))] ++ l.drop (k + 1) from rfl, idsR_append, idsR_one]
      have hnx : idsR (l.take (k + 1)) = idsR (l.take k) ++ runI ((t, s), (cn : Int)) := by rw [htk, idsR_append, idsR_one]
      have Hid' := hide hid
      have Hnx := hide hnx
      have hJ1 := unhide HJ _ _ _ hj (ballc (Below.refl _ wr) (.cells #[.int .i64 t, .int .i64 s, .int .i64 (cn : Int)] 32))
      have hK1 : Kp N W (wr.alloc (.cells #[.int .i64 t, .int .i64 s, .int .i64 (cn : Int)] 32)) := hkp.trans (Kp.of_below (N := N) (ballc (Below.refl _ wr) _)) (fun i h => .inl h)
      have hx1 := Bx.new wr 32 #[.int .i64 t, .int .i64 s, .int .i64 (cn : Int)]
      have hsz : W.heap.size ≤ wr.heap.size := hkp.size
      have HS := hide (show J (idsR (l.take k) ++ (runI ((t, s), (cn : Int))).take 0) (wr.alloc (.cells #[.int .i64 t, .int .i64 s, .int .i64 (cn : Int)] 32)) ∧ Bx (wr.alloc (.cells #[.int .i64 t, .int .i64 s, .int .i64 (cn : Int)] 32)) wr.heap.size 32 #[.int .i64 t, .int .i64 s, .int .i64 (cn : Int)] ∧ Kp N W (wr.alloc (.cells #[.int .i64 t, .int .i64 s, .int .i64 (cn : Int)] 32)) from ⟨by simpa using hJ1, hx1, hK1⟩)
      obtain ⟨p, hp⟩ : ∃ p, wr.heap.size = p := ⟨_, rfl⟩
      have x0 := hx1.cell 2 _ rfl
      rw [hp] at HS hsz x0
      have hpN : ¬ N p := fun e => by have := unhide HNn p e; omega
      clear HH hj hkp hr hR hrow htk hdr hid hnx hJ1 hK1 hx1
      go_wp2
      clear c0 c1 c2 x0 hb0 hp
      go_loopw [14] (fun jv wq => ∃ m : Nat, jv = .int .i64 (m : Nat) ∧ m ≤ cn ∧ Hid (J (idsR (l.take k) ++ (runI ((t, s), (cn : Int))).take m) wq ∧ Bx wq p 32 #[.int .i64 t, .int .i64 s, .int .i64 (cn : Int)] ∧ Kp N W wq)) (fun jv _ => cn - (Lib.intOf jv).toNat)
      case atStart => exact ⟨0, rfl, by omega, HS⟩
      case round =>
        obtain ⟨m, rfl, hm, HH⟩ := hrel
        by_cases hml : m < cn
        · have hml' : (m : Int) < (cn : Int) := by omega
          obtain ⟨hj, hx, hk⟩ := unhide HH
          have y0 := hx.cell 0 _ rfl
          have y1 := hx.cell 1 _ rfl
          have haf : aft (t, s) (m : Int) = (t + (m : Int), s) := by
            unfold aft
            rw [if_pos ⟨by unfold isI; simp; omega, by omega, by omega⟩]
          have HA := hide (After_in t s (m : Int) wr)
          have Hcut : Hid ((idsR (l.take k) ++ (runI ((t, s), (cn : Int))).take m) ++ (t + (m : Int), s) :: ((runI ((t, s), (cn : Int))).drop (m + 1) ++ idsR (l.drop (k + 1))) = idsR l) := hide (by
            rw [unhide Hid']
            conv => rhs; rw [runI_split t s cn m hml]
            simp)
          rw [haf] at HA
          have Hj := hide hj
          have Hx := hide hx
          have Hk := hide hk
          clear HH HS hj hx hk haf
          go_wp2_with fail
          refine (unhide HA).mono ?_
          rintro e W1 ⟨rfl, hb⟩
          have hj1 := unhide HJ _ _ _ (unhide Hj) hb
          have hk1 : Kp N W W1 := (unhide Hk).trans (Kp.of_below (N := N) hb) (fun i h => .inl h)
          have hcall := hide (unhide HY _ (t + (m : Int), s) ((runI ((t, s), (cn : Int))).drop (m + 1) ++ idsR (l.drop (k + 1))) W1 (unhide Hcut) hj1 hk1.size)
          have Hx1 := hide ((unhide Hx).below hb)
          have Hk1 := hide hk1
          clear HA hb hj1 hk1 Hj Hx Hk
          go_wp2_with fail
          refine (unhide hcall).mono ?_
          rintro e W3 ⟨b, rfl, hk3, hJ3⟩
          have Hk3 := hide ((unhide Hk1).trans hk3 (fun i h => .inl h))
          have Hx3 := hide ((unhide Hx1).kp hk3 hpN)
          cases b with
          | true =>
            have HJ3 := hide (show J (idsR (l.take k) ++ (runI ((t, s), (cn : Int))).take (m + 1)) W3 by rw [runI_take t s cn m hml, ← List.append_assoc]; exact hJ3)
            clear hJ3 hk3 hcall
            go_wp2
            go_roundw
            case measure => show cn - ((m : Int) + 1).toNat < cn - ((m : Nat) : Int).toNat; omega
            case rel => exact ⟨m + 1, by go_num, by omega, hide ⟨unhide HJ3, unhide Hx3, unhide Hk3⟩⟩
          | false =>
            have HJ3 := hide hJ3
            clear hJ3 hk3 hcall
            go_wp2
            refine bodyPost_ret (results_none rfl _ _ _) rfl ?_
            refine ⟨rfl, .inr ⟨_, (runI ((t, s), (cn : Int))).drop (m + 1) ++ idsR (l.drop (k + 1)), ?_, unhide HJ3⟩⟩
            rw [← unhide Hcut]
            simp
        · have hml' : ¬ (m : Int) < (cn : Int) := by omega
          obtain rfl : m = cn := by omega
          have HH2 : Hid (J (idsR (l.take (k + 1))) wr ∧ Kp N W wr) := hide ⟨by rw [unhide Hnx]; have := (unhide HH).1; rw [runI_all] at this; exact this, (unhide HH).2.2⟩
          clear HH HS
          go_wp2
          go_roundw
          case measure => show n - ((k : Int) + 1).toNat < n - ((k : Nat) : Int).toNat; omega
          case rel => exact ⟨k + 1, by go_num, by omega, HH2⟩
    · have hlt' : ¬ (k : Int) < (n : Int) := by omega
      have hjl : J (idsR l) wr := by
        have := hj
        rw [List.take_of_length_le (by have := unhide Hn; omega)] at this
        exact this
      have HJl := hide hjl
      clear hj hkp HH hjl
      go_wp2
      go_end0
      exact ⟨rfl, .inl (unhide HJl)⟩

end Go.Proofs.Ytccggjhnjknblaa
