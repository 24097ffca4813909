/-
  stamp.Each's closure, when what is handed in makes a list of identifiers; StampForm's own functions.
-/
import Derived.Test.YtccggjhnjknblaaZSP
import Derived.Test.YtccggjhnjknblaaZPK3
import Derived.Deep.QuietTactic
import Derived.BigQuiet
set_option linter.unusedSimpArgs false
set_option linter.unusedVariables false
namespace Go.Proofs.Ytccggjhnjknblaa
open Go.RowKit Go.Lib

/-- what may be written: N, and rows of identifiers -/
def NT (N : Nat → Prop) (W : World) (k : Nat) : Prop := N k ∨ ∃ cs fr, W.heap[k]? = some (.cells cs 30 fr)
theorem nt_run {N : Nat → Prop} {W : World} {b : Nat} {vs : Array Value} (h : Bx W b 32 vs) (hn : ¬ N b) : ¬ NT N W b := by
  rintro (e | ⟨cs, fr, e⟩)
  · exact hn e
  · rw [show W.heap[b]? = _ from h] at e
    simp at e
structure KR (N : Nat → Prop) (W wr : World) (B : Nat) (v : Value) (n : Nat) (l : List ((Int × Int) × Int)) : Prop where
  size : W.heap.size ≤ wr.heap.size
  row : wr.ownsRow B 32 3 v n (flat encR l)
theorem KR.below {N : Nat → Prop} {W wr w' : World} {B : Nat} {v : Value} {n : Nat} {l : List ((Int × Int) × Int)} (h : KR N W wr B v n l) (hb : Below wr.heap.size wr w') : KR N W w' B v n l :=
  ⟨Nat.le_trans h.size hb.size, owns_kp h.row (Kp.of_below (N := fun _ => False) hb) (fun _ _ e => e)⟩
theorem KR.kp {N : Nat → Prop} {W wr w' : World} {B : Nat} {v : Value} {n : Nat} {l : List ((Int × Int) × Int)} (h : KR N W wr B v n l) (hk : Kp (NT N wr) wr w') (hn : ∀ i, v.ownBlock = some i → ¬ N i) : KR N W w' B v n l := by
  refine ⟨Nat.le_trans h.size hk.size, owns_kp h.row hk (fun i hi => ?_)⟩
  rcases h.row.2 with ⟨e, _⟩ | ⟨g, cap, cur, e, _, hg, _⟩
  · rw [e] at hi; cases hi
  · rw [e] at hi
    simp [Value.ownBlock] at hi
    subst hi
    exact nt_run (vs := cur) hg (hn g (by rw [e]; rfl))

def EachY2 (fc : Nat) (caps : Array Value) (N : Nat → Prop) (n0 : Nat) (L : List (Int × Int)) (J Jx : List (Int × Int) → World → Prop) : Prop :=
  ∀ pre x rest W1, pre ++ x :: rest = L → J pre W1 → n0 ≤ W1.heap.size → Calls Try.prog fc (#[.agg #[.int .i64 x.1, .int .i64 x.2]] ++ caps) W1 fun e W' => ∃ b, e = .returned (.bool b) ∧ Kp (NT N W1) W1 W' ∧ if b then J (pre ++ [x]) W' else Jx (pre ++ [x]) W'

set_option maxRecDepth 100000 in
set_option maxHeartbeats 4000000 in
theorem each_clo2 (fc : Nat) (caps : Array Value) (Bo : Nat) (u : Value) (l : List ((Int × Int) × Int)) (N : Nat → Prop) (J Jx : List (Int × Int) → World → Prop) (W : World)
    (he : ∀ args w, (callFunc fc args).run Try.prog w = .ok (.enter fc args) w) (hl : l.length ≤ 1000000) (hc : ∀ r ∈ l, isR r = true)
    (hJ : ∀ pre W1 W2, J pre W1 → Below W1.heap.size W1 W2 → J pre W2)
    (hBo : Bx W Bo 22 #[u]) (B : Nat) (hu : W.ownsRow B 32 3 u l.length (flat encR l)) (hN2 : ∀ i, u.ownBlock = some i → ¬ N i) (hN : ∀ i, N i → i < W.heap.size)
    (hY : EachY2 fc caps N W.heap.size (idsR l) J Jx) (h0 : J [] W) :
    Calls Try.prog 29 #[.func (.func fc) #[] caps, .pointer (some ⟨Bo, 0, none⟩)] W fun e W' => e = .returned (.tuple #[]) ∧ (J (idsR l) W' ∨ ∃ pre rest, pre ++ rest = idsR l ∧ Jx pre W') := by
  obtain ⟨a, cap, rfl⟩ := owns_form hu
  have c0 := hBo.cell 0 _ rfl
  have H := hide hu
  have HN2 := hide hN2
  have Hc := hide hc
  have HJ := hide hJ
  have HY := hide hY
  obtain ⟨n, hn⟩ : ∃ n, l.length = n := ⟨_, rfl⟩
  rw [hn] at hl c0 H HN2
  have Hn := hide hn
  have HNn := hide hN
  clear hu hN2 hc hJ hY hn hBo hN
  go_enter Try.func29, Try.ntmps29
  go_wp2
  go_loopw [8] (fun iv wr => ∃ k : Nat, iv = .int .i64 (k : Nat) ∧ k ≤ n ∧ Hid (J (idsR (l.take k)) wr ∧ KR N W wr B (.slice a n cap) n l)) (fun iv _ => n - (Lib.intOf iv).toNat)
  case atStart => exact ⟨0, rfl, by omega, hide ⟨by simpa [idsR] using h0, ⟨Nat.le_refl _, unhide H⟩⟩⟩
  case round =>
    clear h0 c0
    obtain ⟨k, rfl, hkn, HH⟩ := hrel
    obtain ⟨hj, hkp⟩ := unhide HH
    by_cases hlt : k < n
    · have hlt' : (k : Int) < (n : Int) := by omega
      obtain ⟨r, hr⟩ : ∃ r, l[k]? = some r := ⟨_, List.getElem?_eq_getElem (by have := unhide Hn; omega)⟩
      have hR := unhide Hc r (List.mem_of_getElem? hr)
      have hrow : RR wr (.slice a n cap) l := by unfold RR; rw [unhide Hn]; exact RC.of_owns hkp.row
      obtain ⟨b0, off, rfl, hb0, c0, c1, c2⟩ := RR.at hrow hr
      have htk : l.take (k + 1) = l.take k ++ [r] := by rw [List.take_add_one, hr]; rfl
      have hdr : l = l.take k ++ r :: l.drop (k + 1) := by
        have hil := (List.getElem?_eq_some_iff.1 hr).1
        rw [List.getElem?_eq_getElem hil] at hr
        simp at hr
        rw [← hr, ← List.drop_eq_getElem_cons hil, List.take_append_drop]
      obtain ⟨⟨t, s⟩, c⟩ := r
      have hrg := isR_range hR
      simp only at hrg c0 c1 c2
      obtain ⟨g1, g2, g3, g4, g5, g6⟩ := hrg
      obtain ⟨cn, rfl⟩ : ∃ cn : Nat, c = (cn : Int) := ⟨c.toNat, by omega⟩
      have hid : idsR l = idsR (l.take k) ++ (runI ((t, s), (cn : Int)) ++ idsR (l.drop (k + 1))) := by
        conv => lhs; rw [hdr]
        rw [idsR_append, show (((t, s), (cn : Int)) :: l.drop (k + 1)) = [((t, s), (cn : Int))] ++ l.drop (k + 1) from rfl, idsR_append, idsR_one]
      have hnx : idsR (l.take (k + 1)) = idsR (l.take k) ++ runI ((t, s), (cn : Int)) := by rw [htk, idsR_append, idsR_one]
      have Hid' := hide hid
      have Hnx := hide hnx
      have hJ1 := unhide HJ _ _ _ hj (ballc (Below.refl _ wr) (.cells #[.int .i64 t, .int .i64 s, .int .i64 (cn : Int)] 32))
      have hK1 : KR N W (wr.alloc (.cells #[.int .i64 t, .int .i64 s, .int .i64 (cn : Int)] 32)) B (.slice (some ⟨b0, off, none⟩) n cap) n l := hkp.below (ballc (Below.refl _ wr) _)
      have hx1 := Bx.new wr 32 #[.int .i64 t, .int .i64 s, .int .i64 (cn : Int)]
      have hsz : W.heap.size ≤ wr.heap.size := hkp.size
      have HS := hide (show J (idsR (l.take k) ++ (runI ((t, s), (cn : Int))).take 0) (wr.alloc (.cells #[.int .i64 t, .int .i64 s, .int .i64 (cn : Int)] 32)) ∧ Bx (wr.alloc (.cells #[.int .i64 t, .int .i64 s, .int .i64 (cn : Int)] 32)) wr.heap.size 32 #[.int .i64 t, .int .i64 s, .int .i64 (cn : Int)] ∧ KR N W (wr.alloc (.cells #[.int .i64 t, .int .i64 s, .int .i64 (cn : Int)] 32)) B (.slice (some ⟨b0, off, none⟩) n cap) n l from ⟨by simpa using hJ1, hx1, hK1⟩)
      obtain ⟨p, hp⟩ : ∃ p, wr.heap.size = p := ⟨_, rfl⟩
      have x0 := hx1.cell 2 _ rfl
      rw [hp] at HS hsz x0
      have hpN : ¬ N p := fun e => by have := unhide HNn p e; omega
      clear HH hj hkp hr hR hrow htk hdr hid hnx hJ1 hK1 hx1
      go_wp2
      clear c0 c1 c2 x0 hb0 hp
      go_loopw [14] (fun jv wq => ∃ m : Nat, jv = .int .i64 (m : Nat) ∧ m ≤ cn ∧ Hid (J (idsR (l.take k) ++ (runI ((t, s), (cn : Int))).take m) wq ∧ Bx wq p 32 #[.int .i64 t, .int .i64 s, .int .i64 (cn : Int)] ∧ KR N W wq B (.slice (some ⟨b0, off, none⟩) n cap) n l)) (fun jv _ => cn - (Lib.intOf jv).toNat)
      case atStart => exact ⟨0, rfl, by omega, HS⟩
      case round =>
        obtain ⟨m, rfl, hm, HH⟩ := hrel
        by_cases hml : m < cn
        · have hml' : (m : Int) < (cn : Int) := by omega
          obtain ⟨hj, hx, hk⟩ := unhide HH
          have y0 := hx.cell 0 _ rfl
          have y1 := hx.cell 1 _ rfl
          have haf : aft (t, s) (m : Int) = (t + (m : Int), s) := by
            unfold aft
            rw [if_pos ⟨by unfold isI; simp; omega, by omega, by omega⟩]
          have HA := hide (After_in t s (m : Int) wr)
          have Hcut : Hid ((idsR (l.take k) ++ (runI ((t, s), (cn : Int))).take m) ++ (t + (m : Int), s) :: ((runI ((t, s), (cn : Int))).drop (m + 1) ++ idsR (l.drop (k + 1))) = idsR l) := hide (by
            rw [unhide Hid']
            conv => rhs; rw [runI_split t s cn m hml]
            simp)
          rw [haf] at HA
          have Hj := hide hj
          have Hx := hide hx
          have Hk := hide hk
          clear HH HS hj hx hk haf
          go_wp2_with fail
          refine (unhide HA).mono ?_
          rintro e W1 ⟨rfl, hb⟩
          have hj1 := unhide HJ _ _ _ (unhide Hj) hb
          have hk1 := (unhide Hk).below hb
          have hcall := hide (unhide HY _ (t + (m : Int), s) ((runI ((t, s), (cn : Int))).drop (m + 1) ++ idsR (l.drop (k + 1))) W1 (unhide Hcut) hj1 hk1.size)
          have Hx1 := hide ((unhide Hx).below hb)
          have Hk1 := hide hk1
          clear HA hb hj1 hk1 Hj Hx Hk
          go_wp2_with fail
          refine (unhide hcall).mono ?_
          rintro e W3 ⟨b, rfl, hk3, hJ3⟩
          have Hk3 := hide ((unhide Hk1).kp hk3 (unhide HN2))
          have Hx3 := hide ((unhide Hx1).kp hk3 (nt_run (unhide Hx1) hpN))
          cases b with
          | true =>
            have HJ3 := hide (show J (idsR (l.take k) ++ (runI ((t, s), (cn : Int))).take (m + 1)) W3 by rw [runI_take t s cn m hml, ← List.append_assoc]; exact hJ3)
            clear hJ3 hk3 hcall
            go_wp2
            go_roundw
            case measure => show cn - ((m : Int) + 1).toNat < cn - ((m : Nat) : Int).toNat; omega
            case rel => exact ⟨m + 1, by go_num, by omega, hide ⟨unhide HJ3, unhide Hx3, unhide Hk3⟩⟩
          | false =>
            have HJ3 := hide hJ3
            clear hJ3 hk3 hcall
            go_wp2
            refine bodyPost_ret (results_none rfl _ _ _) rfl ?_
            refine ⟨rfl, .inr ⟨_, (runI ((t, s), (cn : Int))).drop (m + 1) ++ idsR (l.drop (k + 1)), ?_, unhide HJ3⟩⟩
            rw [← unhide Hcut]
            simp
        · have hml' : ¬ (m : Int) < (cn : Int) := by omega
          obtain rfl : m = cn := by omega
          have HH2 : Hid (J (idsR (l.take (k + 1))) wr ∧ KR N W wr B (.slice (some ⟨b0, off, none⟩) n cap) n l) := hide ⟨by rw [unhide Hnx]; have := (unhide HH).1; rw [runI_all] at this; exact this, (unhide HH).2.2⟩
          clear HH HS
          go_wp2
          go_roundw
          case measure => show n - ((k : Int) + 1).toNat < n - ((k : Nat) : Int).toNat; omega
          case rel => exact ⟨k + 1, by go_num, by omega, HH2⟩
    · have hlt' : ¬ (k : Int) < (n : Int) := by omega
      have hjl : J (idsR l) wr := by
        have := hj
        rw [List.take_of_length_le (by have := unhide Hn; omega)] at this
        exact this
      have HJl := hide hjl
      clear hj hkp HH hjl
      go_wp2
      go_end0
      exact ⟨rfl, .inl (unhide HJl)⟩

/-- a row of identifiers, when one is put behind -/
theorem append_id (w : World) (ty : TypeId) (N : Nat) (v : Value) (l : List (Int × Int)) (t s : Int) (h : w.ownsRow N 30 2 v l.length (flat encI l)) (hN : N ≤ w.heap.size) (hl : l.length ≤ 1000000) :
    ∃ v' w', (Builtin.append_ #[24, 24] ty #[v, .slice (some ⟨w.heap.size, 0, none⟩) 1 1]).run Try.prog (w.alloc (.cells #[.int .i64 t, .int .i64 s] 30)) = .ok v' w' ∧ w'.ownsRow N 30 2 v' (l ++ [(t, s)]).length (flat encI (l ++ [(t, s)])) ∧ (w.alloc (.cells #[.int .i64 t, .int .i64 s] 30)).grownBy w' v.ownBlock := by
  obtain ⟨i0, hi, hz0, hz1, hz2⟩ := info_parts infoI
  have hbx := Bx.new w 30 #[.int .i64 t, .int .i64 s]
  obtain ⟨v', w', h1, h2, h3, h4, h5⟩ := run_append_own_at (P := Try.prog) (w.alloc (.cells #[.int .i64 t, .int .i64 s] 30)) N 24 ty 30 i0 _ 2 16 Try.underlying24 hi hz0 hz1 hz2 rfl (by decide) v l.length _ (h.alloc _) ⟨w.heap.size, 0, none⟩ 1 1 [.int .i64 t, .int .i64 s] rfl (fun j u hu => by
    rw [Addr.add_lit, Nat.zero_add]
    exact hbx.cell j u (by rw [← hu]; simp)) (fun u hu => by simp at hu; rcases hu with rfl | rfl <;> rfl) (by unfold maxLen; omega) (by omega) (by simp; omega)
  exact ⟨v', w', h1, by rw [flat_append]; simpa [show flat encI [(t, s)] = [.int .i64 t, .int .i64 s] from rfl] using h2, h3⟩

set_option maxRecDepth 100000 in
theorem is_in (t s : Int) (w : World) :
    Calls Try.prog 14 #[.agg #[.int .i64 t, .int .i64 s]] w fun e W => e = .returned (.bool (isI (t, s))) ∧ Below w.heap.size w W := by
  obtain ⟨R, hR⟩ : ∃ R, isI (t, s) = R := ⟨_, rfl⟩
  rw [hR]
  rcases isI_ways t s hR with ⟨h1, rfl⟩ | ⟨h1, h2, rfl⟩ | ⟨h1, h2, h3, rfl⟩ | ⟨h1, h2, h3, h4, rfl⟩ | ⟨h1, h2, h3, h4, rfl⟩
  all_goals
    clear hR
    go_enter Try.func14, Try.ntmps14
    go_wp2
    go_ret
    exact ⟨rfl, ballc (Below.refl _ _) _⟩

set_option maxRecDepth 100000 in
set_option maxHeartbeats 2000000 in
theorem among_in (v : Value) (l : List (Int × Int)) (t s : Int) (w : World) (h : RI w v l) (hl : l.length ≤ 1000000) :
    Calls Try.prog 15 #[v, .agg #[.int .i64 t, .int .i64 s]] w fun e W => e = .returned (.bool (decide ((t, s) ∈ l))) ∧ Below w.heap.size w W := by
  obtain ⟨a, cap, rfl⟩ := RC.form h
  obtain ⟨X, hX⟩ : ∃ X, w.alloc (.cells #[.int .i64 t, .int .i64 s] 30) = X := ⟨_, rfl⟩
  have bX : Below w.heap.size w X := by rw [← hX]; exact ballc (Below.refl _ _) _
  have xX : Bx X w.heap.size 30 #[.int .i64 t, .int .i64 s] := by rw [← hX]; exact Bx.new w _ _
  have q0 := xX.cell 0 _ rfl
  have q1 := xX.cell 1 _ rfl
  have H := hide (h.below bX)
  have HB := hide bX
  obtain ⟨n, hn⟩ : ∃ n, l.length = n := ⟨_, rfl⟩
  rw [hn] at H hl ⊢
  have Hn := hide hn
  obtain ⟨R, hR⟩ : ∃ R, decide ((t, s) ∈ l) = R := ⟨_, rfl⟩
  rw [hR]
  have HR := hide hR
  clear h bX hn hR xX
  go_enter Try.func15, Try.ntmps15
  go_wp2
  go_loopw [5] (fun iv wr => ∃ i : Nat, iv = .int .i64 (i : Nat) ∧ i ≤ n ∧ Hid ((∀ x ∈ l.take i, x ≠ (t, s)) ∧ ∃ q, wr = X.drewN q)) (fun iv _ => n - (Lib.intOf iv).toNat)
  case atStart => exact ⟨0, rfl, by omega, hide ⟨fun x hx => by simp at hx, 0, rfl⟩⟩
  case round =>
    obtain ⟨i, rfl, hi, HH⟩ := hrel
    obtain ⟨hno, q, rfl⟩ := unhide HH
    by_cases hlt : i < n
    · have hlt' : (i : Int) < (n : Int) := by omega
      obtain ⟨x, hx⟩ : ∃ x, l[i]? = some x := ⟨_, List.getElem?_eq_getElem (by have := unhide Hn; omega)⟩
      obtain ⟨b0, off, rfl, hb0, c0, c1⟩ := RI.at (unhide H) hx
      obtain ⟨x1, x2⟩ := x
      simp only at c0 c1
      have heq : ∀ w, (binOp .eql 30 (.agg #[.int .i64 x1, .int .i64 x2]) (.agg #[.int .i64 t, .int .i64 s])).run Try.prog w = .ok (.bool (decide ((x1, x2) = (t, s)))) w := fun w => eqI x1 x2 t s w
      by_cases he : (x1, x2) = (t, s)
      · rw [decide_eq_true he] at heq
        have hRt : R = true := by rw [← unhide HR, decide_eq_true_iff, ← he]; exact List.mem_of_getElem? hx
        subst hRt
        clear he hno HH hx
        go_wp2_with fail
        go_quiet (fail)
        go_wp2
        go_ret
        exact ⟨rfl, bdrew (bdrew (unhide HB) _) _⟩
      · rw [decide_eq_false he] at heq
        have hno2 : Hid (∀ y ∈ l.take (i + 1), y ≠ (t, s)) := hide (fun y hy => by
          rw [List.take_add_one, hx] at hy
          rcases List.mem_append.1 hy with hy | hy
          · exact hno y hy
          · simp at hy; rw [hy]; exact he)
        clear he hno HH hx
        go_wp2_with fail
        go_quiet (fail)
        go_wp2
        go_roundw
        case measure => show n - ((i : Int) + 1).toNat < n - ((i : Nat) : Int).toNat; omega
        case rel => exact ⟨i + 1, by go_num, by omega, hide ⟨unhide hno2, _, rfl⟩⟩
    · have hlt' : ¬ (i : Int) < (n : Int) := by omega
      have hRf : R = false := by
        rw [← unhide HR, decide_eq_false_iff_not]
        intro hm
        rw [List.take_of_length_le (by have := unhide Hn; omega)] at hno
        exact hno _ hm rfl
      subst hRf
      clear hno HH
      go_wp2
      go_ret
      exact ⟨rfl, bdrew (unhide HB) _⟩

/-- what is collected: all's box and its row -/
def JF (W0 : World) (Ball : Nat) (q : List (Int × Int)) (W : World) : Prop := ∃ v, Bx W Ball 24 #[v] ∧ W.ownsRow W0.heap.size 30 2 v q.length (flat encI q) ∧ Below W0.heap.size W0 W
theorem JF.below {W0 : World} {Ball : Nat} {q : List (Int × Int)} {W1 W2 : World} (h : JF W0 Ball q W1) (hb : Below W1.heap.size W1 W2) : JF W0 Ball q W2 := by
  obtain ⟨v, h1, h2, h3⟩ := h
  exact ⟨v, h1.below hb, owns_kp h2 (Kp.of_below (N := fun _ => False) hb) (fun _ _ e => e), bnext h3 hb⟩
def OutF (W0 : World) (Ball : Nat) (q : List (Int × Int)) (x : Int × Int) (W : World) (e : Ending) (W' : World) : Prop := ∃ b, e = .returned (.bool b) ∧ Kp (NT (fun k => k = Ball) W) W W' ∧ if b then JF W0 Ball (q ++ [x]) W' else False
theorem own_ne {W : World} {B b n : Nat} {v u : Value} {C : List Value} (h : W.ownsRow B 30 2 v n C) (hb : Bx W b 24 #[u]) : ∀ k, v.ownBlock = some k → k ≠ b := fun k hk e => by
  subst e
  rcases h.2 with ⟨e, _⟩ | ⟨g, cap, cur, e, _, hg, _⟩
  · rw [e] at hk; cases hk
  · rw [e] at hk
    simp [Value.ownBlock] at hk
    subst hk
    rw [show W.heap[g]? = _ from hb] at hg
    simp at hg
theorem own_nt {W : World} {B n : Nat} {v : Value} {C : List Value} {N : Nat → Prop} (h : W.ownsRow B 30 2 v n C) : ∀ k, v.ownBlock = some k → NT N W k := fun k hk => by
  rcases h.2 with ⟨e, _⟩ | ⟨g, cap, cur, e, _, hg, _⟩
  · rw [e] at hk; cases hk
  · rw [e] at hk
    simp [Value.ownBlock] at hk
    subst hk
    exact .inr ⟨_, _, hg⟩

set_option maxRecDepth 100000 in
set_option maxHeartbeats 4000000 in
theorem form1_in (W0 : World) (Ball Bl : Nat) (a0 : Option Addr) (len0 cap0 : Nat) (hBl : Bx W0 Bl 24 #[.slice a0 len0 cap0]) (hBall : W0.heap.size ≤ Ball) (q : List (Int × Int)) (x1 x2 : Int) (W : World) (hj : JF W0 Ball q W) (hlt : q.length < len0) (hl : len0 ≤ 1000) :
    Calls Try.prog 13 #[.agg #[.int .i64 x1, .int .i64 x2], .pointer (some ⟨Ball, 0, none⟩), .pointer (some ⟨Bl, 0, none⟩)] W fun e W' => OutF W0 Ball q (x1, x2) W e W' := by
  obtain ⟨v, hx, ho, hB⟩ := hj
  have hBll := hBl.lt
  have hne := own_ne ho hx
  have hnt := own_nt (N := fun k => k = Ball) ho
  have hlo := fun k hk => (ho.lt k hk).1
  have hsz := hB.size
  obtain ⟨a, c, rfl⟩ := owns_form ho
  obtain ⟨X, hX⟩ : ∃ X, W.alloc (.cells #[.int .i64 x1, .int .i64 x2] 30) = X := ⟨_, rfl⟩
  have bX : Below W.heap.size W X := by rw [← hX]; exact ballc (Below.refl _ _) _
  have i0 : Bx X W.heap.size 30 #[.int .i64 x1, .int .i64 x2] := by rw [← hX]; exact Bx.new W _ _
  have q0 := i0.cell 0 _ rfl
  have q1 := i0.cell 1 _ rfl
  have c1 := (hx.below bX).cell 0 _ rfl
  have hoX : X.ownsRow W0.heap.size 30 2 (.slice a q.length c) q.length (flat encI q) := owns_kp ho (Kp.of_below (N := fun _ => False) bX) (fun _ _ e => e)
  obtain ⟨v2, W2, hap, ho2, hg2⟩ := append_id X 24 W0.heap.size _ q x1 x2 hoX (Nat.le_trans hsz bX.size) (by omega)
  have bX2 := ballc bX (.cells #[.int .i64 x1, .int .i64 x2] 30)
  have hk2 : Kp (NT (fun k => k = Ball) W) W W2 := (Kp.of_below (N := NT (fun k => k = Ball) W) bX2).trans (Kp.of_grown (N := NT (fun k => k = Ball) W) hg2 (fun k hk => hnt k hk)) (fun i h => .inl h)
  have hB2 : Below W0.heap.size W0 W2 := (bnext hB bX2).grown hg2 (bnext hB bX2).size (fun k hk => hlo k hk)
  have hxW2 : Bx W2 Ball 24 #[.slice a q.length c] := by
    have h1 := hx.below bX2
    exact h1.kp (Kp.of_grown (N := fun k => (Value.slice a q.length c).ownBlock = some k) hg2 (fun k hk => hk)) (fun e => hne _ e rfl)
  obtain ⟨n, hn⟩ : ∃ n, q.length = n := ⟨_, rfl⟩
  have hn2 : (q ++ [(x1, x2)]).length = n + 1 := by rw [List.length_append, hn]; rfl
  obtain ⟨a2, c2, rfl⟩ := owns_form ho2
  rw [hn2] at hap
  have hx3 : Bx (W2.setCell ⟨Ball, 0, none⟩ (.slice a2 (n + 1) c2)) Ball 24 #[.slice a2 (n + 1) c2] := hxW2.set 0 _
  have kp3 := Kp.set (N := fun k => k = Ball) W2 ⟨Ball, 0, none⟩ (.slice a2 (n + 1) c2) rfl
  have hne2 := own_ne ho2 hxW2
  have ho3 := owns_kp ho2 kp3 (fun i hi e => hne2 i hi e)
  have hB3 : Below W0.heap.size W0 (W2.setCell ⟨Ball, 0, none⟩ (.slice a2 (n + 1) c2)) := kp3.below hB2 (fun i e => by omega)
  have hk3 : Kp (NT (fun k => k = Ball) W) W (W2.setCell ⟨Ball, 0, none⟩ (.slice a2 (n + 1) c2)) := hk2.trans (M := fun k => k = Ball) kp3 (fun i e => .inl (.inl e))
  have f2 := hxW2.frozen 0
  have c2' := hxW2.cell 0 _ rfl
  have c3 := hx3.cell 0 _ rfl
  have c4 := (hBl.below hB3).cell 0 _ rfl
  have HF := hide (show OutF W0 Ball q (x1, x2) W (.returned (.bool true)) (W2.setCell ⟨Ball, 0, none⟩ (.slice a2 (n + 1) c2)) from ⟨true, rfl, hk3, _, hx3, (by rw [hn2] at ho3 ⊢; exact ho3), hB3⟩)
  rw [hn] at c1 hap c2' hlt
  have hle : (n : Int) + 1 ≤ (len0 : Int) := by omega
  replace hap := hide hap
  clear hx ho hB hne hnt hlo hoX ho2 hg2 bX2 hk2 hB2 hxW2 hx3 kp3 hne2 ho3 hB3 hk3 bX i0 hn hn2 hBl
  go_enter Try.func13, Try.ntmps13
  go_wp2_with (at_builtin; refine wpList_append_eq rfl _ _ 24 rfl _ _ _ _ rfl rfl (unhide hap) ?_)
  go_ret
  exact unhide HF

theorem all_in (W0 W : World) (Ball Bl Bo B : Nat) (u : Value) (a0 : Option Addr) (len0 cap0 : Nat) (P : List ((Int × Int) × Int)) (hBl : Bx W0 Bl 24 #[.slice a0 len0 cap0]) (hBall : W0.heap.size ≤ Ball) (hj : JF W0 Ball [] W) (hP : ∀ r ∈ P, isR r = true) (hPl : P.length ≤ 1000000) (hA : (idsR P).length ≤ len0) (hl : len0 ≤ 1000)
    (hBo : Bx W Bo 22 #[u]) (hu : W.ownsRow B 32 3 u P.length (flat encR P)) (hub : ∀ i, u.ownBlock = some i → i ≠ Ball) (hBl2 : Ball < W.heap.size) :
    Calls Try.prog 29 #[.func (.func 13) #[] #[.pointer (some ⟨Ball, 0, none⟩), .pointer (some ⟨Bl, 0, none⟩)], .pointer (some ⟨Bo, 0, none⟩)] W fun e W' => e = .returned (.tuple #[]) ∧ JF W0 Ball (idsR P) W' := by
  refine (each_clo2 13 #[.pointer (some ⟨Ball, 0, none⟩), .pointer (some ⟨Bl, 0, none⟩)] Bo u P (fun k => k = Ball) (JF W0 Ball) (fun _ _ => False) W (enters_of Try.func13 (by kernel_rfl) rfl) hPl hP (fun pre W1 W2 h hb => h.below hb) hBo B hu hub (fun i e => by omega) ?_ hj).mono ?_
  · rintro q ⟨x1, x2⟩ rest X hq hjX hsz
    have hlt : q.length < len0 := by have := congrArg List.length hq; rw [List.length_append] at this; simp at this; omega
    exact form1_in W0 Ball Bl a0 len0 cap0 hBl hBall q x1 x2 X hjX hlt hl
  · rintro e W' ⟨rfl, h | ⟨_, _, _, h⟩⟩
    · exact ⟨rfl, h⟩
    · exact h.elim

end Go.Proofs.Ytccggjhnjknblaa
