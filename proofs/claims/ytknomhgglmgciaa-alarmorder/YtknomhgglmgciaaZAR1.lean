/-
  The document's own Alarm in memory: New, tick, Len, at, first, Gap, Next.
-/
import Derived.Test.YtknomhgglmgciaaZAA4
import Derived.Deep.RegionLaw
set_option linter.unusedSimpArgs false
set_option linter.unusedVariables false
namespace Go.Proofs.Ytknomhgglmgciaa
open Go.RowKit Go.Lib

def encT (x : Tm) : List Value := [.int .i64 x.key, .int .i64 x.gap, .int .i64 x.due]
theorem encT_len (x : Tm) : (encT x).length = 3 := rfl
/-- the document's Alarm, in blocks of which P holds -/
structure RS (P : Nat → Prop) (W : World) (r : Nat) (ls ms : Int) (v : Value) (L : List Tm) : Prop where
  bx : Bx W r 45 #[.int .i64 ls, .int .i64 ms, v]
  row : W.ownsRow 0 70 3 v L.length (flat encT L)
  pr : P r
  pk : ∀ k, v.ownBlock = some k → P k
def RL (P : Nat → Prop) (W : World) (r : Nat) (ls ms : Int) (L : List Tm) : Prop := ∃ v, RS P W r ls ms v L
variable {P N : Nat → Prop} {w W W' : World} {r : Nat} {ls ms : Int} {v : Value} {L : List Tm}
theorem RS.kp (h : RS P W r ls ms v L) (k : Kp N W W') (hn : ∀ i, N i → ¬ P i) : RS P W' r ls ms v L := ⟨h.bx.kp k (fun e => hn _ e h.pr), owns_kp h.row k (fun i hi e => hn i e (h.pk i hi)), h.pr, h.pk⟩
theorem RS.mono {P' : Nat → Prop} (h : RS P W r ls ms v L) (hp : ∀ i, P i → P' i) : RS P' W r ls ms v L := ⟨h.bx, h.row, hp _ h.pr, fun k hk => hp k (h.pk k hk)⟩
theorem RS.lt (h : RS P W r ls ms v L) : RS (fun i => P i ∧ i < W.heap.size) W r ls ms v L := ⟨h.bx, h.row, ⟨h.pr, h.bx.lt⟩, fun k hk => ⟨h.pk k hk, (h.row.lt k hk).2⟩⟩
theorem RL.kp (h : RL P W r ls ms L) (k : Kp N W W') (hn : ∀ i, N i → ¬ P i) : RL P W' r ls ms L := by obtain ⟨v, h⟩ := h; exact ⟨v, h.kp k hn⟩
theorem RL.below (h : RL P W r ls ms L) (hb : Below W.heap.size W W') : RL P W' r ls ms L := h.kp (N := fun _ => False) (Kp.of_below hb) (fun _ h => h.elim)
theorem RL.mono {P' : Nat → Prop} (h : RL P W r ls ms L) (hp : ∀ i, P i → P' i) : RL P' W r ls ms L := by obtain ⟨v, h⟩ := h; exact ⟨v, h.mono hp⟩
theorem RL.lt (h : RL P W r ls ms L) : RL (fun i => P i ∧ i < W.heap.size) W r ls ms L := by obtain ⟨v, h⟩ := h; exact ⟨v, h.lt⟩
theorem RL.pr (h : RL P W r ls ms L) : P r := by obtain ⟨v, h⟩ := h; exact h.pr
theorem RS.form (h : RS P W r ls ms v L) : ∃ a c, v = .slice a L.length c := owns_form h.row
theorem RS.c0 (h : RS P W r ls ms v L) : W.cell? ⟨r, 0, none⟩ = some (.int .i64 ls) := h.bx.cell 0 _ rfl
theorem RS.c1 (h : RS P W r ls ms v L) : W.cell? ⟨r, 1, none⟩ = some (.int .i64 ms) := h.bx.cell 1 _ rfl
theorem RS.c2 (h : RS P W r ls ms v L) : W.cell? ⟨r, 2, none⟩ = some v := h.bx.cell 2 _ rfl
theorem RS.at {a : Option Addr} {n c : Nat} (h : RS P W r ls ms (.slice a n c) L) {i : Nat} {x : Tm} (hi : L[i]? = some x) : n = L.length ∧ ∃ g, a = some ⟨g, 0, none⟩ ∧ P g ∧ (∀ j, W.frozen? ⟨g, j, none⟩ = false) ∧ W.cell? ⟨g, i * 3, none⟩ = some (.int .i64 x.key) ∧ W.cell? ⟨g, i * 3 + 1, none⟩ = some (.int .i64 x.gap) ∧ W.cell? ⟨g, i * 3 + 2, none⟩ = some (.int .i64 x.due) := by
  have hl := (List.getElem?_eq_some_iff.1 hi).1
  obtain ⟨g, c', e, hc, cur, hb⟩ := owns_some h.row (by omega)
  simp at e
  obtain ⟨rfl, rfl, rfl⟩ := e
  have key : ∀ q, q < 3 → W.cell? ⟨g, i * 3 + q, none⟩ = (encT x)[q]? := fun q hq => by
    rw [h.row.cellAt (i * 3 + q) (by omega), flat_get encT_len L i q x hi hq]
  exact ⟨rfl, g, rfl, h.pk g rfl, fun j => h.row.frozenAt j, key 0 (by omega), key 1 (by omega), key 2 (by omega)⟩

set_option maxRecDepth 100000 in
theorem rtick_in (x : Int) (w : World) : Calls Try.prog 36 #[.int .i64 x] w fun e W => e = .returned (.bool (tickB x)) ∧ w = W := by
  obtain ⟨R, hR⟩ : ∃ R, tickB x = R := ⟨_, rfl⟩
  rw [hR]
  unfold tickB at hR
  by_cases h1 : 0 ≤ x
  · by_cases h2 : x ≤ 2147483647
    · obtain rfl : true = R := by rw [← hR]; simp [h1, h2]
      clear hR
      go_enter Try.func36, Try.ntmps36
      go_wp2
      go_ret
      exact ⟨rfl, rfl⟩
    · obtain rfl : false = R := by rw [← hR]; simp [h1, h2]
      clear hR
      go_enter Try.func36, Try.ntmps36
      go_wp2
      go_ret
      exact ⟨rfl, rfl⟩
  · obtain rfl : false = R := by rw [← hR]; simp [h1]
    clear hR
    go_enter Try.func36, Try.ntmps36
    go_wp2
    go_ret
    exact ⟨rfl, rfl⟩
theorem rLen_in (h : RL P w r ls ms L) : Calls Try.prog 24 #[.pointer (some ⟨r, 0, none⟩)] w fun e W => e = .returned (.int .i64 (L.length : Nat)) ∧ w = W := by
  obtain ⟨v, h⟩ := h
  obtain ⟨a, c, rfl⟩ := h.form
  have c2 := h.c2
  clear h
  go_enter Try.func24, Try.ntmps24
  go_wp2
  go_ret
  exact ⟨rfl, rfl⟩
/-- what at answers -/
def AtA (L : List Tm) (k : Int) (e : Ending) : Prop := (lookL L k = none ∧ e = .returned (.int .i64 (-1))) ∨ ∃ (i : Nat) (x : Tm), L[i]? = some x ∧ lookL L k = some x ∧ e = .returned (.int .i64 (i : Nat))
theorem look_first : ∀ {L : List Tm} {k : Int} {i : Nat} {x : Tm}, L[i]? = some x → x.key = k → (∀ j, j < i → ∀ y, L[j]? = some y → y.key ≠ k) → lookL L k = some x
  | [], _, _, _, h, _, _ => by simp at h
  | z :: L, k, 0, x, h, hk, _ => by
    simp at h
    subst h
    unfold lookL
    rw [List.find?_cons, decide_eq_true hk]
  | z :: L, k, i + 1, x, h, hk, hn => by
    have h1 := hn 0 (by omega) z (by simp)
    unfold lookL
    rw [List.find?_cons, decide_eq_false h1]
    exact look_first (by simpa using h) hk (fun j hj y hy => hn (j + 1) (by omega) y (by simpa using hy))
theorem look_not {L : List Tm} {k : Int} (hn : ∀ (j : Nat) (y : Tm), L[j]? = some y → y.key ≠ k) : lookL L k = none := by
  cases e : lookL L k with
  | none => rfl
  | some x =>
    obtain ⟨h1, h2⟩ := lookL_some e
    obtain ⟨i, hi, ex⟩ := List.getElem_of_mem h1
    exact absurd h2 (hn i x (by rw [List.getElem?_eq_getElem hi, ex]))
set_option maxRecDepth 100000 in
set_option maxHeartbeats 2000000 in
theorem at_in (h : RL P w r ls ms L) (hl : L.length ≤ 1000000) (k : Int) : Calls Try.prog 34 #[.pointer (some ⟨r, 0, none⟩), .int .i64 k] w fun e W => AtA L k e ∧ w = W := by
  obtain ⟨v, h⟩ := h
  obtain ⟨a, c, rfl⟩ := h.form
  have c2 := h.c2
  have HH := hide h
  clear h
  obtain ⟨n, hn⟩ : ∃ n, L.length = n := ⟨_, rfl⟩
  have Hn := hide hn
  rw [hn] at c2 hl
  clear hn
  go_enter Try.func34, Try.ntmps34
  go_wp2
  go_loopw [5] (fun u wr => ∃ i : Nat, i ≤ n ∧ u = .int .i64 (i : Nat) ∧ wr = w ∧ Hid (∀ j, j < i → ∀ y, L[j]? = some y → y.key ≠ k)) (fun u _ => n - (RowKit.intOf u).toNat)
  case atStart => exact ⟨0, Nat.zero_le _, rfl, rfl, hide (fun j hj => absurd hj (by omega))⟩
  case round =>
    obtain ⟨i, hi, rfl, rfl, HN⟩ := hrel
    by_cases hlt : i < n
    · have hlt' : (i : Int) < (n : Int) := by omega
      have hiL : i < L.length := by rw [unhide Hn]; exact hlt
      obtain ⟨x, hx⟩ : ∃ x, L[i]? = some x := ⟨_, List.getElem?_eq_getElem hiL⟩
      obtain ⟨_, g, rfl, _, _, k0, _⟩ := (unhide HH).at hx
      have Hx := hide hx
      clear hx
      by_cases he : x.key = k
      · have he' : (x.key == k) = true := by simpa using he
        have He := hide he
        clear he
        go_wp2
        go_ret
        exact ⟨.inr ⟨i, x, unhide Hx, look_first (unhide Hx) (unhide He) (unhide HN), rfl⟩, rfl⟩
      · have he' : (x.key == k) = false := by simpa using he
        have He := hide he
        clear he
        go_wp2
        go_roundw
        case rel =>
          refine ⟨i + 1, by omega, by go_num, (by first | rfl | trivial), hide (fun j hj y hy => ?_)⟩
          by_cases e : j = i
          · subst e
            rw [unhide Hx] at hy
            cases hy
            exact unhide He
          · exact unhide HN j (by omega) y hy
        case measure => show n - ((i : Int) + 1).toNat < n - ((i : Nat) : Int).toNat; omega
    · have hlt' : ¬ (i : Int) < (n : Int) := by omega
      go_wp2
      go_ret
      refine ⟨.inl ⟨look_not (fun j y hy => unhide HN j ?_ y hy), rfl⟩, rfl⟩
      have := (List.getElem?_eq_some_iff.1 hy).1
      have := unhide Hn
      omega
set_option maxRecDepth 100000 in
set_option maxHeartbeats 2000000 in
theorem rGap_in (h : RL P w r ls ms L) (hl : L.length ≤ 1000000) (k : Int) : Calls Try.prog 22 #[.pointer (some ⟨r, 0, none⟩), .int .i64 k] w fun e W => e = .returned (gapA L k) ∧ Below w.heap.size w W := by
  have HT := hide (at_in h hl k)
  obtain ⟨v, h⟩ := h
  obtain ⟨a, c, rfl⟩ := h.form
  have c2 := h.c2
  have HH := hide h
  clear h
  obtain ⟨G, hG⟩ : ∃ G, gapA L k = G := ⟨_, rfl⟩
  rw [hG]
  have HG := hide hG
  clear hG
  go_enter Try.func22, Try.ntmps22
  go_wp2_with fail
  refine (unhide HT).mono ?_
  rintro e W1 ⟨he, rfl⟩
  clear HT
  rcases he with ⟨he, rfl⟩ | ⟨i, x, hi, hx, rfl⟩
  · replace he := hide he
    go_wp2
    refine bodyPost_ret (results_tmp2 rfl _ _ _) rfl ?_
    refine ⟨?_, Below.refl _ _⟩
    rw [← unhide HG]
    unfold gapA
    rw [unhide he]
    rfl
  · have hil := (List.getElem?_eq_some_iff.1 hi).1
    obtain ⟨_, g, rfl, _, _, k0, k1, k2⟩ := (unhide HH).at hi
    have hlt' : (i : Int) < (L.length : Int) := by omega
    have hi0 : ¬ (i : Int) < 0 := by omega
    have Hx := hide hx
    clear hi hx hil
    generalize L.length = n at *
    go_wp2
    go_quiet (fail)
    go_wp2
    refine bodyPost_ret (results_tmp2 rfl _ _ _) rfl ?_
    refine ⟨?_, bdrew (Below.refl _ _) _⟩
    rw [← unhide HG]
    unfold gapA
    rw [unhide Hx]
    rfl
/-- what first answers -/
def FiA (L : List Tm) (e : Ending) : Prop := (L = [] ∧ e = .returned (.int .i64 (-1))) ∨ ∃ (i : Nat) (x : Tm), L[i]? = some x ∧ minL L = some x ∧ e = .returned (.int .i64 (i : Nat))
/-- how far first is -/
def FiI (L : List Tm) (i : Nat) (u : Value) : Prop := (i = 0 ∧ u = .int .i64 (-1)) ∨ ∃ (k : Nat) (x : Tm), L[k]? = some x ∧ u = .int .i64 (k : Nat) ∧ k < i ∧ ∀ j, j < i → ∀ y, L[j]? = some y → ltT y x = false
set_option maxRecDepth 100000 in
set_option maxHeartbeats 4000000 in
theorem first_in (h : RL P w r ls ms L) (hl : L.length ≤ 1000000) (hnd : (L.map Tm.key).Nodup) : Calls Try.prog 35 #[.pointer (some ⟨r, 0, none⟩)] w fun e W => FiA L e ∧ Below w.heap.size w W := by
  obtain ⟨v, h⟩ := h
  obtain ⟨a, c, rfl⟩ := h.form
  have HH := hide h
  have c2 := hide (fun X (hX : Below w.heap.size w X) => (h.kp (N := fun _ => False) (Kp.of_below hX) (fun _ e => e.elim)).c2)
  clear h
  obtain ⟨n, hn⟩ : ∃ n, L.length = n := ⟨_, rfl⟩
  have Hn := hide hn
  rw [hn] at c2 hl
  have Hnd := hide hnd
  clear hn hnd
  go_enter Try.func35, Try.ntmps35
  go_wp2
  go_loopw [3, 4] (fun u z wr => ∃ i : Nat, i ≤ n ∧ z = .int .i64 (i : Nat) ∧ Hid (FiI L i u ∧ Below w.heap.size w wr)) (fun _ z _ => n - (RowKit.intOf z).toNat)
  case atStart => exact ⟨0, Nat.zero_le _, rfl, hide ⟨.inl ⟨rfl, rfl⟩, Below.refl _ _⟩⟩
  case round =>
    obtain ⟨i, hi, rfl, HI⟩ := hrel
    have cc := unhide c2 wr (unhide HI).2
    have h' := (unhide HH).kp (N := fun _ => False) (Kp.of_below (unhide HI).2) (fun _ e => e.elim)
    by_cases hlt : i < n
    · have hlt' : (i : Int) < (n : Int) := by omega
      have hiL : i < L.length := by rw [unhide Hn]; exact hlt
      obtain ⟨x, hx⟩ : ∃ x, L[i]? = some x := ⟨_, List.getElem?_eq_getElem hiL⟩
      obtain ⟨_, g, rfl, _, _, k0, _, k2⟩ := h'.at hx
      have Hx := hide hx
      clear hx
      rcases (unhide HI).1 with ⟨rfl, rfl⟩ | ⟨k, y, hy, rfl, hki, hall⟩
      · clear h' k0 k2
        go_wp2
        go_quiet (fail)
        go_wp2
        go_roundw
        case rel =>
          refine ⟨1, by omega, by go_num, hide ⟨.inr ⟨0, x, unhide Hx, rfl, by omega, fun j hj y hy => ?_⟩, bdrew (unhide HI).2 _⟩⟩
          obtain rfl : j = 0 := by omega
          rw [unhide Hx] at hy
          cases hy
          exact ltT_irr _
        case measure => show n - ((0 : Nat) + 1 : Int).toNat < n - ((0 : Nat) : Int).toNat; omega
      · obtain ⟨_, g', eg, _, _, l0, _, l2⟩ := h'.at hy
        simp at eg
        subst eg
        have hkn : (k : Int) < (n : Int) := by omega
        have hk0 : decide ((k : Int) < 0) = false := by rw [decide_eq_false_iff_not]; omega
        have Hy := hide (And.intro hy (And.intro hki hall))
        clear h' hy hki hall
        by_cases q1 : x.due < y.due
        · have HR : Hid (ltT x y = true) := by
            unfold Hid
            rw [ltT_iff]
            omega
          have p1 : decide (x.due < y.due) = true := decide_eq_true q1
          clear q1
          go_wp2
          go_quiet (fail)
          go_wp2
          go_roundw
          case rel =>
            obtain ⟨hy, hki, hall⟩ := unhide Hy
            have hx := unhide Hx
            refine ⟨i + 1, by omega, by go_num, hide ⟨.inr ⟨i, x, hx, rfl, by omega, fun j hj z hz => ?_⟩, bdrew (unhide HI).2 _⟩⟩
            by_cases e : j = i
            · subst e
              rw [hx] at hz
              cases hz
              exact ltT_irr _
            · exact ltT_tr (ltT_asy (unhide HR)) (hall j (by omega) z hz)
          case measure => show n - ((i : Int) + 1).toNat < n - ((i : Nat) : Int).toNat; omega
        · by_cases q2 : x.due = y.due
          · by_cases q3 : x.key < y.key
            · have HR : Hid (ltT x y = true) := by
                unfold Hid
                rw [ltT_iff]
                omega
              have p1 : decide (x.due < y.due) = false := decide_eq_false q1
              have p2 : (x.due == y.due) = true := by simpa using q2
              have p3 : decide (x.key < y.key) = true := decide_eq_true q3
              clear q1 q2 q3
              go_wp2
              go_quiet (fail)
              go_wp2
              go_roundw
              case rel =>
                obtain ⟨hy, hki, hall⟩ := unhide Hy
                have hx := unhide Hx
                refine ⟨i + 1, by omega, by go_num, hide ⟨.inr ⟨i, x, hx, rfl, by omega, fun j hj z hz => ?_⟩, bdrew (unhide HI).2 _⟩⟩
                by_cases e : j = i
                · subst e
                  rw [hx] at hz
                  cases hz
                  exact ltT_irr _
                · exact ltT_tr (ltT_asy (unhide HR)) (hall j (by omega) z hz)
              case measure => show n - ((i : Int) + 1).toNat < n - ((i : Nat) : Int).toNat; omega
            · have HR : Hid (ltT x y = false) := by
                unfold Hid
                rw [ltT_no]
                omega
              have p1 : decide (x.due < y.due) = false := decide_eq_false q1
              have p2 : (x.due == y.due) = true := by simpa using q2
              have p3 : decide (x.key < y.key) = false := decide_eq_false q3
              clear q1 q2 q3
              go_wp2
              go_quiet (fail)
              go_wp2
              go_roundw
              case rel =>
                obtain ⟨hy, hki, hall⟩ := unhide Hy
                have hx := unhide Hx
                refine ⟨i + 1, by omega, by go_num, hide ⟨.inr ⟨k, y, hy, rfl, by omega, fun j hj z hz => ?_⟩, bdrew (unhide HI).2 _⟩⟩
                by_cases e : j = i
                · subst e
                  rw [hx] at hz
                  cases hz
                  exact unhide HR
                · exact hall j (by omega) z hz
              case measure => show n - ((i : Int) + 1).toNat < n - ((i : Nat) : Int).toNat; omega
          · have HR : Hid (ltT x y = false) := by
              unfold Hid
              rw [ltT_no]
              omega
            have p1 : decide (x.due < y.due) = false := decide_eq_false q1
            have p2 : (x.due == y.due) = false := by simpa using q2
            clear q1 q2
            go_wp2
            go_quiet (fail)
            go_wp2
            go_roundw
            case rel =>
              obtain ⟨hy, hki, hall⟩ := unhide Hy
              have hx := unhide Hx
              refine ⟨i + 1, by omega, by go_num, hide ⟨.inr ⟨k, y, hy, rfl, by omega, fun j hj z hz => ?_⟩, bdrew (unhide HI).2 _⟩⟩
              by_cases e : j = i
              · subst e
                rw [hx] at hz
                cases hz
                exact unhide HR
              · exact hall j (by omega) z hz
            case measure => show n - ((i : Int) + 1).toNat < n - ((i : Nat) : Int).toNat; omega
    · have hlt' : ¬ (i : Int) < (n : Int) := by omega
      clear h'
      go_wp2
      go_ret
      obtain rfl : i = n := by omega
      refine ⟨?_, (unhide HI).2⟩
      rcases (unhide HI).1 with ⟨rfl, rfl⟩ | ⟨k, y, hy, rfl, hki, hall⟩
      · exact .inl ⟨List.eq_nil_of_length_eq_zero (unhide Hn), rfl⟩
      · refine .inr ⟨k, y, hy, minL_is (unhide Hnd) (List.mem_of_getElem? hy) (fun z hz => ?_), rfl⟩
        obtain ⟨j, hj, ez⟩ := List.getElem_of_mem hz
        exact hall j (by have := unhide Hn; omega) z (by rw [List.getElem?_eq_getElem hj, ez])

set_option maxRecDepth 100000 in
set_option maxHeartbeats 2000000 in
theorem rNext_in (h : RL P w r ls ms L) (hl : L.length ≤ 1000000) (hnd : (L.map Tm.key).Nodup) : Calls Try.prog 23 #[.pointer (some ⟨r, 0, none⟩)] w fun e W => e = .returned (nxtA L) ∧ Below w.heap.size w W := by
  have HT := hide (first_in h hl hnd)
  obtain ⟨v, h⟩ := h
  obtain ⟨a, c, rfl⟩ := h.form
  have HH := hide h
  clear h hnd
  obtain ⟨G, hG⟩ : ∃ G, nxtA L = G := ⟨_, rfl⟩
  rw [hG]
  have HG := hide hG
  clear hG
  go_enter Try.func23, Try.ntmps23
  go_wp2_with fail
  refine (unhide HT).mono ?_
  rintro e W1 ⟨he, hb⟩
  clear HT
  rcases he with ⟨he, rfl⟩ | ⟨i, x, hi, hx, rfl⟩
  · replace he := hide he
    replace hb := hide hb
    go_wp2
    refine bodyPost_ret (results_tmp3 rfl _ _ _) rfl ?_
    refine ⟨?_, unhide hb⟩
    rw [← unhide HG]
    unfold nxtA
    rw [unhide he]
    rfl
  · have hil := (List.getElem?_eq_some_iff.1 hi).1
    have h' := (unhide HH).kp (N := fun _ => False) (Kp.of_below hb) (fun _ e => e.elim)
    have c2 := h'.c2
    obtain ⟨_, g, rfl, _, _, k0, k1, k2⟩ := h'.at hi
    have hlt' : (i : Int) < (L.length : Int) := by omega
    have hi0 : ¬ (i : Int) < 0 := by omega
    have Hx := hide hx
    replace hb := hide hb
    clear hi hx hil h'
    generalize L.length = n at *
    go_wp2
    go_quiet (fail)
    go_wp2
    refine bodyPost_ret (results_tmp3 rfl _ _ _) rfl ?_
    refine ⟨?_, bdrew (unhide hb) _⟩
    rw [← unhide HG]
    unfold nxtA
    rw [unhide Hx]
    rfl
/-- what New answers -/
def RNewA (P : Nat → Prop) (w : World) (ls ms : Int) (e : Ending) (W : World) : Prop := Below w.heap.size w W ∧ ((newB ls ms = true ∧ e = .returned (.tuple #[.pointer (some ⟨w.heap.size, 0, none⟩), .int .i64 0]) ∧ RL P W w.heap.size ls ms []) ∨ (newB ls ms = false ∧ e = .returned (.tuple #[.pointer none, .int .i64 1])))
set_option maxRecDepth 100000 in
set_option maxHeartbeats 4000000 in
theorem rNew_in (ls ms : Int) (w : World) : Calls Try.prog 10 #[.int .i64 ls, .int .i64 ms] w (RNewA (fun i => w.heap.size ≤ i) w ls ms) := by
  by_cases h1 : 1 ≤ ls
  · by_cases h2 : ls ≤ ms
    · by_cases h3 : ms ≤ 4096
      · have h1' : ¬ ls < 1 := by omega
        have h2' : ¬ ms < ls := by omega
        have h3' : ¬ 4096 < ms := by omega
        have hB : newB ls ms = true := by unfold newB; simp [h1, h2, h3]
        have HB := hide hB
        clear h1 h2 h3 hB
        go_enter Try.func10, Try.ntmps10
        go_wp2
        refine bodyPost_ret (results_tmp2 rfl _ _ _) rfl ?_
        exact ⟨ballc (Below.refl _ _) _, .inl ⟨unhide HB, rfl, .slice none 0 0, ⟨Bx.new _ _ _, World.ownsRow_nil _ _ _ _, Nat.le_refl _, fun k hk => (by cases hk)⟩⟩⟩
      · have h1' : ¬ ls < 1 := by omega
        have h2' : ¬ ms < ls := by omega
        have h3' : 4096 < ms := by omega
        have hB : newB ls ms = false := by unfold newB; simp [h1, h2, h3]
        have HB := hide hB
        clear h1 h2 h3 hB
        go_enter Try.func10, Try.ntmps10
        go_wp2
        refine bodyPost_ret (results_tmp2 rfl _ _ _) rfl ?_
        exact ⟨Below.refl _ _, .inr ⟨unhide HB, rfl⟩⟩
    · have h1' : ¬ ls < 1 := by omega
      have h2' : ms < ls := by omega
      have hB : newB ls ms = false := by unfold newB; simp [h1, h2]
      have HB := hide hB
      clear h1 h2 hB
      go_enter Try.func10, Try.ntmps10
      go_wp2
      refine bodyPost_ret (results_tmp2 rfl _ _ _) rfl ?_
      exact ⟨Below.refl _ _, .inr ⟨unhide HB, rfl⟩⟩
  · have h1' : ls < 1 := by omega
    have hB : newB ls ms = false := by unfold newB; simp [h1]
    have HB := hide hB
    clear h1 hB
    go_enter Try.func10, Try.ntmps10
    go_wp2
    refine bodyPost_ret (results_tmp2 rfl _ _ _) rfl ?_
    exact ⟨Below.refl _ _, .inr ⟨unhide HB, rfl⟩⟩

end Go.Proofs.Ytknomhgglmgciaa
