/-
  A Peer, its step and the flight that was told ahead: for PeerWindow; among.
-/
import Derived.Test.YtiekholaheddhaaZPK
import Derived.Test.YtiekholaheddhaaZPS
set_option linter.unusedSimpArgs false
set_option linter.unusedVariables false
namespace Go.Proofs.Ytiekholaheddhaa
open Go.RowKit Go.Lib

theorem RN.heap {W W' : World} {v : Value} {l : List Int} (h : RN W v l) (hh : W.heap = W'.heap) : RN W' v l := by
  rcases h with h | ⟨b, off, cap, e, hn, hl, hc⟩
  · exact .inl h
  · refine .inr ⟨b, off, cap, e, hn, by rw [← hh]; exact hl, fun j x hx => ?_⟩
    rw [← hc j x hx]
    unfold World.cell?
    rw [hh]
set_option maxRecDepth 100000 in
set_option maxHeartbeats 2000000 in
theorem among_in (v : Value) (l : List Int) (n : Int) (w : World) (h : RN w v l) (hl : l.length ≤ 1000000) : Calls Try.prog 20 #[v, .int .i64 n] w fun e W => e = .returned (.bool (decide (n ∈ l))) ∧ W = w := by
  obtain ⟨a, c, rfl⟩ := h.form
  obtain ⟨D, hD⟩ : ∃ D, decide (n ∈ l) = D := ⟨_, rfl⟩
  rw [hD]
  replace hD := hide hD
  obtain ⟨m, hm⟩ : ∃ m, l.length = m := ⟨_, rfl⟩
  have HM := hide hm
  have HH := hide h
  rw [hm] at hl ⊢
  clear hm h
  go_enter Try.func20, Try.ntmps20
  go_wp2
  go_loopw [5] (fun iv wr => ∃ i : Nat, i ≤ m ∧ iv = .int .i64 (i : Nat) ∧ Hid (∀ j y, j < i → l[j]? = some y → y ≠ n) ∧ w = wr) (fun iv _ => m - (RowKit.intOf iv).toNat)
  case atStart => exact ⟨0, Nat.zero_le _, rfl, hide (fun j y hj => absurd hj (by omega)), rfl⟩
  case round =>
    obtain ⟨i, hi, rfl, HI, rfl⟩ := hrel
    by_cases hlt : i < m
    · have hlt' : (i : Int) < (m : Int) := by omega
      obtain ⟨x, hx⟩ : ∃ x, l[i]? = some x := ⟨_, List.getElem?_eq_getElem (by have := unhide HM; omega)⟩
      have hr := unhide HH
      rw [show (Value.slice a l.length c) = .slice a m c by rw [unhide HM]] at hr
      obtain ⟨g0, off, rfl, hg, hc⟩ := RN.at hr hx
      have Hx := hide hx
      clear hx hr
      by_cases he : x = n
      · have he' : (x == n) = true := by simpa using he
        have Hf := hide (show D = true by rw [← unhide hD]; exact decide_eq_true (by rw [← he]; exact List.mem_of_getElem? (unhide Hx)))
        clear he
        go_wp2
        go_ret
        exact ⟨by rw [unhide Hf]; rfl, rfl⟩
      · have he' : (x == n) = false := by simpa using he
        have He := hide he
        clear he
        go_wp2
        go_roundw
        case rel =>
          refine ⟨i + 1, by omega, by go_num, hide (fun j y hj hy => ?_), by first | trivial | rfl⟩
          by_cases ej : j = i
          · subst ej
            rw [unhide Hx] at hy
            cases hy
            exact unhide He
          · exact unhide HI j y (by omega) hy
        case measure => show m - ((i : Int) + 1).toNat < m - ((i : Nat) : Int).toNat; omega
    · have hlt' : ¬ (i : Int) < (m : Int) := by omega
      have Hf := hide (show D = false by
        rw [← unhide hD]
        refine decide_eq_false (fun e => ?_)
        obtain ⟨j, hj, ej⟩ := List.getElem_of_mem e
        exact unhide HI j _ (by have := unhide HM; omega) (List.getElem?_eq_getElem hj) ej)
      go_wp2
      go_ret
      exact ⟨by rw [unhide Hf]; rfl, rfl⟩

theorem KP.flgN {w W : World} {b : Nat} {s : St} (h : KP w W b s) {n : Nat} (hn : s.fl.length = n) : Calls Try.prog 16 #[.pointer (some ⟨b, 0, none⟩)] W fun e W' => ∃ a c, e = .returned (.slice a n c) ∧ OwN W' W.heap.size (.slice a n c) s.fl ∧ Below W.heap.size W W' := by
  subst hn
  exact h.flg
/-- a Peer in new memory, a step's box and a row of numbers of one's own beside it -/
structure WK (w : World) (bx : Nat) (x : Stp) (wa : Value) (was : List Int) (b : Nat) (s : St) (X : World) : Prop where
  pl : ∃ P, PL P X 39 b s ∧ ∀ i, P i → w.heap.size ≤ i ∧ i < X.heap.size ∧ i ≠ bx ∧ wa.ownBlock ≠ some i
  bel : Below w.heap.size w X
  bx : Bx X bx 31 (stC x)
  row : OwN X w.heap.size wa was
variable {w W V X X' : World} {bx b : Nat} {x : Stp} {wa : Value} {was : List Int} {s : St}
theorem WK.kp (h : WK w bx x wa was b s X) : KP w X b s := by
  obtain ⟨P, h1, h2⟩ := h.pl
  exact ⟨P, h1, fun i hi => ⟨(h2 i hi).1, (h2 i hi).2.1⟩, h.bel⟩
theorem WK.below (h : WK w bx x wa was b s X) (hb : Below X.heap.size X X') : WK w bx x wa was b s X' := by
  obtain ⟨P, h1, h2⟩ := h.pl
  have hz := hb.size
  exact ⟨⟨P, h1.below hb, fun i hi => ⟨(h2 i hi).1, by have := (h2 i hi).2.1; omega, (h2 i hi).2.2⟩⟩, bnext h.bel hb, h.bx.below hb, own_below h.row hb⟩
theorem WK.call (h : WK w bx x wa was b s X) {F : FuncId} {args : Array Value} {s2 : St} {v : Value} (hc : ∀ P1, PL P1 X 39 b s → Calls Try.prog F args X (CP P1 X 39 b s2 v)) :
    Calls Try.prog F args X fun e X' => e = .returned v ∧ WK w bx x wa was b s2 X' := by
  obtain ⟨P, h1, h2⟩ := h.pl
  refine (hc P h1).mono ?_
  rintro e X' ⟨rfl, ha, k⟩
  have hz := h.bel.size
  have hbx := h.bx.lt
  refine ⟨rfl, ⟨_, ha.lt, fun i hi => ?_⟩, k.below h.bel (fun i hi => (h2 i hi).1), h.bx.kp k (fun e => (h2 _ e).2.2.1 rfl), owns_kp h.row k (fun i hi e => (h2 i e).2.2.2 hi)⟩
  rcases hi.1 with e | e
  · exact ⟨(h2 i e).1, hi.2, (h2 i e).2.2⟩
  · exact ⟨by omega, hi.2, by omega, fun q => by have := (World.ownsRow.lt h.row i q).2; omega⟩
theorem WK.snd (h : WK w bx x wa was b s X) (k : Int) : Calls Try.prog 14 #[.pointer (some ⟨b, 0, none⟩), .int .i64 k] X fun e X' => e = .returned (.tuple #[.int .i64 (sndN s k), .int .i64 (sndC s k)]) ∧ WK w bx x wa was b (sndS s k) X' := h.call (fun P1 h1 => Send_in h1 k)
theorem WK.hrd (h : WK w bx x wa was b s X) (n g c : Int) : Calls Try.prog 15 #[.pointer (some ⟨b, 0, none⟩), .int .i64 n, .int .i64 g, .int .i64 c] X fun e X' => e = .returned (.bool (hrdB s g)) ∧ WK w bx x wa was b (hrdS s n g c) X' := h.call (fun P1 h1 => Heard_in h1 n g c)
theorem WK.clr (h : WK w bx x wa was b s X) : Calls Try.prog 13 #[.pointer (some ⟨b, 0, none⟩)] X fun e X' => e = .returned (.tuple #[]) ∧ WK w bx x wa was b (clrS s) X' := h.call (fun P1 h1 => Clear_in h1)
/-- Flight, beside the row -/
theorem WK.flg (h : WK w bx x wa was b s X) : Calls Try.prog 16 #[.pointer (some ⟨b, 0, none⟩)] X fun e X' => ∃ a c, e = .returned (.slice a s.fl.length c) ∧ OwN X' X.heap.size (.slice a s.fl.length c) s.fl ∧ Below X.heap.size X X' ∧ WK w bx x wa was b s X' := by
  refine h.kp.flg.mono ?_
  rintro e X' ⟨a, c, rfl, ho, hb⟩
  exact ⟨a, c, rfl, ho, hb, h.below hb⟩
theorem WK.crd (h : WK w bx x wa was b s X) : Calls Try.prog 18 #[.pointer (some ⟨b, 0, none⟩)] X fun e X' => e = .returned (.int .i64 s.cr) ∧ X = X' := h.kp.crd
theorem WK.y (h : WK w bx x wa was b s X) : X.cell? ⟨bx, 0, none⟩ = some (.int .i64 x.kind) ∧ X.cell? ⟨bx, 1, none⟩ = some (.int .i64 x.num) ∧ X.cell? ⟨bx, 2, none⟩ = some (.int .i64 x.got) ∧ X.cell? ⟨bx, 3, none⟩ = some (.int .i64 x.crd) := ⟨h.bx.cell 0 _ rfl, h.bx.cell 1 _ rfl, h.bx.cell 2 _ rfl, h.bx.cell 3 _ rfl⟩
/-- Flight, the row of which goes round -/
theorem WK.flg2 (h : WK w bx x wa was b s X) : Calls Try.prog 16 #[.pointer (some ⟨b, 0, none⟩)] X fun e X' => ∃ a c, e = .returned (.slice a s.fl.length c) ∧ WK w bx x (.slice a s.fl.length c) s.fl b s X' ∧ OwN X' w.heap.size wa was := by
  refine h.kp.flg.mono ?_
  rintro e X' ⟨a, c, rfl, ho, hb⟩
  obtain ⟨P, h1, h2⟩ := h.pl
  have z1 := h.bel.size
  have z2 := hb.size
  refine ⟨a, c, rfl, ⟨⟨P, h1.below hb, fun i hi => ⟨(h2 i hi).1, by have := (h2 i hi).2.1; omega, (h2 i hi).2.2.1, fun e => ?_⟩⟩, bnext h.bel hb, h.bx.below hb, owns_wk ho (by omega)⟩, own_below h.row hb⟩
  have := (World.ownsRow.lt ho i e).1
  have := (h2 i hi).2.1
  omega
/-- the first Flight of a round -/
theorem WK.make (h : KP w W b s) (hV : Below W.heap.size W V) (hB : Bx V W.heap.size 31 (stC x)) : Calls Try.prog 16 #[.pointer (some ⟨b, 0, none⟩)] V fun e X => ∃ a c, e = .returned (.slice a s.fl.length c) ∧ WK w W.heap.size x (.slice a s.fl.length c) s.fl b s X := by
  refine (h.below hV).flg.mono ?_
  rintro e X ⟨a, c, rfl, ho, hb⟩
  obtain ⟨P, h1, h2, h3⟩ := h
  have z1 := h3.size
  have z2 := hV.size
  have z3 := hb.size
  refine ⟨a, c, rfl, ⟨P, (h1.below hV).below hb, fun i hi => ⟨(h2 i hi).1, by have := (h2 i hi).2; omega, by have := (h2 i hi).2; omega, fun e => ?_⟩⟩, bnext (bnext h3 hV) hb, hB.below hb, owns_wk ho (by omega)⟩
  have := (World.ownsRow.lt ho i e).1
  have := (h2 i hi).2
  omega

/-- what PeerWindow asks of a Send that gives something -/
theorem sndN_val {s : St} {k : Int} (hk : ¬ k < 1) (hw : s.wd ≠ 0) : sndN s k = numS s ∧ sndC s k = cntS s k := by
  have hno := offB_no (s := s) hk hw
  unfold sndN sndC
  rw [hno]
  exact ⟨rfl, rfl⟩
theorem snd_cnt {s : St} {k : Int} (hg : Gd s) (hk : ¬ k < 1) (hw : s.wd ≠ 0) (hp : 1 ≤ s.ps) : ¬ sndC s k < 1 ∧ ¬ k < sndC s k ∧ ¬ s.ps < sndC s k ∧ ¬ max s.cr 1 < sndC s k ∧ (sndC s k < s.ps → sndC s k < k → sndC s k = max s.cr 1) := by
  rw [(sndN_val hk hw).2]
  unfold cntS
  omega
/-- the window is full -/
theorem snd_full {s : St} {k : Int} (hg : Gd s) (hk : ¬ k < 1) (hw : s.wd ≠ 0) (hf : (s.fl.length : Int) = s.wd) : sndN s k ∈ s.fl ∧ s.fl[0]? = some (sndN s k) ∧ sndS s k = s ∧ max s.la (sndN s k) = s.la := by
  have h0 := hg.w0
  rw [(sndN_val hk hw).1]
  unfold numS
  rw [if_pos hf]
  have e : sndS s k = s := by unfold sndS; rw [if_pos (.inr hf)]
  cases hx : s.fl with
  | nil => rw [hx] at hf; simp at hf; omega
  | cons y r =>
    have := hg.le y (by rw [hx]; simp)
    exact ⟨by simp, rfl, e, by show max s.la y = s.la; omega⟩
/-- it is not full -/
theorem snd_new {s : St} {k : Int} (hg : Gd s) (hk : ¬ k < 1) (hw : s.wd ≠ 0) (hf : (s.fl.length : Int) ≠ s.wd) (hm : s.la < 2147483647) : sndN s k = s.la + 1 ∧ sndN s k ∉ s.fl ∧ sndN s k ∈ (sndS s k).fl ∧ max s.la (sndN s k) = (sndS s k).la ∧ (sndS s k).la = s.la + 1 := by
  have hno := offB_no (s := s) hk hw
  have e1 : sndS s k = givS s := by unfold sndS; rw [if_neg (by rw [hno]; simp [hf])]
  have e2 : nxtS s = s.la + 1 := by unfold nxtS; omega
  have e3 : sndN s k = s.la + 1 := by rw [(sndN_val hk hw).1]; unfold numS; rw [if_neg hf, e2]
  have hlt : s.fl.getLastD 0 < nxtS s := by
    rw [e2]
    by_cases h0 : s.fl = []
    · rw [h0]; have := hg.l0; show (0 : Int) < s.la + 1; omega
    · have := (hg.le _ (last_mem h0)).2; omega
  have e4 : (givS s).fl = s.fl ++ [s.la + 1] := by show (if s.fl.getLastD 0 < nxtS s then s.fl ++ [nxtS s] else s.fl) = _; rw [if_pos hlt, e2]
  refine ⟨e3, fun e => ?_, ?_, ?_, ?_⟩
  · have := (hg.le _ e).2; omega
  · rw [e1, e4, e3]; simp
  · rw [e1, e3]; show max s.la (s.la + 1) = nxtS s; omega
  · rw [e1]; show nxtS s = s.la + 1; exact e2
theorem snd_wd (s : St) (k : Int) : (sndS s k).wd = s.wd ∧ (sndS s k).ps = s.ps := by
  unfold sndS
  split <;> exact ⟨rfl, rfl⟩
theorem snd_off {s : St} {k : Int} (hk : k < 1) : sndN s k = 0 ∧ sndC s k = 0 ∧ sndS s k = s := by
  have hno := offB_k (s := s) hk
  unfold sndN sndC sndS
  exact ⟨by rw [if_pos hno], by rw [if_pos hno], by rw [if_pos (.inl hno)]⟩
theorem lft_lft (l : List Int) (g : Int) : lft (lft l g) g = lft l g := by
  unfold lft
  rw [List.filter_filter]
  congr 1
  funext y
  simp
theorem hrd_hrd {s : St} (hg : Gd s) (n g c : Int) : hrdS (hrdS s n g c) n g c = hrdS s n g c ∧ hrdB (hrdS s n g c) g = false := by
  have e1 : gotS (hrdS s n g c) n = gotS s n := by
    unfold gotS hrdS
    simp only
    unfold gotS
    split <;> omega
  refine ⟨?_, ?_⟩
  · unfold hrdS
    simp only [lft_lft]
    congr 1
  · unfold hrdB
    show decide ((lft (lft s.fl g) g).length < (lft s.fl g).length) = false
    rw [lft_lft]
    simp
theorem lft_has {l : List Int} {g y : Int} {k : Nat} (h : l[k]? = some y) : decide (y ∈ lft l g) = decide (g < y) := by
  by_cases hg : g < y
  · rw [decide_eq_true hg, decide_eq_true (lft_mem.2 ⟨List.mem_of_getElem? h, hg⟩)]
  · rw [decide_eq_false hg, decide_eq_false (fun e => hg (lft_mem.1 e).2)]

end Go.Proofs.Ytiekholaheddhaa
