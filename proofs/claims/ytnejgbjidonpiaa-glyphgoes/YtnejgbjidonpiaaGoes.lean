/-
  The law's goes: an iterator over a text's pieces goes through just these, up to where it is told to stop.
-/
import Derived.Test.YtnejgbjidonpiaaClo
import Derived.Test.YtnejgbjidonpiaaRefUse
import Derived.RangeFuncBox
set_option linter.unusedSimpArgs false
set_option linter.unusedVariables false
namespace Go.Proofs.Ytnejgbjidonpiaa
open Go.RowKit Go.Lib Go.Shelf

/-- the boxes of goes, while it goes on -/
def JG (L : List Nat) (a : Option Addr) (cap : Nat) (stop : Int) (B : Nat) (w0 : World) (pre : List Nat) (W : World) : Prop :=
  (Boxed W B 36 (.slice a L.length cap) ∧ Boxed W (B + 1) 3 (.int .i64 stop) ∧ Boxed W (B + 2) 3 (.int .i64 (pre.length : Nat)) ∧ Boxed W (B + 3) 4 (.bool true) ∧ Boxed W (B + 4) 4 (.bool false)) ∧ Below B w0 W
def JX (L : List Nat) (a : Option Addr) (cap : Nat) (stop : Int) (B : Nat) (w0 : World) (pre : List Nat) (W : World) : Prop :=
  (Boxed W B 36 (.slice a L.length cap) ∧ Boxed W (B + 1) 3 (.int .i64 stop) ∧ Boxed W (B + 2) 3 (.int .i64 (pre.length : Nat)) ∧ Boxed W (B + 3) 4 (.bool true)) ∧ Below B w0 W ∧ (pre.length : Int) = stop ∧ 1 ≤ pre.length

theorem boxed_walk {W W' : World} {B : Nat} {t : TypeId} {v : Value} {row : Option Nat} (h : Boxed W B t v) (hg : W.grownBy W' row) (hr : ∀ r, row = some r → ∃ o : Obj, W.heap[r]? = some o ∧ o.isWalk = true) : Boxed W' B t v :=
  h.kept hg (fun e => by
    obtain ⟨o, ho, hw⟩ := hr B e.symm
    rw [show W.heap[B]? = _ from h] at ho
    cases ho
    cases hw)

theorem JG_abides (L : List Nat) (a : Option Addr) (cap : Nat) (stop : Int) (B B' : Nat) (w0 : World) (hw0 : w0.heap.size = B) (hB' : B ≤ B') : AbidesFrom B' (JG L a cap stop B w0) := by
  rintro pre W W' row ⟨⟨h0, h1, h2, h3, h4⟩, hB⟩ hg hr
  have hr' : ∀ r, row = some r → ∃ o : Obj, W.heap[r]? = some o ∧ o.isWalk = true := fun r e => (hr r e).2
  exact ⟨⟨boxed_walk h0 hg hr', boxed_walk h1 hg hr', boxed_walk h2 hg hr', boxed_walk h3 hg hr', boxed_walk h4 hg hr'⟩, hB.grown hg (by rw [← hw0]; exact hB.size) (fun k e => Nat.le_trans hB' (hr k e).1)⟩

theorem owns4_addr {W : World} {n cap : Nat} {a : Option Addr} {xs : List Value} (h : W.ownsRow 0 44 4 (.slice a n cap) n xs) (hn : 0 < n) : ∃ g, a = some ⟨g, 0, none⟩ := by
  rcases h.2 with ⟨e1, e2⟩ | ⟨g, c, cur, e1, _⟩
  · omega
  · exact ⟨g, by simpa using (congrArg (fun v => match v with | Value.slice a _ _ => a | _ => none) e1)⟩

set_option maxRecDepth 100000 in
set_option maxHeartbeats 2000000 in
theorem goes1_in (s : ByteArray) (L : List Nat) (a : Option Addr) (cap : Nat) (stop : Int) (B : Nat) (w0 : World) (hw0 : w0.heap.size = B) (hL : L.length ≤ 1000000)
    (hown : w0.ownsRow 0 44 4 (.slice a L.length cap) L.length (pcsC s L)) :
    GoesOn 43 #[.pointer (some ⟨B + 3, 0, none⟩), .pointer (some ⟨B + 4, 0, none⟩), .pointer (some ⟨B + 2, 0, none⟩), .pointer (some ⟨B, 0, none⟩), .pointer (some ⟨B + 1, 0, none⟩)] s L (JG L a cap stop B w0) (JX L a cap stop B w0) := by
  rintro pre i rest W hpre hi ⟨⟨hp, hst, hn, hok, hov⟩, hB⟩
  have hx : L[pre.length]? = some i := by rw [← hpre]; simp
  have hlt : pre.length < L.length := (List.getElem?_eq_some_iff.1 hx).1
  obtain ⟨g, rfl⟩ := owns4_addr hown (by omega)
  have how : W.ownsRow 0 44 4 (.slice (some ⟨g, 0, none⟩) L.length cap) L.length (pcsC s L) := owns4_below hown (by rw [hw0]; exact hB)
  have c0 := pcs_cell how hx 0 (by omega)
  have c1 := pcs_cell how hx 1 (by omega)
  simp only [pcC, List.getElem?_cons_zero, List.getElem?_cons_succ, Nat.add_zero] at c0 c1
  clear how hown hx hpre
  have p0 := hp.cell
  have p1 := hst.cell
  have p2 := hn.cell
  have p3 := hok.cell
  have p4 := hov.cell
  have f2 := hn.frozen
  have f3 := hok.frozen
  have f4 := hov.frozen
  have i1 : (pre.length : Int) < (L.length : Int) := by omega
  have q1 : decide ((pre.length : Int) < (L.length : Int)) = true := by simp; omega
  have q2 : ((i : Int) == (i : Int)) = true := by simp
  have q3 : ((rn s i : Int) == (rn s i : Int)) = true := by simp
  have e1 : Value.int .i64 ((pre ++ [i]).length : Nat) = .int .i64 ((pre.length : Int) + 1) := by simp
  have E1 := hide e1
  clear e1
  show Calls Try.prog 43 #[.int .i64 (i : Nat), .int .i32 (rn s i : Nat), .pointer (some ⟨B + 3, 0, none⟩), .pointer (some ⟨B + 4, 0, none⟩), .pointer (some ⟨B + 2, 0, none⟩), .pointer (some ⟨B, 0, none⟩), .pointer (some ⟨B + 1, 0, none⟩)] W _
  by_cases hs : (pre.length : Int) + 1 = stop
  · have q4 : (((pre.length : Int) + 1) == stop) = true := by simp [hs]
    have Hs := hide hs
    clear hs
    go_enter Try.func43, Try.ntmps43
    go_wp2
    go_ret
    refine .inr ⟨rfl, ⟨((hp.other (by omega) _).other (by omega) _).other (by omega) _, ((hst.other (by omega) _).other (by omega) _).other (by omega) _, ?_, ((hok.set _).other (by omega) _).other (by omega) _⟩, ((hB.setCell (p := ⟨B + 3, 0, none⟩) (by simp) _).setCell (p := ⟨B + 2, 0, none⟩) (by simp) _).setCell (p := ⟨B + 4, 0, none⟩) (by simp) _, by rw [← unhide Hs]; simp, by simp⟩
    rw [unhide E1]
    exact ((hn.other (by omega) _).set _).other (by omega) _
  · have q4 : (((pre.length : Int) + 1) == stop) = false := by simp [hs]
    have Hs := hide hs
    clear hs
    go_enter Try.func43, Try.ntmps43
    go_wp2
    go_ret
    refine .inl ⟨rfl, ⟨⟨((hp.other (by omega) _).other (by omega) _).other (by omega) _, ((hst.other (by omega) _).other (by omega) _).other (by omega) _, ?_, ((hok.set _).other (by omega) _).other (by omega) _, ((hov.other (by omega) _).other (by omega) _).set _⟩, ((hB.setCell (p := ⟨B + 3, 0, none⟩) (by simp) _).setCell (p := ⟨B + 2, 0, none⟩) (by simp) _).setCell (p := ⟨B + 4, 0, none⟩) (by simp) _⟩, ((KeepsWalks.setCell _ _ _).trans (KeepsWalks.setCell _ _ _)).trans (KeepsWalks.setCell _ _ _)⟩
    rw [unhide E1]
    exact ((hn.other (by omega) _).set _).other (by omega) _

/-- an iterator's function over a text's box goes through the pieces at L -/
def IterOK (fi Bs : Nat) (s : ByteArray) (L : List Nat) : Prop :=
  ∀ (fc : Nat) (caps : Array Value) (J Jx : List Nat → World → Prop) (W : World), (∀ args w, (callFunc fc args).run Try.prog w = .ok (.enter fc args) w) → W.cell? ⟨Bs, 0, none⟩ = some (.string s) → AbidesFrom W.heap.size J →
    (∀ pre W1, J pre W1 → W1.cell? ⟨Bs, 0, none⟩ = some (.string s)) → GoesOn fc caps s L J Jx → J [] W →
    Calls Try.prog fi #[.func (.func fc) #[] caps, .pointer (some ⟨Bs, 0, none⟩)] W fun e W' => e = .returned (.tuple #[]) ∧ (J L W' ∨ ∃ pre, (∃ rest, pre ++ rest = L) ∧ Jx pre W')

theorem iterOK_all (Bs : Nat) (s : ByteArray) : IterOK 41 Bs s (allL s) := fun fc caps J Jx W he hc hJ _ hY h0 => all1_clo fc caps Bs s J Jx W hJ he hY hc h0
theorem iterOK_back (Bs : Nat) (s : ByteArray) (hs : s.size ≤ maxLen) : IterOK 42 Bs s (allL s).reverse := fun fc caps J Jx W he _ _ hK hY h0 => back1_clo fc caps Bs s hs J Jx W he hK hY h0

set_option maxRecDepth 100000 in
set_option maxHeartbeats 2000000 in
theorem goes_in (fi Bs : Nat) (s : ByteArray) (L : List Nat) (hI : IterOK fi Bs s L) (hfi : ∀ args w, (callFunc fi args).run Try.prog w = .ok (.enter fi args) w) (a : Option Addr) (cap : Nat) (stop : Int) (w : World) (hL : L.length ≤ 1000000)
    (hc : w.cell? ⟨Bs, 0, none⟩ = some (.string s)) (hBs : Bs < w.heap.size) (hown : w.ownsRow 0 44 4 (.slice a L.length cap) L.length (pcsC s L)) :
    Calls Try.prog 33 #[.func (.func fi) #[] #[.pointer (some ⟨Bs, 0, none⟩)], .slice a L.length cap, .int .i64 stop] w fun e W' => e = .returned (.bool true) ∧ Below w.heap.size w W' := by
  have hg := goes1_in s L a cap stop w.heap.size w rfl hL hown
  have Hg := hide hg
  have HI := hide hI
  have Ho := hide hown
  clear hg hI hown
  go_enter Try.func33, Try.ntmps33
  go_wp2_with fail
  have b0 := Boxed.new w 36 (.slice a L.length cap)
  have b1 := Boxed.new (w.alloc (.cells #[.slice a L.length cap] 36)) 3 (.int .i64 stop)
  have b2 := Boxed.new ((w.alloc (.cells #[.slice a L.length cap] 36)).alloc (.cells #[.int .i64 stop] 3)) 3 (.int .i64 0)
  have b3 := Boxed.new (((w.alloc (.cells #[.slice a L.length cap] 36)).alloc (.cells #[.int .i64 stop] 3)).alloc (.cells #[.int .i64 0] 3)) 4 (.bool true)
  have b4 := Boxed.new ((((w.alloc (.cells #[.slice a L.length cap] 36)).alloc (.cells #[.int .i64 stop] 3)).alloc (.cells #[.int .i64 0] 3)).alloc (.cells #[.bool true] 4)) 4 (.bool false)
  simp only [World.size_alloc] at b1 b2 b3 b4
  have hB0 : Below w.heap.size w (((((w.alloc (.cells #[.slice a L.length cap] 36)).alloc (.cells #[.int .i64 stop] 3)).alloc (.cells #[.int .i64 0] 3)).alloc (.cells #[.bool true] 4)).alloc (.cells #[.bool false] 4)) := (((((Below.refl _ w).alloc (Nat.le_refl _) _).alloc (by simp) _).alloc (by simp; omega) _).alloc (by simp; omega) _).alloc (by simp; omega) _
  have hJ0 : JG L a cap stop w.heap.size w [] (((((w.alloc (.cells #[.slice a L.length cap] 36)).alloc (.cells #[.int .i64 stop] 3)).alloc (.cells #[.int .i64 0] 3)).alloc (.cells #[.bool true] 4)).alloc (.cells #[.bool false] 4)) :=
    ⟨⟨(((b0.alloc _).alloc _).alloc _).alloc _, ((b1.alloc _).alloc _).alloc _, (b2.alloc _).alloc _, b3.alloc _, b4⟩, hB0⟩
  refine (unhide HI _ _ (JG L a cap stop w.heap.size w) (JX L a cap stop w.heap.size w) _ (enters_of Try.func43 (by kernel_rfl) rfl) ((hB0.cell (p := ⟨Bs, 0, none⟩) hBs).trans hc) (JG_abides L a cap stop w.heap.size _ w rfl (by simp; omega)) (fun pre W1 h => (h.2.cell (p := ⟨Bs, 0, none⟩) hBs).trans hc) (unhide Hg) hJ0).mono ?_
  clear b0 b1 b2 b3 b4 hB0 hJ0 Hg HI Ho
  rintro e W' ⟨rfl, ⟨⟨hp, hst, hn, hok, hov⟩, hB⟩ | ⟨pre, hpre, ⟨hp, hst, hn, hok⟩, hB, heq, h1⟩⟩
  · have p0 := hp.cell
    have p1 : W'.cell? ⟨w.heap.size + 1, 0, none⟩ = _ := hst.cell
    have p2 : W'.cell? ⟨w.heap.size + 1 + 1, 0, none⟩ = _ := hn.cell
    have p3 : W'.cell? ⟨w.heap.size + 1 + 1 + 1, 0, none⟩ = _ := hok.cell
    have q2 : ((L.length : Int) == (L.length : Int)) = true := by simp
    by_cases hs : (L.length : Int) = stop
    · have q1 : ((L.length : Int) == stop) = true := by simp [hs]
      by_cases h0 : 0 < stop
      · have q3 : decide ((0 : Int) < stop) = true := by simp; omega
        clear hs
        go_wp2
        go_ret
        exact ⟨rfl, hB⟩
      · have q3 : decide ((0 : Int) < stop) = false := by simp; omega
        clear hs
        go_wp2
        go_ret
        exact ⟨rfl, hB⟩
    · have q1 : ((L.length : Int) == stop) = false := by simp [hs]
      clear hs
      go_wp2
      go_ret
      exact ⟨rfl, hB⟩
  · have p0 := hp.cell
    have p1 : W'.cell? ⟨w.heap.size + 1, 0, none⟩ = _ := hst.cell
    have p2 : W'.cell? ⟨w.heap.size + 1 + 1, 0, none⟩ = _ := hn.cell
    have p3 : W'.cell? ⟨w.heap.size + 1 + 1 + 1, 0, none⟩ = _ := hok.cell
    have q1 : ((pre.length : Int) == stop) = true := by simp [heq]
    have q3 : decide ((0 : Int) < stop) = true := by simp; omega
    clear heq hpre
    go_wp2
    go_ret
    exact ⟨rfl, hB⟩

end Go.Proofs.Ytnejgbjidonpiaa
