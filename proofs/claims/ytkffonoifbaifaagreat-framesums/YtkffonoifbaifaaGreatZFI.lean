/-
  The taker's frame, of the document's example.
-/
import Derived.Test.YtkffonoifbaifaaGreatZFH
set_option linter.unusedSimpArgs false
set_option linter.unusedVariables false
namespace Go.Proofs.YtkffonoifbaifaaGreat
open Go.RowKit Go.Lib

theorem sizeF : (Tryz.prog.info? 39).map (·.size) = some 17 := by kernel_rfl
theorem wpl_loadF {w : World} {ops : Array Oper} {rest : List Oper} {o : Oper} {a : Act} {Q : Exit → Act → World → Prop} (hgd : o.guard = none) (x : Operand) (ho : o.op = .load 39 x)
    {g : Nat} (hx : a.eval x = .pointer (some ⟨g, 0, none⟩)) {t : TypeId} {cs : Array Value} (hg : Bx w g t cs) (hs : cs.size = 17) (h : wpList Tryz.prog ops Q rest (a.put o.dst (.agg cs)) w) : wpList Tryz.prog ops Q (o :: rest) a w :=
  wpList_load_row hgd _ x ho g hx t cs (0, 0) _ hg Tryz.underlying39 rfl (by rw [hs]; exact sizeF) h
theorem wpl_storeF {w : World} {ops : Array Oper} {rest : List Oper} {o : Oper} {a : Act} {Q : Exit → Act → World → Prop} (hgd : o.guard = none) (x y : Operand) (ho : o.op = .store 39 x y)
    {g : Nat} (hx : a.eval x = .pointer (some ⟨g, 0, none⟩)) {cs : Array Value} (hy : a.eval y = .agg cs) {t : TypeId} {old : Array Value} (hg : Bx w g t old) (h1 : old.size = 17) (h2 : cs.size = 17) (h3 : cs.all (·.oneCell') = true) (h : wpList Tryz.prog ops Q rest (a.put o.dst undef) (w.setRow g cs)) : wpList Tryz.prog ops Q (o :: rest) a w :=
  wpList_store_row hgd _ x y ho g cs hx hy t old hg (by rw [h2]; exact sizeF) (by rw [h1, h2]) h3 h
/-- while a frame is taken -/
structure Fsx (w : World) (p : Nat) (v : Value) (W : World) (fr : Array Value) (l : List Nat) : Prop where
  tk : Bx W w.heap.size 58 #[(Value.pointer (some ⟨p, 0, none⟩))]
  re : Bx W (w.heap.size + 1) 39 #[Value.int .i64 0, Value.int .i64 0, Value.int .i64 0, Value.int .i64 0, Value.int .i64 0, Value.int .i64 0, Value.bool false, (Value.slice none 0 0), (Value.slice none 0 0), (Value.slice none 0 0), (Value.slice none 0 0), (Value.int .i64 0), (Value.slice none 0 0), (Value.slice none 0 0), (Value.slice none 0 0), (Value.slice none 0 0), (Value.int .i64 0)]
  fr : Bx W (w.heap.size + 1 + 1) 39 fr
  rd : ∃ v', Rd W p v' l 0 ∧ v'.ownBlock = v.ownBlock
  kp : Kp (fun i => i = p) w W
theorem Fsx.next {w W W' : World} {p : Nat} {v v1 : Value} {fr : Array Value} {l l' : List Nat} (h : Fsx w p v W fr l) (hp : p < w.heap.size) (e : v1.ownBlock = v.ownBlock) (hn : RdN W W' p v1 l') : Fsx w p v W' fr l' := by
  obtain ⟨v2, h1, h2, h3⟩ := hn
  exact ⟨h.tk.kp h2 (by omega), h.re.kp h2 (by omega), h.fr.kp h2 (by omega), ⟨v2, h1, h3.trans e⟩, h.kp.trans h2 (fun i h => .inl h)⟩
theorem Fsx.set {w W : World} {p : Nat} {v : Value} {fr : Array Value} {l : List Nat} (h : Fsx w p v W fr l) (hp : p < w.heap.size) (hvo : ∀ k, v.ownBlock = some k → k < w.heap.size) (k : Nat) (x : Value) : Fsx w p v (W.setCell ⟨w.heap.size + 1 + 1, k, none⟩ x) (fr.setIfInBounds k x) l := by
  have kk : Kp (fun i => i = w.heap.size + 1 + 1) W (W.setCell ⟨w.heap.size + 1 + 1, k, none⟩ x) := Kp.set _ _ _ rfl
  obtain ⟨v', h1, h2⟩ := h.rd
  exact ⟨h.tk.kp kk (by omega), h.re.kp kk (by omega), h.fr.set k x, ⟨v', h1.kp kk (by omega) (fun i hi e => by have := hvo i (h2 ▸ hi); omega), h2⟩, h.kp.trans kk (fun i e => .inr (by omega))⟩
theorem Fsx.num {w W : World} {p : Nat} {v : Value} {fr : Array Value} {x : Nat} {l : List Nat} (h : Fsx w p v W fr (x :: l)) (hp : p < w.heap.size) (hx : x < 128) : Calls Tryz.prog 36 #[.agg #[(Value.pointer (some ⟨p, 0, none⟩))]] W fun r W' => r = .returned (.int .i64 (x : Nat)) ∧ Fsx w p v W' fr l := by
  obtain ⟨v', h1, h2⟩ := h.rd
  refine (fNum_in h1 hx).mono ?_
  rintro r W' ⟨e, hn⟩
  exact ⟨e, h.next hp h2 hn⟩
theorem Fsx.kind {w W : World} {p : Nat} {v : Value} {fr : Array Value} {l : List Nat} (h : Fsx w p v W fr (1 :: l)) (hp : p < w.heap.size) : Calls Tryz.prog 35 #[.agg #[(Value.pointer (some ⟨p, 0, none⟩))]] W fun r W' => r = .returned (.int .i64 1) ∧ Fsx w p v W' fr l := by
  obtain ⟨v', h1, h2⟩ := h.rd
  refine (fTkKind_in h1).mono ?_
  rintro r W' ⟨e, hn⟩
  exact ⟨e, h.next hp h2 hn⟩
theorem Fsx.answer {w W : World} {p : Nat} {v : Value} {fr : Array Value} {l : List Nat} (h : Fsx w p v W fr (1 :: l)) (hp : p < w.heap.size) : Calls Tryz.prog 37 #[.agg #[(Value.pointer (some ⟨p, 0, none⟩))]] W fun r W' => r = .returned (.bool true) ∧ Fsx w p v W' fr l := by
  obtain ⟨v', h1, h2⟩ := h.rd
  refine (fTkAnswer_in h1).mono ?_
  rintro r W' ⟨e, hn⟩
  exact ⟨e, h.next hp h2 hn⟩
theorem Fsx.ops {w W : World} {p : Nat} {v : Value} {fr : Array Value} {l : List Nat} (h : Fsx w p v W fr (0 :: l)) (hp : p < w.heap.size) : Calls Tryz.prog 39 #[.agg #[(Value.pointer (some ⟨p, 0, none⟩))]] W fun r W' => r = .returned (Value.slice none 0 0) ∧ Fsx w p v W' fr l ∧ Kp (fun i => i = p) W W' := by
  obtain ⟨v', h1, h2⟩ := h.rd
  refine (fTkOps_in h1).mono ?_
  rintro r W' ⟨e, hn⟩
  refine ⟨e, h.next hp h2 hn, ?_⟩
  obtain ⟨_, _, q, _⟩ := hn
  exact q
theorem take17 : takeV ([1, 1, 7, 0], 0) = (([(1, 7)], 0), ([0], 0)) := by kernel_rfl
theorem Fsx.have' {w W : World} {p : Nat} {v : Value} {fr : Array Value} (h : Fsx w p v W fr [1, 1, 7, 0]) (hp : p < w.heap.size) : Calls Tryz.prog 38 #[.agg #[(Value.pointer (some ⟨p, 0, none⟩))]] W fun r W' => ∃ u, r = .returned u ∧ OwD W' (w.heap.size + 3) u [(1, 7)] ∧ Fsx w p v W' fr [0] := by
  obtain ⟨v', h1, h2⟩ := h.rd
  refine (fVector0_in (st := ([1, 1, 7, 0], 0)) h1).mono ?_
  rintro r W' ⟨u, rfl, ho, v2, q1, q2, q3⟩
  rw [take17] at ho q1
  exact ⟨u, by rw [take17]; rfl, ho.base (by have := h.fr.lt; omega), h.next hp h2 ⟨v2, q1, q2, q3⟩⟩
theorem Fsx.start (w : World) (p : Nat) (v : Value) (l : List Nat) (h : Rd w p v l 0) : Fsx w p v (((w.alloc (.cells #[(Value.pointer (some ⟨p, 0, none⟩))] 58)).alloc (.cells #[Value.int .i64 0, Value.int .i64 0, Value.int .i64 0, Value.int .i64 0, Value.int .i64 0, Value.int .i64 0, Value.bool false, (Value.slice none 0 0), (Value.slice none 0 0), (Value.slice none 0 0), (Value.slice none 0 0), (Value.int .i64 0), (Value.slice none 0 0), (Value.slice none 0 0), (Value.slice none 0 0), (Value.slice none 0 0), (Value.int .i64 0)] 39)).alloc (.cells #[Value.int .i64 0, Value.int .i64 0, Value.int .i64 0, Value.int .i64 0, Value.int .i64 0, Value.int .i64 0, Value.bool false, (Value.slice none 0 0), (Value.slice none 0 0), (Value.slice none 0 0), (Value.slice none 0 0), (Value.int .i64 0), (Value.slice none 0 0), (Value.slice none 0 0), (Value.slice none 0 0), (Value.slice none 0 0), (Value.int .i64 0)] 39)) #[Value.int .i64 0, Value.int .i64 0, Value.int .i64 0, Value.int .i64 0, Value.int .i64 0, Value.int .i64 0, Value.bool false, (Value.slice none 0 0), (Value.slice none 0 0), (Value.slice none 0 0), (Value.slice none 0 0), (Value.int .i64 0), (Value.slice none 0 0), (Value.slice none 0 0), (Value.slice none 0 0), (Value.slice none 0 0), (Value.int .i64 0)] l := by
  have s1 : (w.alloc (.cells #[(Value.pointer (some ⟨p, 0, none⟩))] 58)).heap.size = w.heap.size + 1 := by simp
  have s2 : ((w.alloc (.cells #[(Value.pointer (some ⟨p, 0, none⟩))] 58)).alloc (.cells #[Value.int .i64 0, Value.int .i64 0, Value.int .i64 0, Value.int .i64 0, Value.int .i64 0, Value.int .i64 0, Value.bool false, (Value.slice none 0 0), (Value.slice none 0 0), (Value.slice none 0 0), (Value.slice none 0 0), (Value.int .i64 0), (Value.slice none 0 0), (Value.slice none 0 0), (Value.slice none 0 0), (Value.slice none 0 0), (Value.int .i64 0)] 39)).heap.size = w.heap.size + 1 + 1 := by simp
  have bb : Below w.heap.size w (((w.alloc (.cells #[(Value.pointer (some ⟨p, 0, none⟩))] 58)).alloc (.cells #[Value.int .i64 0, Value.int .i64 0, Value.int .i64 0, Value.int .i64 0, Value.int .i64 0, Value.int .i64 0, Value.bool false, (Value.slice none 0 0), (Value.slice none 0 0), (Value.slice none 0 0), (Value.slice none 0 0), (Value.int .i64 0), (Value.slice none 0 0), (Value.slice none 0 0), (Value.slice none 0 0), (Value.slice none 0 0), (Value.int .i64 0)] 39)).alloc (.cells #[Value.int .i64 0, Value.int .i64 0, Value.int .i64 0, Value.int .i64 0, Value.int .i64 0, Value.int .i64 0, Value.bool false, (Value.slice none 0 0), (Value.slice none 0 0), (Value.slice none 0 0), (Value.slice none 0 0), (Value.int .i64 0), (Value.slice none 0 0), (Value.slice none 0 0), (Value.slice none 0 0), (Value.slice none 0 0), (Value.int .i64 0)] 39)) := ballc (ballc (ballc (Below.refl _ _) _) _) _
  refine ⟨(Bx.new w _ _).below (ballc (ballc (Below.refl _ _) _) _), ?_, ?_, ⟨v, h.below bb, rfl⟩, Kp.of_below bb⟩
  · have := (Bx.new (w.alloc (.cells #[(Value.pointer (some ⟨p, 0, none⟩))] 58)) 39 #[Value.int .i64 0, Value.int .i64 0, Value.int .i64 0, Value.int .i64 0, Value.int .i64 0, Value.int .i64 0, Value.bool false, (Value.slice none 0 0), (Value.slice none 0 0), (Value.slice none 0 0), (Value.slice none 0 0), (Value.int .i64 0), (Value.slice none 0 0), (Value.slice none 0 0), (Value.slice none 0 0), (Value.slice none 0 0), (Value.int .i64 0)]).below (ballc (Below.refl _ _) (.cells #[Value.int .i64 0, Value.int .i64 0, Value.int .i64 0, Value.int .i64 0, Value.int .i64 0, Value.int .i64 0, Value.bool false, (Value.slice none 0 0), (Value.slice none 0 0), (Value.slice none 0 0), (Value.slice none 0 0), (Value.int .i64 0), (Value.slice none 0 0), (Value.slice none 0 0), (Value.slice none 0 0), (Value.slice none 0 0), (Value.int .i64 0)] 39))
    rwa [s1] at this
  · have := Bx.new ((w.alloc (.cells #[(Value.pointer (some ⟨p, 0, none⟩))] 58)).alloc (.cells #[Value.int .i64 0, Value.int .i64 0, Value.int .i64 0, Value.int .i64 0, Value.int .i64 0, Value.int .i64 0, Value.bool false, (Value.slice none 0 0), (Value.slice none 0 0), (Value.slice none 0 0), (Value.slice none 0 0), (Value.int .i64 0), (Value.slice none 0 0), (Value.slice none 0 0), (Value.slice none 0 0), (Value.slice none 0 0), (Value.int .i64 0)] 39)) 39 #[Value.int .i64 0, Value.int .i64 0, Value.int .i64 0, Value.int .i64 0, Value.int .i64 0, Value.int .i64 0, Value.bool false, (Value.slice none 0 0), (Value.slice none 0 0), (Value.slice none 0 0), (Value.slice none 0 0), (Value.int .i64 0), (Value.slice none 0 0), (Value.slice none 0 0), (Value.slice none 0 0), (Value.slice none 0 0), (Value.int .i64 0)]
    rwa [s2] at this

set_option maxRecDepth 100000 in
set_option maxHeartbeats 16000000 in
theorem tkFrame_in {w : World} {p : Nat} {v : Value} (h : Rd w p v body17 0) (hvo : ∀ k, v.ownBlock = some k → k < w.heap.size) :
    Calls Tryz.prog 19 #[.agg #[(Value.pointer (some ⟨p, 0, none⟩))]] w fun r W => ∃ u, r = .returned (.agg #[Value.int .i64 1, Value.int .i64 1, Value.int .i64 2, Value.int .i64 3, Value.int .i64 4, Value.int .i64 5, Value.bool true, u, (Value.slice none 0 0), (Value.slice none 0 0), (Value.slice none 0 0), (Value.int .i64 0), (Value.slice none 0 0), (Value.slice none 0 0), (Value.slice none 0 0), (Value.slice none 0 0), (Value.int .i64 0)]) ∧ OwD W w.heap.size u [(1, 7)] ∧ Kp (fun i => i = p) w W := by
  have hp := h.box.lt
  have H0 := hide (Fsx.start w p v body17 h)
  have HV := hide hvo
  have x0 := (unhide H0).tk.cell 0 _ rfl
  clear h hvo
  go_enter Tryz.func19, Tryz.ntmps19
  go_wp2_with fail
  refine ((unhide H0).kind hp).mono ?_
  rintro r W0 ⟨rfl, hb⟩
  have y0 := hb.fr.cell 0 _ rfl
  have z0 := hb.fr.frozen 0
  have l0 := hb.fr.lt
  have H1 := hide (hb.set hp (unhide HV) 0 (Value.int .i64 1))
  clear hb H0
  have x1 := (unhide H1).tk.cell 0 _ rfl
  go_wp2_with fail
  refine ((unhide H1).num hp (by decide)).mono ?_
  rintro r W1 ⟨rfl, hb⟩
  have y1 := hb.fr.cell 1 _ rfl
  have z1 := hb.fr.frozen 1
  have l1 := hb.fr.lt
  have H2 := hide (hb.set hp (unhide HV) 1 (Value.int .i64 1))
  clear hb H1
  have x2 := (unhide H2).tk.cell 0 _ rfl
  go_wp2_with fail
  refine ((unhide H2).num hp (by decide)).mono ?_
  rintro r W2 ⟨rfl, hb⟩
  have y2 := hb.fr.cell 2 _ rfl
  have z2 := hb.fr.frozen 2
  have l2 := hb.fr.lt
  have H3 := hide (hb.set hp (unhide HV) 2 (Value.int .i64 2))
  clear hb H2
  have x3 := (unhide H3).tk.cell 0 _ rfl
  go_wp2_with fail
  refine ((unhide H3).num hp (by decide)).mono ?_
  rintro r W3 ⟨rfl, hb⟩
  have y3 := hb.fr.cell 3 _ rfl
  have z3 := hb.fr.frozen 3
  have l3 := hb.fr.lt
  have H4 := hide (hb.set hp (unhide HV) 3 (Value.int .i64 3))
  clear hb H3
  have x4 := (unhide H4).tk.cell 0 _ rfl
  go_wp2_with fail
  refine ((unhide H4).num hp (by decide)).mono ?_
  rintro r W4 ⟨rfl, hb⟩
  have y4 := hb.fr.cell 4 _ rfl
  have z4 := hb.fr.frozen 4
  have l4 := hb.fr.lt
  have H5 := hide (hb.set hp (unhide HV) 4 (Value.int .i64 4))
  clear hb H4
  have x5 := (unhide H5).tk.cell 0 _ rfl
  go_wp2_with fail
  refine ((unhide H5).num hp (by decide)).mono ?_
  rintro r W5 ⟨rfl, hb⟩
  have y5 := hb.fr.cell 5 _ rfl
  have z5 := hb.fr.frozen 5
  have l5 := hb.fr.lt
  have H6 := hide (hb.set hp (unhide HV) 5 (Value.int .i64 5))
  clear hb H5
  have x6 := (unhide H6).tk.cell 0 _ rfl
  go_wp2_with fail
  refine ((unhide H6).answer hp).mono ?_
  rintro r W6 ⟨rfl, hb⟩
  have y6 := hb.fr.cell 6 _ rfl
  have z6 := hb.fr.frozen 6
  have l6 := hb.fr.lt
  have H7 := hide (hb.set hp (unhide HV) 6 (Value.bool true))
  clear hb H6
  have x7 := (unhide H7).tk.cell 0 _ rfl
  go_wp2_with fail
  refine ((unhide H7).have' hp).mono ?_
  rintro r W7 ⟨u, rfl, ho, hb⟩
  obtain ⟨ua, uc, rfl⟩ := ho.form
  rw [show [((1 : Int), (7 : Int))].length = 1 from rfl] at ho ⊢
  have HO7 := hide (owns_kp ho (Kp.set (N := fun i => i = w.heap.size + 1 + 1) W7 ⟨w.heap.size + 1 + 1, 7, none⟩ (.slice ua 1 uc) rfl) (fun i hi e => by have := (World.ownsRow.lt ho i hi).1; omega))
  clear ho
  have y7 := hb.fr.cell 7 _ rfl
  have z7 := hb.fr.frozen 7
  have l7 := hb.fr.lt
  have H8 := hide (hb.set hp (unhide HV) 7 (Value.slice ua 1 uc))
  clear hb H7
  have x8 := (unhide H8).tk.cell 0 _ rfl
  have g0 := (unhide H8).fr.cell 0 _ rfl
  go_wp2_with fail
  refine ((unhide H8).ops hp).mono ?_
  rintro r W8 ⟨rfl, hb, kk⟩
  have ho1 := owns_kp (unhide HO7) kk (fun i hi e => by have := (World.ownsRow.lt (unhide HO7) i hi).1; omega)
  have HO8 := hide (owns_kp ho1 (Kp.set (N := fun i => i = w.heap.size + 1 + 1) W8 ⟨w.heap.size + 1 + 1, 8, none⟩ (.slice none 0 0) rfl) (fun i hi e => by have := (World.ownsRow.lt ho1 i hi).1; omega))
  clear ho1 kk HO7
  have y8 := hb.fr.cell 8 _ rfl
  have z8 := hb.fr.frozen 8
  have l8 := hb.fr.lt
  have H9 := hide (hb.set hp (unhide HV) 8 (Value.slice none 0 0))
  clear hb H8
  have x9 := (unhide H9).tk.cell 0 _ rfl
  obtain ⟨v9, q1, q2⟩ := (unhide H9).rd
  have HEn := hide (rEnd_in q1)
  clear q1 q2
  go_wp2_with fail
  refine (unhide HEn).mono ?_
  rintro r W9 ⟨rfl, rfl⟩
  rw [show rEnd [] 0 = 0 from rfl]
  obtain ⟨Z, hZ⟩ : ∃ Z, W8.setCell ⟨w.heap.size + 1 + 1, 8, none⟩ (Value.slice none 0 0) = Z := ⟨_, rfl⟩
  rw [hZ] at H9 HO8 ⊢
  clear HEn hZ
  have HF := hide (unhide H9).fr
  have HC := hide (fCheck_ex (.slice ua 1 uc) Z (RC.of_owns (unhide HO8)))
  go_wp2_with (first | (go_at_call 32; refine (fMust_in _ _).mono ?_; rintro r W2 ⟨rfl, rfl⟩; rw [upF_ok]) | refine wpl_loadF rfl _ rfl rfl (unhide HF) rfl ?_)
  refine (unhide HC).mono ?_
  rintro r W10 ⟨rfl, hb⟩
  have HF2 := hide ((unhide HF).below hb)
  have HG2 := hide ((unhide H9).re.below hb)
  have HG3 := hide (((unhide H9).re.below hb).setRow #[Value.int .i64 1, Value.int .i64 1, Value.int .i64 2, Value.int .i64 3, Value.int .i64 4, Value.int .i64 5, Value.bool true, (Value.slice ua 1 uc), (Value.slice none 0 0), (Value.slice none 0 0), (Value.slice none 0 0), (Value.int .i64 0), (Value.slice none 0 0), (Value.slice none 0 0), (Value.slice none 0 0), (Value.slice none 0 0), (Value.int .i64 0)])
  have HK := hide ((unhide H9).kp.trans (Kp.of_below (N := fun _ => False) hb) (fun i e => e.elim))
  have HO := hide (owns_kp (unhide HO8) (Kp.of_below (N := fun _ => False) hb) (fun _ _ e => e))
  have H1C := hide (show (#[Value.int .i64 1, Value.int .i64 1, Value.int .i64 2, Value.int .i64 3, Value.int .i64 4, Value.int .i64 5, Value.bool true, (Value.slice ua 1 uc), (Value.slice none 0 0), (Value.slice none 0 0), (Value.slice none 0 0), (Value.int .i64 0), (Value.slice none 0 0), (Value.slice none 0 0), (Value.slice none 0 0), (Value.slice none 0 0), (Value.int .i64 0)] : Array Value).all (·.oneCell') = true by first | rfl | decide | (simp [Value.oneCell']))
  clear hb HC HF H9 HO8
  go_wp2_with (first | (go_at_call 32; refine (fMust_in _ _).mono ?_; rintro r W2 ⟨rfl, rfl⟩; rw [upF_ok]) | refine wpl_loadF rfl _ rfl rfl (unhide HF2) rfl ?_ | refine wpl_storeF rfl _ _ rfl rfl rfl (unhide HG2) rfl rfl (unhide H1C) ?_)
  refine bodyPost_ret (results_cell_row rfl _ _ (w.heap.size + 1) _ _ _ _ rfl (unhide HG3) Tryz.underlying39 rfl sizeF) rfl ?_
  have kk : Kp (fun i => i = w.heap.size + 1) W10 (W10.setRow (w.heap.size + 1) #[Value.int .i64 1, Value.int .i64 1, Value.int .i64 2, Value.int .i64 3, Value.int .i64 4, Value.int .i64 5, Value.bool true, (Value.slice ua 1 uc), (Value.slice none 0 0), (Value.slice none 0 0), (Value.slice none 0 0), (Value.int .i64 0), (Value.slice none 0 0), (Value.slice none 0 0), (Value.slice none 0 0), (Value.slice none 0 0), (Value.int .i64 0)]) := ⟨rfl, rfl, rfl, by simp, fun k _ hk => setRow_other _ _ k _ (fun e => hk e)⟩
  refine ⟨_, rfl, OwD.base (owns_kp (unhide HO) kk (fun i hi e => by have := (World.ownsRow.lt (unhide HO) i hi).1; omega)) (by omega), (unhide HK).trans kk (fun i e => .inr (by omega))⟩

end Go.Proofs.YtkffonoifbaifaaGreat
