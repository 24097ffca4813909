/-
  clump.All goes through a text's clumps.
-/
import Derived.Test.YtiakhpfljjfaeaaZGAll
import Derived.Test.YtiakhpfljjfaeaaZXClump
import Derived.Laws.EntriesVeiled
set_option linter.unusedSimpArgs false
set_option linter.unusedVariables false
namespace Go.Proofs.Ytiakhpfljjfaeaa
open Go.RowKit Go.Lib Go.Shelf

attribute [local go_sem] Oper.semAt_some

theorem AbidesAll.later {β : Type} {B T : Nat} {I : β → World → Prop} (h : AbidesAll B T I) {s : β} {W W' : World} (hs : I s W) (hb : Below W.heap.size W W') : I s W' :=
  h s W W' none hs ⟨hb.os, hb.tape, hb.output, hb.size, fun k hk _ => hb.block k hk⟩ (fun r e => by cases e)

/-- what lies in the cells of clump.All's closure, while it goes on -/
def IA (s : ByteArray) (yv : Value) (B : Nat) (J : List (Nat × Nat) → World → Prop) (pre : List Nat) (W : World) : Prop :=
  (((Boxed W B 72 yv ∧ Boxed W (B + 1) 3 (.int .i64 (bgQ s pre.reverse : Nat))) ∧ Boxed W (B + 1 + 1) 3 (.int .i64 (lsQ pre.reverse : Nat))) ∧ Boxed W (B + 1 + 1 + 1) 3 (.int .i64 (lcQ s pre.reverse))) ∧ J (cmQ s pre.reverse) W

theorem IA_abides (s : ByteArray) (yv : Value) (B B' T T' : Nat) (J : List (Nat × Nat) → World → Prop) (hJ : AbidesAll B T J) (hB : B + 4 ≤ B') (hT : T' ≤ T) : AbidesAll B' T' (IA s yv B J) :=
  AbidesAll.and (AbidesAll.and (AbidesAll.and (AbidesAll.and (AbidesAll.boxed (by omega) _ _) (AbidesAll.boxed (by omega) _ _)) (AbidesAll.boxed (by omega) _ _)) (AbidesAll.boxed (by omega) _ _)) (fun pre W W' row hs hg hr => hJ _ W W' row hs hg (fun r e => by have := hr r e; constructor <;> omega))

theorem KO.inner {B T Bs B' T' Bs' : Nat} {W W' : World} (h : KO B T Bs W W') (hB : B ≤ B') (hT : T' ≤ T) (hBs : B ≤ Bs' ∧ Bs' < T) : KO B' T' Bs' W W' :=
  ⟨h.size, fun k hk ht hs => h.over k (Nat.le_trans hB hk) (Nat.lt_of_lt_of_le ht hT) hs, h.walks, fun o ho => (h.over Bs' hBs.1 hBs.2 (Array.getElem?_eq_some_iff.1 ho).1).trans ho⟩
theorem boxed_KO {B T Bs b : Nat} {t : TypeId} {v : Value} {W W' : World} (h : Boxed W b t v) (hk : KO B T Bs W W') (hb : B ≤ b) (ht : b < T) : Boxed W' b t v := (hk.over b hb ht h.lt).trans h
theorem AbidesAll.set {β : Type} {B T b : Nat} {I : β → World → Prop} (h : AbidesAll B T I) {s : β} {W : World} (hs : I s W) (hb : B ≤ b ∧ b < T) (v : Value) : I s (W.setCell ⟨b, 0, none⟩ v) := h s _ _ (some b) hs (grownBy_setCell' W b v) (fun r e => by cases e; exact hb)

/-- the four cells -/
structure Cells4 (s : ByteArray) (yv : Value) (B bg ls : Nat) (lc : Int) (W : World) : Prop where
  y : Boxed W B 72 yv
  b : Boxed W (B + 1) 3 (.int .i64 (bg : Nat))
  l : Boxed W (B + 1 + 1) 3 (.int .i64 (ls : Nat))
  c : Boxed W (B + 1 + 1 + 1) 3 (.int .i64 lc)

theorem IA.cells {s : ByteArray} {yv : Value} {B : Nat} {J : List (Nat × Nat) → World → Prop} {pre : List Nat} {W : World} (h : IA s yv B J pre W) : Cells4 s yv B (bgQ s pre.reverse) (lsQ pre.reverse) (lcQ s pre.reverse) W := ⟨h.1.1.1.1, h.1.1.1.2, h.1.1.2, h.1.2⟩
theorem Cells4.below {s : ByteArray} {yv : Value} {B bg ls : Nat} {lc : Int} {W W' : World} (h : Cells4 s yv B bg ls lc W) (hb : Below W.heap.size W W') : Cells4 s yv B bg ls lc W' := ⟨boxed_below h.y hb, boxed_below h.b hb, boxed_below h.l hb, boxed_below h.c hb⟩
theorem Cells4.later {s : ByteArray} {yv : Value} {B T Bs bg ls : Nat} {lc : Int} {W W' : World} (h : Cells4 s yv B bg ls lc W) (hk : KO B T Bs W W') (hT : B + 4 ≤ T) : Cells4 s yv B bg ls lc W' := ⟨boxed_KO h.y hk (by omega) (by omega), boxed_KO h.b hk (by omega) (by omega), boxed_KO h.l hk (by omega) (by omega), boxed_KO h.c hk (by omega) (by omega)⟩
theorem Cells4.setB {s : ByteArray} {yv : Value} {B bg ls : Nat} {lc : Int} {W : World} (h : Cells4 s yv B bg ls lc W) (i : Nat) : Cells4 s yv B i ls lc (W.setCell ⟨B + 1, 0, none⟩ (.int .i64 (i : Nat))) :=
  ⟨h.y.other (by omega) _, h.b.set _, h.l.other (by omega) _, h.c.other (by omega) _⟩
theorem Cells4.setL {s : ByteArray} {yv : Value} {B bg ls : Nat} {lc : Int} {W : World} (h : Cells4 s yv B bg ls lc W) (i : Nat) : Cells4 s yv B bg i lc (W.setCell ⟨B + 1 + 1, 0, none⟩ (.int .i64 (i : Nat))) :=
  ⟨h.y.other (by omega) _, h.b.other (by omega) _, h.l.set _, h.c.other (by omega) _⟩
theorem Cells4.setC {s : ByteArray} {yv : Value} {B bg ls : Nat} {lc : Int} {W : World} (h : Cells4 s yv B bg ls lc W) (i : Int) : Cells4 s yv B bg ls i (W.setCell ⟨B + 1 + 1 + 1, 0, none⟩ (.int .i64 i)) :=
  ⟨h.y.other (by omega) _, h.b.other (by omega) _, h.l.other (by omega) _, h.c.set _⟩
theorem IA.mk {s : ByteArray} {yv : Value} {B : Nat} {J : List (Nat × Nat) → World → Prop} {pre : List Nat} {W : World} {bg : Nat} {i : Nat} (h : Cells4 s yv B bg i (C s i) W) (hb : bgQ s (pre ++ [i]).reverse = bg) {cm : List (Nat × Nat)} (hc : cmQ s (pre ++ [i]).reverse = cm) (hJ : J cm W) : IA s yv B J (pre ++ [i]) W := by
  unfold IA
  rw [hb, hc, ls_snoc, lc_snoc]
  exact ⟨⟨⟨⟨h.y, h.b⟩, h.l⟩, h.c⟩, hJ⟩
theorem Cells4.koS {s : ByteArray} {yv : Value} {B bg ls B' T' Bs' : Nat} {lc : Int} {W : World} (h : Cells4 s yv B bg ls lc W) (hB : B + 1 + 1 + 1 < B') (hBs : B + 1 + 1 + 1 < Bs') (i : Nat) (c : Int) :
    KO B' T' Bs' W ((W.setCell ⟨B + 1 + 1, 0, none⟩ (.int .i64 (i : Nat))).setCell ⟨B + 1 + 1 + 1, 0, none⟩ (.int .i64 c)) :=
  (KO.set h.l (by omega) (by omega) _).trans (KO.set (h.setL i).c (by omega) (by omega) _)

set_option maxRecDepth 100000 in
set_option maxHeartbeats 8000000 in
theorem call1 (yf : Fn) (yc : Array Value) (Bs : Nat) (s : ByteArray) (hs : s.size ≤ 140737488355328) (J Jx : List (Nat × Nat) → World → Prop) (W : World) (hJ : AbidesAll W.heap.size (W.heap.size + 8) J) (hJx : AbidesAll W.heap.size (W.heap.size + 8) Jx)
    (hBs : Boxed W Bs 9 (.string s))
    (hK : ∀ pre W1, J pre W1 → Boxed W1 Bs 9 (.string s))
    (hY : ∀ pre c rest W1, pre ++ c :: rest = cpL s → W.heap.size + 8 ≤ W1.heap.size → J pre W1 → Yv (.func yf #[] yc) #[.int .i64 (c.1 : Nat), .string (s.extract c.1 c.2)] W1 fun b W' => (if b then J (pre ++ [c]) W' else Jx (pre ++ [c]) W') ∧ KO W.heap.size (W.heap.size + 8) Bs W1 W')
    (h0 : J [] W) :
    CallsIn Fence.wide 6 Try.prog 35 #[.func yf #[] yc, .pointer (some ⟨Bs, 0, none⟩)] W fun e W' => e = .returned (.tuple #[]) ∧ ((J (cpL s) W' ∧ W.heap.size + 8 ≤ W'.heap.size) ∨ ∃ pre rest, pre ++ rest = cpL s ∧ Jx pre W') := by
  have hBlt := hBs.lt
  have hBc := hBs.cell
  have hc4 : ((((W.alloc (.cells #[.func yf #[] yc] 72)).alloc (.cells #[.int .i64 0] 3)).alloc (.cells #[.int .i64 0] 3)).alloc (.cells #[.int .i64 0] 3)).cell? ⟨Bs, 0, none⟩ = some (.string s) := ((((hBs.alloc _).alloc _).alloc _).alloc _).cell
  refine callsIn_of_wp_marks Try.func35 rfl trivial ?_ rfl
  simp only [Try.ntmps35, List.size_toArray, List.length_cons, List.length_nil, Nat.reduceAdd, Nat.reduceSub, Array.replicate_succ, Array.replicate_zero, List.push_toArray, List.append_toArray, List.nil_append, List.cons_append]
  gi_wp2_with (refine ⟨trivial, ?_⟩; gi_at_call 20; refine (all_in Fence.wide _ trivial rfl _ _).mono ?_; rintro e w' ⟨rfl, rfl⟩)
  have b0 := Boxed.new W 72 (.func yf #[] yc)
  have b1 := Boxed.new (W.alloc (.cells #[.func yf #[] yc] 72)) 3 (.int .i64 0)
  have b2 := Boxed.new ((W.alloc (.cells #[.func yf #[] yc] 72)).alloc (.cells #[.int .i64 0] 3)) 3 (.int .i64 0)
  have b3 := Boxed.new (((W.alloc (.cells #[.func yf #[] yc] 72)).alloc (.cells #[.int .i64 0] 3)).alloc (.cells #[.int .i64 0] 3)) 3 (.int .i64 0)
  have b4 := Boxed.new (((((W.alloc (.cells #[.func yf #[] yc] 72)).alloc (.cells #[.int .i64 0] 3)).alloc (.cells #[.int .i64 0] 3)).alloc (.cells #[.int .i64 0] 3))) 9 (.string s)
  simp only [World.size_alloc] at b1 b2 b3 b4
  have hI0 : IA s (.func yf #[] yc) W.heap.size J [] ((((((W.alloc (.cells #[.func yf #[] yc] 72)).alloc (.cells #[.int .i64 0] 3)).alloc (.cells #[.int .i64 0] 3)).alloc (.cells #[.int .i64 0] 3))).alloc (.cells #[.string s] 9)) :=
    ⟨⟨⟨⟨(((b0.alloc _).alloc _).alloc _).alloc _, ((b1.alloc _).alloc _).alloc _⟩, (b2.alloc _).alloc _⟩, b3.alloc _⟩, hJ.alloc (hJ.alloc (hJ.alloc (hJ.alloc (hJ.alloc h0 _) _) _) _) _⟩
  refine range_L (gf := 38) (lb := #[.pointer (some ⟨W.heap.size + 1 + 1 + 1 + 1, 0, none⟩)]) rfl (enters_of Try.func38 (by kernel_rfl) rfl)
    (all_L (W.heap.size + 1 + 1 + 1 + 1) s _ b4) (Below.refl _ _) (by simp) (fun _ => rfl)
    (IA s (.func yf #[] yc) W.heap.size J)
    (fun c pre W' => c = .ret ∧ ∃ q rest, q ++ rest = cpL s ∧ Jx q W')
    (IA_abides s _ _ _ _ _ J hJ (by simp) (by simp))
    (fun c => AbidesAll.and (AbidesAll.pure _ _ _) (fun pre X Y row hs hg hr => by
      obtain ⟨q, rest, h1, h2⟩ := hs
      exact ⟨q, rest, h1, hJx _ X Y row h2 hg (fun r e => by have := hr r e; simp at this; constructor <;> omega)⟩))
    hI0
    (fun i => { tmps := #[.func yf #[] yc, .pointer (some ⟨Bs, 0, none⟩), .pointer (some ⟨W.heap.size, 0, none⟩), .pointer (some ⟨W.heap.size + 1, 0, none⟩), .pointer (some ⟨W.heap.size + 1 + 1, 0, none⟩), .pointer (some ⟨W.heap.size + 1 + 1 + 1, 0, none⟩), .int .i64 (i : Nat), .int .i32 (rn s i : Nat), undef, .string s, .func (.func 38) #[] #[.pointer (some ⟨W.heap.size + 1 + 1 + 1 + 1, 0, none⟩)], .int .i64 (i : Nat), .int .i32 (rn s i : Nat), undef, undef, undef, undef, undef, undef, undef, undef, undef, undef, undef, undef, undef, undef, undef, undef, undef, undef, undef, undef, undef, undef, undef, undef, undef, undef, undef, undef, undef, undef, undef, undef, undef, undef], defers := [] }) ?assign ?body ?done ?stop
  case assign =>
    intro l x W K hK
    gi_wp2
    exact hK
  case body =>
    intro l pre i rest W1 hpre hz1 hi
    have hz8 : W.heap.size + 8 ≤ W1.heap.size := by simp at hz1; omega
    clear hz1
    have hilt : i < s.size := (mem_allL.1 (by rw [← hpre]; simp)).1
    have hrx := rn_lt s i hilt
    have hiA := IA_abides s (.func yf #[] yc) W.heap.size (W.heap.size + 4) _ (W.heap.size + 8) J hJ (Nat.le_refl _) (Nat.le_refl _)
    gi_wp2_with (refine ⟨trivial, ?_⟩; gi_at_call 36; refine (CallsIn.inRound l (callsIn_wide.2 (class_in _ (by omega) (by omega) _))).mono ?_; rintro e W2 ⟨rfl, hb2⟩; rw [show cls (rn s i : Nat) = C s i from rfl])
    have hi2 := hiA.later hi hb2
    clear hi
    refine wpIn_region_any (by kernel_rfl) ?_
    change wpAnyIn _ _ _ _ _ _ _ _ _ (World.drew _)
    have hb3 : Below W1.heap.size W1 W2.drew := hb2.drew
    have hi3 : IA s (.func yf #[] yc) W.heap.size J pre W2.drew := hiA.later hi2 (Below.refl _ _).drew
    generalize W2.drew = W3 at hb3 hi3 ⊢
    clear hi2 hb2
    rcases hq : pre.reverse with _ | ⟨j, ql⟩
    · obtain rfl : pre = [] := by simpa using hq
      obtain ⟨rfl, hsz⟩ := first_zero hpre
      refine region_in (fun _ => trivial) rfl false 11 (.inr (by decide)) 47 (fun j => 15 + j) [(0, (.func yf #[] yc)), (1, (.pointer (some ⟨Bs, 0, none⟩))), (2, (.pointer (some ⟨W.heap.size, 0, none⟩))), (3, (.pointer (some ⟨W.heap.size + 1, 0, none⟩))), (4, (.pointer (some ⟨W.heap.size + 1 + 1, 0, none⟩))), (5, (.pointer (some ⟨W.heap.size + 1 + 1 + 1, 0, none⟩))), (6, (.int .i64 (0 : Nat))), (7, (.int .i32 (rn s 0 : Nat))), (8, (.int .i64 (C s 0))), (9, (.string s)), (10, (.func (.func 38) #[] #[.pointer (some ⟨W.heap.size + 1 + 1 + 1 + 1, 0, none⟩)])), (11, (.int .i64 (0 : Nat))), (12, (.int .i32 (rn s 0 : Nat))), (13, (.int .i32 (rn s 0 : Nat))), (14, (.int .i64 (C s 0))), (26, undef), (27, undef), (28, undef), (29, undef), (30, undef), (31, undef), (32, undef), (33, undef), (34, undef), (35, undef), (36, undef), (37, undef), (38, undef), (39, undef), (40, undef), (41, undef), (42, undef), (43, undef), (44, undef), (45, undef), (46, undef)] (fun _ w => w = W3) (valsOf [isV (.int .i64 (0 : Nat)), isV (.bool false), isV (.bool false), isV undef, isV undef, isV undef, isV undef, isV undef, isV undef, isV undef, isV (.bool false)]) (fun _ w w' => w' = w) [] ?fit ?hV [(2, true)] ?gs ?gv ?steps ?fin _ _ ?sz rfl ?base rfl
      case fit => kernel_rfl
      case sz => rfl
      case gs => kernel_rfl
      case hV => intro i j b w w' v _ _ _ hv hG; subst hG; exact hv
      case gv => intro p hp w v hv; simp at hp; subst hp; exact hv
      case base => intro p hp; repeat (first | (rcases List.mem_cons.1 hp with rfl | hp; · rfl) | cases hp)
      case steps =>
        refine .cons (fun b ρ w hbm hρ hJ hb hd => by rw [if_neg (by decide)]; exact stepIn_move (.tmp 6) rfl ⟨rfl, hJ, hb (6, _) (List.mem_of_getElem? (i := 6) rfl)⟩) ?_
        refine .cons (fun b ρ w hbm hρ hJ hb hd => by
          rw [if_neg (by decide)]; 
          have d : ρ (.tmp 15) = .int .i64 (0 : Nat) := hd 0 _ rfl rfl
          exact stepIn_val (v := .bool false) (w' := w) (fun c e => by cases e) (by simp [go_sem, execOp, d, hρ.const]) ⟨rfl, hJ, rfl⟩) ?_
        refine .cons (fun b ρ w hbm hρ hJ hb hd => by rw [if_neg (by decide)]; exact stepIn_move (.tmp 16) rfl ⟨rfl, hJ, hd 0 _ rfl rfl⟩) ?_
        refine .cons (fun b ρ w hbm hρ hJ hb hd => by rw [if_pos (by decide)]; exact rfl) ?_
        refine .cons (fun b ρ w hbm hρ hJ hb hd => by rw [if_pos (by decide)]; exact rfl) ?_
        refine .cons (fun b ρ w hbm hρ hJ hb hd => by rw [if_pos (by decide)]; exact rfl) ?_
        refine .cons (fun b ρ w hbm hρ hJ hb hd => by rw [if_pos (by decide)]; exact rfl) ?_
        refine .cons (fun b ρ w hbm hρ hJ hb hd => by rw [if_pos (by decide)]; exact rfl) ?_
        refine .cons (fun b ρ w hbm hρ hJ hb hd => by rw [if_pos (by decide)]; exact rfl) ?_
        refine .cons (fun b ρ w hbm hρ hJ hb hd => by rw [if_pos (by decide)]; exact rfl) ?_
        refine .cons (fun b ρ w hbm hρ hJ hb hd => by
          rw [if_neg (by decide)]; 
          have d : ρ (.tmp 17) = .bool false := hd 0 _ rfl rfl
          exact stepIn_val (v := .bool false) (w' := w) (fun c e => by cases e) (by simp [go_sem, execOp, d, hρ.const]) ⟨rfl, hJ, rfl⟩) (.nil _)
      case fin =>
        intro a w hsz2 hds hb hJw hv
        subst hJw
        obtain rfl := frame_of ([(0, (.func yf #[] yc)), (1, (.pointer (some ⟨Bs, 0, none⟩))), (2, (.pointer (some ⟨W.heap.size, 0, none⟩))), (3, (.pointer (some ⟨W.heap.size + 1, 0, none⟩))), (4, (.pointer (some ⟨W.heap.size + 1 + 1, 0, none⟩))), (5, (.pointer (some ⟨W.heap.size + 1 + 1 + 1, 0, none⟩))), (6, (.int .i64 (0 : Nat))), (7, (.int .i32 (rn s 0 : Nat))), (8, (.int .i64 (C s 0))), (9, (.string s)), (10, (.func (.func 38) #[] #[.pointer (some ⟨W.heap.size + 1 + 1 + 1 + 1, 0, none⟩)])), (11, (.int .i64 (0 : Nat))), (12, (.int .i32 (rn s 0 : Nat))), (13, (.int .i32 (rn s 0 : Nat))), (14, (.int .i64 (C s 0))), (26, undef), (27, undef), (28, undef), (29, undef), (30, undef), (31, undef), (32, undef), (33, undef), (34, undef), (35, undef), (36, undef), (37, undef), (38, undef), (39, undef), (40, undef), (41, undef), (42, undef), (43, undef), (44, undef), (45, undef), (46, undef)] ++ [(15, (.int .i64 (0 : Nat))), (16, (.bool false)), (17, (.bool false)), (18, undef), (19, undef), (20, undef), (21, undef), (22, undef), (23, undef), (24, undef), (25, (.bool false))]) [(.func yf #[] yc), (.pointer (some ⟨Bs, 0, none⟩)), (.pointer (some ⟨W.heap.size, 0, none⟩)), (.pointer (some ⟨W.heap.size + 1, 0, none⟩)), (.pointer (some ⟨W.heap.size + 1 + 1, 0, none⟩)), (.pointer (some ⟨W.heap.size + 1 + 1 + 1, 0, none⟩)), (.int .i64 (0 : Nat)), (.int .i32 (rn s 0 : Nat)), (.int .i64 (C s 0)), (.string s), (.func (.func 38) #[] #[.pointer (some ⟨W.heap.size + 1 + 1 + 1 + 1, 0, none⟩)]), (.int .i64 (0 : Nat)), (.int .i32 (rn s 0 : Nat)), (.int .i32 (rn s 0 : Nat)), (.int .i64 (C s 0)), (.int .i64 (0 : Nat)), (.bool false), (.bool false), undef, undef, undef, undef, undef, undef, undef, (.bool false), undef, undef, undef, undef, undef, undef, undef, undef, undef, undef, undef, undef, undef, undef, undef, undef, undef, undef, undef, undef, undef] hsz2 hds (fun p hp => by
          rcases List.mem_append.1 hp with h | h
          · exact hb p h
          · simp only [List.mem_cons, List.not_mem_nil, or_false] at h
            rcases h with rfl | rfl | rfl | rfl | rfl | rfl | rfl | rfl | rfl | rfl | rfl
            · exact hv 0 (by decide)
            · exact hv 1 (by decide)
            · exact hv 2 (by decide)
            · exact hv 3 (by decide)
            · exact hv 4 (by decide)
            · exact hv 5 (by decide)
            · exact hv 6 (by decide)
            · exact hv 7 (by decide)
            · exact hv 8 (by decide)
            · exact hv 9 (by decide)
            · exact hv 10 (by decide)) rfl
        clear hb hv hds hsz2
        have h4 := hi3.cells
        have c1 := h4.l.cell
        have c2 := h4.l.frozen
        have h5 : Cells4 s (.func yf #[] yc) W.heap.size 0 0 (C s 0) ((w.setCell ⟨W.heap.size + 1 + 1, 0, none⟩ (.int .i64 0)).setCell ⟨W.heap.size + 1 + 1 + 1, 0, none⟩ (.int .i64 (C s 0))) := (h4.setL 0).setC _
        have c3 : (w.setCell ⟨W.heap.size + 1 + 1, 0, none⟩ (.int .i64 0)).cell? ⟨W.heap.size + 1 + 1 + 1, 0, none⟩ = some _ := (h4.setL 0).c.cell
        have c4 : (w.setCell ⟨W.heap.size + 1 + 1, 0, none⟩ (.int .i64 0)).frozen? ⟨W.heap.size + 1 + 1 + 1, 0, none⟩ = false := (h4.setL 0).c.frozen
        have hko := h4.koS (B' := W.heap.size + 5) (T' := W.heap.size + 8) (Bs' := W.heap.size + 1 + 1 + 1 + 1) (by omega) (by omega) 0 (C s 0)
        have hJ5 := hJ.set (hJ.set hi3.2 (show W.heap.size ≤ W.heap.size + 1 + 1 ∧ W.heap.size + 1 + 1 < W.heap.size + 8 by omega) (.int .i64 0)) (show W.heap.size ≤ W.heap.size + 1 + 1 + 1 ∧ W.heap.size + 1 + 1 + 1 < W.heap.size + 8 by omega) (.int .i64 (C s 0))
        gi_wp2
        exact ⟨((KO.of_below hb3).trans hko).mono (by simp) (by simp), IA.mk (pre := []) h5 rfl rfl hJ5⟩
    · obtain ⟨hbj, hji, his, hsy, hbk⟩ := cm_seg hpre hq
      obtain ⟨bg, hbg⟩ : ∃ bg, bgQ s pre.reverse = bg := ⟨_, rfl⟩
      have hls : lsQ pre.reverse = j := by rw [hq]; rfl
      have hlc : lcQ s pre.reverse = C s j := by rw [hq]; rfl
      obtain ⟨cm, hcm⟩ : ∃ cm, cmQ s pre.reverse = cm := ⟨_, rfl⟩
      obtain ⟨bv, hbv⟩ : ∃ bv, bk (ql.map (C s)) (C s j) (C s i) = bv := ⟨_, rfl⟩
      rw [hbg] at hbj hbk
      have hbv2 : bk (rc (s.extract bg j)) (C s j) (C s i) = bv := by rw [hbk, hbv]
      have hst6 : ∀ w, IA s (.func yf #[] yc) W.heap.size J pre w → Cells4 s (.func yf #[] yc) W.heap.size bg j (C s j) w ∧ Boxed w Bs 9 (.string s) := fun w h => ⟨by have := h.cells; rw [hbg, hls, hlc] at this; exact this, hK _ _ h.2⟩
      have hsx : (s.extract bg j).size ≤ 140737488355328 := by rw [size_ext s bg j (by omega)]; omega
      refine region_in (fun _ => trivial) rfl true 11 (.inl rfl) 47 (fun j => 15 + j) [(0, (.func yf #[] yc)), (1, (.pointer (some ⟨Bs, 0, none⟩))), (2, (.pointer (some ⟨W.heap.size, 0, none⟩))), (3, (.pointer (some ⟨W.heap.size + 1, 0, none⟩))), (4, (.pointer (some ⟨W.heap.size + 1 + 1, 0, none⟩))), (5, (.pointer (some ⟨W.heap.size + 1 + 1 + 1, 0, none⟩))), (6, (.int .i64 (i : Nat))), (7, (.int .i32 (rn s i : Nat))), (8, (.int .i64 (C s i))), (9, (.string s)), (10, (.func (.func 38) #[] #[.pointer (some ⟨W.heap.size + 1 + 1 + 1 + 1, 0, none⟩)])), (11, (.int .i64 (i : Nat))), (12, (.int .i32 (rn s i : Nat))), (13, (.int .i32 (rn s i : Nat))), (14, (.int .i64 (C s i))), (26, undef), (27, undef), (28, undef), (29, undef), (30, undef), (31, undef), (32, undef), (33, undef), (34, undef), (35, undef), (36, undef), (37, undef), (38, undef), (39, undef), (40, undef), (41, undef), (42, undef), (43, undef), (44, undef), (45, undef), (46, undef)] (fun _ w => IA s (.func yf #[] yc) W.heap.size J pre w ∧ Below W3.heap.size W3 w) (valsOf [isV (.int .i64 (i : Nat)), isV (.bool true), isV (.bool true), isV (.string s), isV (.int .i64 (bg : Nat)), isV (.int .i64 (j : Nat)), isV (.string (s.extract bg j)), isV (.int .i64 (C s j)), isV (.int .i64 (C s i)), isV (.bool bv), isV (.bool bv)]) (fun _ w w' => Below w.heap.size w w') [] ?fit ?hV [(2, true)] ?gs ?gv ?steps ?fin _ _ ?sz rfl ?base ⟨hi3, Below.refl _ _⟩
      case fit => kernel_rfl
      case sz => rfl
      case gs => kernel_rfl
      case hV => intro i j b w w' v _ _ hJ hv hG; exact valsOf_stable (Stables.all (J := fun w => True) (G := fun w w' => Below w.heap.size w w') (by repeat (first | exact .nil | refine .same ?_))) j w w' v trivial hv hG
      case gv => intro p hp w v hv; simp at hp; subst hp; exact hv
      case base => intro p hp; repeat (first | (rcases List.mem_cons.1 hp with rfl | hp; · rfl) | cases hp)
      case steps =>
        refine .cons (fun b ρ w hbm hρ hJ hb hd => by rw [if_neg (by decide)]; exact stepIn_move (.tmp 6) rfl ⟨Below.refl _ _, hJ, hb (6, _) (List.mem_of_getElem? (i := 6) rfl)⟩) ?_
        refine .cons (fun b ρ w hbm hρ hJ hb hd => by
          rw [if_neg (by decide)]
          have d : ρ (.tmp 15) = .int .i64 (i : Nat) := hd 0 _ rfl rfl
          have i0 : (0 : Int) < (i : Int) := by omega
          exact stepIn_val (v := .bool true) (w' := w) (fun c e => by cases e) (by simp [go_sem, execOp, d, hρ.const]; omega) ⟨Below.refl _ _, hJ, rfl⟩) ?_
        refine .cons (fun b ρ w hbm hρ hJ hb hd => by rw [if_neg (by decide)]; exact stepIn_move (.tmp 16) rfl ⟨Below.refl _ _, hJ, hd 0 _ rfl rfl⟩) ?_
        refine .cons (fun b ρ w hbm hρ hJ hb hd => by
          rw [if_neg (by decide)]
          have e1 := hb (1, _) (List.mem_of_getElem? (i := 1) rfl)
          have c1 := (hst6 w hJ.1).2.cell
          exact stepIn_val (v := .string s) (w' := w) (fun c e => by cases e) (by simp [go_sem, execOp, e1, c1]) ⟨Below.refl _ _, hJ, rfl⟩) ?_
        refine .cons (fun b ρ w hbm hρ hJ hb hd => by
          rw [if_neg (by decide)]
          have e1 := hb (3, _) (List.mem_of_getElem? (i := 3) rfl)
          have c1 := (hst6 w hJ.1).1.b.cell
          exact stepIn_val (v := .int .i64 (bg : Nat)) (w' := w) (fun c e => by cases e) (by simp [go_sem, execOp, e1, c1]) ⟨Below.refl _ _, hJ, rfl⟩) ?_
        refine .cons (fun b ρ w hbm hρ hJ hb hd => by
          rw [if_neg (by decide)]
          have e1 := hb (4, _) (List.mem_of_getElem? (i := 4) rfl)
          have c1 := (hst6 w hJ.1).1.l.cell
          exact stepIn_val (v := .int .i64 (j : Nat)) (w' := w) (fun c e => by cases e) (by simp [go_sem, execOp, e1, c1]) ⟨Below.refl _ _, hJ, rfl⟩) ?_
        refine .cons (fun b ρ w hbm hρ hJ hb hd => by
          rw [if_neg (by decide)]
          have d1 : ρ (.tmp 18) = .string s := hd 0 _ rfl rfl
          have d2 : ρ (.tmp 19) = .int .i64 (bg : Nat) := hd 1 _ rfl rfl
          have d3 : ρ (.tmp 20) = .int .i64 (j : Nat) := hd 2 _ rfl rfl
          have i1 : (bg : Int) ≤ (j : Int) := by omega
          have i2 : (j : Int) ≤ (s.size : Int) := by omega
          exact stepIn_val (v := .string (s.extract bg j)) (w' := w) (fun c e => by cases e) (by simp [go_sem, execOp, d1, d2, d3, i1, i2]) ⟨Below.refl _ _, hJ, rfl⟩) ?_
        refine .cons (fun b ρ w hbm hρ hJ hb hd => by
          rw [if_neg (by decide)]
          have e1 := hb (5, _) (List.mem_of_getElem? (i := 5) rfl)
          have c1 := (hst6 w hJ.1).1.c.cell
          exact stepIn_val (v := .int .i64 (C s j)) (w' := w) (fun c e => by cases e) (by simp [go_sem, execOp, e1, c1]) ⟨Below.refl _ _, hJ, rfl⟩) ?_
        refine .cons (fun b ρ w hbm hρ hJ hb hd => by rw [if_neg (by decide)]; exact stepIn_move (.tmp 8) rfl ⟨Below.refl _ _, hJ, hb (8, _) (List.mem_of_getElem? (i := 8) rfl)⟩) ?_
        refine .cons (fun b ρ w hbm hρ hJ hb hd => by
          rw [if_neg (by decide)]
          have d1 : ρ (.tmp 21) = .string (s.extract bg j) := hd 0 _ rfl rfl
          have d2 : ρ (.tmp 22) = .int .i64 (C s j) := hd 1 _ rfl rfl
          have d3 : ρ (.tmp 23) = .int .i64 (C s i) := hd 2 _ rfl rfl
          refine stepIn_func 37 _ _ #[.string (s.extract bg j), .int .i64 (C s j), .int .i64 (C s i)] hρ rfl (enters_of Try.func37 (by kernel_rfl) rfl) (by simp [d1, d2, d3]) ?_
          refine (CallsIn.inRound l (callsIn_wide.2 (parted_in _ _ _ hsx _))).mono ?_
          rintro e w2 ⟨rfl, hB⟩
          exact ⟨_, rfl, hB, ⟨hiA.later hJ.1 hB, hJ.2.trans (hB.mono hJ.2.size)⟩, by rw [hbv2]; rfl⟩) ?_
        refine .cons (fun b ρ w hbm hρ hJ hb hd => by
          rw [if_neg (by decide)]
          have d1 : ρ (.tmp 17) = .bool true := hd 0 _ rfl rfl
          have d2 : ρ (.tmp 24) = .bool bv := hd 1 _ rfl rfl
          exact stepIn_val (v := .bool bv) (w' := w) (fun c e => by cases e) (by simp [go_sem, execOp, d1, d2, hρ.const]) ⟨Below.refl _ _, hJ, rfl⟩) (.nil _)
      case fin =>
        intro a W5 hsz2 hds hb hJw hv
        obtain ⟨hi5, hb5⟩ := hJw
        obtain rfl := frame_of ([(0, (.func yf #[] yc)), (1, (.pointer (some ⟨Bs, 0, none⟩))), (2, (.pointer (some ⟨W.heap.size, 0, none⟩))), (3, (.pointer (some ⟨W.heap.size + 1, 0, none⟩))), (4, (.pointer (some ⟨W.heap.size + 1 + 1, 0, none⟩))), (5, (.pointer (some ⟨W.heap.size + 1 + 1 + 1, 0, none⟩))), (6, (.int .i64 (i : Nat))), (7, (.int .i32 (rn s i : Nat))), (8, (.int .i64 (C s i))), (9, (.string s)), (10, (.func (.func 38) #[] #[.pointer (some ⟨W.heap.size + 1 + 1 + 1 + 1, 0, none⟩)])), (11, (.int .i64 (i : Nat))), (12, (.int .i32 (rn s i : Nat))), (13, (.int .i32 (rn s i : Nat))), (14, (.int .i64 (C s i))), (26, undef), (27, undef), (28, undef), (29, undef), (30, undef), (31, undef), (32, undef), (33, undef), (34, undef), (35, undef), (36, undef), (37, undef), (38, undef), (39, undef), (40, undef), (41, undef), (42, undef), (43, undef), (44, undef), (45, undef), (46, undef)] ++ [(15, (.int .i64 (i : Nat))), (16, (.bool true)), (17, (.bool true)), (18, (.string s)), (19, (.int .i64 (bg : Nat))), (20, (.int .i64 (j : Nat))), (21, (.string (s.extract bg j))), (22, (.int .i64 (C s j))), (23, (.int .i64 (C s i))), (24, (.bool bv)), (25, (.bool bv))]) [(.func yf #[] yc), (.pointer (some ⟨Bs, 0, none⟩)), (.pointer (some ⟨W.heap.size, 0, none⟩)), (.pointer (some ⟨W.heap.size + 1, 0, none⟩)), (.pointer (some ⟨W.heap.size + 1 + 1, 0, none⟩)), (.pointer (some ⟨W.heap.size + 1 + 1 + 1, 0, none⟩)), (.int .i64 (i : Nat)), (.int .i32 (rn s i : Nat)), (.int .i64 (C s i)), (.string s), (.func (.func 38) #[] #[.pointer (some ⟨W.heap.size + 1 + 1 + 1 + 1, 0, none⟩)]), (.int .i64 (i : Nat)), (.int .i32 (rn s i : Nat)), (.int .i32 (rn s i : Nat)), (.int .i64 (C s i)), (.int .i64 (i : Nat)), (.bool true), (.bool true), (.string s), (.int .i64 (bg : Nat)), (.int .i64 (j : Nat)), (.string (s.extract bg j)), (.int .i64 (C s j)), (.int .i64 (C s i)), (.bool bv), (.bool bv), undef, undef, undef, undef, undef, undef, undef, undef, undef, undef, undef, undef, undef, undef, undef, undef, undef, undef, undef, undef, undef] hsz2 hds (fun p hp => by
          rcases List.mem_append.1 hp with h | h
          · exact hb p h
          · simp only [List.mem_cons, List.not_mem_nil, or_false] at h
            rcases h with rfl | rfl | rfl | rfl | rfl | rfl | rfl | rfl | rfl | rfl | rfl
            · exact hv 0 (by decide)
            · exact hv 1 (by decide)
            · exact hv 2 (by decide)
            · exact hv 3 (by decide)
            · exact hv 4 (by decide)
            · exact hv 5 (by decide)
            · exact hv 6 (by decide)
            · exact hv 7 (by decide)
            · exact hv 8 (by decide)
            · exact hv 9 (by decide)
            · exact hv 10 (by decide)) rfl
        clear hb hv hds hsz2
        obtain ⟨h4, hbs5⟩ := hst6 W5 hi5
        have hb15 : Below W1.heap.size W1 W5 := hb3.trans (hb5.mono hb3.size)
        have hJ5 : J cm W5 := by have := hi5.2; rw [hcm] at this; exact this
        clear hst6 hi3 hb5 hb3
        cases bv with
        | false =>
          obtain ⟨hs1, hs2⟩ := cm_stay (s := s) hq hbv
          have hcm' : cmQ s (pre ++ [i]).reverse = cm := by rw [hs1, hcm]
          have hbg' : bgQ s (pre ++ [i]).reverse = bg := by rw [hs2, hbg]
          have h5 := (h4.setL i).setC (C s i)
          have c1 := h4.l.cell
          have c2 := h4.l.frozen
          have c3 := (h4.setL i).c.cell
          have c4 := (h4.setL i).c.frozen
          have hko := h4.koS (B' := W.heap.size + 5) (T' := W.heap.size + 8) (Bs' := W.heap.size + 1 + 1 + 1 + 1) (by omega) (by omega) i (C s i)
          have hJ6 := hJ.set (hJ.set hJ5 (show W.heap.size ≤ W.heap.size + 1 + 1 ∧ W.heap.size + 1 + 1 < W.heap.size + 8 by omega) (.int .i64 (i : Nat))) (show W.heap.size ≤ W.heap.size + 1 + 1 + 1 ∧ W.heap.size + 1 + 1 + 1 < W.heap.size + 8 by omega) (.int .i64 (C s i))
          have Hx := hide hbv
          clear hbv hbv2 hcm hbg hq hpre hs1 hs2
          gi_wp2
          exact ⟨((KO.of_below hb15).trans hko).mono (by simp) (by simp), IA.mk h5 hbg' hcm' hJ6⟩
        | true =>
          obtain ⟨⟨more, hmore⟩, hs1, hs2⟩ := cm_next hpre hq hbv
          rw [hcm, hbg] at hmore hs1
          have Hx := hide hbv
          clear hbv hbv2 hcm hbg hq hpre hbk
          gi_wp2
          refine wpIn_region_any (by kernel_rfl) ?_
          change wpAnyIn _ _ _ _ _ _ _ _ _ (World.drew _)
          have hb16 : Below W1.heap.size W1 W5.drew := hb15.drew
          have h46 : Cells4 s (.func yf #[] yc) W.heap.size bg j (C s j) W5.drew := h4.below (Below.refl _ _).drew
          have hbs6 : Boxed W5.drew Bs 9 (.string s) := boxed_below hbs5 (Below.refl _ _).drew
          have hJ6 : J cm W5.drew := hJ.later hJ5 (Below.refl _ _).drew
          generalize W5.drew = W6 at hb16 h46 hbs6 hJ6 ⊢
          clear hJ5 hbs5 h4 hb15 hi5
          obtain ⟨Po, hPo⟩ : ∃ Po : Bool → World → Prop, Po = fun b w => if b then J (cm ++ [(bg, i)]) w else Jx (cm ++ [(bg, i)]) w := ⟨_, rfl⟩
          have hyv := hY cm (bg, i) more W6 hmore (Nat.le_trans hz8 hb16.size) hJ6
          have hJB : ∀ w, KO W.heap.size (W.heap.size + 8) Bs W6 w → Cells4 s (.func yf #[] yc) W.heap.size bg j (C s j) w ∧ Boxed w Bs 9 (.string s) := fun w hk => ⟨h46.later hk (by omega), hk.box _ hbs6⟩
          refine region_in (fun _ => trivial) rfl true 6 (.inl rfl) 47 (fun j => 26 + j) [(0, (.func yf #[] yc)), (1, (.pointer (some ⟨Bs, 0, none⟩))), (2, (.pointer (some ⟨W.heap.size, 0, none⟩))), (3, (.pointer (some ⟨W.heap.size + 1, 0, none⟩))), (4, (.pointer (some ⟨W.heap.size + 1 + 1, 0, none⟩))), (5, (.pointer (some ⟨W.heap.size + 1 + 1 + 1, 0, none⟩))), (6, (.int .i64 (i : Nat))), (7, (.int .i32 (rn s i : Nat))), (8, (.int .i64 (C s i))), (9, (.string s)), (10, (.func (.func 38) #[] #[.pointer (some ⟨W.heap.size + 1 + 1 + 1 + 1, 0, none⟩)])), (11, (.int .i64 (i : Nat))), (12, (.int .i32 (rn s i : Nat))), (13, (.int .i32 (rn s i : Nat))), (14, (.int .i64 (C s i))), (15, (.int .i64 (i : Nat))), (16, (.bool true)), (17, (.bool true)), (18, (.string s)), (19, (.int .i64 (bg : Nat))), (20, (.int .i64 (j : Nat))), (21, (.string (s.extract bg j))), (22, (.int .i64 (C s j))), (23, (.int .i64 (C s i))), (24, (.bool true)), (25, (.bool true)), (34, undef), (35, undef), (36, undef), (37, undef), (38, undef), (39, undef), (40, undef), (41, undef), (42, undef), (43, undef), (44, undef), (45, undef), (46, undef)] (fun b w => KO W.heap.size (W.heap.size + 8) Bs W6 w ∧ (b = false → w = W6)) (valsOf [isV (.func yf #[] yc), isV (.int .i64 (bg : Nat)), isV (.string s), isV (.int .i64 (bg : Nat)), isV (.int .i64 (i : Nat)), isV (.string (s.extract bg i)), (fun w v => ∃ b6, v = .bool b6 ∧ Po b6 w), (fun w v => ∃ b7, v = .bool (!b7) ∧ Po b7 w)]) (fun i w w' => i ≠ 6 → w' = w) [] ?fit ?hV [] ?gs ?gv ?steps ?fin _ _ ?sz rfl ?base ⟨KO.refl _ _ _ _, fun _ => rfl⟩
          case fit => kernel_rfl
          case sz => rfl
          case gs => kernel_rfl
          case hV =>
            intro i' j' b w w' v hij hdep hJ hv hG
            by_cases h6 : i' = 6
            · subst h6
              match j', hij, hdep, hv with
              | 0, _, _, hv => exact hv
              | 1, _, _, hv => exact hv
              | 2, _, _, hv => exact hv
              | 3, _, _, hv => exact hv
              | 4, _, _, hv => exact hv
              | 5, _, _, hv => exact hv
              | 6, hij, _, _ => exact absurd rfl hij
              | 7, _, hdep, _ => exact Bool.noConfusion (Eq.trans (c := true) hdep.symm (by kernel_rfl))
              | _ + 8, _, _, _ => exact trivial
            · rw [hG h6]; exact hv
          case gv => intro p hp w v hv; cases hp
          case base => intro p hp; repeat (first | (rcases List.mem_cons.1 hp with rfl | hp; · rfl) | cases hp)
          case steps =>
            refine .cons (fun b ρ w hbm hρ hJ hb hd => by
              rw [if_neg (by decide)]
              have e1 := hb (2, _) (List.mem_of_getElem? (i := 2) rfl)
              have c1 := (hJB w hJ.1).1.y.cell
              exact stepIn_val (v := .func yf #[] yc) (w' := w) (fun c e => by cases e) (by simp [go_sem, execOp, e1, c1]) ⟨fun _ => rfl, by simpa using hJ, rfl⟩) ?_
            refine .cons (fun b ρ w hbm hρ hJ hb hd => by
              rw [if_neg (by decide)]
              have e1 := hb (3, _) (List.mem_of_getElem? (i := 3) rfl)
              have c1 := (hJB w hJ.1).1.b.cell
              exact stepIn_val (v := .int .i64 (bg : Nat)) (w' := w) (fun c e => by cases e) (by simp [go_sem, execOp, e1, c1]) ⟨fun _ => rfl, by simpa using hJ, rfl⟩) ?_
            refine .cons (fun b ρ w hbm hρ hJ hb hd => by
              rw [if_neg (by decide)]
              have e1 := hb (1, _) (List.mem_of_getElem? (i := 1) rfl)
              have c1 := (hJB w hJ.1).2.cell
              exact stepIn_val (v := .string s) (w' := w) (fun c e => by cases e) (by simp [go_sem, execOp, e1, c1]) ⟨fun _ => rfl, by simpa using hJ, rfl⟩) ?_
            refine .cons (fun b ρ w hbm hρ hJ hb hd => by
              rw [if_neg (by decide)]
              have e1 := hb (3, _) (List.mem_of_getElem? (i := 3) rfl)
              have c1 := (hJB w hJ.1).1.b.cell
              exact stepIn_val (v := .int .i64 (bg : Nat)) (w' := w) (fun c e => by cases e) (by simp [go_sem, execOp, e1, c1]) ⟨fun _ => rfl, by simpa using hJ, rfl⟩) ?_
            refine .cons (fun b ρ w hbm hρ hJ hb hd => by rw [if_neg (by decide)]; exact stepIn_move (.tmp 6) rfl ⟨fun _ => rfl, by simpa using hJ, hb (6, _) (List.mem_of_getElem? (i := 6) rfl)⟩) ?_
            refine .cons (fun b ρ w hbm hρ hJ hb hd => by
              rw [if_neg (by decide)]
              have d1 : ρ (.tmp 28) = .string s := hd 0 _ rfl rfl
              have d2 : ρ (.tmp 29) = .int .i64 (bg : Nat) := hd 1 _ rfl rfl
              have d3 : ρ (.tmp 30) = .int .i64 (i : Nat) := hd 2 _ rfl rfl
              have i1 : (bg : Int) ≤ (i : Int) := by omega
              have i2 : (i : Int) ≤ (s.size : Int) := by omega
              exact stepIn_val (v := .string (s.extract bg i)) (w' := w) (fun c e => by cases e) (by simp [go_sem, execOp, d1, d2, d3, i1, i2]) ⟨fun _ => rfl, by simpa using hJ, rfl⟩) ?_
            refine .cons (fun b ρ w hbm hρ hJ hb hd => by
              rw [if_neg (by decide)]
              have d1 : ρ (.tmp 26) = .func yf #[] yc := hd 0 _ rfl rfl
              have d2 : ρ (.tmp 27) = .int .i64 (bg : Nat) := hd 1 _ rfl rfl
              have d3 : ρ (.tmp 31) = .string (s.extract bg i) := hd 2 _ rfl rfl
              obtain rfl := hJ.2 (hbm rfl)
              refine stepIn_yv (.inr ⟨l, rfl⟩) hyv rfl d1 (by simp [d2, d3]) (fun b6 w' hr => ?_)
              exact ⟨fun h => absurd rfl h, ⟨hr.2, fun h => by simp at h⟩, b6, rfl, by rw [hPo]; exact hr.1⟩) ?_
            refine .cons (fun b ρ w hbm hρ hJ hb hd => by
              rw [if_neg (by decide)]
              obtain ⟨b6, d1, hp⟩ : ∃ b6, ρ (.tmp 32) = .bool b6 ∧ Po b6 w := hd 0 _ rfl rfl
              exact stepIn_val (v := .bool (!b6)) (w' := w) (fun c e => by cases e) (by simp [go_sem, execOp, d1]) ⟨fun _ => rfl, by simpa using hJ, b6, rfl, hp⟩) (.nil _)
          case fin =>
            intro a W7 hsz2 hds hb hJw hv
            obtain ⟨b6, hb6, _⟩ := hv 6 (by decide)
            obtain ⟨b7, hb7, hpo⟩ := hv 7 (by decide)
            obtain rfl := frame_of ([(0, (.func yf #[] yc)), (1, (.pointer (some ⟨Bs, 0, none⟩))), (2, (.pointer (some ⟨W.heap.size, 0, none⟩))), (3, (.pointer (some ⟨W.heap.size + 1, 0, none⟩))), (4, (.pointer (some ⟨W.heap.size + 1 + 1, 0, none⟩))), (5, (.pointer (some ⟨W.heap.size + 1 + 1 + 1, 0, none⟩))), (6, (.int .i64 (i : Nat))), (7, (.int .i32 (rn s i : Nat))), (8, (.int .i64 (C s i))), (9, (.string s)), (10, (.func (.func 38) #[] #[.pointer (some ⟨W.heap.size + 1 + 1 + 1 + 1, 0, none⟩)])), (11, (.int .i64 (i : Nat))), (12, (.int .i32 (rn s i : Nat))), (13, (.int .i32 (rn s i : Nat))), (14, (.int .i64 (C s i))), (15, (.int .i64 (i : Nat))), (16, (.bool true)), (17, (.bool true)), (18, (.string s)), (19, (.int .i64 (bg : Nat))), (20, (.int .i64 (j : Nat))), (21, (.string (s.extract bg j))), (22, (.int .i64 (C s j))), (23, (.int .i64 (C s i))), (24, (.bool true)), (25, (.bool true)), (34, undef), (35, undef), (36, undef), (37, undef), (38, undef), (39, undef), (40, undef), (41, undef), (42, undef), (43, undef), (44, undef), (45, undef), (46, undef)] ++ [(26, (.func yf #[] yc)), (27, (.int .i64 (bg : Nat))), (28, (.string s)), (29, (.int .i64 (bg : Nat))), (30, (.int .i64 (i : Nat))), (31, (.string (s.extract bg i))), (32, (.bool b6)), (33, (.bool (!b7)))]) [(.func yf #[] yc), (.pointer (some ⟨Bs, 0, none⟩)), (.pointer (some ⟨W.heap.size, 0, none⟩)), (.pointer (some ⟨W.heap.size + 1, 0, none⟩)), (.pointer (some ⟨W.heap.size + 1 + 1, 0, none⟩)), (.pointer (some ⟨W.heap.size + 1 + 1 + 1, 0, none⟩)), (.int .i64 (i : Nat)), (.int .i32 (rn s i : Nat)), (.int .i64 (C s i)), (.string s), (.func (.func 38) #[] #[.pointer (some ⟨W.heap.size + 1 + 1 + 1 + 1, 0, none⟩)]), (.int .i64 (i : Nat)), (.int .i32 (rn s i : Nat)), (.int .i32 (rn s i : Nat)), (.int .i64 (C s i)), (.int .i64 (i : Nat)), (.bool true), (.bool true), (.string s), (.int .i64 (bg : Nat)), (.int .i64 (j : Nat)), (.string (s.extract bg j)), (.int .i64 (C s j)), (.int .i64 (C s i)), (.bool true), (.bool true), (.func yf #[] yc), (.int .i64 (bg : Nat)), (.string s), (.int .i64 (bg : Nat)), (.int .i64 (i : Nat)), (.string (s.extract bg i)), (.bool b6), (.bool (!b7)), undef, undef, undef, undef, undef, undef, undef, undef, undef, undef, undef, undef, undef] hsz2 hds (fun p hp => by
              rcases List.mem_append.1 hp with h | h
              · exact hb p h
              · simp only [List.mem_cons, List.not_mem_nil, or_false] at h
                rcases h with rfl | rfl | rfl | rfl | rfl | rfl | rfl | rfl
                · exact hv 0 (by decide)
                · exact hv 1 (by decide)
                · exact hv 2 (by decide)
                · exact hv 3 (by decide)
                · exact hv 4 (by decide)
                · exact hv 5 (by decide)
                · exact hb6
                · exact hb7) rfl
            clear hb hv hds hsz2 hb6 hb7
            have hk7 := hJw.1
            obtain ⟨h47, hbs7⟩ := hJB W7 hk7
            have hk17 : KO (W.heap.size + 5) (W.heap.size + 8) (W.heap.size + 1 + 1 + 1 + 1) W1 W7 := (KO.of_below hb16).trans (hk7.inner (by omega) (by omega) (by omega))
            rw [hPo] at hpo
            clear hPo hJw hyv hJB hJ6 h46 hbs6
            cases b7 with
            | true =>
              rw [if_pos rfl] at hpo
              have c1 := h47.b.cell
              have c2 := h47.b.frozen
              have c3 := (h47.setB i).l.cell
              have c4 := (h47.setB i).l.frozen
              have c5 := ((h47.setB i).setL i).c.cell
              have c6 := ((h47.setB i).setL i).c.frozen
              have h5 := (((h47.setB i).setL i).setC (C s i))
              have hko := (KO.set (B := W.heap.size + 5) (T := W.heap.size + 8) (Bs := W.heap.size + 1 + 1 + 1 + 1) h47.b (by omega) (by omega) (.int .i64 (i : Nat))).trans ((h47.setB i).koS (by omega) (by omega) i (C s i))
              have hJ8 := hJ.set (hJ.set (hJ.set hpo (show W.heap.size ≤ W.heap.size + 1 ∧ W.heap.size + 1 < W.heap.size + 8 by omega) (.int .i64 (i : Nat))) (show W.heap.size ≤ W.heap.size + 1 + 1 ∧ W.heap.size + 1 + 1 < W.heap.size + 8 by omega) (.int .i64 (i : Nat))) (show W.heap.size ≤ W.heap.size + 1 + 1 + 1 ∧ W.heap.size + 1 + 1 + 1 < W.heap.size + 8 by omega) (.int .i64 (C s i))
              gi_wp2
              exact ⟨(hk17.trans hko).mono (by simp) (by simp), IA.mk h5 hs2 hs1 hJ8⟩
            | false =>
              rw [if_neg (by decide)] at hpo
              gi_wp2
              exact ⟨hk17.mono (by simp) (by simp), rfl, cm ++ [(bg, i)], more, by rw [← hmore]; simp, hpo⟩
  case done =>
    intro D W1 hD hz1 hi hKD
    have hz8 : W.heap.size + 8 ≤ W1.heap.size := by simp at hz1; omega
    clear hz1
    have h4 := hi.cells
    have hbs1 := hK _ _ hi.2
    have c1 := h4.b.cell
    have c2 := hbs1.cell
    obtain ⟨bg, hbg⟩ : ∃ bg, bgQ s (allL s).reverse = bg := ⟨_, rfl⟩
    rw [hbg] at h4 c1
    have hsD : W.heap.size ≤ D ∧ D < W.heap.size + 8 := by simp at hD; omega
    clear hD
    by_cases hz : s.size = 0
    · obtain ⟨hcp, hal⟩ := cp_empty hz
      have hb0 : bg = 0 := by rw [← hbg, hal]; rfl
      have hJ1 : J (cpL s) W1 := by rw [hcp]; have := hi.2; rw [hal] at this; exact this
      have i1 : ¬ (bg : Int) < (s.size : Int) := by omega
      clear hi hcp hal
      gi_wp2
      refine ⟨by simp, .inl ⟨_, _, rfl, run_takeDeferred hKD, ?_⟩⟩
      exact ⟨_, results_none rfl _ _ _, rfl, .inl ⟨hJ.put hJ1 D hsD _, by simp [World.putObj]; omega⟩⟩
    · obtain ⟨hla, hlt⟩ := cm_last (s := s) (by omega)
      rw [hbg] at hla hlt
      have i1 : (bg : Int) < (s.size : Int) := by omega
      have hyv := fun w (hz : W.heap.size + 8 ≤ w.heap.size) (h : J (cmQ s (allL s).reverse) w) => hY (cmQ s (allL s).reverse) (bg, s.size) [] w hla hz h
      have hJ1 := hi.2
      rw [hla] at hyv
      clear hi
      gi_wp2
      refine wpIn_region_any (by kernel_rfl) ?_
      change wpAnyIn _ _ _ _ _ _ _ _ _ (World.drew _)
      have h46 : Cells4 s (.func yf #[] yc) W.heap.size bg (lsQ (allL s).reverse) (lcQ s (allL s).reverse) W1.drew := h4.below (Below.refl _ _).drew
      have hbs6 : Boxed W1.drew Bs 9 (.string s) := boxed_below hbs1 (Below.refl _ _).drew
      have hJ6 : J (cmQ s (allL s).reverse) W1.drew := hJ.later hJ1 (Below.refl _ _).drew
      have hKD6 : W1.drew.heap[D]? = some (.deferred (some [])) := hKD
      have hz6 : W.heap.size + 8 ≤ W1.drew.heap.size := hz8
      generalize W1.drew = W6 at h46 hbs6 hJ6 hKD6 hz6 ⊢
      clear hJ1 hbs1 h4 hKD c1 c2
      obtain ⟨Po, hPo⟩ : ∃ Po : Bool → World → Prop, Po = fun b w => if b then J (cpL s) w else Jx (cpL s) w := ⟨_, rfl⟩
      have hJB : ∀ w, KO W.heap.size (W.heap.size + 8) Bs W6 w → Cells4 s (.func yf #[] yc) W.heap.size bg (lsQ (allL s).reverse) (lcQ s (allL s).reverse) w ∧ Boxed w Bs 9 (.string s) := fun w hk => ⟨h46.later hk (by omega), hk.box _ hbs6⟩
      refine region_in (fun _ => trivial) rfl true 5 (.inl rfl) 47 (fun j => 41 + j) [(1, (.pointer (some ⟨Bs, 0, none⟩))), (2, (.pointer (some ⟨W.heap.size, 0, none⟩))), (3, (.pointer (some ⟨W.heap.size + 1, 0, none⟩)))] (fun b w => KO W.heap.size (W.heap.size + 8) Bs W6 w ∧ (b = false → w = W6)) (valsOf [isV (.func yf #[] yc), isV (.int .i64 (bg : Nat)), isV (.string s), isV (.int .i64 (bg : Nat)), isV (.string (s.extract bg s.size)), (fun w v => ∃ b6, v = .bool b6 ∧ Po b6 w)]) (fun i w w' => i ≠ 5 → w' = w) _ ?fit ?hV [] ?gs ?gv ?steps ?fin _ _ ?sz rfl ?base ⟨KO.refl _ _ _ _, fun _ => rfl⟩
      case fit => kernel_rfl
      case sz => rfl
      case gs => kernel_rfl
      case hV =>
        intro i' j' b w w' v hij hdep hJ hv hG
        by_cases h6 : i' = 5
        · subst h6
          match j', hij, hv with
          | 0, _, hv => exact hv
          | 1, _, hv => exact hv
          | 2, _, hv => exact hv
          | 3, _, hv => exact hv
          | 4, _, hv => exact hv
          | 5, hij, _ => exact absurd rfl hij
          | _ + 6, _, _ => exact trivial
        · rw [hG h6]; exact hv
      case gv => intro p hp w v hv; cases hp
      case base => intro p hp; repeat (first | (rcases List.mem_cons.1 hp with rfl | hp; · rfl) | cases hp)
      case steps =>
        refine .cons (fun b ρ w hbm hρ hJ hb hd => by
          rw [if_neg (by decide)]
          have e1 := hb (2, _) (List.mem_of_getElem? (i := 1) rfl)
          have c1 := (hJB w hJ.1).1.y.cell
          exact stepIn_val (v := .func yf #[] yc) (w' := w) (fun c e => by cases e) (by simp [go_sem, execOp, e1, c1]) ⟨fun _ => rfl, by simpa using hJ, rfl⟩) ?_
        refine .cons (fun b ρ w hbm hρ hJ hb hd => by
          rw [if_neg (by decide)]
          have e1 := hb (3, _) (List.mem_of_getElem? (i := 2) rfl)
          have c1 := (hJB w hJ.1).1.b.cell
          exact stepIn_val (v := .int .i64 (bg : Nat)) (w' := w) (fun c e => by cases e) (by simp [go_sem, execOp, e1, c1]) ⟨fun _ => rfl, by simpa using hJ, rfl⟩) ?_
        refine .cons (fun b ρ w hbm hρ hJ hb hd => by
          rw [if_neg (by decide)]
          have e1 := hb (1, _) (List.mem_of_getElem? (i := 0) rfl)
          have c1 := (hJB w hJ.1).2.cell
          exact stepIn_val (v := .string s) (w' := w) (fun c e => by cases e) (by simp [go_sem, execOp, e1, c1]) ⟨fun _ => rfl, by simpa using hJ, rfl⟩) ?_
        refine .cons (fun b ρ w hbm hρ hJ hb hd => by
          rw [if_neg (by decide)]
          have e1 := hb (3, _) (List.mem_of_getElem? (i := 2) rfl)
          have c1 := (hJB w hJ.1).1.b.cell
          exact stepIn_val (v := .int .i64 (bg : Nat)) (w' := w) (fun c e => by cases e) (by simp [go_sem, execOp, e1, c1]) ⟨fun _ => rfl, by simpa using hJ, rfl⟩) ?_
        refine .cons (fun b ρ w hbm hρ hJ hb hd => by
          rw [if_neg (by decide)]
          have d1 : ρ (.tmp 43) = .string s := hd 0 _ rfl rfl
          have d2 : ρ (.tmp 44) = .int .i64 (bg : Nat) := hd 1 _ rfl rfl
          have i2 : (bg : Int) ≤ (s.size : Int) := by omega
          exact stepIn_val (v := .string (s.extract bg s.size)) (w' := w) (fun c e => by cases e) (by simp [go_sem, execOp, d1, d2, i2]) ⟨fun _ => rfl, by simpa using hJ, rfl⟩) ?_
        refine .cons (fun b ρ w hbm hρ hJ hb hd => by
          rw [if_neg (by decide)]
          have d1 : ρ (.tmp 41) = .func yf #[] yc := hd 0 _ rfl rfl
          have d2 : ρ (.tmp 42) = .int .i64 (bg : Nat) := hd 1 _ rfl rfl
          have d3 : ρ (.tmp 45) = .string (s.extract bg s.size) := hd 2 _ rfl rfl
          obtain rfl := hJ.2 (hbm rfl)
          refine stepIn_yv (.inl rfl) (hyv _ hz6 hJ6) rfl d1 (by simp [d2, d3]) (fun b6 w' hr => ?_)
          exact ⟨fun h => absurd rfl h, ⟨hr.2, fun h => by simp at h⟩, b6, rfl, by rw [hPo]; exact hr.1⟩) (.nil _)
      case fin =>
        intro a W7 hsz2 hds hb hJw hv
        obtain ⟨b6, hb6, hpo⟩ := hv 5 (by decide)
        have hk7 := hJw.1
        have hKD7 : W7.heap[D]? = some (.deferred (some [])) := (hk7.over D hsD.1 hsD.2 (Array.getElem?_eq_some_iff.1 hKD6).1).trans hKD6
        rw [hPo] at hpo
        clear hb hv hb6
        obtain ⟨at9, ad9⟩ := a
        dsimp only at hds hsz2
        subst hds
        gi_wp2
        refine ⟨by simp, .inl ⟨_, _, rfl, run_takeDeferred hKD7, ?_⟩⟩
        cases b6 with
        | true =>
          rw [if_pos rfl] at hpo
          exact ⟨_, results_none rfl _ _ _, rfl, .inl ⟨hJ.put hpo D hsD _, by simp [World.putObj]; have := hk7.size; omega⟩⟩
        | false =>
          rw [if_neg (by decide)] at hpo
          exact ⟨_, results_none rfl _ _ _, rfl, .inr ⟨cpL s, [], by simp, hJx.put hpo D hsD _⟩⟩
  case stop =>
    rintro D c pre rest W1 hD hpre ⟨rfl, q, more, hq, hx⟩ hKD
    have hsD : W.heap.size ≤ D ∧ D < W.heap.size + 8 := by simp at hD; omega
    clear hD
    gi_wp2
    refine ⟨by simp, .inl ⟨_, _, rfl, run_takeDeferred hKD, ?_⟩⟩
    exact ⟨_, results_none rfl _ _ _, rfl, .inr ⟨q, more, hq, hJx.put hx D hsD _⟩⟩

end Go.Proofs.Ytiakhpfljjfaeaa
