/-
  Chapter 8's law OpNothing returns true for every operation, and leaves its argument as it was; no condition.
-/
import Derived.Test.YtknnfahbpekmoaaRows
import Derived.WalkKit
import Derived.ProofKit
import Derived.OpenShut
import Derived.ShutString
import Derived.ChangeOld
import Derived.Below
import Derived.Test.YtknnfahbpekmoaaZQ5
import Derived.Test.YtknnfahbpekmoaaZQ6
set_option linter.unusedVariables false
set_option linter.unusedSimpArgs false
namespace Go.Proofs.Ytknnfahbpekmoaa
namespace LOpNothing
open Go.ChangeShapes Go.WideShapes Go.ChangeAt Go.RowKit Go.Lib
open Go.ChangeMaps (open_string shut_string)

theorem nth1 : rNum [128, 0] 0 = (0, [128, 0], 6) := by kernel_rfl
theorem nth2 : takeO ([128, 0], 6) = ((zO, 6), ([128, 0], 6)) := by kernel_rfl
theorem zSame_in (a b a' b' : Option Addr) (c d c' d' : Nat) (W : World) : Calls Try.prog 12 #[opA zO (.slice a 0 c) (.slice b 0 d), opA zO (.slice a' 0 c') (.slice b' 0 d')] W fun e W' => e = .returned (.bool true) ∧ Below W.heap.size W W' := by
  have := same_in zO zO (.slice a 0 c) (.slice b 0 d) (.slice a' 0 c') (.slice b' 0 d') W (.inl ⟨rfl, _, _, rfl⟩) (.inl ⟨rfl, _, _, rfl⟩) (.inl ⟨rfl, _, _, rfl⟩) (.inl ⟨rfl, _, _, rfl⟩) (by decide) (by decide)
  rwa [(sameB_iff zO zO).2 rfl] at this

set_option maxRecDepth 100000 in
set_option maxHeartbeats 4000000 in
theorem walk (o : Opn) (ad ag : Option Addr) (cd cg : Nat) (w : World) (w0 : RI w (.slice ad o.deps.length cd) o.deps ∧ RR w (.slice ag o.gone.length cg) o.gone ∧ InA o) :
    Calls Try.prog 3 #[opA o (.slice ad o.deps.length cd) (.slice ag o.gone.length cg)] w fun e W => e = .returned (.bool true) ∧ Below w.heap.size w W := by
  obtain ⟨hd, hg, hi⟩ := w0
  obtain ⟨X, hX⟩ : ∃ X, w.alloc (.cells #[.int .i64 o.ds, .int .i64 o.dq, .slice ad o.deps.length cd, .int .i64 o.kind, .int .i64 o.it, .int .i64 o.is, .int .i64 o.rt, .int .i64 o.rs, .string o.text, .slice ag o.gone.length cg, .int .i64 o.site] 30) = X := ⟨_, rfl⟩
  have HX : Bx X w.heap.size 30 #[.int .i64 o.ds, .int .i64 o.dq, .slice ad o.deps.length cd, .int .i64 o.kind, .int .i64 o.it, .int .i64 o.is, .int .i64 o.rt, .int .i64 o.rs, .string o.text, .slice ag o.gone.length cg, .int .i64 o.site] := by rw [← hX]; exact Bx.new w _ _
  have bX : Below w.heap.size w X := by rw [← hX]; exact ballc (Below.refl _ _) _
  have HD : Hid (RI X (.slice ad o.deps.length cd) o.deps) := hd.below bX
  have HG : Hid (RR X (.slice ag o.gone.length cg) o.gone) := RC.below hg bX
  have HL := hide (long_in o ad ag cd cg X hi.text)
  have HK := hide (fun W => known_in W)
  obtain ⟨x0, x1, x2, x3, x4, x5, x6, x7, x8, x9, x10⟩ := cells_op HX
  have xl := HX.lt
  replace HX := hide HX
  have B0 := hide bX
  have HI := hide hi
  clear hd hg bX hi
  cases hlo : longO o
  · rw [hlo] at HL
    have hin : InO o := by
      unfold longO at hlo
      simp at hlo
      exact (unhide HI).fit (by omega) (by omega) (by omega)
    have HP := hide (fun (W : World) hd hg => OPut_nil o (.slice ad o.deps.length cd) (.slice ag o.gone.length cg) W hin hd hg)
    clear hlo hin HI
    unfold opA at HL HP ⊢
    go_enter Try.func3, Try.ntmps3
    go_wp2_with fail
    refine (unhide HL).mono ?_
    rintro r W1 ⟨rfl, hb⟩
    replace HX := hide ((unhide HX).below hb)
    replace HD := hide ((unhide HD).below hb)
    replace HG := hide (RC.below (unhide HG) hb)
    replace B0 := hide (bnext (unhide B0) hb)
    clear hb HL hX x0 x1 x2 x3 x4 x5 x6 x7 x8 x9 x10 xl
    obtain ⟨x0, x1, x2, x3, x4, x5, x6, x7, x8, x9, x10⟩ := cells_op (unhide HX)
    have HN := hide (unhide HP W1 (unhide HD) (unhide HG))
    go_wp2_with fail
    refine (unhide HN).mono ?_
    rintro r W2 ⟨rfl, hb⟩
    replace B0 := hide (bnext (unhide B0) hb)
    clear hb HN HP x0 x1 x2 x3 x4 x5 x6 x7 x8 x9 x10 HX HD HG
    have HN := hide (OTake_nil W2)
    unfold opA at HN
    simp only [zO] at HN
    go_wp2_with fail
    refine (unhide HN).mono ?_
    rintro r W3 ⟨rfl, hb⟩
    replace B0 := hide (bnext (unhide B0) hb)
    clear hb HN
    obtain ⟨Y, hY⟩ : ∃ Y, (W3.alloc (.cells #[.int .i64 0, .int .i64 0, .slice none 0 0, .int .i64 0, .int .i64 0, .int .i64 0, .int .i64 0, .int .i64 0, .string ⟨#[]⟩, .slice none 0 0, .int .i64 0] 30)).alloc (.cells #[.int .u8 128, .int .u8 0] 5) = Y := ⟨_, rfl⟩
    have HY : Bx Y W3.heap.size 30 #[.int .i64 0, .int .i64 0, .slice none 0 0, .int .i64 0, .int .i64 0, .int .i64 0, .int .i64 0, .int .i64 0, .string ⟨#[]⟩, .slice none 0 0, .int .i64 0] := by rw [← hY]; exact (Bx.new W3 _ _).below (ballc (Below.refl _ _) _)
    have bY : Below W3.heap.size W3 Y := by rw [← hY]; exact ballc (ballc (Below.refl _ _) _) _
    have HR : RC Y (.slice (some ⟨W3.heap.size + 1, 0, none⟩) 2 2) ([128, 0] : List Nat).length (bC [128, 0]) := by
      rw [← hY]
      have := RC.lit (W3.alloc (.cells #[.int .i64 0, .int .i64 0, .slice none 0 0, .int .i64 0, .int .i64 0, .int .i64 0, .int .i64 0, .int .i64 0, .string ⟨#[]⟩, .slice none 0 0, .int .i64 0] 30)) 5 #[.int .u8 128, .int .u8 0] 2
      rw [World.size_alloc] at this
      exact this
    have HN := hide (rReadL_in Y _ [128, 0] HR (by decide) (by decide))
    have hYs := HY.lt
    replace HY := hide HY
    replace B0 := hide (bnext (unhide B0) bY)
    clear HR bY
    go_wp2_with fail
    refine (unhide HN).mono ?_
    rintro r W4 ⟨p, v, rfl, hr, hb, hp, hv⟩
    replace HY := hide ((unhide HY).below hb)
    have hYp : W3.heap.size < p := by omega
    have bp := hide hb
    have HN2 := hide (rNumber_in hr)
    rw [nth1] at HN2
    simp only at HN2
    replace hv := hide hv
    have hpY := hp
    clear HN hr hb hY
    go_wp2_with fail
    refine (unhide HN2).mono ?_
    rintro r W5 ⟨rfl, v5, hr, hk, hv5⟩
    replace HY := hide ((unhide HY).kp hk (by omega))
    replace bp := hide (hk.below (unhide bp) (fun i e => by omega))
    have HN3 := hide (OTake_in (st := ([128, 0], 6)) hr (fun k hk' => Nat.lt_of_lt_of_le (unhide hv k (by rw [← hv5]; exact hk')).2 hk.size))
    rw [nth2] at HN3
    simp only at HN3
    clear HN2 hr hk hv5 hv
    go_wp2_with fail
    refine (unhide HN3).mono ?_
    rintro r W6 ⟨vd, vg, rfl, ho, hg, hne, v6, hr, hk, hv6⟩
    replace HY := hide ((unhide HY).kp hk (by omega))
    replace bp := hide (hk.below (unhide bp) (fun i e => by omega))
    replace B0 := hide (bnext (unhide B0) (unhide bp))
    obtain ⟨av, cv, rfl⟩ := OwD.form ho
    obtain ⟨au, cu, rfl⟩ := OwR.form hg
    have HR := hide hr
    clear ho hg hne hr hk hv6 HN3 bp
    unfold opA
    simp only [zO, List.length_nil]
    obtain ⟨Z, hZ⟩ : ∃ Z, W6.alloc (.cells #[.int .i64 0, .int .i64 0, .slice av 0 cv, .int .i64 0, .int .i64 0, .int .i64 0, .int .i64 0, .int .i64 0, .string ⟨#[]⟩, .slice au 0 cu, .int .i64 0] 30) = Z := ⟨_, rfl⟩
    have HZ : Bx Z W6.heap.size 30 #[.int .i64 0, .int .i64 0, .slice av 0 cv, .int .i64 0, .int .i64 0, .int .i64 0, .int .i64 0, .int .i64 0, .string ⟨#[]⟩, .slice au 0 cu, .int .i64 0] := by rw [← hZ]; exact Bx.new W6 _ _
    have bZ : Below W6.heap.size W6 Z := by rw [← hZ]; exact ballc (Below.refl _ _) _
    replace HY := hide ((unhide HY).below bZ)
    replace HR := hide ((unhide HR).below bZ)
    replace B0 := hide (bnext (unhide B0) bZ)
    have HS := hide (fun W => zSame_in none none none none 0 0 0 0 W)
    have HS2 := hide (fun W => zSame_in av au none none cv cu 0 0 W)
    unfold opA at HS HS2
    simp only [zO] at HS HS2
    obtain ⟨y0, y1, y2, y3, y4, y5, y6, y7, y8, y9, y10⟩ := cells_op (unhide HY)
    have f10 := HZ.frozen 10
    have c10 := HZ.cell 10 _ rfl
    have s10 : Z.setCell ⟨W6.heap.size, 10, none⟩ (.int .i64 0) = Z := HZ.same 10 _ rfl
    have yl := (unhide HY).lt
    have zl := HZ.lt
    replace HZ := hide HZ
    clear bZ
    go_wp2_with fail
    refine (unhide HS _).mono ?_
    rintro r W7 ⟨rfl, hb⟩
    replace HZ := hide ((unhide HZ).below hb)
    replace HR := hide ((unhide HR).below hb)
    replace B0 := hide (bnext (unhide B0) hb)
    clear hb HS y0 y1 y2 y3 y4 y5 y6 y7 y8 y9 y10 f10 c10 s10 yl zl hZ
    obtain ⟨z0, z1, z2, z3, z4, z5, z6, z7, z8, z9, z10⟩ := cells_op (unhide HZ)
    go_wp2_with fail
    refine (unhide HS2 _).mono ?_
    rintro r W8 ⟨rfl, hb⟩
    replace HR := hide ((unhide HR).below hb)
    replace B0 := hide (bnext (unhide B0) hb)
    clear hb HS2 z0 z1 z2 z3 z4 z5 z6 z7 z8 z9 z10 HZ
    have HF := hide (rLeft_in (unhide HR))
    simp only [List.length_cons, List.length_nil] at HF
    go_wp2_with fail
    refine (unhide HF).mono ?_
    rintro r W9 ⟨rfl, rfl⟩
    go_wp2_with fail
    refine (unhide HK _).mono ?_
    rintro r W9 ⟨rfl, hb⟩
    replace B0 := hide (bnext (unhide B0) hb)
    go_wp2
    go_ret
    exact ⟨rfl, unhide B0⟩
  · rw [hlo] at HL
    clear hlo HI
    unfold opA at HL ⊢
    go_enter Try.func3, Try.ntmps3
    go_wp2_with fail
    refine (unhide HL).mono ?_
    rintro r W1 ⟨rfl, hb⟩
    replace B0 := hide (bnext (unhide B0) hb)
    clear hb HL
    go_wp2_with fail
    refine (unhide HK _).mono ?_
    rintro r W2 ⟨rfl, hb⟩
    replace B0 := hide (bnext (unhide B0) hb)
    go_wp2
    go_ret
    exact ⟨rfl, unhide B0⟩

theorem own : ownKnob Try.prog.godebug = none := by kernel_rfl
theorem laidOut2 : laidOutB Try.prog = true := by kernel_rfl

set_option maxRecDepth 100000 in
theorem lifted (os : Os) (started : os.Started) (H : Type) (enc : TypeId × Value → H) :
    ReturnsInHanded {} Try.checked os 3 .any (Rows.opNothingSpec.pre6 enc Try.prog Try.f3 Rows.opNothingRow.domain false) (Rows.opNothingSpec.post enc Try.prog Try.f3 false true false false) := by
  refine returnsInHanded_of_change (C := Try.checked) own started (by kernel_rfl) Try.func3
    (ChangeSpec.witness6 (enc := enc) (C := Try.checked) false ⟨#[], #[.agg #[.int .i64 0, .int .i64 0, .slice none 0 0, .int .i64 0, .int .i64 0, .int .i64 0, .int .i64 0, .int .i64 0, .string ByteArray.empty, .slice none 0 0, .int .i64 0]], []⟩ 8 (by kernel_rfl) (by kernel_rfl) (by kernel_rfl) (by kernel_rfl)) ?_
  intro W base args ds gs before hval0 hW hcnd _
  have hval : ∀ (j : Nat) t v, Try.f3.params[j]? = some t → args[j]? = some v → Value.okWide Try.prog W .any base t v := hval0
  have hW' := hW
  obtain ⟨p, q, hA0, hV, rfl, hfz, hnd⟩ := hW
  have hA : DataW.TrodAll enc Try.prog W 0 (fun _ => true) true Try.f3.params.toList args.toList ds p := hA0
  rw [Try.params3] at hA hval
  obtain ⟨v0, vs0, d0, ds0, p0, q0, hargs, rfl, rfl, h0, r0⟩ := trodAll_cons hA
  obtain ⟨rfl, rfl, rfl⟩ := trodAll_nil r0
  obtain rfl : args = #[v0] := by cases args; simp_all
  obtain ⟨rfl, rfl⟩ := trodVars_none hV
  have k0 := h0
  have lt0 : ∀ x ∈ p0, x.block < W.heap.size := by obtain ⟨m, hm⟩ := k0; exact DataW.trod_lt m _ _ _ hm
  obtain ⟨o0, ad0, ag0, cd0, cg0, rfl, w0⟩ := open_op (hval 0 30 v0 rfl rfl) h0
  clear hA0 hval0
  refine (walk o0 ad0 ag0 cd0 cg0 W w0).mono fun e W' ⟨he, bel⟩ => ?_
  subst he
  exact ⟨_, rfl, _, _, _, [], _, [], hW', trodAll_mk1 (shut_bool Try.underlying4 _), (trodAll_cons_mk (Below.trod laidOut2 (by kernel_rfl) (of_decide_eq_true (by kernel_rfl)) k0 bel lt0) trodAll_mk0), rfl, bel.frame _, fun h => by cases h⟩

theorem over : Rows.opNothingRow.holds Try.pinned (OpenSpec.ofChange Rows.opNothingSpec) :=
  OpenClaim.holds_of_wide 3 Try.f3 rfl rfl rfl rfl rfl rfl rfl ⟨rfl, rfl, rfl, rfl, rfl⟩ rfl rfl rfl rfl rfl (by kernel_rfl) Try.func3 (by kernel_rfl)
    (of_decide_eq_true (by kernel_rfl)) (by unfold Func.isWrapper; first | (rw [if_pos (by decide +kernel)]; kernel_rfl) | (rw [if_neg (by decide +kernel)]; exact ⟨rfl, rfl⟩))
    (fun os started H enc _ => lifted os started H enc)

end LOpNothing

theorem opNothing_holds : Rows.OpNothingSaid := LOpNothing.over

end Go.Proofs.Ytknnfahbpekmoaa
