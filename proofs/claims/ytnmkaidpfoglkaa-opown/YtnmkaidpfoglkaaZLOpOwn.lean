/-
  Chapter 8's law OpOwn returns true for every operation, and leaves its argument as it was; no condition.
-/
import Derived.Test.YtnmkaidpfoglkaaRows
import Derived.WalkKit
import Derived.ProofKit
import Derived.OpenShut
import Derived.ShutString
import Derived.ChangeOld
import Derived.Below
import Derived.Test.YtnmkaidpfoglkaaZQ5
import Derived.Test.YtnmkaidpfoglkaaZQ4
import Derived.Test.YtnmkaidpfoglkaaZXN
import Derived.Test.YtnmkaidpfoglkaaZFB8
import Derived.Deep.CutRange
import Derived.Deep.RegionWith
set_option linter.unusedVariables false
set_option linter.unusedSimpArgs false
namespace Go.Proofs.Ytnmkaidpfoglkaa
namespace LOpOwn
open Go.ChangeShapes Go.WideShapes Go.ChangeAt Go.RowKit Go.Lib
open Go.ChangeMaps (open_string shut_string)

open O

theorem ob_len (o : Opn) : 0 < (ob o).length := by
  unfold ob
  have : 0 < (num o.kind.toNat).length := by
    unfold num
    rw [numF]
    split <;> simp
  simp
  omega
theorem owns_some {W : World} {B : Nat} {v : Value} {l : List Nat} (h : W.ownsRow B 5 1 v l.length (bC l)) (hl : 0 < l.length) : ∃ g c, v = .slice (some ⟨g, 0, none⟩) l.length c ∧ l.length ≤ c := by
  rcases h.2 with ⟨_, e⟩ | ⟨g, cap, cur, e, _, _, h1, _⟩
  · omega
  · exact ⟨g, cap, e, h1⟩

theorem numF_byte : ∀ (f n : Nat), n < 128 ^ (f + 1) → ∀ b ∈ numF f n, b < 256
  | 0, n, h => by
    intro b hb
    simp only [Nat.zero_add, Nat.pow_one] at h
    rw [numF] at hb
    simp at hb
    omega
  | f + 1, n, h => by
    intro b hb
    rw [numF] at hb
    split at hb
    · simp at hb; omega
    · rcases List.mem_cons.1 hb with rfl | hb
      · omega
      · exact numF_byte f (n / 128) (Nat.div_lt_of_lt_mul (by rw [Nat.mul_comm, ← Nat.pow_succ]; exact h)) b hb
theorem num_byte {n : Nat} (h : n < 9223372036854775808) : ∀ b ∈ num n, b < 256 := numF_byte 10 n (by
  have : (128 : Nat) ^ 11 = 151115727451828646838272 := by decide
  omega)
theorem sB_byte (t : ByteArray) : ∀ b ∈ sB t, b < 256 := by
  intro b hb
  unfold sB at hb
  obtain ⟨x, _, rfl⟩ := List.mem_map.1 hb
  exact x.toNat_lt
theorem pb_byte (d : List (Int × Int)) (h : chk d = 0) : ∀ b ∈ pb d, b < 256 := by
  intro b hb
  unfold pb at hb
  obtain ⟨x, hx, hb⟩ := List.mem_flatMap.1 hb
  have hv := vec_of_chk h
  rw [← hv] at hx
  have := vec_in (sy_good d) hx
  rcases List.mem_append.1 hb with hb | hb
  · exact num_byte (by omega) b hb
  · exact num_byte (by omega) b hb
theorem gb_byte (g : List ((Int × Int) × Int)) (h : ∀ r ∈ g, isR r = true) : ∀ b ∈ gb g, b < 256 := by
  intro b hb
  unfold gb at hb
  obtain ⟨r, hr, hb⟩ := List.mem_flatMap.1 hb
  have := isR_full (h r hr)
  rcases List.mem_append.1 hb with hb | hb
  · exact num_byte (by omega) b hb
  · rcases List.mem_append.1 hb with hb | hb
    · exact num_byte (by omega) b hb
    · exact num_byte (by omega) b hb
theorem ob_byte {o : Opn} (h : okO o = true) (ht : o.text.size < 9223372036854775808) (hd : o.deps.length < 9223372036854775808) : ∀ b ∈ ob o, b < 256 := by
  have k := OkN.of h
  have hk := k.kind
  have h1 := k.ds
  have h2 := k.dq
  intro b hb
  unfold ob at hb
  simp only [List.mem_append] at hb
  rcases hb with hb | hb | hb | (hb | hb) | hb
  · exact num_byte (by omega) b hb
  · exact num_byte (by omega) b hb
  · exact num_byte (by omega) b hb
  · exact num_byte hd b hb
  · exact pb_byte _ k.deps b hb
  · unfold kb at hb
    split at hb
    · rename_i e
      obtain ⟨_, i1, i2, i3, _⟩ := k.ins e
      simp only [List.mem_append] at hb
      rcases hb with hb | hb | hb | hb | hb
      · exact num_byte (by omega) b hb
      · exact num_byte (by omega) b hb
      · exact num_byte (by omega) b hb
      · exact num_byte ht b hb
      · exact sB_byte _ b hb
    · split at hb
      · rename_i e
        obtain ⟨_, _, _, _, _, _, i7, i8⟩ := k.del e
        rcases List.mem_append.1 hb with hb | hb
        · exact num_byte (by omega) b hb
        · exact gb_byte _ i8 b hb
      · split at hb
        · rename_i e
          obtain ⟨_, _, _, _, _, _, i7, i8⟩ := k.join e
          exact num_byte (by omega) b hb
        · cases hb

theorem own_addr {W : World} {B e s n c : Nat} {ag : Option Addr} {xs : List Value} (h : W.ownsRow B e s (.slice ag n c) n xs) : (ag = none ∧ n = 0 ∧ c = 0) ∨ ∃ g, ag = some ⟨g, 0, none⟩ := by
  rcases h.2 with ⟨e0, _⟩ | ⟨g, cap, cur, e1, _⟩
  · simp only [Value.slice.injEq] at e0
    exact .inl e0
  · simp only [Value.slice.injEq] at e1
    exact .inr ⟨g, e1.1⟩
theorem new_cells (W : World) (cs : Array Value) (t : TypeId) : ∀ j u, cs.toList[j]? = some u → (W.alloc (.cells cs t)).cell? ((⟨W.heap.size, 0, none⟩ : Addr).add j) = some u := by
  intro j u h
  rw [Addr.add_lit, Nat.zero_add]
  exact (Bx.new W t cs).cell j u (by simpa using h)


theorem infoBo : (Try.prog.info? 5).map (fun i => (i.zero, i.size, i.bytes)) = some (some (.int .u8 0), 1, 1) := by kernel_rfl
theorem infoDo : (Try.prog.info? 23).map (fun i => (i.zero, i.size, i.bytes)) = some (some (.agg #[.int .i64 0, .int .i64 0]), 2, 16) := by kernel_rfl
theorem infoRo : (Try.prog.info? 36).map (fun i => (i.zero, i.size, i.bytes)) = some (some (.agg #[.int .i64 0, .int .i64 0, .int .i64 0]), 3, 24) := by kernel_rfl

abbrev nl : Value := .slice none 0 0
/-- two arrays of nothing -/
theorem M.start (W1 : World) (N D G : Nat) : ∃ v n xs, M W1 W1.heap.size (W1.heap.size + 1) N D G 0 false v n xs ((W1.alloc (.cells #[nl, nl, nl] 42)).alloc (.cells #[.int .i64 0, .int .i64 0, nl, .int .i64 0, .int .i64 0, .int .i64 0, .int .i64 0, .int .i64 0, .string ⟨#[]⟩, nl, .int .i64 0, .int .i64 0, .int .i64 0, nl, .int .i64 0, .int .i64 0, .int .i64 0, .int .i64 0, .int .i64 0, .string ⟨#[]⟩, nl, .int .i64 0, .int .i64 0, .int .i64 0, nl, .int .i64 0, .int .i64 0, .int .i64 0, .int .i64 0, .int .i64 0, .string ⟨#[]⟩, nl, .int .i64 0] 43)) := by
  have b0 := (box_own W1 W1.heap.size 3 1 (Nat.le_refl _) 42 #[nl, nl, nl] (by omega) (by unfold maxLen; omega) rfl).alloc (.cells #[.int .i64 0, .int .i64 0, nl, .int .i64 0, .int .i64 0, .int .i64 0, .int .i64 0, .int .i64 0, .string ⟨#[]⟩, nl, .int .i64 0, .int .i64 0, .int .i64 0, nl, .int .i64 0, .int .i64 0, .int .i64 0, .int .i64 0, .int .i64 0, .string ⟨#[]⟩, nl, .int .i64 0, .int .i64 0, .int .i64 0, nl, .int .i64 0, .int .i64 0, .int .i64 0, .int .i64 0, .int .i64 0, .string ⟨#[]⟩, nl, .int .i64 0] 43)
  have b1 := box_own (W1.alloc (.cells #[nl, nl, nl] 42)) W1.heap.size 3 11 (by simp) 43 #[.int .i64 0, .int .i64 0, nl, .int .i64 0, .int .i64 0, .int .i64 0, .int .i64 0, .int .i64 0, .string ⟨#[]⟩, nl, .int .i64 0, .int .i64 0, .int .i64 0, nl, .int .i64 0, .int .i64 0, .int .i64 0, .int .i64 0, .int .i64 0, .string ⟨#[]⟩, nl, .int .i64 0, .int .i64 0, .int .i64 0, nl, .int .i64 0, .int .i64 0, .int .i64 0, .int .i64 0, .int .i64 0, .string ⟨#[]⟩, nl, .int .i64 0] (by omega) (by unfold maxLen; omega) rfl
  simp only [World.size_alloc] at b1
  refine ⟨fun j => if j < 18 then nl else .slice (some ⟨W1.heap.size + (j - 18), 0, none⟩) 3 3, fun j => if j < 18 then 0 else 3, fun j => if j < 18 then [] else if j = 18 then [nl, nl, nl] else [.int .i64 0, .int .i64 0, nl, .int .i64 0, .int .i64 0, .int .i64 0, .int .i64 0, .int .i64 0, .string ⟨#[]⟩, nl, .int .i64 0, .int .i64 0, .int .i64 0, nl, .int .i64 0, .int .i64 0, .int .i64 0, .int .i64 0, .int .i64 0, .string ⟨#[]⟩, nl, .int .i64 0, .int .i64 0, .int .i64 0, nl, .int .i64 0, .int .i64 0, .int .i64 0, .int .i64 0, .int .i64 0, .string ⟨#[]⟩, nl, .int .i64 0], ⟨⟨⟨fun j hj => ?_, fun j k hj hk hne => ?_, ?_⟩, ⟨rfl, rfl, rfl⟩, ⟨rfl, rfl, fun j hj => (by omega)⟩⟩, fun j hj => (by omega), fun j hj => ?_, fun e => (by cases e)⟩⟩
  · by_cases h : j < 18
    · simp only [h, if_true]
      exact World.ownsRow_nil _ _ _ _
    · have : j = 18 ∨ j = 19 := by omega
      rcases this with rfl | rfl
      · exact b0
      · exact b1
  · by_cases h : j < 18
    · simp only [h, if_true]; exact Apart.none _
    · by_cases h2 : k < 18
      · simp only [h2, if_true]; exact (Apart.none _).symm
      · simp only [h, h2, if_false]
        refine .inr fun e => hne ?_
        simp [Value.ownBlock] at e
        rw [show j = k by omega]
  · exact ballc (ballc (Below.refl _ _) _) _
  · simp only [show 9 + j < 18 by omega, if_true]

set_option maxRecDepth 100000 in
set_option maxHeartbeats 8000000 in
theorem walk (o : Opn) (ad ag : Option Addr) (cd cg : Nat) (w : World) (w0 : RI w (.slice ad o.deps.length cd) o.deps ∧ RR w (.slice ag o.gone.length cg) o.gone ∧ InA o) :
    Calls Try.prog 4 #[opA o (.slice ad o.deps.length cd) (.slice ag o.gone.length cg)] w fun e W => e = .returned (.bool true) ∧ Below w.heap.size w W := by
  obtain ⟨iB, jBi, jB0, jB1, jB2⟩ := info_parts infoBo
  have JBi := hide jBi
  have JB0 := hide jB0
  have JB1 := hide jB1
  have JB2 := hide jB2
  clear jBi jB0 jB1 jB2
  obtain ⟨iD, jDi, jD0, jD1, jD2⟩ := info_parts infoDo
  have JDi := hide jDi
  have JD0 := hide jD0
  have JD1 := hide jD1
  have JD2 := hide jD2
  clear jDi jD0 jD1 jD2
  obtain ⟨iR, jRi, jR0, jR1, jR2⟩ := info_parts infoRo
  have JRi := hide jRi
  have JR0 := hide jR0
  have JR1 := hide jR1
  have JR2 := hide jR2
  clear jRi jR0 jR1 jR2
  obtain ⟨hd, hg, hi⟩ := w0
  obtain ⟨X, hX⟩ : ∃ X, w.alloc (.cells #[.int .i64 o.ds, .int .i64 o.dq, .slice ad o.deps.length cd, .int .i64 o.kind, .int .i64 o.it, .int .i64 o.is, .int .i64 o.rt, .int .i64 o.rs, .string o.text, .slice ag o.gone.length cg, .int .i64 o.site] 30) = X := ⟨_, rfl⟩
  have HX : Bx X w.heap.size 30 #[.int .i64 o.ds, .int .i64 o.dq, .slice ad o.deps.length cd, .int .i64 o.kind, .int .i64 o.it, .int .i64 o.is, .int .i64 o.rt, .int .i64 o.rs, .string o.text, .slice ag o.gone.length cg, .int .i64 o.site] := by rw [← hX]; exact Bx.new w _ _
  have bX : Below w.heap.size w X := by rw [← hX]; exact ballc (Below.refl _ _) _
  have HA := hide (fun (W : World) (h : Below X.heap.size X W) => show Bx W w.heap.size 30 #[.int .i64 o.ds, .int .i64 o.dq, .slice ad o.deps.length cd, .int .i64 o.kind, .int .i64 o.it, .int .i64 o.is, .int .i64 o.rt, .int .i64 o.rs, .string o.text, .slice ag o.gone.length cg, .int .i64 o.site] ∧ RI W (.slice ad o.deps.length cd) o.deps ∧ RR W (.slice ag o.gone.length cg) o.gone from ⟨HX.below h, (hd.below bX).below h, RC.below (RC.below hg bX) h⟩)
  have HL := hide (fun W => long_in o ad ag cd cg W hi.text)
  have HK := hide (fun W => known_in W)
  obtain ⟨x0, x1, x2, x3, x4, x5, x6, x7, x8, x9, x10⟩ := cells_op HX
  have xl := HX.lt
  have B0 := hide bX
  have HI := hide hi
  clear hd hg bX hi HX
  cases hlo : longO o
  rotate_left
  · rw [hlo] at HL
    clear hlo
    unfold opA at HL ⊢
    go_enter Try.func4, Try.ntmps4
    go_wp2_with fail
    refine (unhide HL _).mono ?_
    rintro r W1 ⟨rfl, hb⟩
    replace B0 := hide (bnext (unhide B0) hb)
    clear hb
    go_wp2_with fail
    refine (unhide HK _).mono ?_
    rintro r W2 ⟨rfl, hb⟩
    replace B0 := hide (bnext (unhide B0) hb)
    go_wp2
    go_ret
    exact ⟨rfl, unhide B0⟩
  rw [hlo] at HL
  have hin : InO o := by
    unfold longO at hlo
    simp at hlo
    exact (unhide HI).fit (by omega) (by omega) (by omega)
  have hsm : o.deps.length ≤ 3000 ∧ o.gone.length ≤ 3000 ∧ o.text.size ≤ 60000 := by unfold longO at hlo; simp at hlo; omega
  have HEn := hide (fun W hd hg => OEncode_in o (.slice ad o.deps.length cd) (.slice ag o.gone.length cg) W hd hg hin (by omega))
  have HS := hide (fun ae ce af cf W hd' hg' hd hg => same_in o o (.slice ae o.deps.length ce) (.slice af o.gone.length cf) (.slice ad o.deps.length cd) (.slice ag o.gone.length cg) W hd' hg' hd hg hin.deps hin.many)
  rw [(sameB_iff o o).2 rfl] at HS
  clear hlo HI
  by_cases hok : okO o = true
  rotate_left
  · have hc : chkO o = 10 := by unfold chkO; rw [if_neg hok]
    have he : encL o = [] := by unfold encL; rw [if_neg hok]
    rw [hc, he] at HEn
    clear hok hc he HS
    unfold opA at HL HEn ⊢
    go_enter Try.func4, Try.ntmps4
    have HN := hide (unhide HL X)
    go_wp2_with fail
    refine (unhide HN).mono ?_
    rintro r W1 ⟨rfl, hb⟩
    replace B0 := hide (bnext (unhide B0) hb)
    clear x0 x1 x2 x3 x4 x5 x6 x7 x8 x9 x10
    obtain ⟨ha1, ha2, ha3⟩ := unhide HA W1 hb
    obtain ⟨x0, x1, x2, x3, x4, x5, x6, x7, x8, x9, x10⟩ := cells_op ha1
    have HN2 := hide (unhide HEn W1 ha2 ha3)
    clear hb HN ha1 ha2 ha3
    go_wp2_with fail
    refine (unhide HN2).mono ?_
    rintro r W3 ⟨v1, rfl, ho, hb⟩
    replace B0 := hide (bnext (unhide B0) hb)
    clear hb HN2
    obtain ⟨a1, c1, rfl⟩ := owns_form ho
    clear ho
    go_wp2_with fail
    refine (unhide HK _).mono ?_
    rintro r W5 ⟨rfl, hb⟩
    replace B0 := hide (bnext (unhide B0) hb)
    go_wp2
    go_ret
    exact ⟨rfl, unhide B0⟩
  have hc : chkO o = 0 := by unfold chkO; rw [if_pos hok]
  rw [hc, encL_ob hok] at HEn
  have hbo := ob_byte hok (by omega) (by have := hin.deps; omega)
  have hlen := putO_len ([], 0) o
  rw [putO_ob hok] at hlen
  simp only [List.nil_append, List.length_nil] at hlen
  have hpo := ob_len o
  have HDe := hide (fun W v h => ODecode_in W v (ob o) h hbo (by omega))
  rw [decO_back hok (by omega)] at HDe
  simp only at HDe
  clear hbo hc hok hin
  obtain ⟨Lb, hLb⟩ : ∃ l, ob o = l := ⟨_, rfl⟩
  rw [hLb] at HEn hlen hpo HDe
  clear hLb
  obtain ⟨N, hnb⟩ : ∃ n, Lb.length = n := ⟨_, rfl⟩
  rw [hnb] at HEn hlen hpo HDe
  have hNs : N ≤ 1000000 := by omega
  have HNb := hide hnb
  clear hlen hnb
  unfold opA at HL HEn HS HDe ⊢
  go_enter Try.func4, Try.ntmps4
  have HN := hide (unhide HL X)
  go_wp2_with fail
  refine (unhide HN).mono ?_
  rintro r W1 ⟨rfl, hb⟩
  replace B0 := hide (bnext (unhide B0) hb)
  clear x0 x1 x2 x3 x4 x5 x6 x7 x8 x9 x10
  obtain ⟨ha1, ha2, ha3⟩ := unhide HA W1 hb
  obtain ⟨x0, x1, x2, x3, x4, x5, x6, x7, x8, x9, x10⟩ := cells_op ha1
  have HN2 := hide (unhide HEn W1 ha2 ha3)
  have Hb1 := hide hb
  clear hb HN ha1 ha2 ha3 HL
  go_wp2_with fail
  refine (unhide HN2).mono ?_
  rintro r Wf ⟨v1, rfl, ho, hb⟩
  have HBf := hide (bnext (unhide B0) hb)
  have HAf := hide (fun (W : World) (h : Below Wf.heap.size Wf W) => unhide HA W (bnext (unhide Hb1) (bnext hb h)))
  obtain ⟨fa, fc, rfl⟩ := owns_form ho
  have hrc := RC.of_owns ho
  have HB2 := hide (fun (W : World) (h : Below Wf.heap.size Wf W) => RC.below hrc h)
  have HE2 := hide (fun (W : World) (h : Below Wf.heap.size Wf W) => unhide HEn W (unhide HAf W h).2.1 (unhide HAf W h).2.2)
  have HD2 := hide (fun (W : World) (h : Below Wf.heap.size Wf W) => unhide HDe W _ (unhide HB2 W h))
  have HS2 := hide (fun (W : World) (h : Below Wf.heap.size Wf W) (ae : Option Addr) (ce : Nat) (af : Option Addr) (cf : Nat) (h1 : RI W (.slice ae o.deps.length ce) o.deps) (h2 : RR W (.slice af o.gone.length cf) o.gone) => unhide HS ae ce af cf W h1 h2 (unhide HAf W h).2.1 (unhide HAf W h).2.2)
  clear HEn HDe HS HA B0 Hb1 hb HN2 hrc ho x0 x1 x2 x3 x4 x5 x6 x7 x8 x9 x10 xl
  obtain ⟨D, hD⟩ : ∃ n, o.deps.length = n := ⟨_, rfl⟩
  obtain ⟨G, hG⟩ : ∃ n, o.gone.length = n := ⟨_, rfl⟩
  have hDs : D ≤ 3000 := by omega
  have hGs : G ≤ 3000 := by omega
  obtain ⟨v0, n0, xs0, hS0⟩ := M.start Wf N D G
  obtain ⟨b0, hb0⟩ : ∃ b, Wf.heap.size = b := ⟨_, rfl⟩
  obtain ⟨b1, hb1⟩ : ∃ b, b0 + 1 = b := ⟨_, rfl⟩
  rw [hb0, hb1] at hS0
  obtain ⟨W4, hW4⟩ : ∃ W4, ((Wf.alloc (.cells #[nl, nl, nl] 42)).alloc (.cells #[.int .i64 0, .int .i64 0, nl, .int .i64 0, .int .i64 0, .int .i64 0, .int .i64 0, .int .i64 0, .string ⟨#[]⟩, nl, .int .i64 0, .int .i64 0, .int .i64 0, nl, .int .i64 0, .int .i64 0, .int .i64 0, .int .i64 0, .int .i64 0, .string ⟨#[]⟩, nl, .int .i64 0, .int .i64 0, .int .i64 0, nl, .int .i64 0, .int .i64 0, .int .i64 0, .int .i64 0, .int .i64 0, .string ⟨#[]⟩, nl, .int .i64 0] 43)) = W4 := ⟨_, rfl⟩
  rw [hW4] at hS0
  have HS0 := hide hS0
  have HHb0 := hide hb0
  have HHb1 := hide hb1
  have HhD := hide hD
  have HhG := hide hG
  clear hS0 hb0 hb1 hD hG
  go_wp2_with fail
  rw [unhide HHb0, unhide HHb1]
  clear hW4 HHb0 HHb1
  go_loopw [7] (fun iv wr => ∃ (i : Nat) (v : Nat → Value) (n : Nat → Nat) (xs : Nat → List Value), iv = .int .i64 (i : Nat) ∧ i ≤ 3 ∧ Hid (M Wf b0 b1 N D G i false v n xs wr)) (fun iv _ => 3 - (Lib.intOf iv).toNat)
  case atStart => exact ⟨0, _, _, _, rfl, by omega, HS0⟩
  case round =>
    clear HS0
    obtain ⟨i, v, n, xs, rfl, hi3, hH⟩ := hrel
    by_cases hi : i < 3
    · have i1 : (i : Int) < 3 := by omega
      obtain ⟨x0, x1, x2, x3, x4, x5, x6, x7, x8, x9, x10⟩ := cells_op (unhide HAf wr (unhide hH).bs.fm.bel).1
      have xl := (unhide HAf wr (unhide hH).bs.fm.bel).1.lt
      have HN := hide (unhide HE2 wr (unhide hH).bs.fm.bel)
      go_wp2_with fail
      refine (unhide HN).mono ?_
      rintro r W5 ⟨u5, rfl, ho5, hb5⟩
      obtain ⟨c5, f5, l5⟩ := (unhide hH).bs.slot0 hi hb5
      obtain ⟨v6, n6, xs6, h6⟩ := (unhide hH).rows hi hb5 ho5
      obtain ⟨W6, hW6⟩ : ∃ W6, W5.setCell ⟨b0, i, none⟩ u5 = W6 := ⟨_, rfl⟩
      rw [hW6] at h6
      obtain ⟨a5, k5, rfl⟩ := owns_form ho5
      have H6 := hide h6
      have HN2 := hide (unhide HD2 W6 (unhide H6).bs.fm.bel)
      clear ho5 hb5 hH h6 HN x0 x1 x2 x3 x4 x5 x6 x7 x8 x9 x10 xl
      go_wp2_with fail
      clear hW6 c5 f5 l5
      refine (unhide HN2).mono ?_
      rintro r W7 ⟨vd, vg, rfl, hod, hog, hne, hb7⟩
      have hrow := ((unhide H6).below hb7).bs.row1
      have hl33 := hrow.1
      obtain ⟨y0, hy0⟩ : ∃ y, (xs6 19)[i * 11]? = some y := ⟨_, List.getElem?_eq_getElem (by omega)⟩
      have d0 := (hrow.cellAt (i * 11) (by omega)).trans hy0
      have e0 := hrow.frozenAt (i * 11)
      obtain ⟨y1, hy1⟩ : ∃ y, (xs6 19)[i * 11 + 1]? = some y := ⟨_, List.getElem?_eq_getElem (by omega)⟩
      have d1 := (hrow.cellAt (i * 11 + 1) (by omega)).trans hy1
      have e1 := hrow.frozenAt (i * 11 + 1)
      obtain ⟨y2, hy2⟩ : ∃ y, (xs6 19)[i * 11 + 2]? = some y := ⟨_, List.getElem?_eq_getElem (by omega)⟩
      have d2 := (hrow.cellAt (i * 11 + 2) (by omega)).trans hy2
      have e2 := hrow.frozenAt (i * 11 + 2)
      obtain ⟨y3, hy3⟩ : ∃ y, (xs6 19)[i * 11 + 3]? = some y := ⟨_, List.getElem?_eq_getElem (by omega)⟩
      have d3 := (hrow.cellAt (i * 11 + 3) (by omega)).trans hy3
      have e3 := hrow.frozenAt (i * 11 + 3)
      obtain ⟨y4, hy4⟩ : ∃ y, (xs6 19)[i * 11 + 4]? = some y := ⟨_, List.getElem?_eq_getElem (by omega)⟩
      have d4 := (hrow.cellAt (i * 11 + 4) (by omega)).trans hy4
      have e4 := hrow.frozenAt (i * 11 + 4)
      obtain ⟨y5, hy5⟩ : ∃ y, (xs6 19)[i * 11 + 5]? = some y := ⟨_, List.getElem?_eq_getElem (by omega)⟩
      have d5 := (hrow.cellAt (i * 11 + 5) (by omega)).trans hy5
      have e5 := hrow.frozenAt (i * 11 + 5)
      obtain ⟨y6, hy6⟩ : ∃ y, (xs6 19)[i * 11 + 6]? = some y := ⟨_, List.getElem?_eq_getElem (by omega)⟩
      have d6 := (hrow.cellAt (i * 11 + 6) (by omega)).trans hy6
      have e6 := hrow.frozenAt (i * 11 + 6)
      obtain ⟨y7, hy7⟩ : ∃ y, (xs6 19)[i * 11 + 7]? = some y := ⟨_, List.getElem?_eq_getElem (by omega)⟩
      have d7 := (hrow.cellAt (i * 11 + 7) (by omega)).trans hy7
      have e7 := hrow.frozenAt (i * 11 + 7)
      obtain ⟨y8, hy8⟩ : ∃ y, (xs6 19)[i * 11 + 8]? = some y := ⟨_, List.getElem?_eq_getElem (by omega)⟩
      have d8 := (hrow.cellAt (i * 11 + 8) (by omega)).trans hy8
      have e8 := hrow.frozenAt (i * 11 + 8)
      obtain ⟨y9, hy9⟩ : ∃ y, (xs6 19)[i * 11 + 9]? = some y := ⟨_, List.getElem?_eq_getElem (by omega)⟩
      have d9 := (hrow.cellAt (i * 11 + 9) (by omega)).trans hy9
      have e9 := hrow.frozenAt (i * 11 + 9)
      obtain ⟨y10, hy10⟩ : ∃ y, (xs6 19)[i * 11 + 10]? = some y := ⟨_, List.getElem?_eq_getElem (by omega)⟩
      have d10 := (hrow.cellAt (i * 11 + 10) (by omega)).trans hy10
      have e10 := hrow.frozenAt (i * 11 + 10)
      have lb1 := (hrow.lt b1 rfl).2
      obtain ⟨ae, ce, rfl⟩ := OwD.form hod
      obtain ⟨af, cf, rfl⟩ := OwR.form hog
      have hod' : W7.ownsRow W6.heap.size 23 2 (.slice ae o.deps.length ce) D (flat encI o.deps) := by rw [← unhide HhD]; exact hod
      have hog' : W7.ownsRow W6.heap.size 36 3 (.slice af o.gone.length cf) G (flat encR o.gone) := by rw [← unhide HhG]; exact hog
      obtain ⟨v8, n8, xs8, h8, hc8, r1, r2⟩ := (unhide H6).ops (c0 := .int .i64 o.ds) (c1 := .int .i64 o.dq) (c3 := .int .i64 o.kind) (c4 := .int .i64 o.it) (c5 := .int .i64 o.is) (c6 := .int .i64 o.rt) (c7 := .int .i64 o.rs) (c8 := .string o.text) (c10 := .int .i64 o.site) hi hb7 hod' hog' hne
      obtain ⟨W8, hW8⟩ : ∃ W8, (((((((((((W7.setCell ⟨b1, i * 11, none⟩ (.int .i64 o.ds)).setCell ⟨b1, i * 11 + 1, none⟩ (.int .i64 o.dq)).setCell ⟨b1, i * 11 + 2, none⟩ (.slice ae o.deps.length ce)).setCell ⟨b1, i * 11 + 3, none⟩ (.int .i64 o.kind)).setCell ⟨b1, i * 11 + 4, none⟩ (.int .i64 o.it)).setCell ⟨b1, i * 11 + 5, none⟩ (.int .i64 o.is)).setCell ⟨b1, i * 11 + 6, none⟩ (.int .i64 o.rt)).setCell ⟨b1, i * 11 + 7, none⟩ (.int .i64 o.rs)).setCell ⟨b1, i * 11 + 8, none⟩ (.string o.text)).setCell ⟨b1, i * 11 + 9, none⟩ (.slice af o.gone.length cf)).setCell ⟨b1, i * 11 + 10, none⟩ (.int .i64 o.site)) = W8 := ⟨_, rfl⟩
      have e8 : sets W7 b1 (i * 11) [.int .i64 o.ds, .int .i64 o.dq, .slice ae o.deps.length ce, .int .i64 o.kind, .int .i64 o.it, .int .i64 o.is, .int .i64 o.rt, .int .i64 o.rs, .string o.text, .slice af o.gone.length cf, .int .i64 o.site] = W8 := hW8
      rw [e8] at h8 hc8 r1 r2
      have z0 := hc8 0 (by omega)
      have z1 := hc8 1 (by omega)
      have z2 := hc8 2 (by omega)
      have z3 := hc8 3 (by omega)
      have z4 := hc8 4 (by omega)
      have z5 := hc8 5 (by omega)
      have z6 := hc8 6 (by omega)
      have z7 := hc8 7 (by omega)
      have z8 := hc8 8 (by omega)
      have z9 := hc8 9 (by omega)
      have z10 := hc8 10 (by omega)
      rw [show ([.int .i64 o.ds, .int .i64 o.dq, .slice ae o.deps.length ce, .int .i64 o.kind, .int .i64 o.it, .int .i64 o.is, .int .i64 o.rt, .int .i64 o.rs, .string o.text, .slice af o.gone.length cf, .int .i64 o.site] : List Value)[0]? = some (.int .i64 o.ds) from rfl] at z0
      rw [show ([.int .i64 o.ds, .int .i64 o.dq, .slice ae o.deps.length ce, .int .i64 o.kind, .int .i64 o.it, .int .i64 o.is, .int .i64 o.rt, .int .i64 o.rs, .string o.text, .slice af o.gone.length cf, .int .i64 o.site] : List Value)[1]? = some (.int .i64 o.dq) from rfl] at z1
      rw [show ([.int .i64 o.ds, .int .i64 o.dq, .slice ae o.deps.length ce, .int .i64 o.kind, .int .i64 o.it, .int .i64 o.is, .int .i64 o.rt, .int .i64 o.rs, .string o.text, .slice af o.gone.length cf, .int .i64 o.site] : List Value)[2]? = some (.slice ae o.deps.length ce) from rfl] at z2
      rw [show ([.int .i64 o.ds, .int .i64 o.dq, .slice ae o.deps.length ce, .int .i64 o.kind, .int .i64 o.it, .int .i64 o.is, .int .i64 o.rt, .int .i64 o.rs, .string o.text, .slice af o.gone.length cf, .int .i64 o.site] : List Value)[3]? = some (.int .i64 o.kind) from rfl] at z3
      rw [show ([.int .i64 o.ds, .int .i64 o.dq, .slice ae o.deps.length ce, .int .i64 o.kind, .int .i64 o.it, .int .i64 o.is, .int .i64 o.rt, .int .i64 o.rs, .string o.text, .slice af o.gone.length cf, .int .i64 o.site] : List Value)[4]? = some (.int .i64 o.it) from rfl] at z4
      rw [show ([.int .i64 o.ds, .int .i64 o.dq, .slice ae o.deps.length ce, .int .i64 o.kind, .int .i64 o.it, .int .i64 o.is, .int .i64 o.rt, .int .i64 o.rs, .string o.text, .slice af o.gone.length cf, .int .i64 o.site] : List Value)[5]? = some (.int .i64 o.is) from rfl] at z5
      rw [show ([.int .i64 o.ds, .int .i64 o.dq, .slice ae o.deps.length ce, .int .i64 o.kind, .int .i64 o.it, .int .i64 o.is, .int .i64 o.rt, .int .i64 o.rs, .string o.text, .slice af o.gone.length cf, .int .i64 o.site] : List Value)[6]? = some (.int .i64 o.rt) from rfl] at z6
      rw [show ([.int .i64 o.ds, .int .i64 o.dq, .slice ae o.deps.length ce, .int .i64 o.kind, .int .i64 o.it, .int .i64 o.is, .int .i64 o.rt, .int .i64 o.rs, .string o.text, .slice af o.gone.length cf, .int .i64 o.site] : List Value)[7]? = some (.int .i64 o.rs) from rfl] at z7
      rw [show ([.int .i64 o.ds, .int .i64 o.dq, .slice ae o.deps.length ce, .int .i64 o.kind, .int .i64 o.it, .int .i64 o.is, .int .i64 o.rt, .int .i64 o.rs, .string o.text, .slice af o.gone.length cf, .int .i64 o.site] : List Value)[8]? = some (.string o.text) from rfl] at z8
      rw [show ([.int .i64 o.ds, .int .i64 o.dq, .slice ae o.deps.length ce, .int .i64 o.kind, .int .i64 o.it, .int .i64 o.is, .int .i64 o.rt, .int .i64 o.rs, .string o.text, .slice af o.gone.length cf, .int .i64 o.site] : List Value)[9]? = some (.slice af o.gone.length cf) from rfl] at z9
      rw [show ([.int .i64 o.ds, .int .i64 o.dq, .slice ae o.deps.length ce, .int .i64 o.kind, .int .i64 o.it, .int .i64 o.is, .int .i64 o.rt, .int .i64 o.rs, .string o.text, .slice af o.gone.length cf, .int .i64 o.site] : List Value)[10]? = some (.int .i64 o.site) from rfl] at z10
      rw [Nat.add_zero] at z0
      have H8 := hide h8
      have hRI : RI W8 (.slice ae o.deps.length ce) o.deps := by have h := RC.of_owns r1; rw [← unhide HhD] at h; exact h
      have hRR : RR W8 (.slice af o.gone.length cf) o.gone := by have h := RC.of_owns r2; rw [← unhide HhG] at h; exact h
      have HN3 := hide (fun (W : World) (h : Below W8.heap.size W8 W) => unhide HS2 W (bnext (unhide H8).bs.fm.bel h) ae ce af cf (hRI.below h) (RC.below hRR h))
      obtain ⟨x0, x1, x2, x3, x4, x5, x6, x7, x8, x9, x10⟩ := cells_op (unhide HAf W8 (unhide H8).bs.fm.bel).1
      have xl := (unhide HAf W8 (unhide H8).bs.fm.bel).1.lt
      have lz := ((unhide H8).bs.row1.lt b1 rfl).2
      clear hod hog hod' hog' hne hb7 h8 hc8 r1 r2 hRI hRR H6 HN2 hrow hl33 hy0 hy1 hy2 hy3 hy4 hy5 hy6 hy7 hy8 hy9 hy10
      go_upto_region 15 with fail
      go_region_with (go_at_call 11; refine (unhide HN3 _ (Below.refl _ _).drew).mono ?_; rintro r W9 ⟨rfl, hb9⟩; have H9 := hide ((unhide H8).below (bnext (Below.refl _ _).drew hb9)); clear hb9)
      all_goals (go_wp2; go_roundw)
      all_goals first | exact ⟨i + 1, _, _, _, by go_num, by omega, H9⟩ | (show 3 - ((i : Int) + 1).toNat < 3 - ((i : Nat) : Int).toNat; omega)
    · have i1 : ¬ (i : Int) < 3 := by omega
      have hie : i = 3 := by omega
      have HB00 : Hid (B Wf b0 b1 N D G 0 0 0 0 v n xs wr) := hide (B.start (unhide (hie ▸ hH : Hid (M Wf b0 b1 N D G 3 false v n xs wr))))
      clear hH hi hi3 hie
      go_wp2
      clear i1
      go_loopw [8] (fun iv wr => ∃ (i : Nat) (v : Nat → Value) (n : Nat → Nat) (xs : Nat → List Value), iv = .int .i64 (i : Nat) ∧ i ≤ 3 ∧ Hid (B Wf b0 b1 N D G i 0 0 0 v n xs wr)) (fun iv _ => 3 - (Lib.intOf iv).toNat)
      case atStart => exact ⟨0, _, _, _, rfl, by omega, HB00⟩
      case round =>
        clear HB00
        obtain ⟨i, v, n, xs, rfl, hi3, HB0⟩ := hrel
        by_cases hi : i < 3
        · have i1 : (i : Int) < 3 := by omega
          go_wp2
          go_loopw [9] (fun kv wr => ∃ (k : Nat) (xs : Nat → List Value), kv = .int .i64 (k : Nat) ∧ k ≤ N ∧ Hid (B Wf b0 b1 N D G i k 0 0 v n xs wr)) (fun kv _ => N - (Lib.intOf kv).toNat)
          case atStart => exact ⟨0, _, rfl, by omega, HB0⟩
          case round =>
            clear HB0
            obtain ⟨k, xk, rfl, hk, hH⟩ := hrel
            obtain ⟨ce, fe, le⟩ := (unhide hH).bs.get0 hi
            have hrow := (unhide hH).bs.fm.own (i) (by omega)
            rw [((unhide hH).nn i hi).1, (ee_b hi).1, (ee_b hi).2] at hrow
            obtain ⟨av, cv, hform⟩ := own_formO hrow
            rw [hform] at ce hrow
            by_cases hkn : k < N
            · have k1 : (k : Int) < (N : Int) := by omega
              obtain ⟨g, c, hvg⟩ := own_some hrow (by omega)
              simp only [Value.slice.injEq, true_and] at hvg
              obtain ⟨rfl, rfl⟩ := hvg
              have hl := hrow.1
              obtain ⟨y0, hy0⟩ : ∃ y, (xk (i))[k]? = some y := ⟨_, List.getElem?_eq_getElem (by omega)⟩
              have d0 := (hrow.cellAt (k) (by omega)).trans hy0
              have f0 := hrow.frozenAt (k)
              have l0 := (hrow.lt g rfl).2
              have hHn := hide ((unhide hH).byte hi hkn hform)
              clear hH hrow hl hform hy0
              go_wp2
              go_roundw
              case rel => exact ⟨k + 1, _, by go_num, by omega, hHn⟩
              case measure => show N - ((k : Int) + 1).toNat < N - ((k : Nat) : Int).toNat; omega
            · have k1 : ¬ (k : Int) < (N : Int) := by omega
              have hke : k = N := by omega
              have HB0 : Hid (B Wf b0 b1 N D G i N 0 0 v n xk wr) := hke ▸ hH
              clear hH hk hke hkn hrow hform
              go_wp2
              clear k1
              clear ce fe le
              go_loopw [10] (fun kv wr => ∃ (k : Nat) (xs : Nat → List Value), kv = .int .i64 (k : Nat) ∧ k ≤ D ∧ Hid (B Wf b0 b1 N D G i N k 0 v n xs wr)) (fun kv _ => D - (Lib.intOf kv).toNat)
              case atStart => exact ⟨0, _, rfl, by omega, HB0⟩
              case round =>
                clear HB0
                obtain ⟨k, xk, rfl, hk, hH⟩ := hrel
                obtain ⟨ce, cf, le⟩ := (unhide hH).bs.get1 hi (by omega)
                have hrow := (unhide hH).bs.fm.own (3 + i) (by omega)
                rw [((unhide hH).nn i hi).2.1, (ee_d hi).1, (ee_d hi).2] at hrow
                obtain ⟨av, cv, hform⟩ := own_formO hrow
                rw [hform] at ce hrow
                by_cases hkn : k < D
                · have k1 : (k : Int) < (D : Int) := by omega
                  obtain ⟨g, c, hvg⟩ := own_some hrow (by omega)
                  simp only [Value.slice.injEq, true_and] at hvg
                  obtain ⟨rfl, rfl⟩ := hvg
                  have hl := hrow.1
                  obtain ⟨y0, hy0⟩ : ∃ y, (xk (3 + i))[k * 2]? = some y := ⟨_, List.getElem?_eq_getElem (by omega)⟩
                  have d0 := (hrow.cellAt (k * 2) (by omega)).trans hy0
                  have f0 := hrow.frozenAt (k * 2)
                  obtain ⟨y1, hy1⟩ : ∃ y, (xk (3 + i))[k * 2 + 1]? = some y := ⟨_, List.getElem?_eq_getElem (by omega)⟩
                  have d1 := (hrow.cellAt (k * 2 + 1) (by omega)).trans hy1
                  have f1 := hrow.frozenAt (k * 2 + 1)
                  have l0 := (hrow.lt g rfl).2
                  have hHn := hide ((unhide hH).dot hi hkn hform)
                  clear hH hrow hl hform hy0 hy1
                  go_wp2
                  go_roundw
                  case rel => exact ⟨k + 1, _, by go_num, by omega, hHn⟩
                  case measure => show D - ((k : Int) + 1).toNat < D - ((k : Nat) : Int).toNat; omega
                · have k1 : ¬ (k : Int) < (D : Int) := by omega
                  have hke : k = D := by omega
                  have HB0 : Hid (B Wf b0 b1 N D G i N D 0 v n xk wr) := hke ▸ hH
                  clear hH hk hke hkn hrow hform
                  go_wp2
                  clear k1
                  clear ce cf le
                  go_loopw [11] (fun kv wr => ∃ (k : Nat) (xs : Nat → List Value), kv = .int .i64 (k : Nat) ∧ k ≤ G ∧ Hid (B Wf b0 b1 N D G i N D k v n xs wr)) (fun kv _ => G - (Lib.intOf kv).toNat)
                  case atStart => exact ⟨0, _, rfl, by omega, HB0⟩
                  case round =>
                    clear HB0
                    obtain ⟨k, xk, rfl, hk, hH⟩ := hrel
                    obtain ⟨cf, ce, le⟩ := (unhide hH).bs.get1 hi (by omega)
                    have hrow := (unhide hH).bs.fm.own (6 + i) (by omega)
                    rw [((unhide hH).nn i hi).2.2, (ee_r hi).1, (ee_r hi).2] at hrow
                    obtain ⟨av, cv, hform⟩ := own_formO hrow
                    rw [hform] at ce hrow
                    by_cases hkn : k < G
                    · have k1 : (k : Int) < (G : Int) := by omega
                      obtain ⟨g, c, hvg⟩ := own_some hrow (by omega)
                      simp only [Value.slice.injEq, true_and] at hvg
                      obtain ⟨rfl, rfl⟩ := hvg
                      have hl := hrow.1
                      obtain ⟨y0, hy0⟩ : ∃ y, (xk (6 + i))[k * 3]? = some y := ⟨_, List.getElem?_eq_getElem (by omega)⟩
                      have d0 := (hrow.cellAt (k * 3) (by omega)).trans hy0
                      have f0 := hrow.frozenAt (k * 3)
                      obtain ⟨y1, hy1⟩ : ∃ y, (xk (6 + i))[k * 3 + 1]? = some y := ⟨_, List.getElem?_eq_getElem (by omega)⟩
                      have d1 := (hrow.cellAt (k * 3 + 1) (by omega)).trans hy1
                      have f1 := hrow.frozenAt (k * 3 + 1)
                      obtain ⟨y2, hy2⟩ : ∃ y, (xk (6 + i))[k * 3 + 2]? = some y := ⟨_, List.getElem?_eq_getElem (by omega)⟩
                      have d2 := (hrow.cellAt (k * 3 + 2) (by omega)).trans hy2
                      have f2 := hrow.frozenAt (k * 3 + 2)
                      have l0 := (hrow.lt g rfl).2
                      have hHn := hide ((unhide hH).run hi hkn hform (.int .i64 0) (.int .i64 0))
                      clear hH hrow hl hform hy0 hy1 hy2
                      go_wp2
                      go_roundw
                      case rel => exact ⟨k + 1, _, by go_num, by omega, hHn⟩
                      case measure => show G - ((k : Int) + 1).toNat < G - ((k : Nat) : Int).toNat; omega
                    · have k1 : ¬ (k : Int) < (G : Int) := by omega
                      have hke : k = G := by omega
                      have HB0 : Hid (B Wf b0 b1 N D G i N D G v n xk wr) := hke ▸ hH
                      clear hH hk hke hkn hrow hform
                      go_wp2
                      have HBn := hide (unhide HB0).next
                      go_roundw
                      case rel => exact ⟨i + 1, _, _, _, by go_num, by omega, HBn⟩
                      case measure => show 3 - ((i : Int) + 1).toNat < 3 - ((i : Nat) : Int).toNat; omega
        · have i1 : ¬ (i : Int) < 3 := by omega
          have hie : i = 3 := by omega
          have HP0 : Hid (P Wf b0 b1 N D G v n xs wr) := hide (P.start (unhide (hie ▸ HB0 : Hid (B Wf b0 b1 N D G 3 0 0 0 v n xs wr))))
          clear HB0 hi hi3 hie
          go_wp2
          clear i1
          go_loopw [12] (fun iv wr => ∃ (i : Nat) (v : Nat → Value) (n : Nat → Nat) (xs : Nat → List Value), iv = .int .i64 (i : Nat) ∧ i ≤ 3 ∧ Hid (P Wf b0 b1 N D G v n xs wr)) (fun iv _ => 3 - (Lib.intOf iv).toNat)
          case atStart => exact ⟨0, _, _, _, rfl, by omega, HP0⟩
          case round =>
            clear HP0
            obtain ⟨i, v, n, xs, rfl, hi3, hH⟩ := hrel
            by_cases hi : i < 3
            · have i1 : (i : Int) < 3 := by omega
              obtain ⟨c0, f0, l0⟩ := (unhide hH).bs.get0 hi
              obtain ⟨c1, c2, l1⟩ := (unhide hH).bs.get1 hi hi
              have HQ0 := hide (Q.begin (unhide hH) hi)
              clear hH
              go_wp2
              clear c0 f0 l0 c1 c2 l1
              go_loopw [13, 14, 15, 16] (fun gv dv rv kv wr => ∃ (k : Nat), kv = .int .i64 (k : Nat) ∧ k ≤ 40 ∧ Hid (Q Wf b0 b1 N D G i k k k gv dv rv wr)) (fun _ _ _ kv _ => 40 - (Lib.intOf kv).toNat)
              case atStart => exact ⟨0, rfl, by omega, HQ0⟩
              case round =>
                clear HQ0
                obtain ⟨k, rfl, hk, hQ⟩ := hrel
                by_cases hkn : k < 40
                · have k1 : (k : Int) < 40 := by omega
                  obtain ⟨ys1, hr1, -, -⟩ := (unhide hQ).rowB hi
                  obtain ⟨ys2, hr2, -, -⟩ := (unhide hQ).rowD hi
                  obtain ⟨ys3, hr3, -, -⟩ := (unhide hQ).rowR hi
                  obtain ⟨ag, cg, rfl⟩ := own_formO hr1
                  obtain ⟨ad', cd', rfl⟩ := own_formO hr2
                  obtain ⟨ar, cr, rfl⟩ := own_formO hr3
                  clear hr1 hr2 hr3 ys1 ys2 ys3
                  obtain ⟨ys, hrow, hfit, hgrow⟩ := ((unhide hQ).alloc (.cells #[.int .u8 ((i : Int) + 101)] 5)).rowB hi
                  have Hrow := hide hrow
                  have hlo := hrow.1
                  have Hfit := hide hfit
                  have Hgrow := hide hgrow
                  clear hrow hfit hgrow
                  by_cases hc : N + k + 1 ≤ cg
                  · obtain ⟨g, rfl⟩ : ∃ g, ag = some ⟨g, 0, none⟩ := by
                      rcases own_addr (unhide Hrow) with ⟨_, _, h0⟩ | h
                      · omega
                      · exact h
                    go_upto_region 42 with (at_builtin; refine wpList_append_fits _ rfl _ _ 39 rfl Wf.heap.size 5 iB 1 Try.underlying39 (unhide JBi) (unhide JB1) g (N + k) cg ys rfl (unhide Hrow) ⟨wr.heap.size, 0, none⟩ 1 1 [.int .u8 ((i : Int) + 101)] rfl rfl (new_cells _ #[_] _) (by simp [Value.oneCell']) hc ?_; intro YB ho5 hg5; have HB := hide (unhide Hfit YB g cg _ rfl ho5 hg5); clear ho5 hg5 hQ Hrow hlo Hfit Hgrow)
                    clear hc
                    obtain ⟨ys, hrow, hfit, hgrow⟩ := ((unhide HB).alloc (.cells #[.int .i64 (50 + (i : Int)), .int .i64 0] 23)).rowD hi
                    have Hrow := hide hrow
                    have hlo := hrow.1
                    have Hfit := hide hfit
                    have Hgrow := hide hgrow
                    clear hrow hfit hgrow
                    by_cases hc : D + k + 1 ≤ cd'
                    · obtain ⟨g, rfl⟩ : ∃ g, ad' = some ⟨g, 0, none⟩ := by
                        rcases own_addr (unhide Hrow) with ⟨_, _, h0⟩ | h
                        · omega
                        · exact h
                      go_upto_region 43 with (at_builtin; refine wpList_append_fits _ rfl _ _ 25 rfl Wf.heap.size 23 iD 2 Try.underlying25 (unhide JDi) (unhide JD1) g (D + k) cd' ys rfl (unhide Hrow) ⟨YB.heap.size, 0, none⟩ 1 1 [.int .i64 (50 + (i : Int)), .int .i64 0] rfl rfl (new_cells _ #[_, _] _) (by simp [Value.oneCell']) hc ?_; intro YD ho5 hg5; have HD := hide (unhide Hfit YD g cd' _ rfl ho5 hg5); clear ho5 hg5 HB Hrow hlo Hfit Hgrow)
                      clear hc
                      obtain ⟨ys, hrow, hfit, hgrow⟩ := ((unhide HD).alloc (.cells #[.int .i64 0, .int .i64 0, .int .i64 (50 + (i : Int))] 36)).rowR hi
                      have Hrow := hide hrow
                      have hlo := hrow.1
                      have Hfit := hide hfit
                      have Hgrow := hide hgrow
                      clear hrow hfit hgrow
                      by_cases hc : G + k + 1 ≤ cr
                      · obtain ⟨g, rfl⟩ : ∃ g, ar = some ⟨g, 0, none⟩ := by
                          rcases own_addr (unhide Hrow) with ⟨_, _, h0⟩ | h
                          · omega
                          · exact h
                        go_wp2_with (at_builtin; refine wpList_append_fits _ rfl _ _ 28 rfl Wf.heap.size 36 iR 3 Try.underlying28 (unhide JRi) (unhide JR1) g (G + k) cr ys rfl (unhide Hrow) ⟨YD.heap.size, 0, none⟩ 1 1 [.int .i64 0, .int .i64 0, .int .i64 (50 + (i : Int))] rfl rfl (new_cells _ #[_, _, _] _) (by simp [Value.oneCell']) hc ?_; intro YR ho5 hg5; have HR := hide (unhide Hfit YR g cr _ rfl ho5 hg5); clear ho5 hg5 HD Hrow hlo Hfit Hgrow)
                        go_wp2
                        go_roundw
                        case rel => exact ⟨k + 1, by go_num, by omega, HR⟩
                        case measure => show 40 - ((k : Int) + 1).toNat < 40 - ((k : Nat) : Int).toNat; omega
                      · have hnone : ar = none → G + k = 0 ∧ cr = 0 := fun e1 => by
                          rcases own_addr (unhide Hrow) with ⟨_, h0, h1⟩ | ⟨g, h⟩
                          · exact ⟨h0, h1⟩
                          · rw [e1] at h; cases h
                        have holds : ∀ (b' : Addr), ar = some b' → ∀ j u, ys[j]? = some u → (YD.alloc (.cells #[.int .i64 0, .int .i64 0, .int .i64 (50 + (i : Int))] 36)).cell? (b'.add j) = some u := fun b' e1 j u hj => by
                          rcases own_addr (unhide Hrow) with ⟨h0, _⟩ | ⟨g, h⟩
                          · rw [e1] at h0; cases h0
                          · obtain rfl : b' = ⟨g, 0, none⟩ := by rw [e1] at h; simpa using h
                            exact (unhide Hrow).cells (by rw [e1]; rfl) j u hj
                        go_wp2_with (at_builtin; refine wpList_append_grows _ rfl _ _ 28 rfl 36 iR _ 3 24 Try.underlying28 (unhide JRi) (unhide JR0) (unhide JR1) (unhide JR2) rfl (by decide) ar (G + k) cr ys rfl hnone hlo holds ⟨YD.heap.size, 0, none⟩ 1 1 [.int .i64 0, .int .i64 0, .int .i64 (50 + (i : Int))] rfl rfl (new_cells _ #[_, _, _] _) (by simp [Value.oneCell']) (by omega) (by unfold maxLen; omega) (by omega) ?_; intro zR YR ho5 hg5; have HR := hide (unhide Hgrow YR zR _ ho5 hg5); clear ho5 hg5 HD Hrow hlo Hfit Hgrow hnone holds)
                        go_wp2
                        go_roundw
                        case rel => exact ⟨k + 1, by go_num, by omega, HR⟩
                        case measure => show 40 - ((k : Int) + 1).toNat < 40 - ((k : Nat) : Int).toNat; omega
                    · have hnone : ad' = none → D + k = 0 ∧ cd' = 0 := fun e1 => by
                        rcases own_addr (unhide Hrow) with ⟨_, h0, h1⟩ | ⟨g, h⟩
                        · exact ⟨h0, h1⟩
                        · rw [e1] at h; cases h
                      have holds : ∀ (b' : Addr), ad' = some b' → ∀ j u, ys[j]? = some u → (YB.alloc (.cells #[.int .i64 (50 + (i : Int)), .int .i64 0] 23)).cell? (b'.add j) = some u := fun b' e1 j u hj => by
                        rcases own_addr (unhide Hrow) with ⟨h0, _⟩ | ⟨g, h⟩
                        · rw [e1] at h0; cases h0
                        · obtain rfl : b' = ⟨g, 0, none⟩ := by rw [e1] at h; simpa using h
                          exact (unhide Hrow).cells (by rw [e1]; rfl) j u hj
                      go_upto_region 43 with (at_builtin; refine wpList_append_grows _ rfl _ _ 25 rfl 23 iD _ 2 16 Try.underlying25 (unhide JDi) (unhide JD0) (unhide JD1) (unhide JD2) rfl (by decide) ad' (D + k) cd' ys rfl hnone hlo holds ⟨YB.heap.size, 0, none⟩ 1 1 [.int .i64 (50 + (i : Int)), .int .i64 0] rfl rfl (new_cells _ #[_, _] _) (by simp [Value.oneCell']) (by omega) (by unfold maxLen; omega) (by omega) ?_; intro zD YD ho5 hg5; have HD := hide (unhide Hgrow YD zD _ ho5 hg5); clear ho5 hg5 HB Hrow hlo Hfit Hgrow hnone holds)
                      clear hc
                      obtain ⟨ys, hrow, hfit, hgrow⟩ := ((unhide HD).alloc (.cells #[.int .i64 0, .int .i64 0, .int .i64 (50 + (i : Int))] 36)).rowR hi
                      have Hrow := hide hrow
                      have hlo := hrow.1
                      have Hfit := hide hfit
                      have Hgrow := hide hgrow
                      clear hrow hfit hgrow
                      by_cases hc : G + k + 1 ≤ cr
                      · obtain ⟨g, rfl⟩ : ∃ g, ar = some ⟨g, 0, none⟩ := by
                          rcases own_addr (unhide Hrow) with ⟨_, _, h0⟩ | h
                          · omega
                          · exact h
                        go_wp2_with (at_builtin; refine wpList_append_fits _ rfl _ _ 28 rfl Wf.heap.size 36 iR 3 Try.underlying28 (unhide JRi) (unhide JR1) g (G + k) cr ys rfl (unhide Hrow) ⟨YD.heap.size, 0, none⟩ 1 1 [.int .i64 0, .int .i64 0, .int .i64 (50 + (i : Int))] rfl rfl (new_cells _ #[_, _, _] _) (by simp [Value.oneCell']) hc ?_; intro YR ho5 hg5; have HR := hide (unhide Hfit YR g cr _ rfl ho5 hg5); clear ho5 hg5 HD Hrow hlo Hfit Hgrow)
                        go_wp2
                        go_roundw
                        case rel => exact ⟨k + 1, by go_num, by omega, HR⟩
                        case measure => show 40 - ((k : Int) + 1).toNat < 40 - ((k : Nat) : Int).toNat; omega
                      · have hnone : ar = none → G + k = 0 ∧ cr = 0 := fun e1 => by
                          rcases own_addr (unhide Hrow) with ⟨_, h0, h1⟩ | ⟨g, h⟩
                          · exact ⟨h0, h1⟩
                          · rw [e1] at h; cases h
                        have holds : ∀ (b' : Addr), ar = some b' → ∀ j u, ys[j]? = some u → (YD.alloc (.cells #[.int .i64 0, .int .i64 0, .int .i64 (50 + (i : Int))] 36)).cell? (b'.add j) = some u := fun b' e1 j u hj => by
                          rcases own_addr (unhide Hrow) with ⟨h0, _⟩ | ⟨g, h⟩
                          · rw [e1] at h0; cases h0
                          · obtain rfl : b' = ⟨g, 0, none⟩ := by rw [e1] at h; simpa using h
                            exact (unhide Hrow).cells (by rw [e1]; rfl) j u hj
                        go_wp2_with (at_builtin; refine wpList_append_grows _ rfl _ _ 28 rfl 36 iR _ 3 24 Try.underlying28 (unhide JRi) (unhide JR0) (unhide JR1) (unhide JR2) rfl (by decide) ar (G + k) cr ys rfl hnone hlo holds ⟨YD.heap.size, 0, none⟩ 1 1 [.int .i64 0, .int .i64 0, .int .i64 (50 + (i : Int))] rfl rfl (new_cells _ #[_, _, _] _) (by simp [Value.oneCell']) (by omega) (by unfold maxLen; omega) (by omega) ?_; intro zR YR ho5 hg5; have HR := hide (unhide Hgrow YR zR _ ho5 hg5); clear ho5 hg5 HD Hrow hlo Hfit Hgrow hnone holds)
                        go_wp2
                        go_roundw
                        case rel => exact ⟨k + 1, by go_num, by omega, HR⟩
                        case measure => show 40 - ((k : Int) + 1).toNat < 40 - ((k : Nat) : Int).toNat; omega
                  · have hnone : ag = none → N + k = 0 ∧ cg = 0 := fun e1 => by
                      rcases own_addr (unhide Hrow) with ⟨_, h0, h1⟩ | ⟨g, h⟩
                      · exact ⟨h0, h1⟩
                      · rw [e1] at h; cases h
                    have holds : ∀ (b' : Addr), ag = some b' → ∀ j u, ys[j]? = some u → (wr.alloc (.cells #[.int .u8 ((i : Int) + 101)] 5)).cell? (b'.add j) = some u := fun b' e1 j u hj => by
                      rcases own_addr (unhide Hrow) with ⟨h0, _⟩ | ⟨g, h⟩
                      · rw [e1] at h0; cases h0
                      · obtain rfl : b' = ⟨g, 0, none⟩ := by rw [e1] at h; simpa using h
                        exact (unhide Hrow).cells (by rw [e1]; rfl) j u hj
                    go_upto_region 42 with (at_builtin; refine wpList_append_grows _ rfl _ _ 39 rfl 5 iB _ 1 1 Try.underlying39 (unhide JBi) (unhide JB0) (unhide JB1) (unhide JB2) rfl (by decide) ag (N + k) cg ys rfl hnone hlo holds ⟨wr.heap.size, 0, none⟩ 1 1 [.int .u8 ((i : Int) + 101)] rfl rfl (new_cells _ #[_] _) (by simp [Value.oneCell']) (by omega) (by unfold maxLen; omega) (by omega) ?_; intro zB YB ho5 hg5; have HB := hide (unhide Hgrow YB zB _ ho5 hg5); clear ho5 hg5 hQ Hrow hlo Hfit Hgrow hnone holds)
                    clear hc
                    obtain ⟨ys, hrow, hfit, hgrow⟩ := ((unhide HB).alloc (.cells #[.int .i64 (50 + (i : Int)), .int .i64 0] 23)).rowD hi
                    have Hrow := hide hrow
                    have hlo := hrow.1
                    have Hfit := hide hfit
                    have Hgrow := hide hgrow
                    clear hrow hfit hgrow
                    by_cases hc : D + k + 1 ≤ cd'
                    · obtain ⟨g, rfl⟩ : ∃ g, ad' = some ⟨g, 0, none⟩ := by
                        rcases own_addr (unhide Hrow) with ⟨_, _, h0⟩ | h
                        · omega
                        · exact h
                      go_upto_region 43 with (at_builtin; refine wpList_append_fits _ rfl _ _ 25 rfl Wf.heap.size 23 iD 2 Try.underlying25 (unhide JDi) (unhide JD1) g (D + k) cd' ys rfl (unhide Hrow) ⟨YB.heap.size, 0, none⟩ 1 1 [.int .i64 (50 + (i : Int)), .int .i64 0] rfl rfl (new_cells _ #[_, _] _) (by simp [Value.oneCell']) hc ?_; intro YD ho5 hg5; have HD := hide (unhide Hfit YD g cd' _ rfl ho5 hg5); clear ho5 hg5 HB Hrow hlo Hfit Hgrow)
                      clear hc
                      obtain ⟨ys, hrow, hfit, hgrow⟩ := ((unhide HD).alloc (.cells #[.int .i64 0, .int .i64 0, .int .i64 (50 + (i : Int))] 36)).rowR hi
                      have Hrow := hide hrow
                      have hlo := hrow.1
                      have Hfit := hide hfit
                      have Hgrow := hide hgrow
                      clear hrow hfit hgrow
                      by_cases hc : G + k + 1 ≤ cr
                      · obtain ⟨g, rfl⟩ : ∃ g, ar = some ⟨g, 0, none⟩ := by
                          rcases own_addr (unhide Hrow) with ⟨_, _, h0⟩ | h
                          · omega
                          · exact h
                        go_wp2_with (at_builtin; refine wpList_append_fits _ rfl _ _ 28 rfl Wf.heap.size 36 iR 3 Try.underlying28 (unhide JRi) (unhide JR1) g (G + k) cr ys rfl (unhide Hrow) ⟨YD.heap.size, 0, none⟩ 1 1 [.int .i64 0, .int .i64 0, .int .i64 (50 + (i : Int))] rfl rfl (new_cells _ #[_, _, _] _) (by simp [Value.oneCell']) hc ?_; intro YR ho5 hg5; have HR := hide (unhide Hfit YR g cr _ rfl ho5 hg5); clear ho5 hg5 HD Hrow hlo Hfit Hgrow)
                        go_wp2
                        go_roundw
                        case rel => exact ⟨k + 1, by go_num, by omega, HR⟩
                        case measure => show 40 - ((k : Int) + 1).toNat < 40 - ((k : Nat) : Int).toNat; omega
                      · have hnone : ar = none → G + k = 0 ∧ cr = 0 := fun e1 => by
                          rcases own_addr (unhide Hrow) with ⟨_, h0, h1⟩ | ⟨g, h⟩
                          · exact ⟨h0, h1⟩
                          · rw [e1] at h; cases h
                        have holds : ∀ (b' : Addr), ar = some b' → ∀ j u, ys[j]? = some u → (YD.alloc (.cells #[.int .i64 0, .int .i64 0, .int .i64 (50 + (i : Int))] 36)).cell? (b'.add j) = some u := fun b' e1 j u hj => by
                          rcases own_addr (unhide Hrow) with ⟨h0, _⟩ | ⟨g, h⟩
                          · rw [e1] at h0; cases h0
                          · obtain rfl : b' = ⟨g, 0, none⟩ := by rw [e1] at h; simpa using h
                            exact (unhide Hrow).cells (by rw [e1]; rfl) j u hj
                        go_wp2_with (at_builtin; refine wpList_append_grows _ rfl _ _ 28 rfl 36 iR _ 3 24 Try.underlying28 (unhide JRi) (unhide JR0) (unhide JR1) (unhide JR2) rfl (by decide) ar (G + k) cr ys rfl hnone hlo holds ⟨YD.heap.size, 0, none⟩ 1 1 [.int .i64 0, .int .i64 0, .int .i64 (50 + (i : Int))] rfl rfl (new_cells _ #[_, _, _] _) (by simp [Value.oneCell']) (by omega) (by unfold maxLen; omega) (by omega) ?_; intro zR YR ho5 hg5; have HR := hide (unhide Hgrow YR zR _ ho5 hg5); clear ho5 hg5 HD Hrow hlo Hfit Hgrow hnone holds)
                        go_wp2
                        go_roundw
                        case rel => exact ⟨k + 1, by go_num, by omega, HR⟩
                        case measure => show 40 - ((k : Int) + 1).toNat < 40 - ((k : Nat) : Int).toNat; omega
                    · have hnone : ad' = none → D + k = 0 ∧ cd' = 0 := fun e1 => by
                        rcases own_addr (unhide Hrow) with ⟨_, h0, h1⟩ | ⟨g, h⟩
                        · exact ⟨h0, h1⟩
                        · rw [e1] at h; cases h
                      have holds : ∀ (b' : Addr), ad' = some b' → ∀ j u, ys[j]? = some u → (YB.alloc (.cells #[.int .i64 (50 + (i : Int)), .int .i64 0] 23)).cell? (b'.add j) = some u := fun b' e1 j u hj => by
                        rcases own_addr (unhide Hrow) with ⟨h0, _⟩ | ⟨g, h⟩
                        · rw [e1] at h0; cases h0
                        · obtain rfl : b' = ⟨g, 0, none⟩ := by rw [e1] at h; simpa using h
                          exact (unhide Hrow).cells (by rw [e1]; rfl) j u hj
                      go_upto_region 43 with (at_builtin; refine wpList_append_grows _ rfl _ _ 25 rfl 23 iD _ 2 16 Try.underlying25 (unhide JDi) (unhide JD0) (unhide JD1) (unhide JD2) rfl (by decide) ad' (D + k) cd' ys rfl hnone hlo holds ⟨YB.heap.size, 0, none⟩ 1 1 [.int .i64 (50 + (i : Int)), .int .i64 0] rfl rfl (new_cells _ #[_, _] _) (by simp [Value.oneCell']) (by omega) (by unfold maxLen; omega) (by omega) ?_; intro zD YD ho5 hg5; have HD := hide (unhide Hgrow YD zD _ ho5 hg5); clear ho5 hg5 HB Hrow hlo Hfit Hgrow hnone holds)
                      clear hc
                      obtain ⟨ys, hrow, hfit, hgrow⟩ := ((unhide HD).alloc (.cells #[.int .i64 0, .int .i64 0, .int .i64 (50 + (i : Int))] 36)).rowR hi
                      have Hrow := hide hrow
                      have hlo := hrow.1
                      have Hfit := hide hfit
                      have Hgrow := hide hgrow
                      clear hrow hfit hgrow
                      by_cases hc : G + k + 1 ≤ cr
                      · obtain ⟨g, rfl⟩ : ∃ g, ar = some ⟨g, 0, none⟩ := by
                          rcases own_addr (unhide Hrow) with ⟨_, _, h0⟩ | h
                          · omega
                          · exact h
                        go_wp2_with (at_builtin; refine wpList_append_fits _ rfl _ _ 28 rfl Wf.heap.size 36 iR 3 Try.underlying28 (unhide JRi) (unhide JR1) g (G + k) cr ys rfl (unhide Hrow) ⟨YD.heap.size, 0, none⟩ 1 1 [.int .i64 0, .int .i64 0, .int .i64 (50 + (i : Int))] rfl rfl (new_cells _ #[_, _, _] _) (by simp [Value.oneCell']) hc ?_; intro YR ho5 hg5; have HR := hide (unhide Hfit YR g cr _ rfl ho5 hg5); clear ho5 hg5 HD Hrow hlo Hfit Hgrow)
                        go_wp2
                        go_roundw
                        case rel => exact ⟨k + 1, by go_num, by omega, HR⟩
                        case measure => show 40 - ((k : Int) + 1).toNat < 40 - ((k : Nat) : Int).toNat; omega
                      · have hnone : ar = none → G + k = 0 ∧ cr = 0 := fun e1 => by
                          rcases own_addr (unhide Hrow) with ⟨_, h0, h1⟩ | ⟨g, h⟩
                          · exact ⟨h0, h1⟩
                          · rw [e1] at h; cases h
                        have holds : ∀ (b' : Addr), ar = some b' → ∀ j u, ys[j]? = some u → (YD.alloc (.cells #[.int .i64 0, .int .i64 0, .int .i64 (50 + (i : Int))] 36)).cell? (b'.add j) = some u := fun b' e1 j u hj => by
                          rcases own_addr (unhide Hrow) with ⟨h0, _⟩ | ⟨g, h⟩
                          · rw [e1] at h0; cases h0
                          · obtain rfl : b' = ⟨g, 0, none⟩ := by rw [e1] at h; simpa using h
                            exact (unhide Hrow).cells (by rw [e1]; rfl) j u hj
                        go_wp2_with (at_builtin; refine wpList_append_grows _ rfl _ _ 28 rfl 36 iR _ 3 24 Try.underlying28 (unhide JRi) (unhide JR0) (unhide JR1) (unhide JR2) rfl (by decide) ar (G + k) cr ys rfl hnone hlo holds ⟨YD.heap.size, 0, none⟩ 1 1 [.int .i64 0, .int .i64 0, .int .i64 (50 + (i : Int))] rfl rfl (new_cells _ #[_, _, _] _) (by simp [Value.oneCell']) (by omega) (by unfold maxLen; omega) (by omega) ?_; intro zR YR ho5 hg5; have HR := hide (unhide Hgrow YR zR _ ho5 hg5); clear ho5 hg5 HD Hrow hlo Hfit Hgrow hnone holds)
                        go_wp2
                        go_roundw
                        case rel => exact ⟨k + 1, by go_num, by omega, HR⟩
                        case measure => show 40 - ((k : Int) + 1).toNat < 40 - ((k : Nat) : Int).toNat; omega
                · have k1 : ¬ (k : Int) < 40 := by omega
                  obtain ⟨v', n', xs', hp, -⟩ := (unhide hQ).ex
                  have HP1 := hide hp
                  clear hQ hk hkn hp
                  go_wp2
                  go_roundw
                  case rel => exact ⟨i + 1, _, _, _, by go_num, by omega, HP1⟩
                  case measure => show 3 - ((i : Int) + 1).toNat < 3 - ((i : Nat) : Int).toNat; omega
            · have i1 : ¬ (i : Int) < 3 := by omega
              have HP3 := hH
              clear hH hi hi3
              obtain ⟨W3, hW3⟩ : ∃ W, W = wr := ⟨_, rfl⟩
              subst hW3
              go_wp2
              clear i1
              go_loopw [17] (fun iv w3 => ∃ (i : Nat), iv = .int .i64 (i : Nat) ∧ i ≤ 3 ∧ Hid (Below W3.heap.size W3 w3)) (fun iv _ => 3 - (Lib.intOf iv).toNat)
              case atStart => exact ⟨0, rfl, by omega, hide (Below.refl _ _)⟩
              case round =>
                obtain ⟨i, rfl, hi3, HB⟩ := hrel
                by_cases hi : i < 3
                · have i1 : (i : Int) < 3 := by omega
                  go_wp2
                  go_loopw [18] (fun kv w4 => ∃ (k : Nat), kv = .int .i64 (k : Nat) ∧ k ≤ N ∧ Hid (Below W3.heap.size W3 w4)) (fun kv _ => N - (Lib.intOf kv).toNat)
                  case atStart => exact ⟨0, rfl, by omega, HB⟩
                  case round =>
                    clear HB
                    obtain ⟨k, rfl, hk, HB⟩ := hrel
                    have hKw := (unhide HP3).below (unhide HB)
                    obtain ⟨ce, fe, le⟩ := hKw.bs.get0 hi
                    have hrow := hKw.bs.fm.own (i) (by omega)
                    rw [(hKw.nn i hi).1, (ee_b hi).1, (ee_b hi).2] at hrow
                    obtain ⟨av, cv, hform⟩ := own_formO hrow
                    rw [hform] at ce hrow
                    by_cases hkn : k < N
                    · have k1 : (k : Int) < (N : Int) := by omega
                      obtain ⟨g, c, hvg⟩ := own_some hrow (by omega)
                      simp only [Value.slice.injEq, true_and] at hvg
                      obtain ⟨rfl, rfl⟩ := hvg
                      have hl := hrow.1
                      have x0' : wr.cell? ⟨g, k, none⟩ = some (.int .u8 ((i : Int) + 1)) := (hrow.cellAt (k) (by omega)).trans ((hKw.dn i hi).1 k hkn)
                      have l0 := (hrow.lt g rfl).2
                      clear hKw hrow hl hform
                      go_wp2
                      go_roundw
                      case rel => exact ⟨k + 1, by go_num, by omega, HB⟩
                      case measure => show N - ((k : Int) + 1).toNat < N - ((k : Nat) : Int).toNat; omega
                    · have k1 : ¬ (k : Int) < (N : Int) := by omega
                      clear hKw hrow hform
                      go_wp2
                      clear ce fe le k1
                      go_loopw [19] (fun kv w4 => ∃ (k : Nat), kv = .int .i64 (k : Nat) ∧ k ≤ D ∧ Hid (Below W3.heap.size W3 w4)) (fun kv _ => D - (Lib.intOf kv).toNat)
                      case atStart => exact ⟨0, rfl, by omega, HB⟩
                      case round =>
                        clear HB
                        obtain ⟨k, rfl, hk, HB⟩ := hrel
                        have hKw := (unhide HP3).below (unhide HB)
                        obtain ⟨ce, cf, le⟩ := hKw.bs.get1 hi hi
                        have hrow := hKw.bs.fm.own (3 + i) (by omega)
                        rw [(hKw.nn i hi).2.1, (ee_d hi).1, (ee_d hi).2] at hrow
                        obtain ⟨av, cv, hform⟩ := own_formO hrow
                        rw [hform] at ce hrow
                        by_cases hkn : k < D
                        · have k1 : (k : Int) < (D : Int) := by omega
                          obtain ⟨g, c, hvg⟩ := own_some hrow (by omega)
                          simp only [Value.slice.injEq, true_and] at hvg
                          obtain ⟨rfl, rfl⟩ := hvg
                          have hl := hrow.1
                          have x0' : wr.cell? ⟨g, k * 2, none⟩ = some (.int .i64 (i : Int)) := (hrow.cellAt (k * 2) (by omega)).trans (((hKw.dn i hi).2.1 k hkn).1)
                          have x1' : wr.cell? ⟨g, k * 2 + 1, none⟩ = some (.int .i64 (i : Int)) := (hrow.cellAt (k * 2 + 1) (by omega)).trans (((hKw.dn i hi).2.1 k hkn).2)
                          have l0 := (hrow.lt g rfl).2
                          clear hKw hrow hl hform
                          go_wp2
                          go_roundw
                          case rel => exact ⟨k + 1, by go_num, by omega, HB⟩
                          case measure => show D - ((k : Int) + 1).toNat < D - ((k : Nat) : Int).toNat; omega
                        · have k1 : ¬ (k : Int) < (D : Int) := by omega
                          clear hKw hrow hform
                          go_wp2
                          clear ce cf le k1
                          go_loopw [20] (fun kv w4 => ∃ (k : Nat), kv = .int .i64 (k : Nat) ∧ k ≤ G ∧ Hid (Below W3.heap.size W3 w4)) (fun kv _ => G - (Lib.intOf kv).toNat)
                          case atStart => exact ⟨0, rfl, by omega, HB⟩
                          case round =>
                            clear HB
                            obtain ⟨k, rfl, hk, HB⟩ := hrel
                            have hKw := (unhide HP3).below (unhide HB)
                            obtain ⟨cf, ce, le⟩ := hKw.bs.get1 hi hi
                            have hrow := hKw.bs.fm.own (6 + i) (by omega)
                            rw [(hKw.nn i hi).2.2, (ee_r hi).1, (ee_r hi).2] at hrow
                            obtain ⟨av, cv, hform⟩ := own_formO hrow
                            rw [hform] at ce hrow
                            by_cases hkn : k < G
                            · have k1 : (k : Int) < (G : Int) := by omega
                              obtain ⟨g, c, hvg⟩ := own_some hrow (by omega)
                              simp only [Value.slice.injEq, true_and] at hvg
                              obtain ⟨rfl, rfl⟩ := hvg
                              have hl := hrow.1
                              have x0' : wr.cell? ⟨g, k * 3 + 2, none⟩ = some (.int .i64 (100 + (i : Int))) := (hrow.cellAt (k * 3 + 2) (by omega)).trans ((hKw.dn i hi).2.2 k hkn)
                              have l0 := (hrow.lt g rfl).2
                              clear hKw hrow hl hform
                              go_wp2
                              go_roundw
                              case rel => exact ⟨k + 1, by go_num, by omega, HB⟩
                              case measure => show G - ((k : Int) + 1).toNat < G - ((k : Nat) : Int).toNat; omega
                            · have k1 : ¬ (k : Int) < (G : Int) := by omega
                              clear hKw hrow hform
                              go_wp2
                              go_roundw
                              case rel => exact ⟨i + 1, by go_num, by omega, HB⟩
                              case measure => show 3 - ((i : Int) + 1).toNat < 3 - ((i : Nat) : Int).toNat; omega
                · have i1 : ¬ (i : Int) < 3 := by omega
                  have HBk := hide (bnext (unhide HP3).bs.fm.bel (unhide HB))
                  obtain ⟨x0, x1, x2, x3, x4, x5, x6, x7, x8, x9, x10⟩ := cells_op (unhide HAf wr (unhide HBk)).1
                  have xl := (unhide HAf wr (unhide HBk)).1.lt
                  have HN := hide (unhide HE2 wr (unhide HBk))
                  go_wp2_with fail
                  refine (unhide HN).mono ?_
                  rintro r W5 ⟨u5, rfl, ho5, hb5⟩
                  have HB5 := hide (bnext (unhide HBk) hb5)
                  have hrb := RC.of_owns ho5
                  obtain ⟨a5, k5, rfl⟩ := owns_form ho5
                  have HN2 := hide (unhide HD2 W5 (unhide HB5))
                  clear x0 x1 x2 x3 x4 x5 x6 x7 x8 x9 x10 xl ho5 hb5 HN
                  go_wp2_with fail
                  refine (unhide HN2).mono ?_
                  rintro r W7 ⟨vd, vg, rfl, hod, hog, hne, hb7⟩
                  obtain ⟨ae, ce, rfl⟩ := OwD.form hod
                  obtain ⟨af, cf, rfl⟩ := OwR.form hog
                  obtain ⟨Y, hY⟩ : ∃ Y, W7.alloc (.cells #[.int .i64 o.ds, .int .i64 o.dq, .slice ae o.deps.length ce, .int .i64 o.kind, .int .i64 o.it, .int .i64 o.is, .int .i64 o.rt, .int .i64 o.rs, .string o.text, .slice af o.gone.length cf, .int .i64 o.site] 30) = Y := ⟨_, rfl⟩
                  have bY : Below W7.heap.size W7 Y := by rw [← hY]; exact ballc (Below.refl _ _) _
                  have HZ : Hid (Bx Y W7.heap.size 30 #[.int .i64 o.ds, .int .i64 o.dq, .slice ae o.deps.length ce, .int .i64 o.kind, .int .i64 o.it, .int .i64 o.is, .int .i64 o.rt, .int .i64 o.rs, .string o.text, .slice af o.gone.length cf, .int .i64 o.site]) := by rw [← hY]; exact hide (Bx.new W7 _ _)
                  have R1 : Hid (RI Y (.slice ae o.deps.length ce) o.deps) := (OwD.row hod).below bY
                  have R2 : Hid (RR Y (.slice af o.gone.length cf) o.gone) := RC.below (OwR.row hog) bY
                  have HBY := hide (bnext (unhide HB5) (bnext hb7 bY))
                  have HN3 := hide (bytes_in Lb Lb (.slice fa N fc) (.slice a5 N k5) Y (by unfold RB; have h := unhide HB2 Y (unhide HBY); rw [unhide HNb]; exact h) (by unfold RB; have h := RC.below (RC.below hrb hb7) bY; rw [unhide HNb]; exact h) (by have := unhide HNb; omega) (by have := unhide HNb; omega))
                  rw [decide_eq_true (rfl : Lb = Lb)] at HN3
                  clear hod hog hne hb7 bY hrb HN2
                  go_wp2_with fail
                  refine (unhide HN3).mono ?_
                  rintro r W8 ⟨rfl, k8, hW8⟩
                  have bd : Below Y.heap.size Y W8 := by rw [hW8]; exact bdrew (Below.refl _ _) k8
                  have HB8 := hide (bnext (unhide HBY) bd)
                  obtain ⟨x0, x1, x2, x3, x4, x5, x6, x7, x8, x9, x10⟩ := cells_op (unhide HAf W8 (unhide HB8)).1
                  have xl := (unhide HAf W8 (unhide HB8)).1.lt
                  obtain ⟨z0, z1, z2, z3, z4, z5, z6, z7, z8, z9, z10⟩ := cells_op ((unhide HZ).below bd)
                  have zl := ((unhide HZ).below bd).lt
                  have HN4 := hide (unhide HS2 W8 (unhide HB8) ae ce af cf ((unhide R1).below bd) (RC.below (unhide R2) bd))
                  clear hW8 bd hY HN3
                  go_wp2_with fail
                  refine (unhide HN4).mono ?_
                  rintro r W9 ⟨rfl, hb9⟩
                  have HB9 := hide (bnext (unhide HB8) hb9)
                  clear hb9
                  go_wp2_with fail
                  refine (unhide HK _).mono ?_
                  rintro r W10 ⟨rfl, hb10⟩
                  go_wp2
                  go_ret
                  exact ⟨rfl, bnext (unhide HBf) (bnext (unhide HB9) hb10)⟩

theorem own : ownKnob Try.prog.godebug = none := by kernel_rfl
theorem laidOut2 : laidOutB Try.prog = true := by kernel_rfl

set_option maxRecDepth 100000 in
theorem lifted (os : Os) (started : os.Started) (H : Type) (enc : TypeId × Value → H) :
    ReturnsInHanded {} Try.checked os 4 .any (Rows.opOwnSpec.pre6 enc Try.prog Try.f4 Rows.opOwnRow.domain false) (Rows.opOwnSpec.post enc Try.prog Try.f4 false true false false) := by
  refine returnsInHanded_of_change (C := Try.checked) own started (by kernel_rfl) Try.func4
    (ChangeSpec.witness6 (enc := enc) (C := Try.checked) false ⟨#[], #[.agg #[.int .i64 0, .int .i64 0, .slice none 0 0, .int .i64 0, .int .i64 0, .int .i64 0, .int .i64 0, .int .i64 0, .string ByteArray.empty, .slice none 0 0, .int .i64 0]], []⟩ 8 (by kernel_rfl) (by kernel_rfl) (by kernel_rfl) (by kernel_rfl)) ?_
  intro W base args ds gs before hval0 hW hcnd _
  have hval : ∀ (j : Nat) t v, Try.f4.params[j]? = some t → args[j]? = some v → Value.okWide Try.prog W .any base t v := hval0
  have hW' := hW
  obtain ⟨p, q, hA0, hV, rfl, hfz, hnd⟩ := hW
  have hA : DataW.TrodAll enc Try.prog W 0 (fun _ => true) true Try.f4.params.toList args.toList ds p := hA0
  rw [Try.params4] at hA hval
  obtain ⟨v0, vs0, d0, ds0, p0, q0, hargs, rfl, rfl, h0, r0⟩ := trodAll_cons hA
  obtain ⟨rfl, rfl, rfl⟩ := trodAll_nil r0
  obtain rfl : args = #[v0] := by cases args; simp_all
  obtain ⟨rfl, rfl⟩ := trodVars_none hV
  have k0 := h0
  have lt0 : ∀ x ∈ p0, x.block < W.heap.size := by obtain ⟨m, hm⟩ := k0; exact DataW.trod_lt m _ _ _ hm
  obtain ⟨o0, ad0, ag0, cd0, cg0, rfl, w0⟩ := open_op (hval 0 30 v0 rfl rfl) h0
  clear hA0 hval0
  refine (walk o0 ad0 ag0 cd0 cg0 W w0).mono fun e W' ⟨he, bel⟩ => ?_
  subst he
  exact ⟨_, rfl, _, _, _, [], _, [], hW', trodAll_mk1 (shut_bool Try.underlying4 _), (trodAll_cons_mk (Below.trod laidOut2 (by kernel_rfl) (of_decide_eq_true (by kernel_rfl)) k0 bel lt0) trodAll_mk0), rfl, bel.frame _, fun h => by cases h⟩

theorem over : Rows.opOwnRow.holds Try.pinned (OpenSpec.ofChange Rows.opOwnSpec) :=
  OpenClaim.holds_of_wide 4 Try.f4 rfl rfl rfl rfl rfl rfl rfl ⟨rfl, rfl, rfl, rfl, rfl⟩ rfl rfl rfl rfl rfl (by kernel_rfl) Try.func4 (by kernel_rfl)
    (of_decide_eq_true (by kernel_rfl)) (by unfold Func.isWrapper; first | (rw [if_pos (by decide +kernel)]; kernel_rfl) | (rw [if_neg (by decide +kernel)]; exact ⟨rfl, rfl⟩))
    (fun os started H enc _ => lifted os started H enc)

end LOpOwn

theorem opOwn_holds : Rows.OpOwnSaid := LOpOwn.over

end Go.Proofs.Ytnmkaidpfoglkaa
