/-
  Chapter 8's law OpBack returns true for every two operations, and leaves its arguments as they were; no condition.
-/
import Derived.Test.YtknnfahbpekmoaaRows
import Derived.WalkKit
import Derived.ProofKit
import Derived.OpenShut
import Derived.ShutString
import Derived.ChangeOld
import Derived.Below
import Derived.Test.YtknnfahbpekmoaaZQ5
import Derived.Test.YtknnfahbpekmoaaZQ4
import Derived.Test.YtknnfahbpekmoaaZXN
import Derived.Test.YtknnfahbpekmoaaZXReg
set_option linter.unusedVariables false
set_option linter.unusedSimpArgs false
namespace Go.Proofs.Ytknnfahbpekmoaa
namespace LOpBack
open Go.ChangeShapes Go.WideShapes Go.ChangeAt Go.RowKit Go.Lib
open Go.ChangeMaps (open_string shut_string)

theorem take_same {o x : Opn} (h : okO o = true) (k : okO x = true) (ht : o.text.size < 9223372036854775808) (kt : x.text.size < 9223372036854775808) {n : Nat} (hn : (n = (ob o).length ∧ n ≤ (ob x).length) ∨ (n = (ob x).length ∧ n ≤ (ob o).length)) : decide ((ob o).take n = (ob x).take n) = sameB o x := by
  rw [Bool.eq_iff_iff, decide_eq_true_eq, sameB_iff]
  constructor
  · intro e
    rcases hn with ⟨h1, h2⟩ | ⟨h1, h2⟩
    · rw [h1, List.take_length] at e
      have e2 : ob x = ob o ++ (ob x).drop (ob o).length := by
        conv => lhs; rw [← List.take_append_drop (ob o).length (ob x)]
        rw [← e]
      exact (ob_prefix h k ht kt e2).1
    · rw [h1, List.take_length] at e
      have e2 : ob o = ob x ++ (ob o).drop (ob x).length := by
        conv => lhs; rw [← List.take_append_drop (ob x).length (ob o)]
        rw [e]
      exact (ob_prefix k h kt ht e2).1.symm
  · rintro rfl; rfl
theorem bC_take (l : List Nat) (n : Nat) : bC (l.take n) = (bC l).take n := by unfold bC; rw [List.map_take]
theorem RB.take {W : World} {g L c : Nat} {l : List Nat} (h : W.ownsRow g 5 1 (.slice (some ⟨L, 0, none⟩) l.length c) l.length (bC l)) {n : Nat} (hn : n ≤ l.length) : RB W (.slice (some ⟨L, 0, none⟩) n c) (l.take n) := by
  have hr : RC W (.slice (some ⟨L, 0, none⟩) l.length c) l.length (bC l) := RC.of_owns h
  have hl : (l.take n).length = n := by rw [List.length_take]; omega
  unfold RB
  rw [hl, bC_take]
  rcases hr with ⟨h0, _⟩ | ⟨b, off, cap, e, h1, h2, h3⟩
  · have : n = 0 := by omega
    subst this
    exact .inl ⟨rfl, _, _, rfl⟩
  · simp only [Value.slice.injEq, Option.some.injEq, Addr.mk.injEq, and_true, true_and] at e
    obtain ⟨⟨rfl, rfl⟩, rfl⟩ := e
    exact .inr ⟨L, 0, c, rfl, by omega, h2, fun j q hq => h3 j q (by
      rw [List.getElem?_take] at hq
      split at hq
      · exact hq
      · cases hq)⟩
theorem RB.all {W : World} {g : Nat} {v : Value} {l : List Nat} (h : W.ownsRow g 5 1 v l.length (bC l)) : RB W v l := RC.of_owns h
theorem ob_len (o : Opn) : 0 < (ob o).length := by
  unfold ob
  have : 0 < (num o.kind.toNat).length := by
    unfold num
    rw [numF]
    split <;> simp
  simp
  omega
theorem owns_some {W : World} {B : Nat} {v : Value} {l : List Nat} (h : W.ownsRow B 5 1 v l.length (bC l)) (hl : 0 < l.length) : ∃ g c, v = .slice (some ⟨g, 0, none⟩) l.length c ∧ l.length ≤ c := by
  rcases h.2 with ⟨_, e⟩ | ⟨g, cap, cur, e, _, _, h1, _⟩
  · omega
  · exact ⟨g, cap, e, h1⟩

theorem numF_byte : ∀ (f n : Nat), n < 128 ^ (f + 1) → ∀ b ∈ numF f n, b < 256
  | 0, n, h => by
    intro b hb
    simp only [Nat.zero_add, Nat.pow_one] at h
    rw [numF] at hb
    simp at hb
    omega
  | f + 1, n, h => by
    intro b hb
    rw [numF] at hb
    split at hb
    · simp at hb; omega
    · rcases List.mem_cons.1 hb with rfl | hb
      · omega
      · exact numF_byte f (n / 128) (Nat.div_lt_of_lt_mul (by rw [Nat.mul_comm, ← Nat.pow_succ]; exact h)) b hb
theorem num_byte {n : Nat} (h : n < 9223372036854775808) : ∀ b ∈ num n, b < 256 := numF_byte 10 n (by
  have : (128 : Nat) ^ 11 = 151115727451828646838272 := by decide
  omega)
theorem sB_byte (t : ByteArray) : ∀ b ∈ sB t, b < 256 := by
  intro b hb
  unfold sB at hb
  obtain ⟨x, _, rfl⟩ := List.mem_map.1 hb
  exact x.toNat_lt
theorem pb_byte (d : List (Int × Int)) (h : chk d = 0) : ∀ b ∈ pb d, b < 256 := by
  intro b hb
  unfold pb at hb
  obtain ⟨x, hx, hb⟩ := List.mem_flatMap.1 hb
  have hv := vec_of_chk h
  rw [← hv] at hx
  have := vec_in (sy_good d) hx
  rcases List.mem_append.1 hb with hb | hb
  · exact num_byte (by omega) b hb
  · exact num_byte (by omega) b hb
theorem gb_byte (g : List ((Int × Int) × Int)) (h : ∀ r ∈ g, isR r = true) : ∀ b ∈ gb g, b < 256 := by
  intro b hb
  unfold gb at hb
  obtain ⟨r, hr, hb⟩ := List.mem_flatMap.1 hb
  have := isR_full (h r hr)
  rcases List.mem_append.1 hb with hb | hb
  · exact num_byte (by omega) b hb
  · rcases List.mem_append.1 hb with hb | hb
    · exact num_byte (by omega) b hb
    · exact num_byte (by omega) b hb
theorem ob_byte {o : Opn} (h : okO o = true) (ht : o.text.size < 9223372036854775808) (hd : o.deps.length < 9223372036854775808) : ∀ b ∈ ob o, b < 256 := by
  have k := OkN.of h
  have hk := k.kind
  have h1 := k.ds
  have h2 := k.dq
  intro b hb
  unfold ob at hb
  simp only [List.mem_append] at hb
  rcases hb with hb | hb | hb | (hb | hb) | hb
  · exact num_byte (by omega) b hb
  · exact num_byte (by omega) b hb
  · exact num_byte (by omega) b hb
  · exact num_byte hd b hb
  · exact pb_byte _ k.deps b hb
  · unfold kb at hb
    split at hb
    · rename_i e
      obtain ⟨_, i1, i2, i3, _⟩ := k.ins e
      simp only [List.mem_append] at hb
      rcases hb with hb | hb | hb | hb | hb
      · exact num_byte (by omega) b hb
      · exact num_byte (by omega) b hb
      · exact num_byte (by omega) b hb
      · exact num_byte ht b hb
      · exact sB_byte _ b hb
    · split at hb
      · rename_i e
        obtain ⟨_, _, _, _, _, _, i7, i8⟩ := k.del e
        rcases List.mem_append.1 hb with hb | hb
        · exact num_byte (by omega) b hb
        · exact gb_byte _ i8 b hb
      · split at hb
        · rename_i e
          obtain ⟨_, _, _, _, _, _, i7, i8⟩ := k.join e
          exact num_byte (by omega) b hb
        · cases hb

set_option maxRecDepth 100000 in
set_option maxHeartbeats 8000000 in
theorem walk (o : Opn) (ad ag : Option Addr) (cd cg : Nat) (x : Opn) (ad' ag' : Option Addr) (cd' cg' : Nat) (w : World) (w0 : RI w (.slice ad o.deps.length cd) o.deps ∧ RR w (.slice ag o.gone.length cg) o.gone ∧ InA o) (w1 : RI w (.slice ad' x.deps.length cd') x.deps ∧ RR w (.slice ag' x.gone.length cg') x.gone ∧ InA x) :
    Calls Try.prog 4 #[opA o (.slice ad o.deps.length cd) (.slice ag o.gone.length cg), opA x (.slice ad' x.deps.length cd') (.slice ag' x.gone.length cg')] w fun e W => e = .returned (.bool true) ∧ Below w.heap.size w W := by
  obtain ⟨hd, hg, hi⟩ := w0
  obtain ⟨hd', hg', hi'⟩ := w1
  obtain ⟨X, hX⟩ : ∃ X, (w.alloc (.cells #[.int .i64 o.ds, .int .i64 o.dq, .slice ad o.deps.length cd, .int .i64 o.kind, .int .i64 o.it, .int .i64 o.is, .int .i64 o.rt, .int .i64 o.rs, .string o.text, .slice ag o.gone.length cg, .int .i64 o.site] 30)).alloc (.cells #[.int .i64 x.ds, .int .i64 x.dq, .slice ad' x.deps.length cd', .int .i64 x.kind, .int .i64 x.it, .int .i64 x.is, .int .i64 x.rt, .int .i64 x.rs, .string x.text, .slice ag' x.gone.length cg', .int .i64 x.site] 30) = X := ⟨_, rfl⟩
  have HX : Bx X w.heap.size 30 #[.int .i64 o.ds, .int .i64 o.dq, .slice ad o.deps.length cd, .int .i64 o.kind, .int .i64 o.it, .int .i64 o.is, .int .i64 o.rt, .int .i64 o.rs, .string o.text, .slice ag o.gone.length cg, .int .i64 o.site] := by rw [← hX]; exact (Bx.new w _ _).below (ballc (Below.refl _ _) _)
  have HY : Bx X (w.heap.size + 1) 30 #[.int .i64 x.ds, .int .i64 x.dq, .slice ad' x.deps.length cd', .int .i64 x.kind, .int .i64 x.it, .int .i64 x.is, .int .i64 x.rt, .int .i64 x.rs, .string x.text, .slice ag' x.gone.length cg', .int .i64 x.site] := by
    rw [← hX]
    have := Bx.new (w.alloc (.cells #[.int .i64 o.ds, .int .i64 o.dq, .slice ad o.deps.length cd, .int .i64 o.kind, .int .i64 o.it, .int .i64 o.is, .int .i64 o.rt, .int .i64 o.rs, .string o.text, .slice ag o.gone.length cg, .int .i64 o.site] 30)) 30 #[.int .i64 x.ds, .int .i64 x.dq, .slice ad' x.deps.length cd', .int .i64 x.kind, .int .i64 x.it, .int .i64 x.is, .int .i64 x.rt, .int .i64 x.rs, .string x.text, .slice ag' x.gone.length cg', .int .i64 x.site]
    rw [World.size_alloc] at this
    exact this
  have bX : Below w.heap.size w X := by rw [← hX]; exact ballc (ballc (Below.refl _ _) _) _
  have HD : Hid (RI X (.slice ad o.deps.length cd) o.deps) := hd.below bX
  have HG : Hid (RR X (.slice ag o.gone.length cg) o.gone) := RC.below hg bX
  have HE : Hid (RI X (.slice ad' x.deps.length cd') x.deps) := hd'.below bX
  have HH : Hid (RR X (.slice ag' x.gone.length cg') x.gone) := RC.below hg' bX
  have HL := hide (fun W => long_in o ad ag cd cg W hi.text)
  have HL' := hide (fun W => long_in x ad' ag' cd' cg' W hi'.text)
  have HK := hide (fun W => known_in W)
  obtain ⟨x0, x1, x2, x3, x4, x5, x6, x7, x8, x9, x10⟩ := cells_op HX
  obtain ⟨y0, y1, y2, y3, y4, y5, y6, y7, y8, y9, y10⟩ := cells_op HY
  have xl := HX.lt
  have yl := HY.lt
  replace HX := hide HX
  replace HY := hide HY
  have B0 := hide bX
  have HI := hide hi
  have HI' := hide hi'
  clear hd hg bX hi hd' hg' hi'
  cases hlo : longO o
  rotate_left
  · rw [hlo] at HL
    clear hlo
    unfold opA at HL ⊢
    go_enter Try.func4, Try.ntmps4
    go_wp2_with fail
    refine (unhide HL _).mono ?_
    rintro r W1 ⟨rfl, hb⟩
    replace B0 := hide (bnext (unhide B0) hb)
    clear hb
    go_wp2_with fail
    refine (unhide HK _).mono ?_
    rintro r W2 ⟨rfl, hb⟩
    replace B0 := hide (bnext (unhide B0) hb)
    go_wp2
    go_ret
    exact ⟨rfl, unhide B0⟩
  cases hlx : longO x
  rotate_left
  · rw [hlo] at HL
    rw [hlx] at HL'
    clear hlo hlx
    unfold opA at HL HL' ⊢
    go_enter Try.func4, Try.ntmps4
    have HN := hide (unhide HL X)
    go_wp2_with fail
    refine (unhide HN).mono ?_
    rintro r W1 ⟨rfl, hb⟩
    replace HX := hide ((unhide HX).below hb)
    replace HY := hide ((unhide HY).below hb)
    replace HD := hide ((unhide HD).below hb)
    replace HG := hide (RC.below (unhide HG) hb)
    replace HE := hide ((unhide HE).below hb)
    replace HH := hide (RC.below (unhide HH) hb)
    replace B0 := hide (bnext (unhide B0) hb)
    clear hb HN
    clear x0 y0 x1 y1 x2 y2 x3 y3 x4 y4 x5 y5 x6 y6 x7 y7 x8 y8 x9 y9 x10 y10
    obtain ⟨x0, x1, x2, x3, x4, x5, x6, x7, x8, x9, x10⟩ := cells_op (unhide HX)
    obtain ⟨y0, y1, y2, y3, y4, y5, y6, y7, y8, y9, y10⟩ := cells_op (unhide HY)
    have HN := hide (unhide HL' W1)
    go_wp2_with fail
    refine (unhide HN).mono ?_
    rintro r W2 ⟨rfl, hb⟩
    replace B0 := hide (bnext (unhide B0) hb)
    clear hb HN
    go_wp2_with fail
    refine (unhide HK _).mono ?_
    rintro r W3 ⟨rfl, hb⟩
    replace B0 := hide (bnext (unhide B0) hb)
    go_wp2
    go_ret
    exact ⟨rfl, unhide B0⟩
  rw [hlo] at HL
  rw [hlx] at HL'
  have hin : InO o := by
    unfold longO at hlo
    simp at hlo
    exact (unhide HI).fit (by omega) (by omega) (by omega)
  have hix : InO x := by
    unfold longO at hlx
    simp at hlx
    exact (unhide HI').fit (by omega) (by omega) (by omega)
  have hto : o.text.size ≤ 1000000 := by unfold longO at hlo; simp at hlo; omega
  have htx : x.text.size ≤ 1000000 := by unfold longO at hlx; simp at hlx; omega
  have HEn := hide (fun W hd hg => OEncode_in o (.slice ad o.deps.length cd) (.slice ag o.gone.length cg) W hd hg hin hto)
  have HEx := hide (fun W hd hg => OEncode_in x (.slice ad' x.deps.length cd') (.slice ag' x.gone.length cg') W hd hg hix htx)
  have HCo := hide (fun W hd hg => OCheck_in o (.slice ad o.deps.length cd) (.slice ag o.gone.length cg) W hd hg hin)
  have HS := hide (fun ae ce af cf W hd' hg' hd hg => same_in o o (.slice ae o.deps.length ce) (.slice af o.gone.length cf) (.slice ad o.deps.length cd) (.slice ag o.gone.length cg) W hd' hg' hd hg hin.deps hin.many)
  rw [(sameB_iff o o).2 rfl] at HS
  have HS2 := hide (fun W hd hg hd' hg' => same_in o x (.slice ad o.deps.length cd) (.slice ag o.gone.length cg) (.slice ad' x.deps.length cd') (.slice ag' x.gone.length cg') W hd hg hd' hg' hin.deps hin.many)
  clear hlo hlx HI HI'
  by_cases hok : okO o = true
  rotate_left
  · have hc : chkO o = 10 := by unfold chkO; rw [if_neg hok]
    have he : encL o = [] := by unfold encL; rw [if_neg hok]
    rw [hc, he] at HEn
    rw [hc] at HCo
    clear hok hc he HS HS2 HEx
    unfold opA at HL HL' HEn HCo ⊢
    go_enter Try.func4, Try.ntmps4
    have HN := hide (unhide HL X)
    go_wp2_with fail
    refine (unhide HN).mono ?_
    rintro r W1 ⟨rfl, hb⟩
    replace HX := hide ((unhide HX).below hb)
    replace HY := hide ((unhide HY).below hb)
    replace HD := hide ((unhide HD).below hb)
    replace HG := hide (RC.below (unhide HG) hb)
    replace HE := hide ((unhide HE).below hb)
    replace HH := hide (RC.below (unhide HH) hb)
    replace B0 := hide (bnext (unhide B0) hb)
    clear hb HN
    clear x0 y0 x1 y1 x2 y2 x3 y3 x4 y4 x5 y5 x6 y6 x7 y7 x8 y8 x9 y9 x10 y10
    obtain ⟨x0, x1, x2, x3, x4, x5, x6, x7, x8, x9, x10⟩ := cells_op (unhide HX)
    obtain ⟨y0, y1, y2, y3, y4, y5, y6, y7, y8, y9, y10⟩ := cells_op (unhide HY)
    have HN := hide (unhide HL' W1)
    go_wp2_with fail
    refine (unhide HN).mono ?_
    rintro r W2 ⟨rfl, hb⟩
    replace HX := hide ((unhide HX).below hb)
    replace HY := hide ((unhide HY).below hb)
    replace HD := hide ((unhide HD).below hb)
    replace HG := hide (RC.below (unhide HG) hb)
    replace HE := hide ((unhide HE).below hb)
    replace HH := hide (RC.below (unhide HH) hb)
    replace B0 := hide (bnext (unhide B0) hb)
    clear hb HN
    clear x0 y0 x1 y1 x2 y2 x3 y3 x4 y4 x5 y5 x6 y6 x7 y7 x8 y8 x9 y9 x10 y10
    obtain ⟨x0, x1, x2, x3, x4, x5, x6, x7, x8, x9, x10⟩ := cells_op (unhide HX)
    obtain ⟨y0, y1, y2, y3, y4, y5, y6, y7, y8, y9, y10⟩ := cells_op (unhide HY)
    have HN := hide (unhide HEn W2 (unhide HD) (unhide HG))
    go_wp2_with fail
    refine (unhide HN).mono ?_
    rintro r W3 ⟨v1, rfl, ho, hb⟩
    replace HX := hide ((unhide HX).below hb)
    replace HY := hide ((unhide HY).below hb)
    replace HD := hide ((unhide HD).below hb)
    replace HG := hide (RC.below (unhide HG) hb)
    replace HE := hide ((unhide HE).below hb)
    replace HH := hide (RC.below (unhide HH) hb)
    replace B0 := hide (bnext (unhide B0) hb)
    clear hb HN
    obtain ⟨a1, c1, rfl⟩ := owns_form ho
    clear ho
    clear x0 y0 x1 y1 x2 y2 x3 y3 x4 y4 x5 y5 x6 y6 x7 y7 x8 y8 x9 y9 x10 y10
    obtain ⟨x0, x1, x2, x3, x4, x5, x6, x7, x8, x9, x10⟩ := cells_op (unhide HX)
    obtain ⟨y0, y1, y2, y3, y4, y5, y6, y7, y8, y9, y10⟩ := cells_op (unhide HY)
    have HN := hide (unhide HCo W3 (unhide HD) (unhide HG))
    go_wp2_with fail
    refine (unhide HN).mono ?_
    rintro r W4 ⟨rfl, hb⟩
    replace B0 := hide (bnext (unhide B0) hb)
    clear hb HN
    simp only [List.length_nil]
    go_wp2_with fail
    refine (unhide HK _).mono ?_
    rintro r W5 ⟨rfl, hb⟩
    replace B0 := hide (bnext (unhide B0) hb)
    go_wp2
    go_ret
    exact ⟨rfl, unhide B0⟩
  have hc : chkO o = 0 := by unfold chkO; rw [if_pos hok]
  rw [hc, encL_ob hok] at HEn
  rw [hc] at HCo
  have hbo := ob_byte hok (by omega) (by have := hin.deps; omega)
  have hlen := putO_len ([], 0) o
  rw [putO_ob hok] at hlen
  simp only [List.nil_append, List.length_nil] at hlen
  have hpo := ob_len o
  have HDe := hide (fun W v h => ODecode_in W v (ob o) h hbo (by omega))
  rw [decO_back hok (by omega)] at HDe
  simp only at HDe
  have Hts := hide (fun k n => take_same (o := o) (x := x) (n := n) hok k (by omega) (by omega))
  have Hlx := hide (fun k : okO x = true => ob_len x)
  have Hex := hide (fun k : okO x = true => encL_ob (o := x) k)
  clear hbo hc hok hin hix
  obtain ⟨Lb, hLb⟩ : ∃ l, ob o = l := ⟨_, rfl⟩
  rw [hLb] at HEn hlen hpo HDe Hts
  obtain ⟨E, hE⟩ : ∃ e, sameB o x = e := ⟨_, rfl⟩
  rw [hE] at HS2 Hts
  clear hLb hE
  obtain ⟨nb, hnb⟩ : ∃ n, Lb.length = n := ⟨_, rfl⟩
  unfold opA at HL HL' HEn HEx HCo HS HS2 HDe ⊢
  go_enter Try.func4, Try.ntmps4
  have HN := hide (unhide HL X)
  go_wp2_with fail
  refine (unhide HN).mono ?_
  rintro r W1 ⟨rfl, hb⟩
  replace HX := hide ((unhide HX).below hb)
  replace HY := hide ((unhide HY).below hb)
  replace HD := hide ((unhide HD).below hb)
  replace HG := hide (RC.below (unhide HG) hb)
  replace HE := hide ((unhide HE).below hb)
  replace HH := hide (RC.below (unhide HH) hb)
  replace B0 := hide (bnext (unhide B0) hb)
  clear hb HN
  clear x0 y0 x1 y1 x2 y2 x3 y3 x4 y4 x5 y5 x6 y6 x7 y7 x8 y8 x9 y9 x10 y10
  obtain ⟨x0, x1, x2, x3, x4, x5, x6, x7, x8, x9, x10⟩ := cells_op (unhide HX)
  obtain ⟨y0, y1, y2, y3, y4, y5, y6, y7, y8, y9, y10⟩ := cells_op (unhide HY)
  have HN := hide (unhide HL' W1)
  go_wp2_with fail
  refine (unhide HN).mono ?_
  rintro r W2 ⟨rfl, hb⟩
  replace HX := hide ((unhide HX).below hb)
  replace HY := hide ((unhide HY).below hb)
  replace HD := hide ((unhide HD).below hb)
  replace HG := hide (RC.below (unhide HG) hb)
  replace HE := hide ((unhide HE).below hb)
  replace HH := hide (RC.below (unhide HH) hb)
  replace B0 := hide (bnext (unhide B0) hb)
  clear hb HN
  clear x0 y0 x1 y1 x2 y2 x3 y3 x4 y4 x5 y5 x6 y6 x7 y7 x8 y8 x9 y9 x10 y10
  obtain ⟨x0, x1, x2, x3, x4, x5, x6, x7, x8, x9, x10⟩ := cells_op (unhide HX)
  obtain ⟨y0, y1, y2, y3, y4, y5, y6, y7, y8, y9, y10⟩ := cells_op (unhide HY)
  have HN := hide (unhide HEn W2 (unhide HD) (unhide HG))
  go_wp2_with fail
  refine (unhide HN).mono ?_
  rintro r W3 ⟨v1, rfl, ho, hb⟩
  replace HX := hide ((unhide HX).below hb)
  replace HY := hide ((unhide HY).below hb)
  replace HD := hide ((unhide HD).below hb)
  replace HG := hide (RC.below (unhide HG) hb)
  replace HE := hide ((unhide HE).below hb)
  replace HH := hide (RC.below (unhide HH) hb)
  replace B0 := hide (bnext (unhide B0) hb)
  clear hb HN
  obtain ⟨g1, c1, rfl, hc1⟩ := owns_some ho hpo
  have O1 := hide ho
  rw [hnb] at hc1 ⊢
  clear ho HL HL' HEn
  clear x0 y0 x1 y1 x2 y2 x3 y3 x4 y4 x5 y5 x6 y6 x7 y7 x8 y8 x9 y9 x10 y10
  obtain ⟨x0, x1, x2, x3, x4, x5, x6, x7, x8, x9, x10⟩ := cells_op (unhide HX)
  obtain ⟨y0, y1, y2, y3, y4, y5, y6, y7, y8, y9, y10⟩ := cells_op (unhide HY)
  have HN := hide (unhide HCo W3 (unhide HD) (unhide HG))
  go_wp2_with fail
  refine (unhide HN).mono ?_
  rintro r W4 ⟨rfl, hb⟩
  replace HX := hide ((unhide HX).below hb)
  replace HY := hide ((unhide HY).below hb)
  replace HD := hide ((unhide HD).below hb)
  replace HG := hide (RC.below (unhide HG) hb)
  replace HE := hide ((unhide HE).below hb)
  replace HH := hide (RC.below (unhide HH) hb)
  replace B0 := hide (bnext (unhide B0) hb)
  replace O1 := hide (owns_kp (N := fun _ => False) (unhide O1) (Kp.of_below hb) (fun _ _ e => e))
  clear hb HN
  clear x0 y0 x1 y1 x2 y2 x3 y3 x4 y4 x5 y5 x6 y6 x7 y7 x8 y8 x9 y9 x10 y10
  obtain ⟨x0, x1, x2, x3, x4, x5, x6, x7, x8, x9, x10⟩ := cells_op (unhide HX)
  obtain ⟨y0, y1, y2, y3, y4, y5, y6, y7, y8, y9, y10⟩ := cells_op (unhide HY)
  have HN := hide (unhide HDe W4 _ (RC.of_owns (unhide O1)))
  rw [hnb] at HN
  go_wp2_with fail
  refine (unhide HN).mono ?_
  rintro r W5 ⟨vd, vg, rfl, hod, hog, hne, hb⟩
  replace HX := hide ((unhide HX).below hb)
  replace HY := hide ((unhide HY).below hb)
  replace HD := hide ((unhide HD).below hb)
  replace HG := hide (RC.below (unhide HG) hb)
  replace HE := hide ((unhide HE).below hb)
  replace HH := hide (RC.below (unhide HH) hb)
  replace O1 := hide (owns_kp (N := fun _ => False) (unhide O1) (Kp.of_below hb) (fun _ _ e => e))
  replace B0 := hide (bnext (unhide B0) hb)
  obtain ⟨ae, ce, rfl⟩ := OwD.form hod
  obtain ⟨af, cf, rfl⟩ := OwR.form hog
  obtain ⟨Y, hY⟩ : ∃ Y, W5.alloc (.cells #[.int .i64 o.ds, .int .i64 o.dq, .slice ae o.deps.length ce, .int .i64 o.kind, .int .i64 o.it, .int .i64 o.is, .int .i64 o.rt, .int .i64 o.rs, .string o.text, .slice af o.gone.length cf, .int .i64 o.site] 30) = Y := ⟨_, rfl⟩
  have bY : Below W5.heap.size W5 Y := by rw [← hY]; exact ballc (Below.refl _ _) _
  have HZ : Hid (Bx Y W5.heap.size 30 #[.int .i64 o.ds, .int .i64 o.dq, .slice ae o.deps.length ce, .int .i64 o.kind, .int .i64 o.it, .int .i64 o.is, .int .i64 o.rt, .int .i64 o.rs, .string o.text, .slice af o.gone.length cf, .int .i64 o.site]) := by rw [← hY]; exact Bx.new W5 _ _
  have R1 : Hid (RI Y (.slice ae o.deps.length ce) o.deps) := (OwD.row hod).below bY
  have R2 : Hid (RR Y (.slice af o.gone.length cf) o.gone) := RC.below (OwR.row hog) bY
  replace HX := hide ((unhide HX).below bY)
  replace HY := hide ((unhide HY).below bY)
  replace HD := hide ((unhide HD).below bY)
  replace HG := hide (RC.below (unhide HG) bY)
  replace HE := hide ((unhide HE).below bY)
  replace HH := hide (RC.below (unhide HH) bY)
  replace O1 := hide (owns_kp (N := fun _ => False) (unhide O1) (Kp.of_below bY) (fun _ _ e => e))
  replace B0 := hide (bnext (unhide B0) bY)
  have HN := hide (unhide HS ae ce af cf Y (unhide R1) (unhide R2) (unhide HD) (unhide HG))
  clear hb hod hog hne bY R1 R2 HDe HCo
  clear x0 y0 x1 y1 x2 y2 x3 y3 x4 y4 x5 y5 x6 y6 x7 y7 x8 y8 x9 y9 x10 y10
  obtain ⟨x0, x1, x2, x3, x4, x5, x6, x7, x8, x9, x10⟩ := cells_op (unhide HX)
  obtain ⟨y0, y1, y2, y3, y4, y5, y6, y7, y8, y9, y10⟩ := cells_op (unhide HY)
  obtain ⟨z0, z1, z2, z3, z4, z5, z6, z7, z8, z9, z10⟩ := cells_op (unhide HZ)
  have zl := (unhide HZ).lt
  have xl2 := (unhide HX).lt
  go_wp2_with fail
  refine (unhide HN).mono ?_
  rintro r W6 ⟨rfl, hb⟩
  replace HX := hide ((unhide HX).below hb)
  replace HY := hide ((unhide HY).below hb)
  replace HD := hide ((unhide HD).below hb)
  replace HG := hide (RC.below (unhide HG) hb)
  replace HE := hide ((unhide HE).below hb)
  replace HH := hide (RC.below (unhide HH) hb)
  replace O1 := hide (owns_kp (N := fun _ => False) (unhide O1) (Kp.of_below hb) (fun _ _ e => e))
  replace B0 := hide (bnext (unhide B0) hb)
  clear hb HN hY z0 z1 z2 z3 z4 z5 z6 z7 z8 z9 z10 zl xl2 HZ HS
  clear x0 y0 x1 y1 x2 y2 x3 y3 x4 y4 x5 y5 x6 y6 x7 y7 x8 y8 x9 y9 x10 y10
  obtain ⟨x0, x1, x2, x3, x4, x5, x6, x7, x8, x9, x10⟩ := cells_op (unhide HX)
  obtain ⟨y0, y1, y2, y3, y4, y5, y6, y7, y8, y9, y10⟩ := cells_op (unhide HY)
  have HN := hide (unhide HEx W6 (unhide HE) (unhide HH))
  by_cases hok : okO x = true
  rotate_left
  · have hc : chkO x = 10 := by unfold chkO; rw [if_neg hok]
    have he : encL x = [] := by unfold encL; rw [if_neg hok]
    rw [hc, he] at HN
    clear hok hc he
    go_wp2_with fail
    refine (unhide HN).mono ?_
    rintro r W7 ⟨v2, rfl, ho, hb⟩
    obtain ⟨a2, c2, rfl⟩ := owns_form ho
    replace B0 := hide (bnext (unhide B0) hb)
    clear ho hb
    go_wp2_with fail
    refine (unhide HK _).mono ?_
    rintro r W8 ⟨rfl, hb⟩
    replace B0 := hide (bnext (unhide B0) hb)
    go_wp2
    go_ret
    exact ⟨rfl, unhide B0⟩
  have hc : chkO x = 0 := by unfold chkO; rw [if_pos hok]
  rw [hc, unhide Hex hok] at HN
  have hpx := unhide Hlx hok
  replace Hts := hide (fun n => unhide Hts hok n)
  have hlx := putO_len ([], 0) x
  rw [putO_ob hok] at hlx
  simp only [List.nil_append, List.length_nil] at hlx
  clear hc hok Hex Hlx HEx
  obtain ⟨Lc, hLc⟩ : ∃ l, ob x = l := ⟨_, rfl⟩
  rw [hLc] at HN hpx Hts hlx
  clear hLc
  obtain ⟨nc, hnc⟩ : ∃ n, Lc.length = n := ⟨_, rfl⟩
  go_wp2_with fail
  refine (unhide HN).mono ?_
  rintro r W7 ⟨v2, rfl, ho, hb⟩
  obtain ⟨g2, c2, rfl, hc2⟩ := owns_some ho hpx
  have O2 := hide ho
  replace HX := hide ((unhide HX).below hb)
  replace HY := hide ((unhide HY).below hb)
  replace HD := hide ((unhide HD).below hb)
  replace HG := hide (RC.below (unhide HG) hb)
  replace HE := hide ((unhide HE).below hb)
  replace HH := hide (RC.below (unhide HH) hb)
  replace O1 := hide (owns_kp (N := fun _ => False) (unhide O1) (Kp.of_below hb) (fun _ _ e => e))
  replace B0 := hide (bnext (unhide B0) hb)
  rw [hnc] at hc2 ⊢
  have Hnb := hide hnb
  have Hnc := hide hnc
  rw [hnb] at hpo hlen
  rw [hnc] at hpx hlx
  clear ho hb HN hnb hnc
  clear x0 y0 x1 y1 x2 y2 x3 y3 x4 y4 x5 y5 x6 y6 x7 y7 x8 y8 x9 y9 x10 y10
  obtain ⟨x0, x1, x2, x3, x4, x5, x6, x7, x8, x9, x10⟩ := cells_op (unhide HX)
  obtain ⟨y0, y1, y2, y3, y4, y5, y6, y7, y8, y9, y10⟩ := cells_op (unhide HY)
  by_cases hlt : nc < nb
  · have hlt' : (nc : Int) < (nb : Int) := by omega
    have hB := hide (fun W (hb : Below W7.heap.size W7 W) => bytes_in (Lb.take nc) (Lc.take nc) (.slice (some ⟨g1, 0, none⟩) nc c1) (.slice (some ⟨g2, 0, none⟩) nc c2) W (RC.below (RB.take (by rw [unhide Hnb]; have := unhide O1; rw [unhide Hnb] at this; exact this) (by rw [unhide Hnb]; omega)) hb) (RC.below (RB.take (by rw [unhide Hnc]; have := unhide O2; rw [unhide Hnc] at this; exact this) (by rw [unhide Hnc]; omega)) hb) (by rw [List.length_take]; omega) (by rw [List.length_take]; omega))
    rw [unhide Hts nc (.inr ⟨(unhide Hnc).symm, by rw [unhide Hnb]; omega⟩)] at hB
    have hq1 : (nc : Int) ≤ (c1 : Int) := by omega
    have hq2 : (nc : Int) ≤ (c2 : Int) := by omega
    go_wp2
    refine wp_region_any (by kernel_rfl) ?_
    change wpAny _ _ _ _ _ _ _ (World.drew _)
    refine region_invG 84 (fun j => if j = 14 then 4 else 70 + j) ((0, (Value.agg #[Value.int IntKind.i64 o.ds, Value.int IntKind.i64 o.dq, Value.slice ad o.deps.length cd, Value.int IntKind.i64 o.kind, Value.int IntKind.i64 o.it, Value.int IntKind.i64 o.is, Value.int IntKind.i64 o.rt, Value.int IntKind.i64 o.rs, Value.string o.text, Value.slice ag o.gone.length cg, Value.int IntKind.i64 o.site])) :: (1, (Value.agg #[Value.int IntKind.i64 x.ds, Value.int IntKind.i64 x.dq, Value.slice ad' x.deps.length cd', Value.int IntKind.i64 x.kind, Value.int IntKind.i64 x.it, Value.int IntKind.i64 x.is, Value.int IntKind.i64 x.rt, Value.int IntKind.i64 x.rs, Value.string x.text, Value.slice ag' x.gone.length cg', Value.int IntKind.i64 x.site])) :: (2, (Value.pointer (some { block := w.heap.size, off := 0 }))) :: (3, (Value.pointer (some { block := w.heap.size + 1, off := 0 }))) :: (5, (Value.slice (some { block := g1, off := 0 }) nb c1)) :: (6, (Value.int IntKind.i64 0)) :: (7, (Value.pointer (some { block := W5.heap.size, off := 0 }))) :: (8, (Value.int IntKind.i64 0)) :: (9, (Value.slice (some { block := g2, off := 0 }) nc c2)) :: (10, (Value.int IntKind.i64 (nc : Int))) :: (11, (Value.agg #[Value.int IntKind.i64 o.ds, Value.int IntKind.i64 o.dq, Value.slice ad o.deps.length cd, Value.int IntKind.i64 o.kind, Value.int IntKind.i64 o.it, Value.int IntKind.i64 o.is, Value.int IntKind.i64 o.rt, Value.int IntKind.i64 o.rs, Value.string o.text, Value.slice ag o.gone.length cg, Value.int IntKind.i64 o.site])) :: (12, (Value.bool false)) :: (13, (Value.bool false)) :: (14, (Value.agg #[Value.int IntKind.i64 x.ds, Value.int IntKind.i64 x.dq, Value.slice ad' x.deps.length cd', Value.int IntKind.i64 x.kind, Value.int IntKind.i64 x.it, Value.int IntKind.i64 x.is, Value.int IntKind.i64 x.rt, Value.int IntKind.i64 x.rs, Value.string x.text, Value.slice ag' x.gone.length cg', Value.int IntKind.i64 x.site])) :: (15, (Value.bool false)) :: (16, (Value.bool false)) :: (17, undef) :: (18, (Value.tuple #[Value.slice (some { block := g1, off := 0 }) nb c1, Value.int IntKind.i64 0])) :: (19, (Value.agg #[Value.int IntKind.i64 o.ds, Value.int IntKind.i64 o.dq, Value.slice ad o.deps.length cd, Value.int IntKind.i64 o.kind, Value.int IntKind.i64 o.it, Value.int IntKind.i64 o.is, Value.int IntKind.i64 o.rt, Value.int IntKind.i64 o.rs, Value.string o.text, Value.slice ag o.gone.length cg, Value.int IntKind.i64 o.site])) :: (20, (Value.tuple #[Value.slice (some { block := g1, off := 0 }) nb c1, Value.int IntKind.i64 0])) :: (21, (Value.slice (some { block := g1, off := 0 }) nb c1)) :: (22, (Value.int IntKind.i64 0)) :: (23, (Value.int IntKind.i64 0)) :: (24, (Value.bool true)) :: (25, (Value.agg #[Value.int IntKind.i64 o.ds, Value.int IntKind.i64 o.dq, Value.slice ad o.deps.length cd, Value.int IntKind.i64 o.kind, Value.int IntKind.i64 o.it, Value.int IntKind.i64 o.is, Value.int IntKind.i64 o.rt, Value.int IntKind.i64 o.rs, Value.string o.text, Value.slice ag o.gone.length cg, Value.int IntKind.i64 o.site])) :: (26, (Value.int IntKind.i64 0)) :: (27, (Value.bool true)) :: (28, (Value.bool false)) :: (29, (Value.int IntKind.i64 0)) :: (30, (Value.bool false)) :: (31, undef) :: (32, undef) :: (33, undef) :: (34, undef) :: (35, undef) :: (36, undef) :: (37, undef) :: (38, undef) :: (39, undef) :: (40, undef) :: (41, (Value.tuple #[Value.agg #[Value.int IntKind.i64 o.ds, Value.int IntKind.i64 o.dq, Value.slice ae o.deps.length ce, Value.int IntKind.i64 o.kind, Value.int IntKind.i64 o.it, Value.int IntKind.i64 o.is, Value.int IntKind.i64 o.rt, Value.int IntKind.i64 o.rs, Value.string o.text, Value.slice af o.gone.length cf, Value.int IntKind.i64 o.site], Value.int IntKind.i64 0])) :: (42, (Value.slice (some { block := g1, off := 0 }) nb c1)) :: (43, (Value.tuple #[Value.agg #[Value.int IntKind.i64 o.ds, Value.int IntKind.i64 o.dq, Value.slice ae o.deps.length ce, Value.int IntKind.i64 o.kind, Value.int IntKind.i64 o.it, Value.int IntKind.i64 o.is, Value.int IntKind.i64 o.rt, Value.int IntKind.i64 o.rs, Value.string o.text, Value.slice af o.gone.length cf, Value.int IntKind.i64 o.site], Value.int IntKind.i64 0])) :: (44, (Value.agg #[Value.int IntKind.i64 o.ds, Value.int IntKind.i64 o.dq, Value.slice ae o.deps.length ce, Value.int IntKind.i64 o.kind, Value.int IntKind.i64 o.it, Value.int IntKind.i64 o.is, Value.int IntKind.i64 o.rt, Value.int IntKind.i64 o.rs, Value.string o.text, Value.slice af o.gone.length cf, Value.int IntKind.i64 o.site])) :: (45, (Value.int IntKind.i64 0)) :: (46, (Value.int IntKind.i64 0)) :: (47, (Value.bool false)) :: (48, (Value.bool false)) :: (49, (Value.agg #[Value.int IntKind.i64 o.ds, Value.int IntKind.i64 o.dq, Value.slice ae o.deps.length ce, Value.int IntKind.i64 o.kind, Value.int IntKind.i64 o.it, Value.int IntKind.i64 o.is, Value.int IntKind.i64 o.rt, Value.int IntKind.i64 o.rs, Value.string o.text, Value.slice af o.gone.length cf, Value.int IntKind.i64 o.site])) :: (50, (Value.agg #[Value.int IntKind.i64 o.ds, Value.int IntKind.i64 o.dq, Value.slice ad o.deps.length cd, Value.int IntKind.i64 o.kind, Value.int IntKind.i64 o.it, Value.int IntKind.i64 o.is, Value.int IntKind.i64 o.rt, Value.int IntKind.i64 o.rs, Value.string o.text, Value.slice ag o.gone.length cg, Value.int IntKind.i64 o.site])) :: (51, (Value.bool true)) :: (52, (Value.bool false)) :: (53, (Value.bool false)) :: (54, (Value.tuple #[Value.slice (some { block := g2, off := 0 }) nc c2, Value.int IntKind.i64 0])) :: (55, (Value.agg #[Value.int IntKind.i64 x.ds, Value.int IntKind.i64 x.dq, Value.slice ad' x.deps.length cd', Value.int IntKind.i64 x.kind, Value.int IntKind.i64 x.it, Value.int IntKind.i64 x.is, Value.int IntKind.i64 x.rt, Value.int IntKind.i64 x.rs, Value.string x.text, Value.slice ag' x.gone.length cg', Value.int IntKind.i64 x.site])) :: (56, (Value.tuple #[Value.slice (some { block := g2, off := 0 }) nc c2, Value.int IntKind.i64 0])) :: (57, (Value.slice (some { block := g2, off := 0 }) nc c2)) :: (58, (Value.int IntKind.i64 0)) :: (59, (Value.int IntKind.i64 0)) :: (60, (Value.bool false)) :: (61, undef) :: (62, (Value.slice (some { block := g1, off := 0 }) nb c1)) :: (63, (Value.int IntKind.i64 (nb : Int))) :: (64, (Value.slice (some { block := g2, off := 0 }) nc c2)) :: (65, (Value.int IntKind.i64 (nc : Int))) :: (66, (Value.int IntKind.i64 (nb : Int))) :: (67, (Value.bool true)) :: (68, (Value.slice (some { block := g2, off := 0 }) nc c2)) :: (69, (Value.int IntKind.i64 (nc : Int))) :: [])
      (fun W => Below W7.heap.size W7 W)
      (valsOf [isV (Value.slice (some { block := g1, off := 0 }) nb c1), isV (Value.int IntKind.i64 (nc : Int)), isV (.slice (some ⟨g1, 0, none⟩) nc c1), isV (Value.slice (some { block := g2, off := 0 }) nc c2), isV (Value.int IntKind.i64 (nc : Int)), isV (.slice (some ⟨g2, 0, none⟩) nc c2), isV (.bool E), isV (.agg #[.int .i64 o.ds, .int .i64 o.dq, .slice ad o.deps.length cd, .int .i64 o.kind, .int .i64 o.it, .int .i64 o.is, .int .i64 o.rt, .int .i64 o.rs, .string o.text, .slice ag o.gone.length cg, .int .i64 o.site]), isV (.agg #[.int .i64 x.ds, .int .i64 x.dq, .slice ad' x.deps.length cd', .int .i64 x.kind, .int .i64 x.it, .int .i64 x.is, .int .i64 x.rt, .int .i64 x.rs, .string x.text, .slice ag' x.gone.length cg', .int .i64 x.site]), isV (.bool E), isV (.bool true), isV (.bool true), isV (.bool true), isV (.bool true), isV (.bool true)])
      (fun w w' => Below w.heap.size w w') ?fit (fun w1 w2 h hG => h.trans (hG.mono h.size)) (valsOf_stable ?stable) (fun _ => true) [(11, true)] ?gs ?gv ?steps ?fin _ _ ?sz rfl ?base ?start
    case fit => kernel_rfl
    case sz => rfl
    case gs => kernel_rfl
    case gv => intro p hp w v hv; simp only [List.mem_cons, List.not_mem_nil, or_false] at hp; rcases hp with rfl <;> exact hv
    case base => intro p hp; repeat (first | (rcases List.mem_cons.1 hp with rfl | hp; · rfl) | cases hp)
    case stable => exact Stables.all (by repeat (first | exact .nil | refine .same ?_))
    case start => exact (Below.refl _ _).drew
    case steps =>
      refine .cons (fun ρ wz hρ hJ hb hd => by
        refine Eq.mpr (if_neg (by decide)) ?_
        have dd0 : ρ (.tmp 5) = (Value.slice (some { block := g1, off := 0 }) nb c1) := hb (5, _) (List.mem_of_getElem? (i := 4) rfl)
        exact step_move (.tmp 5) rfl ⟨Below.refl _ _, dd0⟩) ?_
      refine .cons (fun ρ wz hρ hJ hb hd => by
        refine Eq.mpr (if_neg (by decide)) ?_
        have dd0 : ρ (.tmp 10) = (Value.int IntKind.i64 (nc : Int)) := hb (10, _) (List.mem_of_getElem? (i := 9) rfl)
        exact step_move (.tmp 10) rfl ⟨Below.refl _ _, dd0⟩) ?_
      refine .cons (fun ρ wz hρ hJ hb hd => by
        refine Eq.mpr (if_neg (by decide)) ?_
        have dd0 : ρ (.tmp 70) = (Value.slice (some { block := g1, off := 0 }) nb c1) := hd 0 _ rfl rfl
        have dd1 : ρ (.tmp 71) = (Value.int IntKind.i64 (nc : Int)) := hd 1 _ rfl rfl
        exact step_val (v := (.slice (some ⟨g1, 0, none⟩) nc c1)) (w' := wz) (by simp [go_sem, execOp, dd0, dd1, hρ.const, hq1, hq2]) ⟨Below.refl _ _, rfl⟩) ?_
      refine .cons (fun ρ wz hρ hJ hb hd => by
        refine Eq.mpr (if_neg (by decide)) ?_
        have dd0 : ρ (.tmp 9) = (Value.slice (some { block := g2, off := 0 }) nc c2) := hb (9, _) (List.mem_of_getElem? (i := 8) rfl)
        exact step_move (.tmp 9) rfl ⟨Below.refl _ _, dd0⟩) ?_
      refine .cons (fun ρ wz hρ hJ hb hd => by
        refine Eq.mpr (if_neg (by decide)) ?_
        have dd0 : ρ (.tmp 10) = (Value.int IntKind.i64 (nc : Int)) := hb (10, _) (List.mem_of_getElem? (i := 9) rfl)
        exact step_move (.tmp 10) rfl ⟨Below.refl _ _, dd0⟩) ?_
      refine .cons (fun ρ wz hρ hJ hb hd => by
        refine Eq.mpr (if_neg (by decide)) ?_
        have dd0 : ρ (.tmp 73) = (Value.slice (some { block := g2, off := 0 }) nc c2) := hd 0 _ rfl rfl
        have dd1 : ρ (.tmp 74) = (Value.int IntKind.i64 (nc : Int)) := hd 1 _ rfl rfl
        exact step_val (v := (.slice (some ⟨g2, 0, none⟩) nc c2)) (w' := wz) (by simp [go_sem, execOp, dd0, dd1, hρ.const, hq1, hq2]) ⟨Below.refl _ _, rfl⟩) ?_
      refine .cons (fun ρ wz hρ hJ hb hd => by
        refine Eq.mpr (if_neg (by decide)) ?_
        have dd0 : ρ (.tmp 72) = (.slice (some ⟨g1, 0, none⟩) nc c1) := hd 0 _ rfl rfl
        have dd1 : ρ (.tmp 75) = (.slice (some ⟨g2, 0, none⟩) nc c2) := hd 1 _ rfl rfl
        refine step_func 17 _ _ #[.slice (some ⟨g1, 0, none⟩) nc c1, .slice (some ⟨g2, 0, none⟩) nc c2] hρ rfl (enters_of Try.func17 (by kernel_rfl) rfl) (by simp [dd0, dd1]) ?_
        refine (unhide hB wz hJ).mono ?_
        rintro r W' ⟨rfl, n9, rfl⟩
        exact ⟨_, rfl, bdrew (Below.refl _ _) n9, rfl⟩) ?_
      refine .cons (fun ρ wz hρ hJ hb hd => by
        refine Eq.mpr (if_neg (by decide)) ?_
        have dd0 : ρ (.tmp 2) = (Value.pointer (some { block := w.heap.size, off := 0 })) := hb (2, _) (List.mem_of_getElem? (i := 2) rfl)
        have q := (unhide HX).below hJ
        obtain ⟨x0, x1, x2, x3, x4, x5, x6, x7, x8, x9, x10⟩ := cells_op q
        exact step_val (v := (.agg #[.int .i64 o.ds, .int .i64 o.dq, .slice ad o.deps.length cd, .int .i64 o.kind, .int .i64 o.it, .int .i64 o.is, .int .i64 o.rt, .int .i64 o.rs, .string o.text, .slice ag o.gone.length cg, .int .i64 o.site])) (w' := wz) (by simp [go_sem, execOp, dd0, x0, x1, x2, x3, x4, x5, x6, x7, x8, x9, x10]) ⟨Below.refl _ _, rfl⟩) ?_
      refine .cons (fun ρ wz hρ hJ hb hd => by
        refine Eq.mpr (if_neg (by decide)) ?_
        have dd0 : ρ (.tmp 3) = (Value.pointer (some { block := w.heap.size + 1, off := 0 })) := hb (3, _) (List.mem_of_getElem? (i := 3) rfl)
        have q := (unhide HY).below hJ
        obtain ⟨x0, x1, x2, x3, x4, x5, x6, x7, x8, x9, x10⟩ := cells_op q
        exact step_val (v := (.agg #[.int .i64 x.ds, .int .i64 x.dq, .slice ad' x.deps.length cd', .int .i64 x.kind, .int .i64 x.it, .int .i64 x.is, .int .i64 x.rt, .int .i64 x.rs, .string x.text, .slice ag' x.gone.length cg', .int .i64 x.site])) (w' := wz) (by simp [go_sem, execOp, dd0, x0, x1, x2, x3, x4, x5, x6, x7, x8, x9, x10]) ⟨Below.refl _ _, rfl⟩) ?_
      refine .cons (fun ρ wz hρ hJ hb hd => by
        refine Eq.mpr (if_neg (by decide)) ?_
        have dd0 : ρ (.tmp 77) = (.agg #[.int .i64 o.ds, .int .i64 o.dq, .slice ad o.deps.length cd, .int .i64 o.kind, .int .i64 o.it, .int .i64 o.is, .int .i64 o.rt, .int .i64 o.rs, .string o.text, .slice ag o.gone.length cg, .int .i64 o.site]) := hd 0 _ rfl rfl
        have dd1 : ρ (.tmp 78) = (.agg #[.int .i64 x.ds, .int .i64 x.dq, .slice ad' x.deps.length cd', .int .i64 x.kind, .int .i64 x.it, .int .i64 x.is, .int .i64 x.rt, .int .i64 x.rs, .string x.text, .slice ag' x.gone.length cg', .int .i64 x.site]) := hd 1 _ rfl rfl
        refine step_func 12 _ _ #[.agg #[.int .i64 o.ds, .int .i64 o.dq, .slice ad o.deps.length cd, .int .i64 o.kind, .int .i64 o.it, .int .i64 o.is, .int .i64 o.rt, .int .i64 o.rs, .string o.text, .slice ag o.gone.length cg, .int .i64 o.site], .agg #[.int .i64 x.ds, .int .i64 x.dq, .slice ad' x.deps.length cd', .int .i64 x.kind, .int .i64 x.it, .int .i64 x.is, .int .i64 x.rt, .int .i64 x.rs, .string x.text, .slice ag' x.gone.length cg', .int .i64 x.site]] hρ rfl (enters_of Try.func12 (by kernel_rfl) rfl) (by simp [dd0, dd1]) ?_
        refine (unhide HS2 wz ((unhide HD).below hJ) (RC.below (unhide HG) hJ) ((unhide HE).below hJ) (RC.below (unhide HH) hJ)).mono ?_
        rintro r W' ⟨rfl, hb2⟩
        exact ⟨_, rfl, hb2, rfl⟩) ?_
      refine .cons (fun ρ wz hρ hJ hb hd => by
        refine Eq.mpr (if_neg (by decide)) ?_
        have dd0 : ρ (.tmp 76) = (.bool E) := hd 0 _ rfl rfl
        have dd1 : ρ (.tmp 79) = (.bool E) := hd 1 _ rfl rfl
        exact step_val (v := (.bool true)) (w' := wz) (by cases E <;> simp [go_sem, execOp, dd0, dd1]) ⟨Below.refl _ _, rfl⟩) ?_
      refine .cons (fun ρ wz hρ hJ hb hd => by
        refine Eq.mpr (if_neg (by decide)) ?_
        have dd0 : ρ (.tmp 80) = (.bool true) := hd 0 _ rfl rfl
        exact step_move (.tmp 80) rfl ⟨Below.refl _ _, dd0⟩) ?_
      refine .cons (fun ρ wz hρ hJ hb hd => by
        refine Eq.mpr (if_neg (by decide)) ?_
        refine step_func 7 _ _ #[] hρ rfl (enters_of Try.func7 (by kernel_rfl) rfl) (by simp) ?_
        refine (unhide HK wz).mono ?_
        rintro r W' ⟨rfl, hb2⟩
        exact ⟨_, rfl, hb2, rfl⟩) ?_
      refine .cons (fun ρ wz hρ hJ hb hd => by
        refine Eq.mpr (if_neg (by decide)) ?_
        have dd0 : ρ (.tmp 81) = (.bool true) := hd 0 _ rfl rfl
        have dd1 : ρ (.tmp 82) = (.bool true) := hd 1 _ rfl rfl
        exact step_val (v := (.bool true)) (w' := wz) (by simp [go_sem, execOp, dd0, dd1, hρ.const, hq1, hq2]) ⟨Below.refl _ _, rfl⟩) ?_
      refine .cons (fun ρ wz hρ hJ hb hd => by
        refine Eq.mpr (if_neg (by decide)) ?_
        have dd0 : ρ (.tmp 83) = (.bool true) := hd 0 _ rfl rfl
        exact step_assign (.tmp 83) rfl ⟨Below.refl _ _, dd0⟩) (.nil _)
    case fin =>
      intro aQ WQ hsz2 hds hb hJ hv
      obtain rfl := frame_of (((0, (Value.agg #[Value.int IntKind.i64 o.ds, Value.int IntKind.i64 o.dq, Value.slice ad o.deps.length cd, Value.int IntKind.i64 o.kind, Value.int IntKind.i64 o.it, Value.int IntKind.i64 o.is, Value.int IntKind.i64 o.rt, Value.int IntKind.i64 o.rs, Value.string o.text, Value.slice ag o.gone.length cg, Value.int IntKind.i64 o.site])) :: (1, (Value.agg #[Value.int IntKind.i64 x.ds, Value.int IntKind.i64 x.dq, Value.slice ad' x.deps.length cd', Value.int IntKind.i64 x.kind, Value.int IntKind.i64 x.it, Value.int IntKind.i64 x.is, Value.int IntKind.i64 x.rt, Value.int IntKind.i64 x.rs, Value.string x.text, Value.slice ag' x.gone.length cg', Value.int IntKind.i64 x.site])) :: (2, (Value.pointer (some { block := w.heap.size, off := 0 }))) :: (3, (Value.pointer (some { block := w.heap.size + 1, off := 0 }))) :: (5, (Value.slice (some { block := g1, off := 0 }) nb c1)) :: (6, (Value.int IntKind.i64 0)) :: (7, (Value.pointer (some { block := W5.heap.size, off := 0 }))) :: (8, (Value.int IntKind.i64 0)) :: (9, (Value.slice (some { block := g2, off := 0 }) nc c2)) :: (10, (Value.int IntKind.i64 (nc : Int))) :: (11, (Value.agg #[Value.int IntKind.i64 o.ds, Value.int IntKind.i64 o.dq, Value.slice ad o.deps.length cd, Value.int IntKind.i64 o.kind, Value.int IntKind.i64 o.it, Value.int IntKind.i64 o.is, Value.int IntKind.i64 o.rt, Value.int IntKind.i64 o.rs, Value.string o.text, Value.slice ag o.gone.length cg, Value.int IntKind.i64 o.site])) :: (12, (Value.bool false)) :: (13, (Value.bool false)) :: (14, (Value.agg #[Value.int IntKind.i64 x.ds, Value.int IntKind.i64 x.dq, Value.slice ad' x.deps.length cd', Value.int IntKind.i64 x.kind, Value.int IntKind.i64 x.it, Value.int IntKind.i64 x.is, Value.int IntKind.i64 x.rt, Value.int IntKind.i64 x.rs, Value.string x.text, Value.slice ag' x.gone.length cg', Value.int IntKind.i64 x.site])) :: (15, (Value.bool false)) :: (16, (Value.bool false)) :: (17, undef) :: (18, (Value.tuple #[Value.slice (some { block := g1, off := 0 }) nb c1, Value.int IntKind.i64 0])) :: (19, (Value.agg #[Value.int IntKind.i64 o.ds, Value.int IntKind.i64 o.dq, Value.slice ad o.deps.length cd, Value.int IntKind.i64 o.kind, Value.int IntKind.i64 o.it, Value.int IntKind.i64 o.is, Value.int IntKind.i64 o.rt, Value.int IntKind.i64 o.rs, Value.string o.text, Value.slice ag o.gone.length cg, Value.int IntKind.i64 o.site])) :: (20, (Value.tuple #[Value.slice (some { block := g1, off := 0 }) nb c1, Value.int IntKind.i64 0])) :: (21, (Value.slice (some { block := g1, off := 0 }) nb c1)) :: (22, (Value.int IntKind.i64 0)) :: (23, (Value.int IntKind.i64 0)) :: (24, (Value.bool true)) :: (25, (Value.agg #[Value.int IntKind.i64 o.ds, Value.int IntKind.i64 o.dq, Value.slice ad o.deps.length cd, Value.int IntKind.i64 o.kind, Value.int IntKind.i64 o.it, Value.int IntKind.i64 o.is, Value.int IntKind.i64 o.rt, Value.int IntKind.i64 o.rs, Value.string o.text, Value.slice ag o.gone.length cg, Value.int IntKind.i64 o.site])) :: (26, (Value.int IntKind.i64 0)) :: (27, (Value.bool true)) :: (28, (Value.bool false)) :: (29, (Value.int IntKind.i64 0)) :: (30, (Value.bool false)) :: (31, undef) :: (32, undef) :: (33, undef) :: (34, undef) :: (35, undef) :: (36, undef) :: (37, undef) :: (38, undef) :: (39, undef) :: (40, undef) :: (41, (Value.tuple #[Value.agg #[Value.int IntKind.i64 o.ds, Value.int IntKind.i64 o.dq, Value.slice ae o.deps.length ce, Value.int IntKind.i64 o.kind, Value.int IntKind.i64 o.it, Value.int IntKind.i64 o.is, Value.int IntKind.i64 o.rt, Value.int IntKind.i64 o.rs, Value.string o.text, Value.slice af o.gone.length cf, Value.int IntKind.i64 o.site], Value.int IntKind.i64 0])) :: (42, (Value.slice (some { block := g1, off := 0 }) nb c1)) :: (43, (Value.tuple #[Value.agg #[Value.int IntKind.i64 o.ds, Value.int IntKind.i64 o.dq, Value.slice ae o.deps.length ce, Value.int IntKind.i64 o.kind, Value.int IntKind.i64 o.it, Value.int IntKind.i64 o.is, Value.int IntKind.i64 o.rt, Value.int IntKind.i64 o.rs, Value.string o.text, Value.slice af o.gone.length cf, Value.int IntKind.i64 o.site], Value.int IntKind.i64 0])) :: (44, (Value.agg #[Value.int IntKind.i64 o.ds, Value.int IntKind.i64 o.dq, Value.slice ae o.deps.length ce, Value.int IntKind.i64 o.kind, Value.int IntKind.i64 o.it, Value.int IntKind.i64 o.is, Value.int IntKind.i64 o.rt, Value.int IntKind.i64 o.rs, Value.string o.text, Value.slice af o.gone.length cf, Value.int IntKind.i64 o.site])) :: (45, (Value.int IntKind.i64 0)) :: (46, (Value.int IntKind.i64 0)) :: (47, (Value.bool false)) :: (48, (Value.bool false)) :: (49, (Value.agg #[Value.int IntKind.i64 o.ds, Value.int IntKind.i64 o.dq, Value.slice ae o.deps.length ce, Value.int IntKind.i64 o.kind, Value.int IntKind.i64 o.it, Value.int IntKind.i64 o.is, Value.int IntKind.i64 o.rt, Value.int IntKind.i64 o.rs, Value.string o.text, Value.slice af o.gone.length cf, Value.int IntKind.i64 o.site])) :: (50, (Value.agg #[Value.int IntKind.i64 o.ds, Value.int IntKind.i64 o.dq, Value.slice ad o.deps.length cd, Value.int IntKind.i64 o.kind, Value.int IntKind.i64 o.it, Value.int IntKind.i64 o.is, Value.int IntKind.i64 o.rt, Value.int IntKind.i64 o.rs, Value.string o.text, Value.slice ag o.gone.length cg, Value.int IntKind.i64 o.site])) :: (51, (Value.bool true)) :: (52, (Value.bool false)) :: (53, (Value.bool false)) :: (54, (Value.tuple #[Value.slice (some { block := g2, off := 0 }) nc c2, Value.int IntKind.i64 0])) :: (55, (Value.agg #[Value.int IntKind.i64 x.ds, Value.int IntKind.i64 x.dq, Value.slice ad' x.deps.length cd', Value.int IntKind.i64 x.kind, Value.int IntKind.i64 x.it, Value.int IntKind.i64 x.is, Value.int IntKind.i64 x.rt, Value.int IntKind.i64 x.rs, Value.string x.text, Value.slice ag' x.gone.length cg', Value.int IntKind.i64 x.site])) :: (56, (Value.tuple #[Value.slice (some { block := g2, off := 0 }) nc c2, Value.int IntKind.i64 0])) :: (57, (Value.slice (some { block := g2, off := 0 }) nc c2)) :: (58, (Value.int IntKind.i64 0)) :: (59, (Value.int IntKind.i64 0)) :: (60, (Value.bool false)) :: (61, undef) :: (62, (Value.slice (some { block := g1, off := 0 }) nb c1)) :: (63, (Value.int IntKind.i64 (nb : Int))) :: (64, (Value.slice (some { block := g2, off := 0 }) nc c2)) :: (65, (Value.int IntKind.i64 (nc : Int))) :: (66, (Value.int IntKind.i64 (nb : Int))) :: (67, (Value.bool true)) :: (68, (Value.slice (some { block := g2, off := 0 }) nc c2)) :: (69, (Value.int IntKind.i64 (nc : Int))) :: []) ++ ((70, (Value.slice (some { block := g1, off := 0 }) nb c1)) :: (71, (Value.int IntKind.i64 (nc : Int))) :: (72, (.slice (some ⟨g1, 0, none⟩) nc c1)) :: (73, (Value.slice (some { block := g2, off := 0 }) nc c2)) :: (74, (Value.int IntKind.i64 (nc : Int))) :: (75, (.slice (some ⟨g2, 0, none⟩) nc c2)) :: (76, (.bool E)) :: (77, (.agg #[.int .i64 o.ds, .int .i64 o.dq, .slice ad o.deps.length cd, .int .i64 o.kind, .int .i64 o.it, .int .i64 o.is, .int .i64 o.rt, .int .i64 o.rs, .string o.text, .slice ag o.gone.length cg, .int .i64 o.site])) :: (78, (.agg #[.int .i64 x.ds, .int .i64 x.dq, .slice ad' x.deps.length cd', .int .i64 x.kind, .int .i64 x.it, .int .i64 x.is, .int .i64 x.rt, .int .i64 x.rs, .string x.text, .slice ag' x.gone.length cg', .int .i64 x.site])) :: (79, (.bool E)) :: (80, (.bool true)) :: (81, (.bool true)) :: (82, (.bool true)) :: (83, (.bool true)) :: (4, (.bool true)) :: [])) ((Value.agg #[Value.int IntKind.i64 o.ds, Value.int IntKind.i64 o.dq, Value.slice ad o.deps.length cd, Value.int IntKind.i64 o.kind, Value.int IntKind.i64 o.it, Value.int IntKind.i64 o.is, Value.int IntKind.i64 o.rt, Value.int IntKind.i64 o.rs, Value.string o.text, Value.slice ag o.gone.length cg, Value.int IntKind.i64 o.site]) :: (Value.agg #[Value.int IntKind.i64 x.ds, Value.int IntKind.i64 x.dq, Value.slice ad' x.deps.length cd', Value.int IntKind.i64 x.kind, Value.int IntKind.i64 x.it, Value.int IntKind.i64 x.is, Value.int IntKind.i64 x.rt, Value.int IntKind.i64 x.rs, Value.string x.text, Value.slice ag' x.gone.length cg', Value.int IntKind.i64 x.site]) :: (Value.pointer (some { block := w.heap.size, off := 0 })) :: (Value.pointer (some { block := w.heap.size + 1, off := 0 })) :: (.bool true) :: (Value.slice (some { block := g1, off := 0 }) nb c1) :: (Value.int IntKind.i64 0) :: (Value.pointer (some { block := W5.heap.size, off := 0 })) :: (Value.int IntKind.i64 0) :: (Value.slice (some { block := g2, off := 0 }) nc c2) :: (Value.int IntKind.i64 (nc : Int)) :: (Value.agg #[Value.int IntKind.i64 o.ds, Value.int IntKind.i64 o.dq, Value.slice ad o.deps.length cd, Value.int IntKind.i64 o.kind, Value.int IntKind.i64 o.it, Value.int IntKind.i64 o.is, Value.int IntKind.i64 o.rt, Value.int IntKind.i64 o.rs, Value.string o.text, Value.slice ag o.gone.length cg, Value.int IntKind.i64 o.site]) :: (Value.bool false) :: (Value.bool false) :: (Value.agg #[Value.int IntKind.i64 x.ds, Value.int IntKind.i64 x.dq, Value.slice ad' x.deps.length cd', Value.int IntKind.i64 x.kind, Value.int IntKind.i64 x.it, Value.int IntKind.i64 x.is, Value.int IntKind.i64 x.rt, Value.int IntKind.i64 x.rs, Value.string x.text, Value.slice ag' x.gone.length cg', Value.int IntKind.i64 x.site]) :: (Value.bool false) :: (Value.bool false) :: undef :: (Value.tuple #[Value.slice (some { block := g1, off := 0 }) nb c1, Value.int IntKind.i64 0]) :: (Value.agg #[Value.int IntKind.i64 o.ds, Value.int IntKind.i64 o.dq, Value.slice ad o.deps.length cd, Value.int IntKind.i64 o.kind, Value.int IntKind.i64 o.it, Value.int IntKind.i64 o.is, Value.int IntKind.i64 o.rt, Value.int IntKind.i64 o.rs, Value.string o.text, Value.slice ag o.gone.length cg, Value.int IntKind.i64 o.site]) :: (Value.tuple #[Value.slice (some { block := g1, off := 0 }) nb c1, Value.int IntKind.i64 0]) :: (Value.slice (some { block := g1, off := 0 }) nb c1) :: (Value.int IntKind.i64 0) :: (Value.int IntKind.i64 0) :: (Value.bool true) :: (Value.agg #[Value.int IntKind.i64 o.ds, Value.int IntKind.i64 o.dq, Value.slice ad o.deps.length cd, Value.int IntKind.i64 o.kind, Value.int IntKind.i64 o.it, Value.int IntKind.i64 o.is, Value.int IntKind.i64 o.rt, Value.int IntKind.i64 o.rs, Value.string o.text, Value.slice ag o.gone.length cg, Value.int IntKind.i64 o.site]) :: (Value.int IntKind.i64 0) :: (Value.bool true) :: (Value.bool false) :: (Value.int IntKind.i64 0) :: (Value.bool false) :: undef :: undef :: undef :: undef :: undef :: undef :: undef :: undef :: undef :: undef :: (Value.tuple #[Value.agg #[Value.int IntKind.i64 o.ds, Value.int IntKind.i64 o.dq, Value.slice ae o.deps.length ce, Value.int IntKind.i64 o.kind, Value.int IntKind.i64 o.it, Value.int IntKind.i64 o.is, Value.int IntKind.i64 o.rt, Value.int IntKind.i64 o.rs, Value.string o.text, Value.slice af o.gone.length cf, Value.int IntKind.i64 o.site], Value.int IntKind.i64 0]) :: (Value.slice (some { block := g1, off := 0 }) nb c1) :: (Value.tuple #[Value.agg #[Value.int IntKind.i64 o.ds, Value.int IntKind.i64 o.dq, Value.slice ae o.deps.length ce, Value.int IntKind.i64 o.kind, Value.int IntKind.i64 o.it, Value.int IntKind.i64 o.is, Value.int IntKind.i64 o.rt, Value.int IntKind.i64 o.rs, Value.string o.text, Value.slice af o.gone.length cf, Value.int IntKind.i64 o.site], Value.int IntKind.i64 0]) :: (Value.agg #[Value.int IntKind.i64 o.ds, Value.int IntKind.i64 o.dq, Value.slice ae o.deps.length ce, Value.int IntKind.i64 o.kind, Value.int IntKind.i64 o.it, Value.int IntKind.i64 o.is, Value.int IntKind.i64 o.rt, Value.int IntKind.i64 o.rs, Value.string o.text, Value.slice af o.gone.length cf, Value.int IntKind.i64 o.site]) :: (Value.int IntKind.i64 0) :: (Value.int IntKind.i64 0) :: (Value.bool false) :: (Value.bool false) :: (Value.agg #[Value.int IntKind.i64 o.ds, Value.int IntKind.i64 o.dq, Value.slice ae o.deps.length ce, Value.int IntKind.i64 o.kind, Value.int IntKind.i64 o.it, Value.int IntKind.i64 o.is, Value.int IntKind.i64 o.rt, Value.int IntKind.i64 o.rs, Value.string o.text, Value.slice af o.gone.length cf, Value.int IntKind.i64 o.site]) :: (Value.agg #[Value.int IntKind.i64 o.ds, Value.int IntKind.i64 o.dq, Value.slice ad o.deps.length cd, Value.int IntKind.i64 o.kind, Value.int IntKind.i64 o.it, Value.int IntKind.i64 o.is, Value.int IntKind.i64 o.rt, Value.int IntKind.i64 o.rs, Value.string o.text, Value.slice ag o.gone.length cg, Value.int IntKind.i64 o.site]) :: (Value.bool true) :: (Value.bool false) :: (Value.bool false) :: (Value.tuple #[Value.slice (some { block := g2, off := 0 }) nc c2, Value.int IntKind.i64 0]) :: (Value.agg #[Value.int IntKind.i64 x.ds, Value.int IntKind.i64 x.dq, Value.slice ad' x.deps.length cd', Value.int IntKind.i64 x.kind, Value.int IntKind.i64 x.it, Value.int IntKind.i64 x.is, Value.int IntKind.i64 x.rt, Value.int IntKind.i64 x.rs, Value.string x.text, Value.slice ag' x.gone.length cg', Value.int IntKind.i64 x.site]) :: (Value.tuple #[Value.slice (some { block := g2, off := 0 }) nc c2, Value.int IntKind.i64 0]) :: (Value.slice (some { block := g2, off := 0 }) nc c2) :: (Value.int IntKind.i64 0) :: (Value.int IntKind.i64 0) :: (Value.bool false) :: undef :: (Value.slice (some { block := g1, off := 0 }) nb c1) :: (Value.int IntKind.i64 (nb : Int)) :: (Value.slice (some { block := g2, off := 0 }) nc c2) :: (Value.int IntKind.i64 (nc : Int)) :: (Value.int IntKind.i64 (nb : Int)) :: (Value.bool true) :: (Value.slice (some { block := g2, off := 0 }) nc c2) :: (Value.int IntKind.i64 (nc : Int)) :: (Value.slice (some { block := g1, off := 0 }) nb c1) :: (Value.int IntKind.i64 (nc : Int)) :: (.slice (some ⟨g1, 0, none⟩) nc c1) :: (Value.slice (some { block := g2, off := 0 }) nc c2) :: (Value.int IntKind.i64 (nc : Int)) :: (.slice (some ⟨g2, 0, none⟩) nc c2) :: (.bool E) :: (.agg #[.int .i64 o.ds, .int .i64 o.dq, .slice ad o.deps.length cd, .int .i64 o.kind, .int .i64 o.it, .int .i64 o.is, .int .i64 o.rt, .int .i64 o.rs, .string o.text, .slice ag o.gone.length cg, .int .i64 o.site]) :: (.agg #[.int .i64 x.ds, .int .i64 x.dq, .slice ad' x.deps.length cd', .int .i64 x.kind, .int .i64 x.it, .int .i64 x.is, .int .i64 x.rt, .int .i64 x.rs, .string x.text, .slice ag' x.gone.length cg', .int .i64 x.site]) :: (.bool E) :: (.bool true) :: (.bool true) :: (.bool true) :: (.bool true) :: []) hsz2 hds (fun p hp => by
        rcases List.mem_append.1 hp with h | h
        · exact hb p h
        · simp only [List.mem_cons, List.not_mem_nil, or_false] at h
          rcases h with rfl | rfl | rfl | rfl | rfl | rfl | rfl | rfl | rfl | rfl | rfl | rfl | rfl | rfl | rfl
          · exact hv 0 (by decide)
          · exact hv 1 (by decide)
          · exact hv 2 (by decide)
          · exact hv 3 (by decide)
          · exact hv 4 (by decide)
          · exact hv 5 (by decide)
          · exact hv 6 (by decide)
          · exact hv 7 (by decide)
          · exact hv 8 (by decide)
          · exact hv 9 (by decide)
          · exact hv 10 (by decide)
          · exact hv 11 (by decide)
          · exact hv 12 (by decide)
          · exact hv 13 (by decide)
          · exact hv 14 (by decide)) rfl
      clear hb hds hsz2 hv
      go_wp2
      go_ret
      exact ⟨rfl, bnext (unhide B0) hJ⟩
  · have hlt' : ¬ (nc : Int) < (nb : Int) := by omega
    have hB := hide (fun W (hb : Below W7.heap.size W7 W) => bytes_in (Lb.take nb) (Lc.take nb) (.slice (some ⟨g1, 0, none⟩) nb c1) (.slice (some ⟨g2, 0, none⟩) nb c2) W (RC.below (RB.take (by rw [unhide Hnb]; have := unhide O1; rw [unhide Hnb] at this; exact this) (by rw [unhide Hnb]; omega)) hb) (RC.below (RB.take (by rw [unhide Hnc]; have := unhide O2; rw [unhide Hnc] at this; exact this) (by rw [unhide Hnc]; omega)) hb) (by rw [List.length_take]; omega) (by rw [List.length_take]; omega))
    rw [unhide Hts nb (.inl ⟨(unhide Hnb).symm, by rw [unhide Hnc]; omega⟩)] at hB
    have hq1 : (nb : Int) ≤ (c1 : Int) := by omega
    have hq2 : (nb : Int) ≤ (c2 : Int) := by omega
    go_wp2
    refine wp_region_any (by kernel_rfl) ?_
    change wpAny _ _ _ _ _ _ _ (World.drew _)
    refine region_invG 84 (fun j => if j = 14 then 4 else 70 + j) ((0, (Value.agg #[Value.int IntKind.i64 o.ds, Value.int IntKind.i64 o.dq, Value.slice ad o.deps.length cd, Value.int IntKind.i64 o.kind, Value.int IntKind.i64 o.it, Value.int IntKind.i64 o.is, Value.int IntKind.i64 o.rt, Value.int IntKind.i64 o.rs, Value.string o.text, Value.slice ag o.gone.length cg, Value.int IntKind.i64 o.site])) :: (1, (Value.agg #[Value.int IntKind.i64 x.ds, Value.int IntKind.i64 x.dq, Value.slice ad' x.deps.length cd', Value.int IntKind.i64 x.kind, Value.int IntKind.i64 x.it, Value.int IntKind.i64 x.is, Value.int IntKind.i64 x.rt, Value.int IntKind.i64 x.rs, Value.string x.text, Value.slice ag' x.gone.length cg', Value.int IntKind.i64 x.site])) :: (2, (Value.pointer (some { block := w.heap.size, off := 0 }))) :: (3, (Value.pointer (some { block := w.heap.size + 1, off := 0 }))) :: (5, (Value.slice (some { block := g1, off := 0 }) nb c1)) :: (6, (Value.int IntKind.i64 0)) :: (7, (Value.pointer (some { block := W5.heap.size, off := 0 }))) :: (8, (Value.int IntKind.i64 0)) :: (9, (Value.slice (some { block := g2, off := 0 }) nc c2)) :: (10, (Value.int IntKind.i64 (nb : Int))) :: (11, (Value.agg #[Value.int IntKind.i64 o.ds, Value.int IntKind.i64 o.dq, Value.slice ad o.deps.length cd, Value.int IntKind.i64 o.kind, Value.int IntKind.i64 o.it, Value.int IntKind.i64 o.is, Value.int IntKind.i64 o.rt, Value.int IntKind.i64 o.rs, Value.string o.text, Value.slice ag o.gone.length cg, Value.int IntKind.i64 o.site])) :: (12, (Value.bool false)) :: (13, (Value.bool false)) :: (14, (Value.agg #[Value.int IntKind.i64 x.ds, Value.int IntKind.i64 x.dq, Value.slice ad' x.deps.length cd', Value.int IntKind.i64 x.kind, Value.int IntKind.i64 x.it, Value.int IntKind.i64 x.is, Value.int IntKind.i64 x.rt, Value.int IntKind.i64 x.rs, Value.string x.text, Value.slice ag' x.gone.length cg', Value.int IntKind.i64 x.site])) :: (15, (Value.bool false)) :: (16, (Value.bool false)) :: (17, undef) :: (18, (Value.tuple #[Value.slice (some { block := g1, off := 0 }) nb c1, Value.int IntKind.i64 0])) :: (19, (Value.agg #[Value.int IntKind.i64 o.ds, Value.int IntKind.i64 o.dq, Value.slice ad o.deps.length cd, Value.int IntKind.i64 o.kind, Value.int IntKind.i64 o.it, Value.int IntKind.i64 o.is, Value.int IntKind.i64 o.rt, Value.int IntKind.i64 o.rs, Value.string o.text, Value.slice ag o.gone.length cg, Value.int IntKind.i64 o.site])) :: (20, (Value.tuple #[Value.slice (some { block := g1, off := 0 }) nb c1, Value.int IntKind.i64 0])) :: (21, (Value.slice (some { block := g1, off := 0 }) nb c1)) :: (22, (Value.int IntKind.i64 0)) :: (23, (Value.int IntKind.i64 0)) :: (24, (Value.bool true)) :: (25, (Value.agg #[Value.int IntKind.i64 o.ds, Value.int IntKind.i64 o.dq, Value.slice ad o.deps.length cd, Value.int IntKind.i64 o.kind, Value.int IntKind.i64 o.it, Value.int IntKind.i64 o.is, Value.int IntKind.i64 o.rt, Value.int IntKind.i64 o.rs, Value.string o.text, Value.slice ag o.gone.length cg, Value.int IntKind.i64 o.site])) :: (26, (Value.int IntKind.i64 0)) :: (27, (Value.bool true)) :: (28, (Value.bool false)) :: (29, (Value.int IntKind.i64 0)) :: (30, (Value.bool false)) :: (31, undef) :: (32, undef) :: (33, undef) :: (34, undef) :: (35, undef) :: (36, undef) :: (37, undef) :: (38, undef) :: (39, undef) :: (40, undef) :: (41, (Value.tuple #[Value.agg #[Value.int IntKind.i64 o.ds, Value.int IntKind.i64 o.dq, Value.slice ae o.deps.length ce, Value.int IntKind.i64 o.kind, Value.int IntKind.i64 o.it, Value.int IntKind.i64 o.is, Value.int IntKind.i64 o.rt, Value.int IntKind.i64 o.rs, Value.string o.text, Value.slice af o.gone.length cf, Value.int IntKind.i64 o.site], Value.int IntKind.i64 0])) :: (42, (Value.slice (some { block := g1, off := 0 }) nb c1)) :: (43, (Value.tuple #[Value.agg #[Value.int IntKind.i64 o.ds, Value.int IntKind.i64 o.dq, Value.slice ae o.deps.length ce, Value.int IntKind.i64 o.kind, Value.int IntKind.i64 o.it, Value.int IntKind.i64 o.is, Value.int IntKind.i64 o.rt, Value.int IntKind.i64 o.rs, Value.string o.text, Value.slice af o.gone.length cf, Value.int IntKind.i64 o.site], Value.int IntKind.i64 0])) :: (44, (Value.agg #[Value.int IntKind.i64 o.ds, Value.int IntKind.i64 o.dq, Value.slice ae o.deps.length ce, Value.int IntKind.i64 o.kind, Value.int IntKind.i64 o.it, Value.int IntKind.i64 o.is, Value.int IntKind.i64 o.rt, Value.int IntKind.i64 o.rs, Value.string o.text, Value.slice af o.gone.length cf, Value.int IntKind.i64 o.site])) :: (45, (Value.int IntKind.i64 0)) :: (46, (Value.int IntKind.i64 0)) :: (47, (Value.bool false)) :: (48, (Value.bool false)) :: (49, (Value.agg #[Value.int IntKind.i64 o.ds, Value.int IntKind.i64 o.dq, Value.slice ae o.deps.length ce, Value.int IntKind.i64 o.kind, Value.int IntKind.i64 o.it, Value.int IntKind.i64 o.is, Value.int IntKind.i64 o.rt, Value.int IntKind.i64 o.rs, Value.string o.text, Value.slice af o.gone.length cf, Value.int IntKind.i64 o.site])) :: (50, (Value.agg #[Value.int IntKind.i64 o.ds, Value.int IntKind.i64 o.dq, Value.slice ad o.deps.length cd, Value.int IntKind.i64 o.kind, Value.int IntKind.i64 o.it, Value.int IntKind.i64 o.is, Value.int IntKind.i64 o.rt, Value.int IntKind.i64 o.rs, Value.string o.text, Value.slice ag o.gone.length cg, Value.int IntKind.i64 o.site])) :: (51, (Value.bool true)) :: (52, (Value.bool false)) :: (53, (Value.bool false)) :: (54, (Value.tuple #[Value.slice (some { block := g2, off := 0 }) nc c2, Value.int IntKind.i64 0])) :: (55, (Value.agg #[Value.int IntKind.i64 x.ds, Value.int IntKind.i64 x.dq, Value.slice ad' x.deps.length cd', Value.int IntKind.i64 x.kind, Value.int IntKind.i64 x.it, Value.int IntKind.i64 x.is, Value.int IntKind.i64 x.rt, Value.int IntKind.i64 x.rs, Value.string x.text, Value.slice ag' x.gone.length cg', Value.int IntKind.i64 x.site])) :: (56, (Value.tuple #[Value.slice (some { block := g2, off := 0 }) nc c2, Value.int IntKind.i64 0])) :: (57, (Value.slice (some { block := g2, off := 0 }) nc c2)) :: (58, (Value.int IntKind.i64 0)) :: (59, (Value.int IntKind.i64 0)) :: (60, (Value.bool false)) :: (61, undef) :: (62, (Value.slice (some { block := g1, off := 0 }) nb c1)) :: (63, (Value.int IntKind.i64 (nb : Int))) :: (64, (Value.slice (some { block := g2, off := 0 }) nc c2)) :: (65, (Value.int IntKind.i64 (nc : Int))) :: (66, (Value.int IntKind.i64 (nb : Int))) :: (67, (Value.bool false)) :: (68, undef) :: (69, undef) :: [])
      (fun W => Below W7.heap.size W7 W)
      (valsOf [isV (Value.slice (some { block := g1, off := 0 }) nb c1), isV (Value.int IntKind.i64 (nb : Int)), isV (.slice (some ⟨g1, 0, none⟩) nb c1), isV (Value.slice (some { block := g2, off := 0 }) nc c2), isV (Value.int IntKind.i64 (nb : Int)), isV (.slice (some ⟨g2, 0, none⟩) nb c2), isV (.bool E), isV (.agg #[.int .i64 o.ds, .int .i64 o.dq, .slice ad o.deps.length cd, .int .i64 o.kind, .int .i64 o.it, .int .i64 o.is, .int .i64 o.rt, .int .i64 o.rs, .string o.text, .slice ag o.gone.length cg, .int .i64 o.site]), isV (.agg #[.int .i64 x.ds, .int .i64 x.dq, .slice ad' x.deps.length cd', .int .i64 x.kind, .int .i64 x.it, .int .i64 x.is, .int .i64 x.rt, .int .i64 x.rs, .string x.text, .slice ag' x.gone.length cg', .int .i64 x.site]), isV (.bool E), isV (.bool true), isV (.bool true), isV (.bool true), isV (.bool true), isV (.bool true)])
      (fun w w' => Below w.heap.size w w') ?fit (fun w1 w2 h hG => h.trans (hG.mono h.size)) (valsOf_stable ?stable) (fun _ => true) [(11, true)] ?gs ?gv ?steps ?fin _ _ ?sz rfl ?base ?start
    case fit => kernel_rfl
    case sz => rfl
    case gs => kernel_rfl
    case gv => intro p hp w v hv; simp only [List.mem_cons, List.not_mem_nil, or_false] at hp; rcases hp with rfl <;> exact hv
    case base => intro p hp; repeat (first | (rcases List.mem_cons.1 hp with rfl | hp; · rfl) | cases hp)
    case stable => exact Stables.all (by repeat (first | exact .nil | refine .same ?_))
    case start => exact (Below.refl _ _).drew
    case steps =>
      refine .cons (fun ρ wz hρ hJ hb hd => by
        refine Eq.mpr (if_neg (by decide)) ?_
        have dd0 : ρ (.tmp 5) = (Value.slice (some { block := g1, off := 0 }) nb c1) := hb (5, _) (List.mem_of_getElem? (i := 4) rfl)
        exact step_move (.tmp 5) rfl ⟨Below.refl _ _, dd0⟩) ?_
      refine .cons (fun ρ wz hρ hJ hb hd => by
        refine Eq.mpr (if_neg (by decide)) ?_
        have dd0 : ρ (.tmp 10) = (Value.int IntKind.i64 (nb : Int)) := hb (10, _) (List.mem_of_getElem? (i := 9) rfl)
        exact step_move (.tmp 10) rfl ⟨Below.refl _ _, dd0⟩) ?_
      refine .cons (fun ρ wz hρ hJ hb hd => by
        refine Eq.mpr (if_neg (by decide)) ?_
        have dd0 : ρ (.tmp 70) = (Value.slice (some { block := g1, off := 0 }) nb c1) := hd 0 _ rfl rfl
        have dd1 : ρ (.tmp 71) = (Value.int IntKind.i64 (nb : Int)) := hd 1 _ rfl rfl
        exact step_val (v := (.slice (some ⟨g1, 0, none⟩) nb c1)) (w' := wz) (by simp [go_sem, execOp, dd0, dd1, hρ.const, hq1, hq2]) ⟨Below.refl _ _, rfl⟩) ?_
      refine .cons (fun ρ wz hρ hJ hb hd => by
        refine Eq.mpr (if_neg (by decide)) ?_
        have dd0 : ρ (.tmp 9) = (Value.slice (some { block := g2, off := 0 }) nc c2) := hb (9, _) (List.mem_of_getElem? (i := 8) rfl)
        exact step_move (.tmp 9) rfl ⟨Below.refl _ _, dd0⟩) ?_
      refine .cons (fun ρ wz hρ hJ hb hd => by
        refine Eq.mpr (if_neg (by decide)) ?_
        have dd0 : ρ (.tmp 10) = (Value.int IntKind.i64 (nb : Int)) := hb (10, _) (List.mem_of_getElem? (i := 9) rfl)
        exact step_move (.tmp 10) rfl ⟨Below.refl _ _, dd0⟩) ?_
      refine .cons (fun ρ wz hρ hJ hb hd => by
        refine Eq.mpr (if_neg (by decide)) ?_
        have dd0 : ρ (.tmp 73) = (Value.slice (some { block := g2, off := 0 }) nc c2) := hd 0 _ rfl rfl
        have dd1 : ρ (.tmp 74) = (Value.int IntKind.i64 (nb : Int)) := hd 1 _ rfl rfl
        exact step_val (v := (.slice (some ⟨g2, 0, none⟩) nb c2)) (w' := wz) (by simp [go_sem, execOp, dd0, dd1, hρ.const, hq1, hq2]) ⟨Below.refl _ _, rfl⟩) ?_
      refine .cons (fun ρ wz hρ hJ hb hd => by
        refine Eq.mpr (if_neg (by decide)) ?_
        have dd0 : ρ (.tmp 72) = (.slice (some ⟨g1, 0, none⟩) nb c1) := hd 0 _ rfl rfl
        have dd1 : ρ (.tmp 75) = (.slice (some ⟨g2, 0, none⟩) nb c2) := hd 1 _ rfl rfl
        refine step_func 17 _ _ #[.slice (some ⟨g1, 0, none⟩) nb c1, .slice (some ⟨g2, 0, none⟩) nb c2] hρ rfl (enters_of Try.func17 (by kernel_rfl) rfl) (by simp [dd0, dd1]) ?_
        refine (unhide hB wz hJ).mono ?_
        rintro r W' ⟨rfl, n9, rfl⟩
        exact ⟨_, rfl, bdrew (Below.refl _ _) n9, rfl⟩) ?_
      refine .cons (fun ρ wz hρ hJ hb hd => by
        refine Eq.mpr (if_neg (by decide)) ?_
        have dd0 : ρ (.tmp 2) = (Value.pointer (some { block := w.heap.size, off := 0 })) := hb (2, _) (List.mem_of_getElem? (i := 2) rfl)
        have q := (unhide HX).below hJ
        obtain ⟨x0, x1, x2, x3, x4, x5, x6, x7, x8, x9, x10⟩ := cells_op q
        exact step_val (v := (.agg #[.int .i64 o.ds, .int .i64 o.dq, .slice ad o.deps.length cd, .int .i64 o.kind, .int .i64 o.it, .int .i64 o.is, .int .i64 o.rt, .int .i64 o.rs, .string o.text, .slice ag o.gone.length cg, .int .i64 o.site])) (w' := wz) (by simp [go_sem, execOp, dd0, x0, x1, x2, x3, x4, x5, x6, x7, x8, x9, x10]) ⟨Below.refl _ _, rfl⟩) ?_
      refine .cons (fun ρ wz hρ hJ hb hd => by
        refine Eq.mpr (if_neg (by decide)) ?_
        have dd0 : ρ (.tmp 3) = (Value.pointer (some { block := w.heap.size + 1, off := 0 })) := hb (3, _) (List.mem_of_getElem? (i := 3) rfl)
        have q := (unhide HY).below hJ
        obtain ⟨x0, x1, x2, x3, x4, x5, x6, x7, x8, x9, x10⟩ := cells_op q
        exact step_val (v := (.agg #[.int .i64 x.ds, .int .i64 x.dq, .slice ad' x.deps.length cd', .int .i64 x.kind, .int .i64 x.it, .int .i64 x.is, .int .i64 x.rt, .int .i64 x.rs, .string x.text, .slice ag' x.gone.length cg', .int .i64 x.site])) (w' := wz) (by simp [go_sem, execOp, dd0, x0, x1, x2, x3, x4, x5, x6, x7, x8, x9, x10]) ⟨Below.refl _ _, rfl⟩) ?_
      refine .cons (fun ρ wz hρ hJ hb hd => by
        refine Eq.mpr (if_neg (by decide)) ?_
        have dd0 : ρ (.tmp 77) = (.agg #[.int .i64 o.ds, .int .i64 o.dq, .slice ad o.deps.length cd, .int .i64 o.kind, .int .i64 o.it, .int .i64 o.is, .int .i64 o.rt, .int .i64 o.rs, .string o.text, .slice ag o.gone.length cg, .int .i64 o.site]) := hd 0 _ rfl rfl
        have dd1 : ρ (.tmp 78) = (.agg #[.int .i64 x.ds, .int .i64 x.dq, .slice ad' x.deps.length cd', .int .i64 x.kind, .int .i64 x.it, .int .i64 x.is, .int .i64 x.rt, .int .i64 x.rs, .string x.text, .slice ag' x.gone.length cg', .int .i64 x.site]) := hd 1 _ rfl rfl
        refine step_func 12 _ _ #[.agg #[.int .i64 o.ds, .int .i64 o.dq, .slice ad o.deps.length cd, .int .i64 o.kind, .int .i64 o.it, .int .i64 o.is, .int .i64 o.rt, .int .i64 o.rs, .string o.text, .slice ag o.gone.length cg, .int .i64 o.site], .agg #[.int .i64 x.ds, .int .i64 x.dq, .slice ad' x.deps.length cd', .int .i64 x.kind, .int .i64 x.it, .int .i64 x.is, .int .i64 x.rt, .int .i64 x.rs, .string x.text, .slice ag' x.gone.length cg', .int .i64 x.site]] hρ rfl (enters_of Try.func12 (by kernel_rfl) rfl) (by simp [dd0, dd1]) ?_
        refine (unhide HS2 wz ((unhide HD).below hJ) (RC.below (unhide HG) hJ) ((unhide HE).below hJ) (RC.below (unhide HH) hJ)).mono ?_
        rintro r W' ⟨rfl, hb2⟩
        exact ⟨_, rfl, hb2, rfl⟩) ?_
      refine .cons (fun ρ wz hρ hJ hb hd => by
        refine Eq.mpr (if_neg (by decide)) ?_
        have dd0 : ρ (.tmp 76) = (.bool E) := hd 0 _ rfl rfl
        have dd1 : ρ (.tmp 79) = (.bool E) := hd 1 _ rfl rfl
        exact step_val (v := (.bool true)) (w' := wz) (by cases E <;> simp [go_sem, execOp, dd0, dd1]) ⟨Below.refl _ _, rfl⟩) ?_
      refine .cons (fun ρ wz hρ hJ hb hd => by
        refine Eq.mpr (if_neg (by decide)) ?_
        have dd0 : ρ (.tmp 80) = (.bool true) := hd 0 _ rfl rfl
        exact step_move (.tmp 80) rfl ⟨Below.refl _ _, dd0⟩) ?_
      refine .cons (fun ρ wz hρ hJ hb hd => by
        refine Eq.mpr (if_neg (by decide)) ?_
        refine step_func 7 _ _ #[] hρ rfl (enters_of Try.func7 (by kernel_rfl) rfl) (by simp) ?_
        refine (unhide HK wz).mono ?_
        rintro r W' ⟨rfl, hb2⟩
        exact ⟨_, rfl, hb2, rfl⟩) ?_
      refine .cons (fun ρ wz hρ hJ hb hd => by
        refine Eq.mpr (if_neg (by decide)) ?_
        have dd0 : ρ (.tmp 81) = (.bool true) := hd 0 _ rfl rfl
        have dd1 : ρ (.tmp 82) = (.bool true) := hd 1 _ rfl rfl
        exact step_val (v := (.bool true)) (w' := wz) (by simp [go_sem, execOp, dd0, dd1, hρ.const, hq1, hq2]) ⟨Below.refl _ _, rfl⟩) ?_
      refine .cons (fun ρ wz hρ hJ hb hd => by
        refine Eq.mpr (if_neg (by decide)) ?_
        have dd0 : ρ (.tmp 83) = (.bool true) := hd 0 _ rfl rfl
        exact step_assign (.tmp 83) rfl ⟨Below.refl _ _, dd0⟩) (.nil _)
    case fin =>
      intro aQ WQ hsz2 hds hb hJ hv
      obtain rfl := frame_of (((0, (Value.agg #[Value.int IntKind.i64 o.ds, Value.int IntKind.i64 o.dq, Value.slice ad o.deps.length cd, Value.int IntKind.i64 o.kind, Value.int IntKind.i64 o.it, Value.int IntKind.i64 o.is, Value.int IntKind.i64 o.rt, Value.int IntKind.i64 o.rs, Value.string o.text, Value.slice ag o.gone.length cg, Value.int IntKind.i64 o.site])) :: (1, (Value.agg #[Value.int IntKind.i64 x.ds, Value.int IntKind.i64 x.dq, Value.slice ad' x.deps.length cd', Value.int IntKind.i64 x.kind, Value.int IntKind.i64 x.it, Value.int IntKind.i64 x.is, Value.int IntKind.i64 x.rt, Value.int IntKind.i64 x.rs, Value.string x.text, Value.slice ag' x.gone.length cg', Value.int IntKind.i64 x.site])) :: (2, (Value.pointer (some { block := w.heap.size, off := 0 }))) :: (3, (Value.pointer (some { block := w.heap.size + 1, off := 0 }))) :: (5, (Value.slice (some { block := g1, off := 0 }) nb c1)) :: (6, (Value.int IntKind.i64 0)) :: (7, (Value.pointer (some { block := W5.heap.size, off := 0 }))) :: (8, (Value.int IntKind.i64 0)) :: (9, (Value.slice (some { block := g2, off := 0 }) nc c2)) :: (10, (Value.int IntKind.i64 (nb : Int))) :: (11, (Value.agg #[Value.int IntKind.i64 o.ds, Value.int IntKind.i64 o.dq, Value.slice ad o.deps.length cd, Value.int IntKind.i64 o.kind, Value.int IntKind.i64 o.it, Value.int IntKind.i64 o.is, Value.int IntKind.i64 o.rt, Value.int IntKind.i64 o.rs, Value.string o.text, Value.slice ag o.gone.length cg, Value.int IntKind.i64 o.site])) :: (12, (Value.bool false)) :: (13, (Value.bool false)) :: (14, (Value.agg #[Value.int IntKind.i64 x.ds, Value.int IntKind.i64 x.dq, Value.slice ad' x.deps.length cd', Value.int IntKind.i64 x.kind, Value.int IntKind.i64 x.it, Value.int IntKind.i64 x.is, Value.int IntKind.i64 x.rt, Value.int IntKind.i64 x.rs, Value.string x.text, Value.slice ag' x.gone.length cg', Value.int IntKind.i64 x.site])) :: (15, (Value.bool false)) :: (16, (Value.bool false)) :: (17, undef) :: (18, (Value.tuple #[Value.slice (some { block := g1, off := 0 }) nb c1, Value.int IntKind.i64 0])) :: (19, (Value.agg #[Value.int IntKind.i64 o.ds, Value.int IntKind.i64 o.dq, Value.slice ad o.deps.length cd, Value.int IntKind.i64 o.kind, Value.int IntKind.i64 o.it, Value.int IntKind.i64 o.is, Value.int IntKind.i64 o.rt, Value.int IntKind.i64 o.rs, Value.string o.text, Value.slice ag o.gone.length cg, Value.int IntKind.i64 o.site])) :: (20, (Value.tuple #[Value.slice (some { block := g1, off := 0 }) nb c1, Value.int IntKind.i64 0])) :: (21, (Value.slice (some { block := g1, off := 0 }) nb c1)) :: (22, (Value.int IntKind.i64 0)) :: (23, (Value.int IntKind.i64 0)) :: (24, (Value.bool true)) :: (25, (Value.agg #[Value.int IntKind.i64 o.ds, Value.int IntKind.i64 o.dq, Value.slice ad o.deps.length cd, Value.int IntKind.i64 o.kind, Value.int IntKind.i64 o.it, Value.int IntKind.i64 o.is, Value.int IntKind.i64 o.rt, Value.int IntKind.i64 o.rs, Value.string o.text, Value.slice ag o.gone.length cg, Value.int IntKind.i64 o.site])) :: (26, (Value.int IntKind.i64 0)) :: (27, (Value.bool true)) :: (28, (Value.bool false)) :: (29, (Value.int IntKind.i64 0)) :: (30, (Value.bool false)) :: (31, undef) :: (32, undef) :: (33, undef) :: (34, undef) :: (35, undef) :: (36, undef) :: (37, undef) :: (38, undef) :: (39, undef) :: (40, undef) :: (41, (Value.tuple #[Value.agg #[Value.int IntKind.i64 o.ds, Value.int IntKind.i64 o.dq, Value.slice ae o.deps.length ce, Value.int IntKind.i64 o.kind, Value.int IntKind.i64 o.it, Value.int IntKind.i64 o.is, Value.int IntKind.i64 o.rt, Value.int IntKind.i64 o.rs, Value.string o.text, Value.slice af o.gone.length cf, Value.int IntKind.i64 o.site], Value.int IntKind.i64 0])) :: (42, (Value.slice (some { block := g1, off := 0 }) nb c1)) :: (43, (Value.tuple #[Value.agg #[Value.int IntKind.i64 o.ds, Value.int IntKind.i64 o.dq, Value.slice ae o.deps.length ce, Value.int IntKind.i64 o.kind, Value.int IntKind.i64 o.it, Value.int IntKind.i64 o.is, Value.int IntKind.i64 o.rt, Value.int IntKind.i64 o.rs, Value.string o.text, Value.slice af o.gone.length cf, Value.int IntKind.i64 o.site], Value.int IntKind.i64 0])) :: (44, (Value.agg #[Value.int IntKind.i64 o.ds, Value.int IntKind.i64 o.dq, Value.slice ae o.deps.length ce, Value.int IntKind.i64 o.kind, Value.int IntKind.i64 o.it, Value.int IntKind.i64 o.is, Value.int IntKind.i64 o.rt, Value.int IntKind.i64 o.rs, Value.string o.text, Value.slice af o.gone.length cf, Value.int IntKind.i64 o.site])) :: (45, (Value.int IntKind.i64 0)) :: (46, (Value.int IntKind.i64 0)) :: (47, (Value.bool false)) :: (48, (Value.bool false)) :: (49, (Value.agg #[Value.int IntKind.i64 o.ds, Value.int IntKind.i64 o.dq, Value.slice ae o.deps.length ce, Value.int IntKind.i64 o.kind, Value.int IntKind.i64 o.it, Value.int IntKind.i64 o.is, Value.int IntKind.i64 o.rt, Value.int IntKind.i64 o.rs, Value.string o.text, Value.slice af o.gone.length cf, Value.int IntKind.i64 o.site])) :: (50, (Value.agg #[Value.int IntKind.i64 o.ds, Value.int IntKind.i64 o.dq, Value.slice ad o.deps.length cd, Value.int IntKind.i64 o.kind, Value.int IntKind.i64 o.it, Value.int IntKind.i64 o.is, Value.int IntKind.i64 o.rt, Value.int IntKind.i64 o.rs, Value.string o.text, Value.slice ag o.gone.length cg, Value.int IntKind.i64 o.site])) :: (51, (Value.bool true)) :: (52, (Value.bool false)) :: (53, (Value.bool false)) :: (54, (Value.tuple #[Value.slice (some { block := g2, off := 0 }) nc c2, Value.int IntKind.i64 0])) :: (55, (Value.agg #[Value.int IntKind.i64 x.ds, Value.int IntKind.i64 x.dq, Value.slice ad' x.deps.length cd', Value.int IntKind.i64 x.kind, Value.int IntKind.i64 x.it, Value.int IntKind.i64 x.is, Value.int IntKind.i64 x.rt, Value.int IntKind.i64 x.rs, Value.string x.text, Value.slice ag' x.gone.length cg', Value.int IntKind.i64 x.site])) :: (56, (Value.tuple #[Value.slice (some { block := g2, off := 0 }) nc c2, Value.int IntKind.i64 0])) :: (57, (Value.slice (some { block := g2, off := 0 }) nc c2)) :: (58, (Value.int IntKind.i64 0)) :: (59, (Value.int IntKind.i64 0)) :: (60, (Value.bool false)) :: (61, undef) :: (62, (Value.slice (some { block := g1, off := 0 }) nb c1)) :: (63, (Value.int IntKind.i64 (nb : Int))) :: (64, (Value.slice (some { block := g2, off := 0 }) nc c2)) :: (65, (Value.int IntKind.i64 (nc : Int))) :: (66, (Value.int IntKind.i64 (nb : Int))) :: (67, (Value.bool false)) :: (68, undef) :: (69, undef) :: []) ++ ((70, (Value.slice (some { block := g1, off := 0 }) nb c1)) :: (71, (Value.int IntKind.i64 (nb : Int))) :: (72, (.slice (some ⟨g1, 0, none⟩) nb c1)) :: (73, (Value.slice (some { block := g2, off := 0 }) nc c2)) :: (74, (Value.int IntKind.i64 (nb : Int))) :: (75, (.slice (some ⟨g2, 0, none⟩) nb c2)) :: (76, (.bool E)) :: (77, (.agg #[.int .i64 o.ds, .int .i64 o.dq, .slice ad o.deps.length cd, .int .i64 o.kind, .int .i64 o.it, .int .i64 o.is, .int .i64 o.rt, .int .i64 o.rs, .string o.text, .slice ag o.gone.length cg, .int .i64 o.site])) :: (78, (.agg #[.int .i64 x.ds, .int .i64 x.dq, .slice ad' x.deps.length cd', .int .i64 x.kind, .int .i64 x.it, .int .i64 x.is, .int .i64 x.rt, .int .i64 x.rs, .string x.text, .slice ag' x.gone.length cg', .int .i64 x.site])) :: (79, (.bool E)) :: (80, (.bool true)) :: (81, (.bool true)) :: (82, (.bool true)) :: (83, (.bool true)) :: (4, (.bool true)) :: [])) ((Value.agg #[Value.int IntKind.i64 o.ds, Value.int IntKind.i64 o.dq, Value.slice ad o.deps.length cd, Value.int IntKind.i64 o.kind, Value.int IntKind.i64 o.it, Value.int IntKind.i64 o.is, Value.int IntKind.i64 o.rt, Value.int IntKind.i64 o.rs, Value.string o.text, Value.slice ag o.gone.length cg, Value.int IntKind.i64 o.site]) :: (Value.agg #[Value.int IntKind.i64 x.ds, Value.int IntKind.i64 x.dq, Value.slice ad' x.deps.length cd', Value.int IntKind.i64 x.kind, Value.int IntKind.i64 x.it, Value.int IntKind.i64 x.is, Value.int IntKind.i64 x.rt, Value.int IntKind.i64 x.rs, Value.string x.text, Value.slice ag' x.gone.length cg', Value.int IntKind.i64 x.site]) :: (Value.pointer (some { block := w.heap.size, off := 0 })) :: (Value.pointer (some { block := w.heap.size + 1, off := 0 })) :: (.bool true) :: (Value.slice (some { block := g1, off := 0 }) nb c1) :: (Value.int IntKind.i64 0) :: (Value.pointer (some { block := W5.heap.size, off := 0 })) :: (Value.int IntKind.i64 0) :: (Value.slice (some { block := g2, off := 0 }) nc c2) :: (Value.int IntKind.i64 (nb : Int)) :: (Value.agg #[Value.int IntKind.i64 o.ds, Value.int IntKind.i64 o.dq, Value.slice ad o.deps.length cd, Value.int IntKind.i64 o.kind, Value.int IntKind.i64 o.it, Value.int IntKind.i64 o.is, Value.int IntKind.i64 o.rt, Value.int IntKind.i64 o.rs, Value.string o.text, Value.slice ag o.gone.length cg, Value.int IntKind.i64 o.site]) :: (Value.bool false) :: (Value.bool false) :: (Value.agg #[Value.int IntKind.i64 x.ds, Value.int IntKind.i64 x.dq, Value.slice ad' x.deps.length cd', Value.int IntKind.i64 x.kind, Value.int IntKind.i64 x.it, Value.int IntKind.i64 x.is, Value.int IntKind.i64 x.rt, Value.int IntKind.i64 x.rs, Value.string x.text, Value.slice ag' x.gone.length cg', Value.int IntKind.i64 x.site]) :: (Value.bool false) :: (Value.bool false) :: undef :: (Value.tuple #[Value.slice (some { block := g1, off := 0 }) nb c1, Value.int IntKind.i64 0]) :: (Value.agg #[Value.int IntKind.i64 o.ds, Value.int IntKind.i64 o.dq, Value.slice ad o.deps.length cd, Value.int IntKind.i64 o.kind, Value.int IntKind.i64 o.it, Value.int IntKind.i64 o.is, Value.int IntKind.i64 o.rt, Value.int IntKind.i64 o.rs, Value.string o.text, Value.slice ag o.gone.length cg, Value.int IntKind.i64 o.site]) :: (Value.tuple #[Value.slice (some { block := g1, off := 0 }) nb c1, Value.int IntKind.i64 0]) :: (Value.slice (some { block := g1, off := 0 }) nb c1) :: (Value.int IntKind.i64 0) :: (Value.int IntKind.i64 0) :: (Value.bool true) :: (Value.agg #[Value.int IntKind.i64 o.ds, Value.int IntKind.i64 o.dq, Value.slice ad o.deps.length cd, Value.int IntKind.i64 o.kind, Value.int IntKind.i64 o.it, Value.int IntKind.i64 o.is, Value.int IntKind.i64 o.rt, Value.int IntKind.i64 o.rs, Value.string o.text, Value.slice ag o.gone.length cg, Value.int IntKind.i64 o.site]) :: (Value.int IntKind.i64 0) :: (Value.bool true) :: (Value.bool false) :: (Value.int IntKind.i64 0) :: (Value.bool false) :: undef :: undef :: undef :: undef :: undef :: undef :: undef :: undef :: undef :: undef :: (Value.tuple #[Value.agg #[Value.int IntKind.i64 o.ds, Value.int IntKind.i64 o.dq, Value.slice ae o.deps.length ce, Value.int IntKind.i64 o.kind, Value.int IntKind.i64 o.it, Value.int IntKind.i64 o.is, Value.int IntKind.i64 o.rt, Value.int IntKind.i64 o.rs, Value.string o.text, Value.slice af o.gone.length cf, Value.int IntKind.i64 o.site], Value.int IntKind.i64 0]) :: (Value.slice (some { block := g1, off := 0 }) nb c1) :: (Value.tuple #[Value.agg #[Value.int IntKind.i64 o.ds, Value.int IntKind.i64 o.dq, Value.slice ae o.deps.length ce, Value.int IntKind.i64 o.kind, Value.int IntKind.i64 o.it, Value.int IntKind.i64 o.is, Value.int IntKind.i64 o.rt, Value.int IntKind.i64 o.rs, Value.string o.text, Value.slice af o.gone.length cf, Value.int IntKind.i64 o.site], Value.int IntKind.i64 0]) :: (Value.agg #[Value.int IntKind.i64 o.ds, Value.int IntKind.i64 o.dq, Value.slice ae o.deps.length ce, Value.int IntKind.i64 o.kind, Value.int IntKind.i64 o.it, Value.int IntKind.i64 o.is, Value.int IntKind.i64 o.rt, Value.int IntKind.i64 o.rs, Value.string o.text, Value.slice af o.gone.length cf, Value.int IntKind.i64 o.site]) :: (Value.int IntKind.i64 0) :: (Value.int IntKind.i64 0) :: (Value.bool false) :: (Value.bool false) :: (Value.agg #[Value.int IntKind.i64 o.ds, Value.int IntKind.i64 o.dq, Value.slice ae o.deps.length ce, Value.int IntKind.i64 o.kind, Value.int IntKind.i64 o.it, Value.int IntKind.i64 o.is, Value.int IntKind.i64 o.rt, Value.int IntKind.i64 o.rs, Value.string o.text, Value.slice af o.gone.length cf, Value.int IntKind.i64 o.site]) :: (Value.agg #[Value.int IntKind.i64 o.ds, Value.int IntKind.i64 o.dq, Value.slice ad o.deps.length cd, Value.int IntKind.i64 o.kind, Value.int IntKind.i64 o.it, Value.int IntKind.i64 o.is, Value.int IntKind.i64 o.rt, Value.int IntKind.i64 o.rs, Value.string o.text, Value.slice ag o.gone.length cg, Value.int IntKind.i64 o.site]) :: (Value.bool true) :: (Value.bool false) :: (Value.bool false) :: (Value.tuple #[Value.slice (some { block := g2, off := 0 }) nc c2, Value.int IntKind.i64 0]) :: (Value.agg #[Value.int IntKind.i64 x.ds, Value.int IntKind.i64 x.dq, Value.slice ad' x.deps.length cd', Value.int IntKind.i64 x.kind, Value.int IntKind.i64 x.it, Value.int IntKind.i64 x.is, Value.int IntKind.i64 x.rt, Value.int IntKind.i64 x.rs, Value.string x.text, Value.slice ag' x.gone.length cg', Value.int IntKind.i64 x.site]) :: (Value.tuple #[Value.slice (some { block := g2, off := 0 }) nc c2, Value.int IntKind.i64 0]) :: (Value.slice (some { block := g2, off := 0 }) nc c2) :: (Value.int IntKind.i64 0) :: (Value.int IntKind.i64 0) :: (Value.bool false) :: undef :: (Value.slice (some { block := g1, off := 0 }) nb c1) :: (Value.int IntKind.i64 (nb : Int)) :: (Value.slice (some { block := g2, off := 0 }) nc c2) :: (Value.int IntKind.i64 (nc : Int)) :: (Value.int IntKind.i64 (nb : Int)) :: (Value.bool false) :: undef :: undef :: (Value.slice (some { block := g1, off := 0 }) nb c1) :: (Value.int IntKind.i64 (nb : Int)) :: (.slice (some ⟨g1, 0, none⟩) nb c1) :: (Value.slice (some { block := g2, off := 0 }) nc c2) :: (Value.int IntKind.i64 (nb : Int)) :: (.slice (some ⟨g2, 0, none⟩) nb c2) :: (.bool E) :: (.agg #[.int .i64 o.ds, .int .i64 o.dq, .slice ad o.deps.length cd, .int .i64 o.kind, .int .i64 o.it, .int .i64 o.is, .int .i64 o.rt, .int .i64 o.rs, .string o.text, .slice ag o.gone.length cg, .int .i64 o.site]) :: (.agg #[.int .i64 x.ds, .int .i64 x.dq, .slice ad' x.deps.length cd', .int .i64 x.kind, .int .i64 x.it, .int .i64 x.is, .int .i64 x.rt, .int .i64 x.rs, .string x.text, .slice ag' x.gone.length cg', .int .i64 x.site]) :: (.bool E) :: (.bool true) :: (.bool true) :: (.bool true) :: (.bool true) :: []) hsz2 hds (fun p hp => by
        rcases List.mem_append.1 hp with h | h
        · exact hb p h
        · simp only [List.mem_cons, List.not_mem_nil, or_false] at h
          rcases h with rfl | rfl | rfl | rfl | rfl | rfl | rfl | rfl | rfl | rfl | rfl | rfl | rfl | rfl | rfl
          · exact hv 0 (by decide)
          · exact hv 1 (by decide)
          · exact hv 2 (by decide)
          · exact hv 3 (by decide)
          · exact hv 4 (by decide)
          · exact hv 5 (by decide)
          · exact hv 6 (by decide)
          · exact hv 7 (by decide)
          · exact hv 8 (by decide)
          · exact hv 9 (by decide)
          · exact hv 10 (by decide)
          · exact hv 11 (by decide)
          · exact hv 12 (by decide)
          · exact hv 13 (by decide)
          · exact hv 14 (by decide)) rfl
      clear hb hds hsz2 hv
      go_wp2
      go_ret
      exact ⟨rfl, bnext (unhide B0) hJ⟩

theorem own : ownKnob Try.prog.godebug = none := by kernel_rfl
theorem laidOut2 : laidOutB Try.prog = true := by kernel_rfl

set_option maxRecDepth 100000 in
theorem lifted (os : Os) (started : os.Started) (H : Type) (enc : TypeId × Value → H) :
    ReturnsInHanded {} Try.checked os 4 .any (Rows.opBackSpec.pre6 enc Try.prog Try.f4 Rows.opBackRow.domain false) (Rows.opBackSpec.post enc Try.prog Try.f4 false true false false) := by
  refine returnsInHanded_of_change (C := Try.checked) own started (by kernel_rfl) Try.func4
    (ChangeSpec.witness6 (enc := enc) (C := Try.checked) false ⟨#[], #[.agg #[.int .i64 0, .int .i64 0, .slice none 0 0, .int .i64 0, .int .i64 0, .int .i64 0, .int .i64 0, .int .i64 0, .string ByteArray.empty, .slice none 0 0, .int .i64 0], .agg #[.int .i64 0, .int .i64 0, .slice none 0 0, .int .i64 0, .int .i64 0, .int .i64 0, .int .i64 0, .int .i64 0, .string ByteArray.empty, .slice none 0 0, .int .i64 0]], []⟩ 8 (by kernel_rfl) (by kernel_rfl) (by kernel_rfl) (by kernel_rfl)) ?_
  intro W base args ds gs before hval0 hW hcnd _
  have hval : ∀ (j : Nat) t v, Try.f4.params[j]? = some t → args[j]? = some v → Value.okWide Try.prog W .any base t v := hval0
  have hW' := hW
  obtain ⟨p, q, hA0, hV, rfl, hfz, hnd⟩ := hW
  have hA : DataW.TrodAll enc Try.prog W 0 (fun _ => true) true Try.f4.params.toList args.toList ds p := hA0
  rw [Try.params4] at hA hval
  obtain ⟨v0, vs0, d0, ds0, p0, q0, hargs, rfl, rfl, h0, r0⟩ := trodAll_cons hA
  obtain ⟨v1, vs1, d1, ds1, p1, q1, rfl, rfl, rfl, h1, r1⟩ := trodAll_cons r0
  obtain ⟨rfl, rfl, rfl⟩ := trodAll_nil r1
  obtain rfl : args = #[v0, v1] := by cases args; simp_all
  obtain ⟨rfl, rfl⟩ := trodVars_none hV
  have k0 := h0
  have lt0 : ∀ x ∈ p0, x.block < W.heap.size := by obtain ⟨m, hm⟩ := k0; exact DataW.trod_lt m _ _ _ hm
  obtain ⟨o0, ad0, ag0, cd0, cg0, rfl, w0⟩ := open_op (hval 0 30 v0 rfl rfl) h0
  have k1 := h1
  have lt1 : ∀ x ∈ p1, x.block < W.heap.size := by obtain ⟨m, hm⟩ := k1; exact DataW.trod_lt m _ _ _ hm
  obtain ⟨o1, ad1, ag1, cd1, cg1, rfl, w1⟩ := open_op (hval 1 30 v1 rfl rfl) h1
  clear hA0 hval0
  refine (walk o0 ad0 ag0 cd0 cg0 o1 ad1 ag1 cd1 cg1 W w0 w1).mono fun e W' ⟨he, bel⟩ => ?_
  subst he
  exact ⟨_, rfl, _, _, _, [], _, [], hW', trodAll_mk1 (shut_bool Try.underlying4 _), (trodAll_cons_mk (Below.trod laidOut2 (by kernel_rfl) (of_decide_eq_true (by kernel_rfl)) k0 bel lt0) (trodAll_cons_mk (Below.trod laidOut2 (by kernel_rfl) (of_decide_eq_true (by kernel_rfl)) k1 bel lt1) trodAll_mk0)), rfl, bel.frame _, fun h => by cases h⟩

theorem over : Rows.opBackRow.holds Try.pinned (OpenSpec.ofChange Rows.opBackSpec) :=
  OpenClaim.holds_of_wide 4 Try.f4 rfl rfl rfl rfl rfl rfl rfl ⟨rfl, rfl, rfl, rfl, rfl⟩ rfl rfl rfl rfl rfl (by kernel_rfl) Try.func4 (by kernel_rfl)
    (of_decide_eq_true (by kernel_rfl)) (by unfold Func.isWrapper; first | (rw [if_pos (by decide +kernel)]; kernel_rfl) | (rw [if_neg (by decide +kernel)]; exact ⟨rfl, rfl⟩))
    (fun os started H enc _ => lifted os started H enc)

end LOpBack

theorem opBack_holds : Rows.OpBackSaid := LOpBack.over

end Go.Proofs.Ytknnfahbpekmoaa
