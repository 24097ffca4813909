/-
  Timers, their order, lists of them, and rows in the order of a heap (pure).
-/
import Derived.Test.YtknomhgglmgciaaZB0
set_option linter.unusedSimpArgs false
set_option linter.unusedVariables false
namespace Go.Proofs.Ytknomhgglmgciaa

/-- a timer: its key, its gap, the tick at which it runs out -/
structure Tm where
  key : Int
  gap : Int
  due : Int
/-- does one come ahead of another? -/
def ltT (a b : Tm) : Bool := decide (a.due < b.due ∨ (a.due = b.due ∧ a.key < b.key))
theorem ltT_iff (a b : Tm) : ltT a b = true ↔ (a.due < b.due ∨ (a.due = b.due ∧ a.key < b.key)) := by simp [ltT]
theorem ltT_no (a b : Tm) : ltT a b = false ↔ (b.due < a.due ∨ (b.due = a.due ∧ b.key ≤ a.key)) := by
  rw [← Bool.not_eq_true, ltT_iff]
  omega
theorem ltT_irr (a : Tm) : ltT a a = false := by rw [ltT_no]; omega
theorem ltT_asy {a b : Tm} (h : ltT a b = true) : ltT b a = false := by rw [ltT_iff] at h; rw [ltT_no]; omega
/-- not ahead, step by step -/
theorem ltT_tr {a b c : Tm} (h : ltT b a = false) (k : ltT c b = false) : ltT c a = false := by rw [ltT_no] at *; omega
theorem ltT_key {a b : Tm} (h : ltT a b = false) (k : ltT b a = false) : a.key = b.key := by rw [ltT_no] at *; omega

/-- the entry of a row of blocks -/
def pg (ps : List Nat) (i : Nat) : Nat := ps.getD i 0
theorem pg_set {ps : List Nat} {i : Nat} (h : i < ps.length) (x j : Nat) : pg (ps.set i x) j = if j = i then x else pg ps j := by
  unfold pg
  simp only [List.getD_eq_getElem?_getD, List.getElem?_set]
  by_cases e : j = i
  · subst e; simp [h]
  · simp [e, Ne.symm e]
theorem pg_get {ps : List Nat} {i : Nat} (h : i < ps.length) : ps[i]? = some (pg ps i) := by
  unfold pg
  rw [List.getD_eq_getElem?_getD, List.getElem?_eq_getElem h]
  rfl
theorem pg_mem {ps : List Nat} {i : Nat} (h : i < ps.length) : pg ps i ∈ ps := List.mem_of_getElem? (pg_get h)
theorem mem_pg {ps : List Nat} {a : Nat} (h : a ∈ ps) : ∃ i, i < ps.length ∧ pg ps i = a := by
  obtain ⟨i, hi, e⟩ := List.getElem_of_mem h
  refine ⟨i, hi, ?_⟩
  have := pg_get hi
  rw [List.getElem?_eq_getElem hi, e] at this
  exact (Option.some.inj this).symm
theorem pg_app {ps : List Nat} {a i : Nat} (h : i < ps.length) : pg (ps ++ [a]) i = pg ps i := by
  unfold pg
  rw [List.getD_eq_getElem?_getD, List.getD_eq_getElem?_getD, List.getElem?_append_left h]
theorem pg_last (ps : List Nat) (a : Nat) : pg (ps ++ [a]) ps.length = a := by
  unfold pg
  simp
theorem pg_take {ps : List Nat} {n i : Nat} (h : i < n) : pg (ps.take n) i = pg ps i := by
  unfold pg
  rw [List.getD_eq_getElem?_getD, List.getD_eq_getElem?_getD, List.getElem?_take_of_lt h]
/-- two of a row in each other's places -/
def swp (ps : List Nat) (i k : Nat) : List Nat := (ps.set i (pg ps k)).set k (pg ps i)
theorem swp_len (ps : List Nat) (i k : Nat) : (swp ps i k).length = ps.length := by simp [swp]
theorem pg_swp {ps : List Nat} {i k : Nat} (hi : i < ps.length) (hk : k < ps.length) (j : Nat) : pg (swp ps i k) j = if j = k then pg ps i else if j = i then pg ps k else pg ps j := by
  unfold swp
  rw [pg_set (by simpa using hk), pg_set hi]
theorem swp_mem {ps : List Nat} {i k : Nat} (hi : i < ps.length) (hk : k < ps.length) (a : Nat) : a ∈ swp ps i k ↔ a ∈ ps := by
  constructor
  · intro h
    obtain ⟨j, hj, rfl⟩ := mem_pg h
    rw [swp_len] at hj
    rw [pg_swp hi hk]
    split
    · exact pg_mem hi
    · split
      · exact pg_mem hk
      · exact pg_mem hj
  · intro h
    obtain ⟨j, hj, rfl⟩ := mem_pg h
    by_cases e1 : j = i
    · subst e1
      have := pg_mem (ps := swp ps j k) (i := k) (by rw [swp_len]; exact hk)
      rwa [pg_swp hi hk, if_pos rfl] at this
    · by_cases e2 : j = k
      · subst e2
        have := pg_mem (ps := swp ps i j) (i := i) (by rw [swp_len]; exact hi)
        rwa [pg_swp hi hk, if_neg (Ne.symm e1), if_pos rfl] at this
      · have := pg_mem (ps := swp ps i k) (i := j) (by rw [swp_len]; exact hj)
        rwa [pg_swp hi hk, if_neg e2, if_neg e1] at this

/-- the first n of a row are in the order of a heap, but for the entry i: what is above and below it is -/
structure Hx (t : Nat → Tm) (ps : List Nat) (n i : Nat) : Prop where
  le : n ≤ ps.length
  away : ∀ c, 0 < c → c < n → c ≠ i → (c - 1) / 2 ≠ i → ltT (t (pg ps c)) (t (pg ps ((c - 1) / 2))) = false
  past : ∀ c, 0 < c → c < n → (c - 1) / 2 = i → 0 < i → ltT (t (pg ps c)) (t (pg ps ((i - 1) / 2))) = false
/-- the first n are in the order of a heap -/
def Hp (t : Nat → Tm) (ps : List Nat) (n : Nat) : Prop := ∀ c, 0 < c → c < n → ltT (t (pg ps c)) (t (pg ps ((c - 1) / 2))) = false
/-- what is below i is behind it -/
def Dn (t : Nat → Tm) (ps : List Nat) (n i : Nat) : Prop := ∀ c, 0 < c → c < n → (c - 1) / 2 = i → ltT (t (pg ps c)) (t (pg ps i)) = false
/-- what is above i is ahead of it -/
def Up (t : Nat → Tm) (ps : List Nat) (i : Nat) : Prop := 0 < i → ltT (t (pg ps i)) (t (pg ps ((i - 1) / 2))) = false
theorem Hx.hp {t : Nat → Tm} {ps : List Nat} {n i : Nat} (h : Hx t ps n i) (d : Dn t ps n i) (u : Up t ps i) : Hp t ps n := by
  intro c h0 hc
  by_cases e : c = i
  · subst e; exact u h0
  · by_cases e2 : (c - 1) / 2 = i
    · rw [e2]; exact d c h0 hc e2
    · exact h.away c h0 hc e e2
theorem Hp.min {t : Nat → Tm} {ps : List Nat} {n : Nat} (h : Hp t ps n) : ∀ i, i < n → ltT (t (pg ps i)) (t (pg ps 0)) = false := by
  intro i
  induction i using Nat.strongRecOn with
  | _ i ih =>
    intro hi
    by_cases e : i = 0
    · subst e; exact ltT_irr _
    · exact ltT_tr (ih ((i - 1) / 2) (by omega) (by omega)) (h i (by omega) hi)
/-- one that was changed, of a row in the order of a heap -/
theorem Hp.hx {t t' : Nat → Tm} {ps ps' : List Nat} {n i : Nat} (h : Hp t ps n) (hn : n ≤ ps'.length) (ht : ∀ c, c < n → c ≠ i → t' (pg ps' c) = t (pg ps c)) : Hx t' ps' n i := by
  refine ⟨hn, fun c h0 hc hi hp => ?_, fun c h0 hc hp hi => ?_⟩
  · rw [ht c hc hi, ht _ (by omega) hp]; exact h c h0 hc
  · rw [ht c hc (by omega), ht _ (by omega) (by omega)]
    have h1 := h c h0 hc
    rw [hp] at h1
    exact ltT_tr (h i hi (by omega)) h1
/-- one that is new, behind all -/
theorem Hp.new {t t' : Nat → Tm} {ps ps' : List Nat} {n : Nat} (h : Hp t ps n) (hn : n + 1 ≤ ps'.length) (ht : ∀ c, c < n → t' (pg ps' c) = t (pg ps c)) : Hx t' ps' (n + 1) n ∧ Dn t' ps' (n + 1) n := by
  refine ⟨⟨hn, fun c h0 hc hi hp => ?_, fun c h0 hc hp hi => ?_⟩, fun c h0 hc hp => ?_⟩
  · rw [ht c (by omega), ht _ (by omega)]; exact h c h0 (by omega)
  · omega
  · omega
theorem Hp.wk {t : Nat → Tm} {ps : List Nat} {n m : Nat} (h : Hp t ps n) (hm : m ≤ n) : Hp t ps m := fun c h0 hc => h c h0 (by omega)
theorem Hp.eq {t t' : Nat → Tm} {ps ps' : List Nat} {n : Nat} (h : Hp t ps n) (ht : ∀ c, c < n → t' (pg ps' c) = t (pg ps c)) : Hp t' ps' n := fun c h0 hc => by rw [ht c hc, ht _ (by omega)]; exact h c h0 hc
/-- one turn of up -/
theorem Hx.up {t : Nat → Tm} {ps : List Nat} {n j i : Nat} (h : Hx t ps n j) (d : Dn t ps n j) (hj : j < n) (h0 : 0 < j) (hI : (j - 1) / 2 = i) (hl : ltT (t (pg ps j)) (t (pg ps i)) = true) : Hx t (swp ps i j) n i ∧ Dn t (swp ps i j) n i := by
  have hn := h.le
  have hi : i < ps.length := by omega
  have hj' : j < ps.length := by omega
  have hij : i ≠ j := by omega
  have G := pg_swp (ps := ps) hi hj'
  refine ⟨⟨by rw [swp_len]; exact hn, fun c c0 hc ci cp => ?_, fun c c0 hc cp i0 => ?_⟩, fun c c0 hc cp => ?_⟩
  · have e : c ≠ j := fun e => cp (by rw [e]; exact hI)
    rw [G c, if_neg e, if_neg ci, G ((c - 1) / 2)]
    by_cases e2 : (c - 1) / 2 = j
    · rw [if_pos e2]
      have := h.past c c0 hc e2 h0
      rwa [hI] at this
    · rw [if_neg e2, if_neg cp]
      exact h.away c c0 hc e e2
  · rw [G ((i - 1) / 2), if_neg (by omega), if_neg (by omega), G c]
    have h1 := h.away i i0 (by omega) hij (by omega)
    by_cases e : c = j
    · rw [if_pos e]; exact h1
    · rw [if_neg e, if_neg (by omega)]
      have h2 := h.away c c0 hc e (by omega)
      rw [cp] at h2
      exact ltT_tr h1 h2
  · rw [G i, if_neg hij, if_pos rfl, G c]
    by_cases e : c = j
    · rw [if_pos e]; exact ltT_asy hl
    · rw [if_neg e, if_neg (by omega)]
      have h2 := h.away c c0 hc e (by omega)
      rw [cp] at h2
      exact ltT_tr (ltT_asy hl) h2
/-- one turn of down -/
theorem Hx.down {t : Nat → Tm} {ps : List Nat} {n j i : Nat} (h : Hx t ps n i) (hj : j < n) (h0 : 0 < j) (hI : (j - 1) / 2 = i) (hl : ltT (t (pg ps j)) (t (pg ps i)) = true) (hc : ∀ c, 0 < c → c < n → (c - 1) / 2 = i → ltT (t (pg ps c)) (t (pg ps j)) = false) : Hx t (swp ps i j) n j ∧ Up t (swp ps i j) j := by
  have hn := h.le
  have hi : i < ps.length := by omega
  have hj' : j < ps.length := by omega
  have hij : i ≠ j := by omega
  have G := pg_swp (ps := ps) hi hj'
  refine ⟨⟨by rw [swp_len]; exact hn, fun c c0 hcn cj cp => ?_, fun c c0 hcn cp _ => ?_⟩, fun _ => ?_⟩
  · rw [G c, if_neg cj, G ((c - 1) / 2), if_neg cp]
    by_cases e : c = i
    · rw [if_pos e, if_neg (by omega)]
      have := h.past j h0 hj hI (by omega)
      rw [e]
      exact this
    · rw [if_neg e]
      by_cases e2 : (c - 1) / 2 = i
      · rw [if_pos e2]; exact hc c c0 hcn e2
      · rw [if_neg e2]; exact h.away c c0 hcn e e2
  · rw [hI, G i, if_neg hij, if_pos rfl, G c, if_neg (by omega), if_neg (by omega)]
    have := h.away c c0 hcn (by omega) (by omega)
    rwa [cp] at this
  · rw [hI, G j, if_pos rfl, G i, if_neg hij, if_pos rfl]
    exact ltT_asy hl

/-- the list without a key -/
def offL (L : List Tm) (k : Int) : List Tm := L.filter fun x => !decide (x.key = k)
/-- the timer of a key -/
def lookL (L : List Tm) (k : Int) : Option Tm := L.find? fun x => decide (x.key = k)
/-- the list where a key's timer is another -/
def updL (L : List Tm) (y : Tm) : List Tm := L.map fun x => if x.key = y.key then y else x
/-- the list where a key's timer is a new one, behind all -/
def rstL (L : List Tm) (y : Tm) : List Tm := offL L y.key ++ [y]
theorem lookL_some {L : List Tm} {k : Int} {x : Tm} (h : lookL L k = some x) : x ∈ L ∧ x.key = k := ⟨List.mem_of_find?_eq_some h, by have := List.find?_some h; simpa using this⟩
theorem lookL_none {L : List Tm} {k : Int} (h : lookL L k = none) : ∀ x ∈ L, x.key ≠ k := fun x hx => by have := List.find?_eq_none.1 h x hx; simpa using this
theorem offL_mem {L : List Tm} {k : Int} {x : Tm} : x ∈ offL L k ↔ x ∈ L ∧ x.key ≠ k := by simp [offL]
theorem updL_mem {L : List Tm} {y x : Tm} (h : x ∈ updL L y) : x = y ∨ (x ∈ L ∧ x.key ≠ y.key) := by
  obtain ⟨z, hz, e⟩ := List.mem_map.1 h
  split at e
  · exact .inl e.symm
  · rename_i hne
    subst e
    exact .inr ⟨hz, hne⟩
theorem updL_len (L : List Tm) (y : Tm) : (updL L y).length = L.length := by simp [updL]
theorem updL_keys (L : List Tm) (y : Tm) : (updL L y).map Tm.key = L.map Tm.key := by
  unfold updL
  rw [List.map_map]
  refine List.map_congr_left fun x _ => ?_
  simp only [Function.comp]
  split
  · rename_i e; exact e.symm
  · rfl
theorem offL_none {L : List Tm} {k : Int} (h : ∀ x ∈ L, x.key ≠ k) : offL L k = L := by
  unfold offL
  rw [List.filter_eq_self]
  intro x hx
  simp [h x hx]
theorem offL_len {k : Int} : ∀ {L : List Tm}, (L.map Tm.key).Nodup → ∀ {x : Tm}, x ∈ L → x.key = k → (offL L k).length + 1 = L.length
  | [], _, x, h, _ => by cases h
  | y :: L, hn, x, h, e => by
    simp only [List.map_cons, List.nodup_cons] at hn
    by_cases ey : y.key = k
    · have : offL (y :: L) k = L := by
        have : offL (y :: L) k = offL L k := by unfold offL; rw [List.filter_cons]; simp [ey]
        rw [this]
        refine offL_none fun z hz e2 => hn.1 ?_
        rw [ey, ← e2]
        exact List.mem_map_of_mem hz
      rw [this]; rfl
    · have hx : x ∈ L := by
        rcases List.mem_cons.1 h with rfl | h
        · exact absurd e ey
        · exact h
      have : offL (y :: L) k = y :: offL L k := by unfold offL; rw [List.filter_cons]; simp [ey]
      rw [this]
      have := offL_len hn.2 hx e
      simp only [List.length_cons]
      omega
theorem nod_eq : ∀ {L : List Tm}, (L.map Tm.key).Nodup → ∀ {x y : Tm}, x ∈ L → y ∈ L → x.key = y.key → x = y
  | [], _, x, _, h, _, _ => by cases h
  | z :: L, hn, x, y, hx, hy, e => by
    simp only [List.map_cons, List.nodup_cons] at hn
    rcases List.mem_cons.1 hx with rfl | hx
    · rcases List.mem_cons.1 hy with rfl | hy
      · rfl
      · exact absurd (e ▸ List.mem_map_of_mem hy) hn.1
    · rcases List.mem_cons.1 hy with e2 | hy
      · rw [e2] at e
        exact absurd (e ▸ List.mem_map_of_mem hx) hn.1
      · exact nod_eq hn.2 hx hy e
theorem offL_nod {L : List Tm} (h : (L.map Tm.key).Nodup) (k : Int) : ((offL L k).map Tm.key).Nodup := h.sublist ((List.filter_sublist).map _)
theorem rstL_nod {L : List Tm} (h : (L.map Tm.key).Nodup) (y : Tm) : ((rstL L y).map Tm.key).Nodup := by
  unfold rstL
  rw [List.map_append, List.nodup_append]
  refine ⟨offL_nod h _, by simp, ?_⟩
  intro a ha b hb
  obtain ⟨z, hz, rfl⟩ := List.mem_map.1 ha
  simp at hb
  subst hb
  exact (offL_mem.1 hz).2
theorem lookL_mem {L : List Tm} (h : (L.map Tm.key).Nodup) {x : Tm} (hx : x ∈ L) : lookL L x.key = some x := by
  cases e : lookL L x.key with
  | none => exact absurd rfl (lookL_none e x hx)
  | some y =>
    obtain ⟨h1, h2⟩ := lookL_some e
    rw [nod_eq h h1 hx h2]

/-- a row of blocks holds just the timers of a list -/
structure Ls (t : Nat → Tm) (ps : List Nat) (L : List Tm) : Prop where
  len : ps.length = L.length
  inl : ∀ a ∈ ps, t a ∈ L
  all : ∀ x ∈ L, ∃ a ∈ ps, t a = x
  inj : ∀ a ∈ ps, ∀ b ∈ ps, (t a).key = (t b).key → a = b
theorem Ls.mem {t : Nat → Tm} {ps ps' : List Nat} {L : List Tm} (h : Ls t ps L) (hl : ps'.length = ps.length) (hm : ∀ a, a ∈ ps' ↔ a ∈ ps) : Ls t ps' L :=
  ⟨hl.trans h.len, fun a ha => h.inl a ((hm a).1 ha), fun x hx => by obtain ⟨a, ha, e⟩ := h.all x hx; exact ⟨a, (hm a).2 ha, e⟩, fun a ha b hb => h.inj a ((hm a).1 ha) b ((hm b).1 hb)⟩
/-- one more -/
theorem Ls.push {t t' : Nat → Tm} {ps ps' : List Nat} {L : List Tm} {c : Nat} (h : Ls t ps L) (hl : ps'.length = ps.length + 1) (hm : ∀ a, a ∈ ps' ↔ a ∈ ps ∨ a = c) (ht : ∀ a ∈ ps, t' a = t a) (hk : ∀ x ∈ L, x.key ≠ (t' c).key) : Ls t' ps' (L ++ [t' c]) := by
  refine ⟨by simp [hl, h.len], fun a ha => ?_, fun x hx => ?_, fun a ha b hb e => ?_⟩
  · rcases (hm a).1 ha with ha | rfl
    · rw [ht a ha]; exact List.mem_append_left _ (h.inl a ha)
    · simp
  · rcases List.mem_append.1 hx with hx | hx
    · obtain ⟨a, ha, e⟩ := h.all x hx
      exact ⟨a, (hm a).2 (.inl ha), by rw [ht a ha]; exact e⟩
    · simp at hx
      exact ⟨c, (hm c).2 (.inr rfl), hx.symm⟩
  · rcases (hm a).1 ha with ha | rfl <;> rcases (hm b).1 hb with hb | rfl
    · rw [ht a ha, ht b hb] at e; exact h.inj a ha b hb e
    · rw [ht a ha] at e; exact absurd e (hk _ (h.inl a ha))
    · rw [ht b hb] at e; exact absurd e.symm (hk _ (h.inl b hb))
    · rfl
/-- one less -/
theorem Ls.pop {t : Nat → Tm} {ps ps' : List Nat} {L : List Tm} {c : Nat} (h : Ls t ps L) (hn : (L.map Tm.key).Nodup) (hc : c ∈ ps) (hl : ps'.length + 1 = ps.length) (hm : ∀ a, a ∈ ps' ↔ a ∈ ps ∧ a ≠ c) : Ls t ps' (offL L (t c).key) := by
  have hl2 := offL_len hn (h.inl c hc) rfl
  refine ⟨by have := h.len; omega, fun a ha => ?_, fun x hx => ?_, fun a ha b hb => h.inj a ((hm a).1 ha).1 b ((hm b).1 hb).1⟩
  · obtain ⟨h1, h2⟩ := (hm a).1 ha
    exact offL_mem.2 ⟨h.inl a h1, fun e => h2 (h.inj a h1 c hc e)⟩
  · obtain ⟨h1, h2⟩ := offL_mem.1 hx
    obtain ⟨a, ha, e⟩ := h.all x h1
    exact ⟨a, (hm a).2 ⟨ha, fun e2 => h2 (by rw [← e, e2])⟩, e⟩
/-- one is another: as the list has it anew -/
theorem Ls.upd {t t' : Nat → Tm} {ps : List Nat} {L L' : List Tm} {c : Nat} (h : Ls t ps L) (hc : c ∈ ps) (ht : ∀ a ∈ ps, a ≠ c → t' a = t a) (hk : (t' c).key = (t c).key) (hl : L'.length = L.length) (hm : ∀ x, x ∈ L' ↔ x = t' c ∨ (x ∈ L ∧ x.key ≠ (t c).key)) : Ls t' ps L' := by
  have hkey : ∀ a ∈ ps, (t' a).key = (t a).key := fun a ha => by
    by_cases e : a = c
    · rw [e, hk]
    · rw [ht a ha e]
  refine ⟨by rw [hl]; exact h.len, fun a ha => ?_, fun x hx => ?_, fun a ha b hb e => ?_⟩
  · by_cases e : a = c
    · rw [e]; exact (hm _).2 (.inl rfl)
    · rw [ht a ha e]; exact (hm _).2 (.inr ⟨h.inl a ha, fun e2 => e (h.inj a ha c hc e2)⟩)
  · rcases (hm x).1 hx with rfl | ⟨h1, h2⟩
    · exact ⟨c, hc, rfl⟩
    · obtain ⟨a, ha, e⟩ := h.all x h1
      exact ⟨a, ha, by rw [ht a ha (fun e2 => h2 (by rw [← e, e2]))]; exact e⟩
  · rw [hkey a ha, hkey b hb] at e; exact h.inj a ha b hb e
theorem updL_iff {L : List Tm} {y : Tm} (hy : ∃ z ∈ L, z.key = y.key) (x : Tm) : x ∈ updL L y ↔ x = y ∨ (x ∈ L ∧ x.key ≠ y.key) := by
  refine ⟨updL_mem, fun h => ?_⟩
  rcases h with rfl | ⟨h1, h2⟩
  · obtain ⟨z, hz, e⟩ := hy
    exact List.mem_map.2 ⟨z, hz, by rw [if_pos e]⟩
  · exact List.mem_map.2 ⟨x, h1, by rw [if_neg h2]⟩
theorem rstL_iff {L : List Tm} {y : Tm} (x : Tm) : x ∈ rstL L y ↔ x = y ∨ (x ∈ L ∧ x.key ≠ y.key) := by
  unfold rstL
  rw [List.mem_append, offL_mem]
  simp [or_comm]

/-- the first one of a list -/
def minL : List Tm → Option Tm
  | [] => none
  | x :: l => match minL l with
    | none => some x
    | some y => if ltT y x then some y else some x
theorem minL_none : ∀ {L : List Tm}, minL L = none → L = []
  | [], _ => rfl
  | x :: l, h => by
    rw [minL] at h
    split at h
    · cases h
    · split at h <;> cases h
theorem minL_some : ∀ {L : List Tm} {x : Tm}, minL L = some x → x ∈ L ∧ ∀ y ∈ L, ltT y x = false
  | [], _, h => by cases h
  | z :: l, x, h => by
    rw [minL] at h
    split at h
    · rename_i e
      obtain rfl := minL_none e
      cases h
      exact ⟨by simp, fun y hy => by simp at hy; rw [hy]; exact ltT_irr _⟩
    · rename_i y e
      obtain ⟨h1, h2⟩ := minL_some e
      split at h
      · rename_i hlt
        cases h
        refine ⟨List.mem_cons_of_mem _ h1, fun w hw => ?_⟩
        rcases List.mem_cons.1 hw with rfl | hw
        · exact ltT_asy hlt
        · exact h2 w hw
      · rename_i hlt
        cases h
        simp at hlt
        refine ⟨by simp, fun w hw => ?_⟩
        rcases List.mem_cons.1 hw with rfl | hw
        · exact ltT_irr _
        · exact ltT_tr hlt (h2 w hw)
theorem minL_is {L : List Tm} (hn : (L.map Tm.key).Nodup) {x : Tm} (hx : x ∈ L) (hm : ∀ y ∈ L, ltT y x = false) : minL L = some x := by
  cases e : minL L with
  | none => rw [minL_none e] at hx; cases hx
  | some y =>
    obtain ⟨h1, h2⟩ := minL_some e
    rw [nod_eq hn h1 hx (ltT_key (hm y h1) (h2 x hx))]
theorem Ls.min {t : Nat → Tm} {ps : List Nat} {L : List Tm} (h : Ls t ps L) (hn : (L.map Tm.key).Nodup) (hp : Hp t ps ps.length) (h0 : 0 < ps.length) : minL L = some (t (pg ps 0)) := by
  refine minL_is hn (h.inl _ (pg_mem h0)) fun y hy => ?_
  obtain ⟨a, ha, rfl⟩ := h.all y hy
  obtain ⟨i, hi, rfl⟩ := mem_pg ha
  exact hp.min i hi

/-- set once more, for twice as long -/
def again (ms now : Int) (x : Tm) : Tm := ⟨x.key, min (2 * x.gap) ms, now + min (2 * x.gap) ms⟩
/-- what Due answers, and leaves -/
def dueL (ms now : Int) : Nat → List Tm → List Int × List Tm
  | 0, L => ([], L)
  | n + 1, L => match minL L with
    | none => ([], L)
    | some x => if x.due ≤ now then (x.key :: (dueL ms now n (updL L (again ms now x))).1, (dueL ms now n (updL L (again ms now x))).2) else ([], L)
theorem dueL_more {ms now : Int} {n : Nat} {L : List Tm} {x : Tm} (hm : minL L = some x) (hx : x.due ≤ now) : dueL ms now (n + 1) L = (x.key :: (dueL ms now n (updL L (again ms now x))).1, (dueL ms now n (updL L (again ms now x))).2) := by
  rw [dueL, hm]
  simp only
  rw [if_pos hx]
theorem dueL_end {ms now : Int} {n : Nat} {L : List Tm} (h : ∀ x, minL L = some x → now < x.due) : dueL ms now n L = ([], L) := by
  cases n with
  | zero => rfl
  | succ n =>
    rw [dueL]
    split
    · rfl
    · rename_i x e
      rw [if_neg (by have := h x e; omega)]
/-- how many have run out -/
def cntL (now : Int) (L : List Tm) : Nat := (L.filter fun x => decide (x.due ≤ now)).length
theorem cntL_le (now : Int) (L : List Tm) : cntL now L ≤ L.length := List.length_filter_le _ _
theorem cntL_upd {now : Int} : ∀ {L : List Tm}, (L.map Tm.key).Nodup → ∀ {x y : Tm}, x ∈ L → x.due ≤ now → y.key = x.key → now < y.due → cntL now (updL L y) + 1 = cntL now L
  | [], _, x, _, h, _, _, _ => by cases h
  | z :: L, hn, x, y, h, hx, e, hy => by
    simp only [List.map_cons, List.nodup_cons] at hn
    by_cases ez : z.key = y.key
    · have h1 : updL L y = L := by
        unfold updL
        conv => rhs; rw [← List.map_id L]
        refine List.map_congr_left fun w hw => ?_
        rw [if_neg]
        · rfl
        · intro e2
          exact hn.1 (by rw [ez, ← e2]; exact List.mem_map_of_mem hw)
      have hzx : z = x := nod_eq (L := z :: L) (by simp only [List.map_cons, List.nodup_cons]; exact hn) (by simp) h (by rw [ez, e])
      subst hzx
      have : updL (z :: L) y = y :: updL L y := by unfold updL; rw [List.map_cons, if_pos ez]
      rw [this, h1]
      unfold cntL
      rw [List.filter_cons, List.filter_cons, if_neg (by simp; omega), if_pos (by simpa using hx)]
      rfl
    · have hxL : x ∈ L := by
        rcases List.mem_cons.1 h with rfl | h
        · exact absurd e.symm ez
        · exact h
      have : updL (z :: L) y = z :: updL L y := by unfold updL; rw [List.map_cons, if_neg ez]
      rw [this]
      have ih := cntL_upd hn.2 hxL hx e hy
      unfold cntL at *
      rw [List.filter_cons, List.filter_cons]
      split
      · simp only [List.length_cons]; omega
      · exact ih

/-- what holds of the timers of an Alarm -/
structure GL (ls ms : Int) (L : List Tm) : Prop where
  rng : (1 ≤ ls ∧ ls ≤ ms ∧ ms ≤ 4096) ∨ (ls = 0 ∧ ms = 0 ∧ L = [])
  nod : (L.map Tm.key).Nodup
  k64 : ∀ x ∈ L, -9223372036854775808 ≤ x.key ∧ x.key ≤ 9223372036854775807
  gap : ∀ x ∈ L, ls ≤ x.gap ∧ x.gap ≤ ms
  due : ∀ x ∈ L, 0 ≤ x.due ∧ x.due ≤ 2147487743
theorem GL.off {ls ms : Int} {L : List Tm} (h : GL ls ms L) (k : Int) : GL ls ms (offL L k) := by
  refine ⟨?_, offL_nod h.nod k, fun x hx => h.k64 x (offL_mem.1 hx).1, fun x hx => h.gap x (offL_mem.1 hx).1, fun x hx => h.due x (offL_mem.1 hx).1⟩
  rcases h.rng with h | ⟨h1, h2, rfl⟩
  · exact .inl h
  · exact .inr ⟨h1, h2, rfl⟩
theorem GL.rst {ls ms : Int} {L : List Tm} (h : GL ls ms L) (hl : 1 ≤ ls) {k now : Int} (hk : -9223372036854775808 ≤ k ∧ k ≤ 9223372036854775807) (hn : 0 ≤ now ∧ now ≤ 2147483647) : GL ls ms (rstL L ⟨k, ls, now + ls⟩) := by
  have hr : 1 ≤ ls ∧ ls ≤ ms ∧ ms ≤ 4096 := by
    rcases h.rng with h | ⟨h1, _⟩
    · exact h
    · omega
  refine ⟨.inl hr, rstL_nod h.nod _, fun x hx => ?_, fun x hx => ?_, fun x hx => ?_⟩ <;> rcases (rstL_iff x).1 hx with rfl | ⟨hx, _⟩
  · exact hk
  · exact h.k64 x hx
  · exact ⟨Int.le_refl _, hr.2.1⟩
  · exact h.gap x hx
  · show 0 ≤ now + ls ∧ now + ls ≤ 2147487743; omega
  · exact h.due x hx
theorem again_ok {ls ms : Int} {L : List Tm} (h : GL ls ms L) {x : Tm} (hx : x ∈ L) : 1 ≤ ls ∧ ls ≤ min (2 * x.gap) ms ∧ min (2 * x.gap) ms ≤ ms ∧ ms ≤ 4096 := by
  have hr : 1 ≤ ls ∧ ls ≤ ms ∧ ms ≤ 4096 := by
    rcases h.rng with h | ⟨_, _, rfl⟩
    · exact h
    · cases hx
  have := h.gap x hx
  omega
theorem GL.again {ls ms : Int} {L : List Tm} (h : GL ls ms L) {x : Tm} (hx : x ∈ L) {now : Int} (hn : 0 ≤ now ∧ now ≤ 2147483647) : GL ls ms (updL L (again ms now x)) := by
  obtain ⟨h1, h2, h3, h4⟩ := again_ok h hx
  refine ⟨.inl ⟨h1, by omega, h4⟩, by rw [updL_keys]; exact h.nod, fun y hy => ?_, fun y hy => ?_, fun y hy => ?_⟩ <;> rcases updL_mem hy with rfl | ⟨hy, _⟩
  · exact h.k64 x hx
  · exact h.k64 y hy
  · exact ⟨h2, h3⟩
  · exact h.gap y hy
  · show 0 ≤ now + min (2 * x.gap) ms ∧ now + min (2 * x.gap) ms ≤ 2147487743; omega
  · exact h.due y hy
theorem again_due {ls ms : Int} {L : List Tm} (h : GL ls ms L) {x : Tm} (hx : x ∈ L) (now : Int) : now < (again ms now x).due := by
  obtain ⟨h1, h2, h3, h4⟩ := again_ok h hx
  show now < now + min (2 * x.gap) ms
  omega
end Go.Proofs.Ytknomhgglmgciaa
