import Derived.Test.YtlnagdodnkhbmaaGreatTC
import Derived.Test.YtlnagdodnkhbmaaGreatTB

/- Ranges of values that lie one behind the other; rows by value, then key. No program. -/
namespace Go.Proofs.YtlnagdodnkhbmaaGreat
open Go.RowKit
set_option maxRecDepth 100000

theorem entB_between {x y : Int} (hx : I64 x) (hy : I64 y) (k m : List Nat) : entB x k < entB y m ↔ x < y ∨ (x = y ∧ k < m) := by
  unfold entB
  exact wv_lt hx hy k m
theorem keys_of_map (c : Nat) (M : List KR) : M.map Prod.fst = (M.map (entC c)).map fun q => q.1.drop 8 := by
  rw [List.map_map]
  refine List.map_congr_left fun q _ => ?_
  show q.1 = (entB (q.2.at c) q.1).drop 8
  rw [entB_drop]
/-- A range of values, parted. -/
theorem tellK_part {l : List KR} (h : RowsOk l) {c : Nat} (hc : c < 4) {lo m hi : Int} (h1 : lo ≤ m + 1) (h2 : m ≤ hi) : (tellK c lo hi l).map Prod.fst = (tellK c lo m l).map Prod.fst ++ (tellK c (m + 1) hi l).map Prod.fst := by
  have e : (tellK c lo hi l).map (entC c) = (tellK c lo m l).map (entC c) ++ (tellK c (m + 1) hi l).map (entC c) := by
    refine rising_ext (tellK_ok h c lo hi).1 ?_ fun q => ?_
    · unfold Rising
      rw [List.pairwise_append]
      refine ⟨(tellK_ok h c lo m).1, (tellK_ok h c (m + 1) hi).1, fun a ha b hb => ?_⟩
      obtain ⟨x, hx, rfl⟩ := List.mem_map.1 ha
      obtain ⟨y, hy, rfl⟩ := List.mem_map.1 hb
      obtain ⟨x1, _, x3⟩ := (tellK_mem h).1 hx
      obtain ⟨y1, y2, _⟩ := (tellK_mem h).1 hy
      exact (entB_between ((h.ok x x1).at hc) ((h.ok y y1).at hc) _ _).2 (.inl (by omega))
    · rw [List.mem_append, List.mem_map, List.mem_map, List.mem_map]
      constructor
      · rintro ⟨x, hx, rfl⟩
        obtain ⟨x1, x2, x3⟩ := (tellK_mem h).1 hx
        by_cases h5 : m < x.2.at c
        · exact .inr ⟨x, (tellK_mem h).2 ⟨x1, by omega, x3⟩, rfl⟩
        · exact .inl ⟨x, (tellK_mem h).2 ⟨x1, x2, by omega⟩, rfl⟩
      · rintro (⟨x, hx, rfl⟩ | ⟨x, hx, rfl⟩)
        · obtain ⟨x1, x2, x3⟩ := (tellK_mem h).1 hx
          exact ⟨x, (tellK_mem h).2 ⟨x1, x2, by omega⟩, rfl⟩
        · obtain ⟨x1, x2, x3⟩ := (tellK_mem h).1 hx
          exact ⟨x, (tellK_mem h).2 ⟨x1, by omega, x3⟩, rfl⟩
  rw [keys_of_map c, keys_of_map c, keys_of_map c, e, List.map_append]
/-- All values. -/
theorem tellK_all {l : List KR} (h : RowsOk l) {c : Nat} (hc : c < 4) : (tellK c (-9223372036854775808) 9223372036854775807 l).length = l.length := by
  rw [(tellK_ok h c _ _).2.length_eq, List.filter_eq_self.2]
  intro q hq
  obtain ⟨a, b⟩ := (h.ok q hq).at hc
  unfold inR
  rw [decide_eq_true (by omega), decide_eq_true (by omega)]
  rfl
/-- Of two rows, one behind the other: the value rises, or is the same and the key rises. -/
theorem tellK_next {l : List KR} (h : RowsOk l) {c : Nat} (hc : c < 4) {lo hi : Int} {i : Nat} {q r : KR} (hq : (tellK c lo hi l)[i]? = some q) (hr : (tellK c lo hi l)[i + 1]? = some r) : q.2.at c < r.2.at c ∨ (q.2.at c = r.2.at c ∧ q.1 < r.1) := by
  have hp := (tellK_ok h c lo hi).1
  unfold Rising at hp
  rw [List.pairwise_map] at hp
  have hlt := (List.getElem?_eq_some_iff.1 hr).1
  have h1 := List.pairwise_iff_getElem.1 hp i (i + 1) (by omega) hlt (by omega)
  rw [(List.getElem?_eq_some_iff.1 hq).2, (List.getElem?_eq_some_iff.1 hr).2] at h1
  have q1 := ((tellK_mem h).1 (List.mem_of_getElem? hq)).1
  have r1 := ((tellK_mem h).1 (List.mem_of_getElem? hr)).1
  exact (entB_between ((h.ok q q1).at hc) ((h.ok r r1).at hc) _ _).1 h1
/-- Two lists of rows that have the same rows are the same. -/
theorem rows_ext {A B : List KR} (hA : RowsOk A) (hB : RowsOk B) (h : ∀ q, q ∈ A ↔ q ∈ B) : A = B := by
  have e : lines A = lines B := rising_ext hA.lines hB.lines fun q => by
    unfold lines
    rw [List.mem_map, List.mem_map]
    constructor
    · rintro ⟨x, hx, rfl⟩; exact ⟨x, (h x).1 hx, rfl⟩
    · rintro ⟨x, hx, rfl⟩; exact ⟨x, (h x).2 hx, rfl⟩
  have hk : A.map Prod.fst = B.map Prod.fst := by
    have := congrArg (List.map Prod.fst) e
    unfold lines at this
    rw [List.map_map, List.map_map] at this
    exact this
  refine List.ext_getElem? fun i => ?_
  have h1 := congrArg (fun L : List (List Nat) => L[i]?) hk
  simp only [List.getElem?_map] at h1
  cases ha : A[i]? with
  | none =>
    rw [ha] at h1
    cases hb : B[i]? with
    | none => rfl
    | some y => rw [hb] at h1; cases h1
  | some x =>
    rw [ha] at h1
    cases hb : B[i]? with
    | none => rw [hb] at h1; cases h1
    | some y =>
      rw [hb] at h1
      have hxy : x.1 = y.1 := by simpa using h1
      have hx := hB.get (k := x.1) (r := x.2) ((h x).1 (List.mem_of_getElem? ha))
      have hy := hB.get (k := y.1) (r := y.2) (List.mem_of_getElem? hb)
      rw [hxy, hy] at hx
      have h2 : y.2 = x.2 := by injection hx
      congr 1
      exact Prod.ext hxy h2.symm
end Go.Proofs.YtlnagdodnkhbmaaGreat

/- Calls of a table as what rows they leave: put, taken out, put again; two calls of two keys. No program. -/
namespace Go.Proofs.YtlnagdodnkhbmaaGreat
open Go.RowKit
set_option maxRecDepth 100000

theorem getK_iff {l : List KR} (h : RowsOk l) {k : List Nat} {r : Ro} : getK l k = some r ↔ (k, r) ∈ l := ⟨getK_mem, h.get⟩
theorem getK_none {l : List KR} (h : RowsOk l) {k : List Nat} : getK l k = none ↔ ∀ q ∈ l, q.1 ≠ k := by
  refine ⟨h.none_, fun hn => ?_⟩
  cases hg : getK l k with
  | none => rfl
  | some r => exact absurd rfl (hn _ (getK_mem hg))
theorem mem_delK {l : List KR} (h : RowsOk l) {k : List Nat} {s : Ro} (hg : getK l k = some s) {q : KR} : q ∈ delK l k ↔ q ∈ l ∧ q.1 ≠ k := by
  constructor
  · exact fun hq => ⟨delK_mem hq, h.gone hg q hq⟩
  · rintro ⟨hq, hn⟩
    rcases List.mem_cons.1 ((delK_perm hg).mem_iff.1 hq) with e | h1
    · rw [e] at hn; exact absurd rfl hn
    · exact h1
theorem mem_putK {l : List KR} (h : RowsOk l) (k : List Nat) (r : Ro) {q : KR} : q ∈ putK l k r ↔ q = (k, r) ∨ (q ∈ l ∧ q.1 ≠ k) := by
  cases hg : getK l k with
  | none =>
    rw [(putK_new hg r).mem_iff, List.mem_cons]
    have := h.none_ hg
    constructor
    · rintro (e | hq)
      · exact .inl e
      · exact .inr ⟨hq, this q hq⟩
    · rintro (e | hq)
      · exact .inl e
      · exact .inr hq.1
  | some s => rw [(putK_was hg r).mem_iff, List.mem_cons, mem_delK h hg]
theorem mem_kdelN {l : List KR} (h : RowsOk l) (k : List Nat) {q : KR} : q ∈ kdelN l k ↔ q ∈ l ∧ q.1 ≠ k := by
  unfold kdelN kgetE
  cases hk : keyB k with
  | false =>
    rw [if_neg (by simp)]
    refine ⟨fun hq => ⟨hq, fun e => ?_⟩, fun hq => hq.1⟩
    have := h.key q hq
    rw [e, hk] at this
    cases this
  | true =>
    cases hg : getK l k with
    | none =>
      rw [if_neg (by simp)]
      exact ⟨fun hq => ⟨hq, h.none_ hg q hq⟩, fun hq => hq.1⟩
    | some s =>
      rw [if_pos (by simp)]
      exact mem_delK h hg
theorem mem_kputN {l : List KR} (h : RowsOk l) {most : Nat} (k : List Nat) (r : Ro) (he : kputE most l k = 0) {q : KR} : q ∈ kputN most l k r ↔ q = (k, r) ∨ (q ∈ l ∧ q.1 ≠ k) := by
  unfold kputN
  rw [if_pos he, mem_putK h]
theorem kputE_room {l : List KR} {most : Nat} (hm : l.length < most) (k : List Nat) : kputE most l k = if keyB k = true then 0 else 13 := by
  unfold kputE
  split
  · split
    · rfl
    · rw [if_neg (by omega)]
  · rfl
theorem kputN_bad {l : List KR} {most : Nat} {k : List Nat} (hk : keyB k = false) (r : Ro) : kputN most l k r = l := by
  unfold kputN kputE
  rw [hk]
  rfl
theorem mem_stepK {l : List KR} (h : RowsOk l) {most : Nat} (hm : l.length < most) (o : Op7) {q : KR} : q ∈ stepK most l o ↔ (o.k = 0 ∧ keyB o.key = true ∧ q = (o.key, o.row)) ∨ (q ∈ l ∧ (q.1 = o.key → o.k ≠ 0 ∧ o.k ≠ 1)) := by
  unfold stepK
  by_cases h0 : o.k = 0
  · rw [if_pos h0]
    cases hk : keyB o.key with
    | false =>
      rw [kputN_bad hk]
      constructor
      · refine fun hq => .inr ⟨hq, fun e => ?_⟩
        have := h.key q hq
        rw [e, hk] at this
        cases this
      · rintro (⟨_, e, _⟩ | hq)
        · cases e
        · exact hq.1
    | true =>
      rw [mem_kputN h _ _ (by rw [kputE_room hm, hk]; rfl)]
      constructor
      · rintro (e | ⟨hq, hn⟩)
        · exact .inl ⟨h0, rfl, e⟩
        · exact .inr ⟨hq, fun e => absurd e hn⟩
      · rintro (⟨_, _, e⟩ | ⟨hq, hn⟩)
        · exact .inl e
        · exact .inr ⟨hq, fun e => (hn e).1 h0⟩
  · rw [if_neg h0]
    by_cases h1 : o.k = 1
    · rw [if_pos h1, mem_kdelN h]
      constructor
      · rintro ⟨hq, hn⟩
        exact .inr ⟨hq, fun e => absurd e hn⟩
      · rintro (⟨e, _⟩ | ⟨hq, hn⟩)
        · exact absurd e h0
        · exact ⟨hq, fun e => (hn e).2 h1⟩
    · rw [if_neg h1]
      constructor
      · exact fun hq => .inr ⟨hq, fun _ => ⟨h0, h1⟩⟩
      · rintro (⟨e, _⟩ | hq)
        · exact absurd e h0
        · exact hq.1
/-- Two calls of two keys. -/
theorem stepK_swap {l : List KR} (h : RowsOk l) {most : Nat} (hm : l.length + 2 ≤ most) {a b : Op7} (ha : a.Ok) (hb : b.Ok) (hne : a.key ≠ b.key) : stepK most (stepK most l a) b = stepK most (stepK most l b) a := by
  have h1 := stepK_ok h most ha
  have h2 := stepK_ok h most hb
  have l1 := stepK_len most l a
  have l2 := stepK_len most l b
  refine rows_ext (stepK_ok h1 most hb) (stepK_ok h2 most ha) fun q => ?_
  rw [mem_stepK h1 (by omega), mem_stepK h2 (by omega), mem_stepK h (by omega), mem_stepK h (by omega)]
  constructor
  · rintro (⟨x, y, rfl⟩ | ⟨⟨x, y, rfl⟩ | ⟨x, y⟩, z⟩)
    · exact .inr ⟨.inl ⟨x, y, rfl⟩, fun e => absurd e.symm hne⟩
    · exact .inl ⟨x, y, rfl⟩
    · exact .inr ⟨.inr ⟨x, z⟩, y⟩
  · rintro (⟨x, y, rfl⟩ | ⟨⟨x, y, rfl⟩ | ⟨x, y⟩, z⟩)
    · exact .inr ⟨.inl ⟨x, y, rfl⟩, fun e => absurd e hne⟩
    · exact .inl ⟨x, y, rfl⟩
    · exact .inr ⟨.inr ⟨x, z⟩, y⟩
/-- What another key has stays. -/
theorem getK_step {l : List KR} (h : RowsOk l) {most : Nat} (hm : l.length < most) {o : Op7} (ho : o.Ok) {k : List Nat} (hne : k ≠ o.key) : getK (stepK most l o) k = getK l k := by
  have h1 := stepK_ok h most ho
  have key : ∀ r, (k, r) ∈ stepK most l o ↔ (k, r) ∈ l := fun r => by
    rw [mem_stepK h hm]
    constructor
    · rintro (⟨_, _, e⟩ | hq)
      · exact absurd (congrArg Prod.fst e) hne
      · exact hq.1
    · exact fun hq => .inr ⟨hq, fun e => absurd e hne⟩
  cases hg : getK l k with
  | some r => exact (getK_iff h1).2 ((key r).2 (getK_mem hg))
  | none =>
    cases hs : getK (stepK most l o) k with
    | none => rfl
    | some r => rw [(getK_iff h).2 ((key r).1 (getK_mem hs))] at hg; cases hg
theorem kgetR_step {l : List KR} (h : RowsOk l) {most : Nat} (hm : l.length < most) {o : Op7} (ho : o.Ok) {k : List Nat} (hne : k ≠ o.key) : kgetR (stepK most l o) k = kgetR l k := by
  unfold kgetR; rw [getK_step h hm ho hne]
theorem kgetE_step {l : List KR} (h : RowsOk l) {most : Nat} (hm : l.length < most) {o : Op7} (ho : o.Ok) {k : List Nat} (hne : k ≠ o.key) : kgetE (stepK most l o) k = kgetE l k := by
  unfold kgetE; rw [getK_step h hm ho hne]
theorem kputW_step {l : List KR} (h : RowsOk l) {most : Nat} (hm : l.length < most) {o : Op7} (ho : o.Ok) {k : List Nat} (hne : k ≠ o.key) : kputW (stepK most l o) k = kputW l k := by
  unfold kputW; rw [getK_step h hm ho hne]
theorem kputE_step {l : List KR} {most : Nat} (hm : l.length + 2 ≤ most) (o : Op7) (k : List Nat) : kputE most (stepK most l o) k = kputE most l k := by
  have := stepK_len most l o
  rw [kputE_room (by omega), kputE_room (by omega)]

/-- Put that is refused. -/
theorem put_refused {l : List KR} {most : Nat} {k : List Nat} (he : kputE most l k ≠ 0) (r : Ro) : kputN most l k r = l ∧ kgetR l k = zero4 ∧ kputW l k = false := by
  unfold kputE at he
  cases hk : keyB k with
  | false =>
    refine ⟨kputN_bad hk r, ?_, ?_⟩
    · unfold kgetR; rw [hk]; rfl
    · unfold kputW; rw [hk]; rfl
  | true =>
    rw [if_pos hk] at he
    cases hg : getK l k with
    | some s => rw [hg] at he; exact absurd rfl he
    | none =>
      rw [hg] at he
      refine ⟨?_, ?_, ?_⟩
      · unfold kputN kputE
        rw [if_pos hk, hg]
        exact if_neg he
      · unfold kgetR; rw [hg]; simp
      · unfold kputW; rw [hg]; simp
theorem put_key {l : List KR} {most : Nat} {k : List Nat} (he : kputE most l k = 0) : keyB k = true := by
  unfold kputE at he
  cases hk : keyB k with
  | true => rfl
  | false => rw [hk] at he; simp at he
/-- What was put is there. -/
theorem getK_put {l : List KR} (h : RowsOk l) {most : Nat} {k : List Nat} (hb : Byt k) {r : Ro} (hr : r.ok) (he : kputE most l k = 0) : getK (kputN most l k r) k = some r := by
  refine (getK_iff (h.kput most hb hr)).2 ?_
  exact (mem_kputN h k r he).2 (.inl rfl)
theorem kget_put {l : List KR} (h : RowsOk l) {most : Nat} {k : List Nat} (hb : Byt k) {r : Ro} (hr : r.ok) (he : kputE most l k = 0) : kgetR (kputN most l k r) k = r ∧ kgetE (kputN most l k r) k = 0 := by
  unfold kgetR kgetE
  rw [getK_put h hb hr he, put_key he]
  exact ⟨rfl, rfl⟩
/-- Taken out again, if it was not there. -/
theorem back_new {l : List KR} (h : RowsOk l) {most : Nat} {k : List Nat} (hb : Byt k) {r : Ro} (hr : r.ok) (he : kputE most l k = 0) (hg : getK l k = none) : kdelN (kputN most l k r) k = l := by
  refine rows_ext ((h.kput most hb hr).kdel k) h fun q => ?_
  rw [mem_kdelN (h.kput most hb hr), mem_kputN h k r he]
  have := h.none_ hg
  constructor
  · rintro ⟨e | hq, hn⟩
    · rw [e] at hn; exact absurd rfl hn
    · exact hq.1
  · exact fun hq => ⟨.inr ⟨hq, this q hq⟩, this q hq⟩
theorem kdelN_lt {l : List KR} {k : List Nat} {r : Ro} (hk : keyB k = true) (hg : getK l k = some r) : (kdelN l k).length + 1 = l.length := by
  unfold kdelN kgetE
  rw [hk, hg]
  exact delK_len hg
theorem back_was {l : List KR} (h : RowsOk l) {most : Nat} (hm : l.length ≤ most) {k : List Nat} (hb : Byt k) {r s : Ro} (hr : r.ok) (he : kputE most l k = 0) (hg : getK l k = some s) : kputE most (kdelN (kputN most l k r) k) k = 0 ∧ kputN most (kdelN (kputN most l k r) k) k s = l := by
  have hk := put_key he
  have h1 := h.kput most hb hr
  have h2 := h1.kdel k
  have hlen := kdelN_lt hk (getK_put h hb hr he)
  have hm1 := kputN_most hm k r
  have e0 : kputE most (kdelN (kputN most l k r) k) k = 0 := by rw [kputE_room (by omega), hk]; rfl
  have hs : s.ok := h.ok _ (getK_mem hg)
  refine ⟨e0, rows_ext (h2.kput most hb hs) h fun q => ?_⟩
  rw [mem_kputN h2 k s e0, mem_kdelN h1, mem_kputN h k r he]
  constructor
  · rintro (e | ⟨⟨e | hq, _⟩, hn⟩)
    · rw [e]; exact getK_mem hg
    · rw [e] at hn; exact absurd rfl hn
    · exact hq.1
  · intro hq
    by_cases e : q.1 = k
    · left
      have h3 := h.get (k := q.1) (r := q.2) hq
      rw [e, hg] at h3
      exact Prod.ext e (by injection h3 with h3; exact h3.symm)
    · exact .inr ⟨⟨.inr ⟨hq, e⟩, e⟩, e⟩
/-- Which keys Find tells of one value. -/
theorem findL_one {l : List KR} (h : RowsOk l) (hl : l.length ≤ 1024) (c : Nat) (x : Int) {k : List Nat} : k ∈ findL c x x 2000 l ↔ ∃ r, (k, r) ∈ l ∧ r.at c = x := by
  have hlen := tellK_len h c x x
  unfold findL
  rw [List.take_of_length_le (by rw [List.length_map]; omega), List.mem_map]
  constructor
  · rintro ⟨q, hq, rfl⟩
    obtain ⟨h1, h2, h3⟩ := (tellK_mem h).1 hq
    exact ⟨q.2, h1, by omega⟩
  · rintro ⟨r, hr, e⟩
    exact ⟨(k, r), (tellK_mem h).2 ⟨hr, by show x ≤ r.at c; omega, by show r.at c ≤ x; omega⟩, rfl⟩
end Go.Proofs.YtlnagdodnkhbmaaGreat

/- Check, of a table whose indexes are its rows': true. -/
namespace Go.Proofs.YtlnagdodnkhbmaaGreat
open Go.RowKit Go.Shelf
set_option maxRecDepth 100000
attribute [local go_sem] Oper.semAt_some

theorem upto_new (r : Ro) : ∀ m, m ≤ 4 → ∀ g ∈ upto none (some r) m, g.1 < 4 ∧ g.2.1 = r.at g.1
  | 0, _, g, hg => by simp [upto] at hg
  | m + 1, h, g, hg => by
    rw [upto_succ] at hg
    rcases List.mem_append.1 hg with hg | hg
    · exact upto_new r m (by omega) g hg
    · rw [chg1_new r (by omega)] at hg
      rw [List.mem_singleton.1 hg]
      exact ⟨by show m < 4; omega, rfl⟩
section
variable {w : World} {T : Nat} {p : Nat → Nat} {Q : Bl} {most o : Nat} {J : Nat → List Pr} {l : List KR}
theorem tget_at (hT : TabI w T p Q most o J) (hok : TOk l J) (hle : l.length ≤ 1024) {col : Nat} (hc : col < 4) {k : List Nat} {r : Ro} (hm : (k, r) ∈ l) :
    Calls Tryz.prog 57 #[.pointer (some ⟨p col, 0, none⟩), .string (str (entB (r.at col) k))] w fun e w' => (∃ s, e = .returned (.tuple #[.string s, .int .i64 0])) ∧ Below w.heap.size w w' := by
  have hk := hok.rows.key _ hm
  dsimp only at hk
  have hkl := keyB_yes hk
  refine ((hT.t col (by omega)).get (by rw [hok.len (by omega)]; omega) (entB (r.at col) k) (entB_byt _ (hok.rows.byt _ hm)) (by rw [entB_len]; omega)).mono ?_
  rintro e w' ⟨rfl, hb⟩
  refine ⟨⟨str (getV (J col) (entB (r.at col) k)), ?_⟩, hb⟩
  rw [show getE (J col) (entB (r.at col) k) = 0 by unfold getE; rw [if_pos (entB_64 _ hk), (hok.idx col hc).has hm]; rfl]
set_option maxHeartbeats 2000000 in
theorem indexed_yes (h : Tab w T p Q most o l) (k : List Nat) (r : Ro) (hm : (k, r) ∈ l) :
    Calls Tryz.prog 54 #[.pointer (some ⟨T, 0, none⟩), .string (str k), .agg #[.int .i64 r.a, .int .i64 r.b, .int .i64 r.c, .int .i64 r.d]] w fun e w' => e = .returned (.bool true) ∧ Below w.heap.size w w' := by
  have hle := h.le
  obtain ⟨J, hT, hok, _⟩ := h
  have hk := hok.rows.key _ hm
  have hro := hok.rows.ok _ hm
  dsimp only at hk hro
  obtain ⟨wa, HWA⟩ : ∃ wa, Hid (wa = w.alloc (.cells #[.int .i64 r.a, .int .i64 r.b, .int .i64 r.c, .int .i64 r.d] 41)) := ⟨_, rfl⟩
  have HBA : Hid (Below w.heap.size w wa) := by rw [HWA.out]; exact (Below.refl _ _).alloc (Nat.le_refl _) _
  have HL : Hid (Lies wa w.heap.size r) := by rw [HWA.out]; exact Lies.new w r
  have HPR : Hid (PRow wa (.pointer (some ⟨w.heap.size, 0, none⟩)) (some r)) := LRow.prow (o := some r) ⟨_, rfl, HL.out⟩
  have HPN : Hid (PRow wa (.pointer none) none) := LRow.prow (o := none) rfl
  have HTA := hid (hT.below HBA.out)
  have HM := hid hm
  have HOK := hid hok
  have HK := hid hk
  have HRO := hid hro
  have hce := checkE_yes hk
  clear hT hok hm hk hro
  go_enter Tryz.func54, Tryz.ntmps54
  go_wp2_with fail
  rw [← HWA.out]
  refine (changes_any wa k _ _ none (some r) HPN.out HPR.out).mono ?_
  rw [hce, if_pos HK.out]
  rintro e w2 ⟨u, rfl, hu, hb2, hf2⟩
  obtain ⟨A, n, cp, rfl⟩ := hu.form
  have hn := hu.cap.1
  obtain ⟨L, HLL⟩ : ∃ L, Hid (L = upto none (some r) 4) := ⟨_, rfl⟩
  have HCO : Hid (∀ g ∈ L, g.1 < 4 ∧ g.2.1 = r.at g.1) := fun g hg => by rw [HLL.out] at hg; exact upto_new r 4 (Nat.le_refl _) g hg
  have hL8 : L.length ≤ 8 := by rw [HLL.out]; exact upto_len _ _ 4
  rw [← HLL.out] at hu hn
  have HE := hid hu
  have HN := hid hn
  have hn8 : n ≤ 8 := by omega
  have HT2 := hid (HTA.out.below hb2)
  have HB2 := hid (below_step HBA.out hb2)
  clear hu hb2 hf2 hn hL8 hce
  go_wp2
  go_loopw [22] (fun i wr => ∃ j : Nat, j ≤ n ∧ i = .int .i64 j ∧ Below w2.heap.size w2 wr) (fun i _ => n - (intOf i).toNat)
  case atStart => exact ⟨0, by omega, rfl, Below.refl _ _⟩
  case round =>
    obtain ⟨j, hj, rfl, hbr⟩ := hrel
    have HBR := hid hbr
    clear hbr
    by_cases hlt : j < n
    · have hlti : (j : Int) < n := by omega
      obtain ⟨g, hg⟩ : ∃ g, L[j]? = some g := ⟨L[j]'(by have := HN.out; omega), List.getElem?_eq_getElem _⟩
      obtain ⟨col, x, a⟩ := g
      obtain ⟨ad, rfl, hat⟩ := (HE.out.below HBR.out).cat hg
      obtain ⟨q0, q1, q2, q3⟩ := hat
      dsimp only at q0 q1 q2 q3
      obtain ⟨hc4, hx⟩ := HCO.out _ (List.mem_of_getElem? hg)
      dsimp only at hc4 hx
      have hc0 : (0 : Int) ≤ (col : Int) := by omega
      have hc5 : (col : Int) < 5 := by omega
      have HX : Hid (I64 x) := by rw [hx]; exact HRO.out.at hc4
      have HXE := hid hx
      have HNA := hid (CAt.new (str k) wr col x a)
      obtain ⟨n0, n1, n2, n3⟩ := HNA.out
      dsimp only at n0 n1 n2 n3
      have HT3 := hid (HT2.out.below HBR.out)
      clear hg hx
      go_wp2_with fail
      refine (put_raw _ x k HX.out HK.out).mono ?_
      rintro e w3 ⟨rfl, hb3⟩
      have HBA3 : Hid (Below wr.heap.size wr w3) := below_step ((Below.refl _ _).alloc (Nat.le_refl _) (.cells #[.int .i64 (col : Int), .int .i64 x, .string (str k), .bool a] 153)) hb3
      have HN3 := hid (HNA.out.below hb3)
      clear hb3 n0 n1 n2 n3 q0 q1 q2 q3
      obtain ⟨n0, n1, n2, n3⟩ := HN3.out
      dsimp only at n0 n1 n2 n3
      have HT4 := hid (HT3.out.below HBA3.out)
      have cc := HT4.out.cp (i := col) (by omega)
      have HG : Hid (Calls Tryz.prog 57 #[.pointer (some ⟨p col, 0, none⟩), .string (str (entB x k))] w3.drew fun e w' => (∃ s, e = .returned (.tuple #[.string s, .int .i64 0])) ∧ Below w3.drew.heap.size w3.drew w') := by
        rw [HXE.out]
        exact tget_at (HT4.out.below (below_drew' _)) HOK.out hle hc4 HM.out
      go_wp2_with fail
      go_region_held3 (fun W => W.cell? ⟨wr.heap.size, 0, none⟩ = some (.int .i64 (col : Int)) ∧ W.cell? ⟨T, 1 + col, none⟩ = some (.pointer (some ⟨p col, 0, none⟩))) (first | exact ⟨n0, cc⟩ | exact HS4.out)
        (first | (go_at_call 57; ((with_reducible refine HG.out.mono ?_); rintro e w4 ⟨⟨s4, rfl⟩, hb4⟩; have HB4 := hid hb4; have HS4 : Hid (w4.cell? ⟨wr.heap.size, 0, none⟩ = some (.int .i64 (col : Int)) ∧ w4.cell? ⟨T, 1 + col, none⟩ = some (.pointer (some ⟨p col, 0, none⟩))) := ⟨below_keep hb4 _ _ n0, below_keep hb4 _ _ cc⟩; clear hb4)))
      go_wp2
      go_roundw
      case rel => exact ⟨j + 1, by omega, by go_num, below_step (below_step HBR.out HBA3.out).drew HB4.out⟩
      case measure => simp [intOf]; omega
    · obtain rfl : j = n := by omega
      go_wp2
      go_ret
      exact ⟨rfl, below_step HB2.out HBR.out⟩
/-- Between two rounds of Check's range. -/
def CheckK (w : World) (T : Nat) (_pre : List KR) (_K : Bl) (W : World) : Prop :=
  (W.cell? ⟨w.heap.size, 0, none⟩ = some (.pointer (some ⟨T, 0, none⟩)) ∧ W.cell? ⟨w.heap.size + 1, 0, none⟩ = some (.bool false) ∧ W.frozen? ⟨w.heap.size + 1, 0, none⟩ = false) ∧ Below w.heap.size w W
theorem checkK_abide {w : World} {T : Nat} : Abide (w.heap.size + 2) (CheckK w T) := by
  rintro s K A A' row ⟨⟨h0, h1, h1f⟩, hB⟩ hg hr K' hK'
  have hsz : w.heap.size + 1 < A.heap.size := blk_lt h1
  have hA : Below (w.heap.size + 2) A A' := (Below.refl _ _).grown hg hsz fun k e => (hr k e).1
  exact ⟨⟨(hA.cell (by show w.heap.size < _; omega)).trans h0, (hA.cell (by show w.heap.size + 1 < _; omega)).trans h1, (hA.frozen (by show w.heap.size + 1 < _; omega)).trans h1f⟩, hB.grown hg hB.size fun k e => by have := (hr k e).1; omega⟩
theorem CheckK.below {pre : List KR} {K : Bl} {W W' : World} (h : CheckK w T pre K W) (hb : Below W.heap.size W W') : CheckK w T pre K W' := by
  obtain ⟨⟨h0, h1, h1f⟩, hB⟩ := h
  exact ⟨⟨below_keep hb _ _ h0, below_keep hb _ _ h1, (hb.frozen (p := ⟨w.heap.size + 1, 0, none⟩) (blk_lt h1)).trans h1f⟩, below_step hB hb⟩
theorem idx5 (p : Nat → Nat) : (∀ W : World, (Instr.index 105 (.agg #[.pointer (some ⟨p 0, 0, none⟩), .pointer (some ⟨p 1, 0, none⟩), .pointer (some ⟨p 2, 0, none⟩), .pointer (some ⟨p 3, 0, none⟩), .pointer (some ⟨p 4, 0, none⟩)]) (.int .i64 0)).run Tryz.prog W = .ok (.pointer (some ⟨p 0, 0, none⟩)) W) ∧
    (∀ W : World, (Instr.index 105 (.agg #[.pointer (some ⟨p 0, 0, none⟩), .pointer (some ⟨p 1, 0, none⟩), .pointer (some ⟨p 2, 0, none⟩), .pointer (some ⟨p 3, 0, none⟩), .pointer (some ⟨p 4, 0, none⟩)]) (.int .i64 1)).run Tryz.prog W = .ok (.pointer (some ⟨p 1, 0, none⟩)) W) ∧
    (∀ W : World, (Instr.index 105 (.agg #[.pointer (some ⟨p 0, 0, none⟩), .pointer (some ⟨p 1, 0, none⟩), .pointer (some ⟨p 2, 0, none⟩), .pointer (some ⟨p 3, 0, none⟩), .pointer (some ⟨p 4, 0, none⟩)]) (.int .i64 2)).run Tryz.prog W = .ok (.pointer (some ⟨p 2, 0, none⟩)) W) ∧
    (∀ W : World, (Instr.index 105 (.agg #[.pointer (some ⟨p 0, 0, none⟩), .pointer (some ⟨p 1, 0, none⟩), .pointer (some ⟨p 2, 0, none⟩), .pointer (some ⟨p 3, 0, none⟩), .pointer (some ⟨p 4, 0, none⟩)]) (.int .i64 3)).run Tryz.prog W = .ok (.pointer (some ⟨p 3, 0, none⟩)) W) ∧
    (∀ W : World, (Instr.index 105 (.agg #[.pointer (some ⟨p 0, 0, none⟩), .pointer (some ⟨p 1, 0, none⟩), .pointer (some ⟨p 2, 0, none⟩), .pointer (some ⟨p 3, 0, none⟩), .pointer (some ⟨p 4, 0, none⟩)]) (.int .i64 4)).run Tryz.prog W = .ok (.pointer (some ⟨p 4, 0, none⟩)) W) :=
  ⟨fun _ => by kernel_rfl, fun _ => by kernel_rfl, fun _ => by kernel_rfl, fun _ => by kernel_rfl, fun _ => by kernel_rfl⟩
set_option maxHeartbeats 2000000 in
theorem check_yes (h : Tab w T p Q most o l) : Calls Tryz.prog 28 #[.pointer (some ⟨T, 0, none⟩)] w fun e w' => e = .returned (.bool true) ∧ Below w.heap.size w w' := by
  have HT := hid h
  have hsz := h.le
  obtain ⟨J, hT, hok, _⟩ := h
  have HB0 : Hid (Below w.heap.size w ((w.alloc (.cells #[.pointer (some ⟨T, 0, none⟩)] 29)).alloc (.cells #[.bool false] 4))) := ((Below.refl _ w).alloc (Nat.le_refl _) _).alloc (by simp) _
  obtain ⟨wb, HWB⟩ : ∃ W, Hid (W = (w.alloc (.cells #[.pointer (some ⟨T, 0, none⟩)] 29)).alloc (.cells #[.bool false] 4)) := ⟨_, rfl⟩
  have hTb := hT.below HB0.out
  have q1 := hTb.cp (i := 0) (by omega)
  have q2 := hTb.cp (i := 1) (by omega)
  have q3 := hTb.cp (i := 2) (by omega)
  have q4 := hTb.cp (i := 3) (by omega)
  have q5 := hTb.cp (i := 4) (by omega)
  have HCK : Hid (CheckK w T [] (fun _ => False) wb) := by
    rw [HWB.out]
    have c1 := (cellNew (w.alloc (.cells #[.pointer (some ⟨T, 0, none⟩)] 29)) (.bool false) 4).1
    have f1 := (cellNew (w.alloc (.cells #[.pointer (some ⟨T, 0, none⟩)] 29)) (.bool false) 4).2
    rw [World.size_alloc] at c1 f1
    exact ⟨⟨cellPast _ (cellNew w (.pointer (some ⟨T, 0, none⟩)) 29).1, c1, f1⟩, HB0.out⟩
  obtain ⟨n, HN⟩ : ∃ n, Hid (n = l.length) := ⟨_, rfl⟩
  have HLT : Hid (∀ i, i < 5 → ∀ W', Below w.heap.size w W' → Calls Tryz.prog 53 #[.pointer (some ⟨p i, 0, none⟩)] W' fun e w2 => e = .returned (.int .i64 (n : Int)) ∧ Below W'.heap.size W' w2) := fun i hi W' hb => by
    have := ((hT.below hb).t i hi).len
    rwa [hok.len hi, ← HN.out] at this
  have HLN : Hid (∀ W', Below w.heap.size w W' → Calls Tryz.prog 29 #[.pointer (some ⟨T, 0, none⟩)] W' fun e w2 => e = .returned (.int .i64 (n : Int)) ∧ Below W'.heap.size W' w2) := fun W' hb => by
    rw [HN.out]
    refine (tlen (HT.out.below hb)).mono ?_
    rintro e w2 ⟨h, rfl⟩
    exact ⟨h, Below.refl _ _⟩
  clear hT hok hTb
  refine (callsIn_wide (n := 3)).1 ?_
  refine callsIn_of_wp_marks Tryz.func28 rfl trivial ?_ rfl
  simp only [Tryz.ntmps28, List.size_toArray, List.length_cons, List.length_nil, Nat.reduceAdd, Nat.reduceSub, Array.replicate_succ, Array.replicate_zero, List.push_toArray, List.append_toArray, List.nil_append, List.cons_append]
  refine wpIn_wide.2 ?_
  go_wp2
  rw [← HWB.out]
  go_loopw [13] (fun i wr => ∃ j : Nat, j ≤ 5 ∧ i = .int .i64 j ∧ Below wb.heap.size wb wr) (fun i _ => 5 - (intOf i).toNat)
  case atStart => exact ⟨0, by omega, rfl, Below.refl _ _⟩
  case round =>
    obtain ⟨j, hj, rfl, hbr⟩ := hrel
    have HCR := hid (HCK.out.below hbr)
    obtain ⟨⟨t0, t1, t1f⟩, hbw⟩ := HCR.out
    have HBW := hid hbw
    have HBR := hid hbr
    clear hbr hbw q1 q2 q3 q4 q5
    by_cases hlt : j < 5
    · obtain ⟨hx0, hx1, hx2, hx3, hx4⟩ := idx5 p
      rcases (by omega : j = 0 ∨ j = 1 ∨ j = 2 ∨ j = 3 ∨ j = 4) with rfl | rfl | rfl | rfl | rfl
      all_goals
        go_wp2_with fail
        go_region_held3 (fun W => W.cell? ⟨w.heap.size, 0, none⟩ = some (.pointer (some ⟨T, 0, none⟩))) (first | exact t0 | exact HS4.out | exact HS5.out)
          (first
            | (go_at_call 29; ((with_reducible refine (HLN.out _ (below_step HBW.out.drew HB4.out)).mono ?_); rintro e w5 ⟨rfl, hb5⟩; have HB5 := hid (below_step HB4.out hb5); have HS5 : Hid (w5.cell? ⟨w.heap.size, 0, none⟩ = some (.pointer (some ⟨T, 0, none⟩))) := below_keep hb5 _ _ HS4.out; clear hb5))
            | (go_at_call 53; ((with_reducible refine (HLT.out _ (by decide) _ HBW.out.drew).mono ?_); rintro e w4 ⟨rfl, hb4⟩; have HB4 := hid hb4; have HS4 : Hid (w4.cell? ⟨w.heap.size, 0, none⟩ = some (.pointer (some ⟨T, 0, none⟩))) := below_keep hb4 _ _ t0; clear hb4)))
        go_wp2
        go_roundw
        case rel => first | exact ⟨1, by decide, by go_num, below_step HBR.out.drew HB5.out⟩ | exact ⟨2, by decide, by go_num, below_step HBR.out.drew HB5.out⟩ | exact ⟨3, by decide, by go_num, below_step HBR.out.drew HB5.out⟩ | exact ⟨4, by decide, by go_num, below_step HBR.out.drew HB5.out⟩ | exact ⟨5, by decide, by go_num, below_step HBR.out.drew HB5.out⟩
        case measure => simp [intOf]
    · obtain rfl : j = 5 := by omega
      go_wp2_with fail
      refine (tall (HT.out.below HBW.out)).mono ?_
      rintro e w1 ⟨gf, lb, G1, rfl, hb1, hw1, hGQ⟩
      have HC1 := hid (HCR.out.below hb1)
      have hw1s : w.heap.size + 2 ≤ w1.heap.size := blk_lt HC1.out.1.2.1
      clear hb1 t0 t1 t1f
      go_wp2
      refine (wpIn_wide (n := 3)).1 ?_
      refine range_own (gf := gf) (lb := lb) rfl hw1.en hw1.gives (w0 := w1) (Stay.refl _ _) (fun _ => rfl) (CheckK w T) (fun _ _ _ _ => False) (fun s K A A' row hi hg hr K' hK' => checkK_abide s K A A' row hi hg (fun r e => ⟨Nat.le_trans hw1s (hr r e).1, (hr r e).2⟩) K' hK') (fun _ _ _ _ _ _ h => h.elim) G1 (fun _ h => h) hw1.lt
        HC1.out ?round ?done ?stop
      case stop =>
        rintro D c pre K W _ h
        exact h.elim
      case round =>
        rintro lq pre x K W m hI hKW hKl hlq hpre
        dsimp only [encK, rowv, rowc]
        gi_wp2
        obtain ⟨Wa, HWA⟩ : ∃ Wa, Hid (Wa = W.alloc (.cells #[.int .i64 x.2.a, .int .i64 x.2.b, .int .i64 x.2.c, .int .i64 x.2.d] 41)) := ⟨_, rfl⟩
        rw [← HWA.out]
        have hba : Below W.heap.size W Wa := by rw [HWA.out]; exact (Below.refl _ _).alloc (Nat.le_refl _) _
        have hrow : Wa.heap[W.heap.size]? = some (.cells #[.int .i64 x.2.a, .int .i64 x.2.b, .int .i64 x.2.c, .int .i64 x.2.d] 41 (0, 0)) := by rw [HWA.out]; exact heap_alloc_new W _
        refine ⟨Stay.of_below hba hKW, fun W2 hg2 => ?_⟩
        have hlW := hKW lq hKl
        have hI2 := checkK_abide pre K Wa W2 (some lq) (hI.below hba) hg2 (fun r e => by injection e with e; subst e; exact ⟨by omega, hKl⟩) K fun b h => .inl h
        have hrow2 : W2.heap[W.heap.size]? = some (.cells #[.int .i64 x.2.a, .int .i64 x.2.b, .int .i64 x.2.c, .int .i64 x.2.d] 41 (0, 0)) := (hg2.block _ (Array.getElem?_eq_some_iff.1 hrow).1 (by intro e; injection e with e; omega)).trans hrow
        have HKS : Hid (∀ b, K b → b < W2.heap.size) := fun b hb => Nat.lt_of_lt_of_le (hKW b hb) (Nat.le_trans hba.size hg2.size)
        have r0 := cell_of_row W2 W.heap.size 0 _ _ _ hrow2
        have r1 := cell_of_row W2 W.heap.size 1 _ _ _ hrow2
        have r2 := cell_of_row W2 W.heap.size 2 _ _ _ hrow2
        have r3 := cell_of_row W2 W.heap.size 3 _ _ _ hrow2
        simp at r0 r1 r2 r3
        have HI2 := hid hI2
        obtain ⟨⟨h0, h1, h1f⟩, hB⟩ := hI2
        have HBW := hid hB
        have HXM : Hid ((x.1, x.2) ∈ l) := hpre.subset (by simp)
        clear hI hg2 hrow hrow2 hba hB hpre
        gi_wp2
        refine ⟨trivial, fun h => (by cases h), ?_⟩
        refine (CallsIn.inRound lq (callsIn_wide.2 (indexed_yes (HT.out.below HBW.out) x.1 x.2 HXM.out))).mono ?_
        rintro e w3 ⟨rfl, hb3⟩
        have HEND : Hid (Stay K W2 w3 ∧ CheckK w T (pre ++ [x]) K w3) := ⟨Stay.of_below hb3 HKS.out, HI2.out.below hb3⟩
        clear hb3
        gi_wp2
        exact HEND.out
      case done =>
        rintro D Kd W ⟨⟨h0, h1, h1f⟩, hB⟩ _ _ hD hK
        have HBW := hid hB
        have hD' : w.heap.size ≤ D := by omega
        have HK' : Hid ((W.setCell ⟨w.heap.size + 1, 0, none⟩ (.bool true)).heap[D]? = some (.deferred (some []))) := (KeepsOthers.setCell W ⟨w.heap.size + 1, 0, none⟩ (.bool true)).same D _ hK rfl
        have hc5 := cell_kept (World.cell?_setCell_same' W ⟨w.heap.size + 1, 0, none⟩ (.bool true) (by rw [h1]; rfl)) (grownBy_putObj' _ D (.deferred none)) (fun r e => by cases e; exact ⟨_, HK'.out, rfl⟩)
        clear hB hK
        gi_wp2
        go_wp2
        refine ⟨by simp, .inl ⟨_, _, rfl, run_takeDeferred HK'.out, ?_⟩⟩
        refine ⟨.bool true, ?_, rfl, ?_⟩
        · simp [results, Tryz.f28, go_sem, hc5]
        · exact (HBW.out.setCell (p := ⟨w.heap.size + 1, 0, none⟩) (by show w.heap.size ≤ w.heap.size + 1; omega) _).trans (belowK_b (w := w) (Nat.le_refl _) _ D _ _ hD' HK'.out rfl rfl)
end
end Go.Proofs.YtlnagdodnkhbmaaGreat

/- table.Same: are the rows of two tables the same? -/
namespace Go.Proofs.YtlnagdodnkhbmaaGreat
open Go.RowKit Go.Shelf
set_option maxRecDepth 100000
attribute [local go_sem] Oper.semAt_some

theorem sub_perm {α : Type} : ∀ {A B : List α}, A.Pairwise (· ≠ ·) → (∀ q ∈ A, q ∈ B) → ∃ C, B.Perm (A ++ C)
  | [], B, _, _ => ⟨B, List.Perm.refl _⟩
  | a :: A, B, hn, hs => by
    obtain ⟨hn1, hn2⟩ := List.pairwise_cons.1 hn
    obtain ⟨s, t, rfl⟩ := List.append_of_mem (hs a List.mem_cons_self)
    obtain ⟨C, hC⟩ := sub_perm (A := A) (B := s ++ t) hn2 fun q hq => by
      have h1 := hs q (List.mem_cons_of_mem _ hq)
      rw [List.mem_append, List.mem_cons] at h1
      rw [List.mem_append]
      rcases h1 with h1 | h1 | h1
      · exact .inl h1
      · exact absurd h1.symm (hn1 q hq)
      · exact .inr h1
    exact ⟨C, List.perm_middle.trans (by rw [List.cons_append]; exact hC.cons a)⟩
/-- Rows that are as many, each of which is the other's, are the same. -/
theorem rows_sub {A B : List KR} (hA : RowsOk A) (hB : RowsOk B) (hl : A.length = B.length) (h : ∀ q ∈ A, q ∈ B) : A = B := by
  have hn : A.Pairwise (· ≠ ·) := hA.diff.imp fun {a b} hab e => hab (congrArg Prod.fst e)
  obtain ⟨C, hC⟩ := sub_perm hn h
  have h1 := hC.length_eq
  rw [List.length_append] at h1
  have h2 : C = [] := List.eq_nil_of_length_eq_zero (by omega)
  rw [h2, List.append_nil] at hC
  exact rows_ext hA hB fun q => hC.symm.mem_iff
theorem Ro.ext_l {r s : Ro} (h : r.l = s.l) : r = s := by
  obtain ⟨a, b, c, d⟩ := r
  obtain ⟨a', b', c', d'⟩ := s
  simp [Ro.l] at h
  obtain ⟨rfl, rfl, rfl, rfl⟩ := h
  rfl
def memK (b : List KR) (q : KR) : Bool := b.any fun r => decide (r.1 = q.1) && decide (r.2.l = q.2.l)
theorem memK_iff {b : List KR} {q : KR} : memK b q = true ↔ q ∈ b := by
  unfold memK
  rw [List.any_eq_true]
  constructor
  · rintro ⟨r, hr, h⟩
    rw [Bool.and_eq_true, decide_eq_true_iff, decide_eq_true_iff] at h
    rwa [← Prod.ext h.1 (Ro.ext_l h.2)]
  · exact fun h => ⟨q, h, by simp⟩
def sameL (a b : List KR) : Bool := decide (a.length = b.length) && a.all (memK b)
theorem sameL_iff {a b : List KR} : sameL a b = true ↔ a.length = b.length ∧ ∀ q ∈ a, q ∈ b := by
  unfold sameL
  rw [Bool.and_eq_true, decide_eq_true_iff, List.all_eq_true]
  exact and_congr_right fun _ => ⟨fun h q hq => memK_iff.1 (h q hq), fun h q hq => memK_iff.2 (h q hq)⟩
theorem sameL_yes {a b : List KR} (ha : RowsOk a) (hb : RowsOk b) : sameL a b = true ↔ a = b := by
  rw [sameL_iff]
  constructor
  · exact fun h => rows_sub ha hb h.1 h.2
  · rintro rfl; exact ⟨rfl, fun _ h => h⟩
theorem sameL_refl (a : List KR) : sameL a a = true := sameL_iff.2 ⟨rfl, fun _ h => h⟩
theorem sameL_one {a b : List KR} {q : KR} (hm : q ∈ a) (hn : q ∉ b) : sameL a b = false := by
  rw [Bool.eq_false_iff]
  exact fun h => hn ((sameL_iff.1 h).2 q hm)
theorem sameL_len {a b : List KR} (h : a.length ≠ b.length) : sameL a b = false := by
  rw [Bool.eq_false_iff]
  exact fun e => h (sameL_iff.1 e).1
section
variable {w : World} {T : Nat} {p : Nat → Nat} {Q : Bl} {most o : Nat} {l : List KR} {T2 : Nat} {p2 : Nat → Nat} {Q2 : Bl} {most2 o2 : Nat} {l2 : List KR}
theorem tget_in (h : Tab w T2 p2 Q2 most2 o2 l2) (k : List Nat) (r : Ro) (hk : keyB k = true) (hb : Byt k) (hm : (k, r) ∈ l2) : Calls Tryz.prog 32 #[.pointer (some ⟨T2, 0, none⟩), .string (str k)] w (RowEnd w r 0) := by
  have := tget h k hb
  unfold kgetR kgetE at this
  rw [if_pos hk, if_pos hk, h.rows.get hm] at this
  exact this
theorem tget_out (h : Tab w T2 p2 Q2 most2 o2 l2) (k : List Nat) (hk : keyB k = true) (hb : Byt k) (hm : getK l2 k = none) : Calls Tryz.prog 32 #[.pointer (some ⟨T2, 0, none⟩), .string (str k)] w (RowEnd w zero4 14) := by
  have := tget h k hb
  unfold kgetR kgetE at this
  rw [if_pos hk, if_pos hk, hm] at this
  exact this
def SameT (w : World) (T2 : Nat) (l2 pre : List KR) (K : Bl) (W : World) : Prop := CheckK w T2 pre K W ∧ ¬ K (w.heap.size + 1) ∧ ∀ q ∈ pre, q ∈ l2
def SameX (w : World) (T2 : Nat) (l2 pre : List KR) (K : Bl) (W : World) : Prop := CheckK w T2 pre K W ∧ ¬ K (w.heap.size + 1) ∧ ∃ q ∈ pre, q ∉ l2
theorem sameT_abide {B : Nat} (hB : w.heap.size + 2 ≤ B) : Abide B (SameT w T2 l2) := by
  rintro s K A A' row ⟨h, hk, hq⟩ hg hr K' hK'
  refine ⟨checkK_abide s K A A' row h hg (fun r e => ⟨Nat.le_trans hB (hr r e).1, (hr r e).2⟩) K' hK', fun h2 => ?_, hq⟩
  have : w.heap.size + 1 < A.heap.size := blk_lt h.1.2.1
  rcases hK' _ h2 with h3 | h3
  · exact hk h3
  · omega
theorem sameX_abide {B : Nat} (hB : w.heap.size + 2 ≤ B) : Abide B (SameX w T2 l2) := by
  rintro s K A A' row ⟨h, hk, hq⟩ hg hr K' hK'
  refine ⟨checkK_abide s K A A' row h hg (fun r e => ⟨Nat.le_trans hB (hr r e).1, (hr r e).2⟩) K' hK', fun h2 => ?_, hq⟩
  have : w.heap.size + 1 < A.heap.size := blk_lt h.1.2.1
  rcases hK' _ h2 with h3 | h3
  · exact hk h3
  · omega
theorem checkK_set {pre : List KR} {K : Bl} {W : World} (h : CheckK w T2 pre K W) (pre' : List KR) : CheckK w T2 pre' K (W.setCell ⟨w.heap.size + 1, 0, none⟩ (.bool false)) := by
  obtain ⟨⟨h0, h1, h1f⟩, hB⟩ := h
  refine ⟨⟨cellFar (b := ⟨w.heap.size + 1, 0, none⟩) h0 (by show w.heap.size ≠ w.heap.size + 1; omega) _, World.cell?_setCell_same' _ _ _ (by rw [h1]; rfl), ?_⟩, hB.setCell (p := ⟨w.heap.size + 1, 0, none⟩) (by show w.heap.size ≤ w.heap.size + 1; omega) _⟩
  rw [World.frozen?_setCell]; exact h1f
theorem stay_set {K : Bl} {W : World} (hk : ¬ K (w.heap.size + 1)) : Stay K W (W.setCell ⟨w.heap.size + 1, 0, none⟩ (.bool false)) :=
  ⟨by simp [World.setCell], fun b hb => Below.heap_setCell _ _ _ _ fun e => hk (by rw [e] at hb; exact hb)⟩
set_option maxHeartbeats 2000000 in
theorem tsame_no (h : Tab w T p Q most o l) (h2 : Tab w T2 p2 Q2 most2 o2 l2) (hl : l.length ≠ l2.length) : Calls Tryz.prog 27 #[.pointer (some ⟨T, 0, none⟩), .pointer (some ⟨T2, 0, none⟩)] w fun e w' => e = .returned (.bool false) ∧ Below w.heap.size w w' := by
  have HT := hid h
  have HT2 := hid h2
  obtain ⟨wb, HWB⟩ : ∃ W, Hid (W = (w.alloc (.cells #[.pointer (some ⟨T2, 0, none⟩)] 29)).alloc (.cells #[.bool false] 4)) := ⟨_, rfl⟩
  have HB0 : Hid (Below w.heap.size w ((w.alloc (.cells #[.pointer (some ⟨T2, 0, none⟩)] 29)).alloc (.cells #[.bool false] 4))) := ((Below.refl _ w).alloc (Nat.le_refl _) _).alloc (by simp) _
  have HCK : Hid (CheckK w T2 [] (fun _ => False) wb) := by
    rw [HWB.out]
    have c1 := (cellNew (w.alloc (.cells #[.pointer (some ⟨T2, 0, none⟩)] 29)) (.bool false) 4).1
    have f1 := (cellNew (w.alloc (.cells #[.pointer (some ⟨T2, 0, none⟩)] 29)) (.bool false) 4).2
    rw [World.size_alloc] at c1 f1
    exact ⟨⟨cellPast _ (cellNew w (.pointer (some ⟨T2, 0, none⟩)) 29).1, c1, f1⟩, HB0.out⟩
  obtain ⟨n, HN⟩ : ∃ n, Hid (n = l.length) := ⟨_, rfl⟩
  obtain ⟨n2, HN2⟩ : ∃ n, Hid (n = l2.length) := ⟨_, rfl⟩
  have HLN : Hid (∀ W', Below w.heap.size w W' → Calls Tryz.prog 29 #[.pointer (some ⟨T, 0, none⟩)] W' fun e w2 => e = .returned (.int .i64 (n : Int)) ∧ Below W'.heap.size W' w2) := fun W' hb => by
    rw [HN.out]
    refine (tlen (HT.out.below hb)).mono ?_
    rintro e w2 ⟨h, rfl⟩
    exact ⟨h, Below.refl _ _⟩
  have HLN2 : Hid (∀ W', Below w.heap.size w W' → Calls Tryz.prog 29 #[.pointer (some ⟨T2, 0, none⟩)] W' fun e w2 => e = .returned (.int .i64 (n2 : Int)) ∧ Below W'.heap.size W' w2) := fun W' hb => by
    rw [HN2.out]
    refine (tlen (HT2.out.below hb)).mono ?_
    rintro e w2 ⟨h, rfl⟩
    exact ⟨h, Below.refl _ _⟩
  have hne : ¬ (n : Int) = (n2 : Int) := by have := HN.out; have := HN2.out; omega
  have HBW := hid HCK.out.2
  obtain ⟨⟨t0, t1, t1f⟩, -⟩ := HCK.out
  rw [HWB.out] at t0 t1 t1f
  clear h h2 hl
  go_enter Tryz.func27, Tryz.ntmps27
  go_wp2_with fail
  rw [← HWB.out] at t0 t1 t1f ⊢
  go_region_held3 (fun W => W.cell? ⟨w.heap.size, 0, none⟩ = some (.pointer (some ⟨T2, 0, none⟩))) (first | exact t0 | exact HS4.out | exact HS5.out)
    (first
      | (go_at_call 29; ((with_reducible refine (HLN2.out _ (below_step HBW.out.drew HB4.out)).mono ?_); rintro e w5 ⟨rfl, hb5⟩; have HC5 := hid (HCK4.out.below hb5); have HS5 : Hid (w5.cell? ⟨w.heap.size, 0, none⟩ = some (.pointer (some ⟨T2, 0, none⟩))) := HC5.out.1.1; clear hb5))
      | (go_at_call 29; ((with_reducible refine (HLN.out _ HBW.out.drew).mono ?_); rintro e w4 ⟨rfl, hb4⟩; have HB4 := hid hb4; have HCK4 := hid ((HCK.out.below (Below.refl _ wb).drew).below hb4); have HS4 : Hid (w4.cell? ⟨w.heap.size, 0, none⟩ = some (.pointer (some ⟨T2, 0, none⟩))) := HCK4.out.1.1; clear hb4)))
  obtain ⟨⟨u0, u1, u1f⟩, -⟩ := HC5.out
  have HE := hid (checkK_set HC5.out [])
  obtain ⟨⟨-, e1, -⟩, -⟩ := HE.out
  clear t0 t1 t1f
  go_wp2
  exact bodyPost_ret (v := .bool false) (by simp [results, Tryz.results27, go_sem, e1]) rfl ⟨rfl, HE.out.2⟩
set_option maxHeartbeats 4000000 in
theorem tsame_eq (h : Tab w T p Q most o l) (h2 : Tab w T2 p2 Q2 most2 o2 l2) (hl : l.length = l2.length) : Calls Tryz.prog 27 #[.pointer (some ⟨T, 0, none⟩), .pointer (some ⟨T2, 0, none⟩)] w fun e w' => e = .returned (.bool (sameL l l2)) ∧ Below w.heap.size w w' := by
  have HT := hid h
  have HT2 := hid h2
  have hsz := h.le
  have HLE := hid hl
  have HB0 : Hid (Below w.heap.size w ((w.alloc (.cells #[.pointer (some ⟨T2, 0, none⟩)] 29)).alloc (.cells #[.bool false] 4))) := ((Below.refl _ w).alloc (Nat.le_refl _) _).alloc (by simp) _
  obtain ⟨wb, HWB⟩ : ∃ W, Hid (W = (w.alloc (.cells #[.pointer (some ⟨T2, 0, none⟩)] 29)).alloc (.cells #[.bool false] 4)) := ⟨_, rfl⟩
  have HCK : Hid (CheckK w T2 [] (fun _ => False) wb) := by
    rw [HWB.out]
    have c1 := (cellNew (w.alloc (.cells #[.pointer (some ⟨T2, 0, none⟩)] 29)) (.bool false) 4).1
    have f1 := (cellNew (w.alloc (.cells #[.pointer (some ⟨T2, 0, none⟩)] 29)) (.bool false) 4).2
    rw [World.size_alloc] at c1 f1
    exact ⟨⟨cellPast _ (cellNew w (.pointer (some ⟨T2, 0, none⟩)) 29).1, c1, f1⟩, HB0.out⟩
  obtain ⟨n, HN⟩ : ∃ n, Hid (n = l.length) := ⟨_, rfl⟩
  have HLN : Hid (∀ W', Below w.heap.size w W' → Calls Tryz.prog 29 #[.pointer (some ⟨T, 0, none⟩)] W' fun e w2 => e = .returned (.int .i64 (n : Int)) ∧ Below W'.heap.size W' w2) := fun W' hb => by
    rw [HN.out]
    refine (tlen (HT.out.below hb)).mono ?_
    rintro e w2 ⟨h, rfl⟩
    exact ⟨h, Below.refl _ _⟩
  have HLN2 : Hid (∀ W', Below w.heap.size w W' → Calls Tryz.prog 29 #[.pointer (some ⟨T2, 0, none⟩)] W' fun e w2 => e = .returned (.int .i64 (n : Int)) ∧ Below W'.heap.size W' w2) := fun W' hb => by
    rw [HN.out, HLE.out]
    refine (tlen (HT2.out.below hb)).mono ?_
    rintro e w2 ⟨h, rfl⟩
    exact ⟨h, Below.refl _ _⟩
  have HBW := hid HCK.out.2
  obtain ⟨⟨t0, t1, t1f⟩, -⟩ := HCK.out
  rw [HWB.out] at t0 t1 t1f
  clear h h2 hl
  refine (callsIn_wide (n := 3)).1 ?_
  refine callsIn_of_wp_marks Tryz.func27 rfl trivial ?_ rfl
  simp only [Tryz.ntmps27, List.size_toArray, List.length_cons, List.length_nil, Nat.reduceAdd, Nat.reduceSub, Array.replicate_succ, Array.replicate_zero, List.push_toArray, List.append_toArray, List.nil_append, List.cons_append]
  refine wpIn_wide.2 ?_
  go_wp2_with fail
  rw [← HWB.out] at t0 t1 t1f ⊢
  go_region_held3 (fun W => W.cell? ⟨w.heap.size, 0, none⟩ = some (.pointer (some ⟨T2, 0, none⟩))) (first | exact t0 | exact HS4.out | exact HS5.out)
    (first
      | (go_at_call 29; ((with_reducible refine (HLN2.out _ (below_step HBW.out.drew HB4.out)).mono ?_); rintro e w5 ⟨rfl, hb5⟩; have HB5 := hid (below_step (below_step HBW.out.drew HB4.out) hb5); have HC5 := hid (HCK4.out.below hb5); have HS5 : Hid (w5.cell? ⟨w.heap.size, 0, none⟩ = some (.pointer (some ⟨T2, 0, none⟩))) := HC5.out.1.1; clear hb5))
      | (go_at_call 29; ((with_reducible refine (HLN.out _ HBW.out.drew).mono ?_); rintro e w4 ⟨rfl, hb4⟩; have HB4 := hid hb4; have HCK4 := hid ((HCK.out.below (Below.refl _ wb).drew).below hb4); have HS4 : Hid (w4.cell? ⟨w.heap.size, 0, none⟩ = some (.pointer (some ⟨T2, 0, none⟩))) := HCK4.out.1.1; clear hb4)))
  clear t0 t1 t1f
  go_wp2_with fail
  refine (tall (HT.out.below HB5.out)).mono ?_
  rintro e w1 ⟨gf, lb, G1, rfl, hb1, hw1, hGQ⟩
  have HC1 := hid (HC5.out.below hb1)
  have hw1s : w.heap.size + 2 ≤ w1.heap.size := blk_lt HC1.out.1.2.1
  have HNK : Hid (¬ G1 (w.heap.size + 1)) := fun hg => by
    rcases hGQ _ hg with h3 | h3
    · have := HT.out.under _ h3; omega
    · have := blk_lt HC5.out.1.2.1
      change w.heap.size + 1 < w5.heap.size at this
      omega
  clear hb1
  go_wp2
  refine (wpIn_wide (n := 3)).1 ?_
  refine range_own (gf := gf) (lb := lb) rfl hw1.en hw1.gives (w0 := w1) (Stay.refl _ _) (fun _ => rfl) (SameT w T2 l2) (fun cd s K W => cd = .ret ∧ SameX w T2 l2 s K W) (sameT_abide hw1s) (fun cd s K A A' row hi hg hr K' hK' => ⟨hi.1, sameX_abide hw1s s K A A' row hi.2 hg hr K' hK'⟩) G1 (fun _ h => h) hw1.lt
    ⟨HC1.out, HNK.out, by simp⟩ ?round ?done ?stop
  case round =>
    rintro lq pre x K W m hI hKW hKl hlq hpre
    dsimp only [encK, rowv, rowc]
    gi_wp2
    obtain ⟨Wa, HWA⟩ : ∃ Wa, Hid (Wa = W.alloc (.cells #[.int .i64 x.2.a, .int .i64 x.2.b, .int .i64 x.2.c, .int .i64 x.2.d] 41)) := ⟨_, rfl⟩
    rw [← HWA.out]
    have hba : Below W.heap.size W Wa := by rw [HWA.out]; exact (Below.refl _ _).alloc (Nat.le_refl _) _
    have hrow : Lies Wa W.heap.size x.2 := by rw [HWA.out]; exact Lies.new W x.2
    refine ⟨Stay.of_below hba hKW, fun W2 hg2 => ?_⟩
    have hlW := hKW lq hKl
    have hI1 : SameT w T2 l2 pre K Wa := ⟨hI.1.below hba, hI.2⟩
    have HI2 := hid (sameT_abide hw1s pre K Wa W2 (some lq) hI1 hg2 (fun r e => by injection e with e; subst e; exact ⟨by omega, hKl⟩) K fun b h => .inl h)
    have HROW : Hid (Lies W2 W.heap.size x.2) := hrow.keep (hg2.block _ hrow.lt (by intro e; injection e with e; omega))
    have HKS : Hid (∀ b, K b → b < W2.heap.size) := fun b hb => Nat.lt_of_lt_of_le (hKW b hb) (Nat.le_trans hba.size hg2.size)
    have HXM : Hid ((x.1, x.2) ∈ l) := hpre.subset (by simp)
    have HKB := hid (HT.out.rows.byt _ HXM.out)
    have HKY := hid (HT.out.rows.key _ HXM.out)
    clear hI hI1 hg2 hrow hba hpre
    obtain ⟨⟨⟨h0, h1, h1f⟩, hB⟩, hnk, hq⟩ := HI2.out
    have HBW2 := hid hB
    have HQ := hid hq
    clear hB hq
    cases hg : getK l2 x.1 with
    | none =>
      have HG := hid hg
      clear hg
      gi_wp2
      refine ⟨trivial, fun h => (by cases h), ?_⟩
      refine (CallsIn.inRound lq (callsIn_wide.2 (tget_out (HT2.out.below HBW2.out) x.1 HKY.out HKB.out HG.out))).mono ?_
      rintro e w3 ⟨rfl, hb3⟩
      have HC3 := hid (HI2.out.1.below (below_step hb3 ((Below.refl _ w3).alloc (Nat.le_refl _) (.cells #[.int .i64 0, .int .i64 0, .int .i64 0, .int .i64 0] 41))))
      have HB3 : Hid (Below W2.heap.size W2 (w3.alloc (.cells #[.int .i64 0, .int .i64 0, .int .i64 0, .int .i64 0] 41))) := below_step hb3 ((Below.refl _ w3).alloc (Nat.le_refl _) _)
      dsimp only [rowv, rowc, zero4]
      obtain ⟨⟨u0, u1, u1f⟩, -⟩ := HC3.out
      clear hb3 h0 h1 h1f
      gi_wp2
      refine ⟨(Stay.of_below HB3.out HKS.out).trans (stay_set hnk), rfl, checkK_set HC3.out _, hnk, (x.1, x.2), by simp, fun h4 => ?_⟩
      have := HT2.out.rows.get h4
      rw [HG.out] at this
      cases this
    | some s =>
      have HG := hid (getK_mem hg)
      clear hg
      by_cases hsx : s.l = x.2.l
      · have hs2 : s = x.2 := Ro.ext_l hsx
        subst hs2
        have heq := eq_rows x.2 x.2
        rw [decide_eq_true rfl] at heq
        clear hsx
        gi_wp2
        refine ⟨trivial, fun h => (by cases h), ?_⟩
        refine (CallsIn.inRound lq (callsIn_wide.2 (tget_in (HT2.out.below HBW2.out) x.1 x.2 HKY.out HKB.out HG.out))).mono ?_
        rintro e w3 ⟨rfl, hb3⟩
        dsimp only [rowv, rowc]
        have HB3 : Hid (Below W2.heap.size W2 (w3.alloc (.cells #[.int .i64 x.2.a, .int .i64 x.2.b, .int .i64 x.2.c, .int .i64 x.2.d] 41))) := below_step hb3 ((Below.refl _ w3).alloc (Nat.le_refl _) _)
        obtain ⟨y0, y1, y2, y3⟩ := (HROW.out.below HB3.out).four
        obtain ⟨z0, z1, z2, z3⟩ := (Lies.new w3 x.2).four
        dsimp only [rowc] at y0 y1 y2 y3 z0 z1 z2 z3
        clear hb3 h0 h1 h1f
        gi_wp2
        refine ⟨Stay.of_below HB3.out HKS.out, HI2.out.1.below HB3.out, hnk, fun q hq => ?_⟩
        rcases List.mem_append.1 hq with hq | hq
        · exact HQ.out q hq
        · rw [List.mem_singleton.1 hq]; exact HG.out
      · have heq := eq_rows s x.2
        rw [decide_eq_false hsx] at heq
        have HSX := hid hsx
        clear hsx
        gi_wp2
        refine ⟨trivial, fun h => (by cases h), ?_⟩
        refine (CallsIn.inRound lq (callsIn_wide.2 (tget_in (HT2.out.below HBW2.out) x.1 s HKY.out HKB.out HG.out))).mono ?_
        rintro e w3 ⟨rfl, hb3⟩
        dsimp only [rowv, rowc]
        have HB3 : Hid (Below W2.heap.size W2 (w3.alloc (.cells #[.int .i64 s.a, .int .i64 s.b, .int .i64 s.c, .int .i64 s.d] 41))) := below_step hb3 ((Below.refl _ w3).alloc (Nat.le_refl _) _)
        have HC3 := hid (HI2.out.1.below HB3.out)
        obtain ⟨y0, y1, y2, y3⟩ := (HROW.out.below HB3.out).four
        obtain ⟨z0, z1, z2, z3⟩ := (Lies.new w3 s).four
        dsimp only [rowc] at y0 y1 y2 y3 z0 z1 z2 z3
        obtain ⟨⟨u0, u1, u1f⟩, -⟩ := HC3.out
        clear hb3 h0 h1 h1f
        gi_wp2
        refine ⟨(Stay.of_below HB3.out HKS.out).trans (stay_set hnk), rfl, checkK_set HC3.out _, hnk, (x.1, x.2), by simp, fun h4 => ?_⟩
        have h5 := HT2.out.rows.get h4
        rw [HT2.out.rows.get HG.out] at h5
        injection h5 with h5
        exact HSX.out (by rw [h5])
  case done =>
    rintro D Kd W ⟨⟨⟨h0, h1, h1f⟩, hB⟩, _, hq⟩ _ _ hD hK
    have HRES : Hid (sameL l l2 = true) := sameL_iff.2 ⟨HLE.out, hq⟩
    have HBWW := hid hB
    have hD' : w.heap.size ≤ D := by omega
    have HK' : Hid ((W.setCell ⟨w.heap.size + 1, 0, none⟩ (.bool true)).heap[D]? = some (.deferred (some []))) := (KeepsOthers.setCell W ⟨w.heap.size + 1, 0, none⟩ (.bool true)).same D _ hK rfl
    have hc5 := cell_kept (World.cell?_setCell_same' W ⟨w.heap.size + 1, 0, none⟩ (.bool true) (by rw [h1]; rfl)) (grownBy_putObj' _ D (.deferred none)) (fun r e => by cases e; exact ⟨_, HK'.out, rfl⟩)
    clear hB hK hq
    gi_wp2
    go_wp2
    refine ⟨by simp, .inl ⟨_, _, rfl, run_takeDeferred HK'.out, ?_⟩⟩
    refine ⟨.bool true, ?_, ?_, ?_⟩
    · simp [results, Tryz.f27, go_sem, hc5]
    · rw [HRES.out]
    · exact (HBWW.out.setCell (p := ⟨w.heap.size + 1, 0, none⟩) (by show w.heap.size ≤ w.heap.size + 1; omega) _).trans (belowK_b (w := w) (Nat.le_refl _) _ D _ _ hD' HK'.out rfl rfl)
  case stop =>
    rintro D cd pre K W hpre ⟨rfl, ⟨⟨h0, h1, h1f⟩, hB⟩, _, q, hqp, hqn⟩ _ _ hD hK
    have HRES : Hid (sameL l l2 = false) := sameL_one (hpre.subset hqp) hqn
    have HBWW := hid hB
    have hD' : w.heap.size ≤ D := by omega
    have HK' := hid hK
    have hc5 := cell_kept h1 (grownBy_putObj' _ D (.deferred none)) (fun r e => by cases e; exact ⟨_, HK'.out, rfl⟩)
    clear hB hK hqp hqn hpre
    gi_wp2
    go_wp2
    refine ⟨by simp, .inl ⟨_, _, rfl, run_takeDeferred HK'.out, ?_⟩⟩
    refine ⟨.bool false, ?_, ?_, ?_⟩
    · simp [results, Tryz.f27, go_sem, hc5]
    · rw [HRES.out]
    · exact HBWW.out.trans (belowK_b (w := w) (Nat.le_refl _) _ D _ _ hD' HK'.out rfl rfl)
theorem tsame_any (h : Tab w T p Q most o l) (h2 : Tab w T2 p2 Q2 most2 o2 l2) : Calls Tryz.prog 27 #[.pointer (some ⟨T, 0, none⟩), .pointer (some ⟨T2, 0, none⟩)] w fun e w' => e = .returned (.bool (sameL l l2)) ∧ Below w.heap.size w w' := by
  by_cases hl : l.length = l2.length
  · exact tsame_eq h h2 hl
  · rw [sameL_len hl]; exact tsame_no h h2 hl
end
end Go.Proofs.YtlnagdodnkhbmaaGreat
