/- Calls of a table as what rows they leave: put, taken out, put again; two calls of two keys. No program. -/
import Derived.Test.YtlnagdodnkhbmaaT27
import Derived.Test.YtlnagdodnkhbmaaT13
namespace Go.Proofs.Ytlnagdodnkhbmaa
open Go.RowKit
set_option maxRecDepth 100000

theorem getK_iff {l : List KR} (h : RowsOk l) {k : List Nat} {r : Ro} : getK l k = some r ↔ (k, r) ∈ l := ⟨getK_mem, h.get⟩
theorem getK_none {l : List KR} (h : RowsOk l) {k : List Nat} : getK l k = none ↔ ∀ q ∈ l, q.1 ≠ k := by
  refine ⟨h.none_, fun hn => ?_⟩
  cases hg : getK l k with
  | none => rfl
  | some r => exact absurd rfl (hn _ (getK_mem hg))
theorem mem_delK {l : List KR} (h : RowsOk l) {k : List Nat} {s : Ro} (hg : getK l k = some s) {q : KR} : q ∈ delK l k ↔ q ∈ l ∧ q.1 ≠ k := by
  constructor
  · exact fun hq => ⟨delK_mem hq, h.gone hg q hq⟩
  · rintro ⟨hq, hn⟩
    rcases List.mem_cons.1 ((delK_perm hg).mem_iff.1 hq) with e | h1
    · rw [e] at hn; exact absurd rfl hn
    · exact h1
theorem mem_putK {l : List KR} (h : RowsOk l) (k : List Nat) (r : Ro) {q : KR} : q ∈ putK l k r ↔ q = (k, r) ∨ (q ∈ l ∧ q.1 ≠ k) := by
  cases hg : getK l k with
  | none =>
    rw [(putK_new hg r).mem_iff, List.mem_cons]
    have := h.none_ hg
    constructor
    · rintro (e | hq)
      · exact .inl e
      · exact .inr ⟨hq, this q hq⟩
    · rintro (e | hq)
      · exact .inl e
      · exact .inr hq.1
  | some s => rw [(putK_was hg r).mem_iff, List.mem_cons, mem_delK h hg]
theorem mem_kdelN {l : List KR} (h : RowsOk l) (k : List Nat) {q : KR} : q ∈ kdelN l k ↔ q ∈ l ∧ q.1 ≠ k := by
  unfold kdelN kgetE
  cases hk : keyB k with
  | false =>
    rw [if_neg (by simp)]
    refine ⟨fun hq => ⟨hq, fun e => ?_⟩, fun hq => hq.1⟩
    have := h.key q hq
    rw [e, hk] at this
    cases this
  | true =>
    cases hg : getK l k with
    | none =>
      rw [if_neg (by simp)]
      exact ⟨fun hq => ⟨hq, h.none_ hg q hq⟩, fun hq => hq.1⟩
    | some s =>
      rw [if_pos (by simp)]
      exact mem_delK h hg
theorem mem_kputN {l : List KR} (h : RowsOk l) {most : Nat} (k : List Nat) (r : Ro) (he : kputE most l k = 0) {q : KR} : q ∈ kputN most l k r ↔ q = (k, r) ∨ (q ∈ l ∧ q.1 ≠ k) := by
  unfold kputN
  rw [if_pos he, mem_putK h]
theorem kputE_room {l : List KR} {most : Nat} (hm : l.length < most) (k : List Nat) : kputE most l k = if keyB k = true then 0 else 13 := by
  unfold kputE
  split
  · split
    · rfl
    · rw [if_neg (by omega)]
  · rfl
theorem kputN_bad {l : List KR} {most : Nat} {k : List Nat} (hk : keyB k = false) (r : Ro) : kputN most l k r = l := by
  unfold kputN kputE
  rw [hk]
  rfl
theorem mem_stepK {l : List KR} (h : RowsOk l) {most : Nat} (hm : l.length < most) (o : Op7) {q : KR} : q ∈ stepK most l o ↔ (o.k = 0 ∧ keyB o.key = true ∧ q = (o.key, o.row)) ∨ (q ∈ l ∧ (q.1 = o.key → o.k ≠ 0 ∧ o.k ≠ 1)) := by
  unfold stepK
  by_cases h0 : o.k = 0
  · rw [if_pos h0]
    cases hk : keyB o.key with
    | false =>
      rw [kputN_bad hk]
      constructor
      · refine fun hq => .inr ⟨hq, fun e => ?_⟩
        have := h.key q hq
        rw [e, hk] at this
        cases this
      · rintro (⟨_, e, _⟩ | hq)
        · cases e
        · exact hq.1
    | true =>
      rw [mem_kputN h _ _ (by rw [kputE_room hm, hk]; rfl)]
      constructor
      · rintro (e | ⟨hq, hn⟩)
        · exact .inl ⟨h0, rfl, e⟩
        · exact .inr ⟨hq, fun e => absurd e hn⟩
      · rintro (⟨_, _, e⟩ | ⟨hq, hn⟩)
        · exact .inl e
        · exact .inr ⟨hq, fun e => (hn e).1 h0⟩
  · rw [if_neg h0]
    by_cases h1 : o.k = 1
    · rw [if_pos h1, mem_kdelN h]
      constructor
      · rintro ⟨hq, hn⟩
        exact .inr ⟨hq, fun e => absurd e hn⟩
      · rintro (⟨e, _⟩ | ⟨hq, hn⟩)
        · exact absurd e h0
        · exact ⟨hq, fun e => (hn e).2 h1⟩
    · rw [if_neg h1]
      constructor
      · exact fun hq => .inr ⟨hq, fun _ => ⟨h0, h1⟩⟩
      · rintro (⟨e, _⟩ | hq)
        · exact absurd e h0
        · exact hq.1
/-- Two calls of two keys. -/
theorem stepK_swap {l : List KR} (h : RowsOk l) {most : Nat} (hm : l.length + 2 ≤ most) {a b : Op7} (ha : a.Ok) (hb : b.Ok) (hne : a.key ≠ b.key) : stepK most (stepK most l a) b = stepK most (stepK most l b) a := by
  have h1 := stepK_ok h most ha
  have h2 := stepK_ok h most hb
  have l1 := stepK_len most l a
  have l2 := stepK_len most l b
  refine rows_ext (stepK_ok h1 most hb) (stepK_ok h2 most ha) fun q => ?_
  rw [mem_stepK h1 (by omega), mem_stepK h2 (by omega), mem_stepK h (by omega), mem_stepK h (by omega)]
  constructor
  · rintro (⟨x, y, rfl⟩ | ⟨⟨x, y, rfl⟩ | ⟨x, y⟩, z⟩)
    · exact .inr ⟨.inl ⟨x, y, rfl⟩, fun e => absurd e.symm hne⟩
    · exact .inl ⟨x, y, rfl⟩
    · exact .inr ⟨.inr ⟨x, z⟩, y⟩
  · rintro (⟨x, y, rfl⟩ | ⟨⟨x, y, rfl⟩ | ⟨x, y⟩, z⟩)
    · exact .inr ⟨.inl ⟨x, y, rfl⟩, fun e => absurd e hne⟩
    · exact .inl ⟨x, y, rfl⟩
    · exact .inr ⟨.inr ⟨x, z⟩, y⟩
/-- What another key has stays. -/
theorem getK_step {l : List KR} (h : RowsOk l) {most : Nat} (hm : l.length < most) {o : Op7} (ho : o.Ok) {k : List Nat} (hne : k ≠ o.key) : getK (stepK most l o) k = getK l k := by
  have h1 := stepK_ok h most ho
  have key : ∀ r, (k, r) ∈ stepK most l o ↔ (k, r) ∈ l := fun r => by
    rw [mem_stepK h hm]
    constructor
    · rintro (⟨_, _, e⟩ | hq)
      · exact absurd (congrArg Prod.fst e) hne
      · exact hq.1
    · exact fun hq => .inr ⟨hq, fun e => absurd e hne⟩
  cases hg : getK l k with
  | some r => exact (getK_iff h1).2 ((key r).2 (getK_mem hg))
  | none =>
    cases hs : getK (stepK most l o) k with
    | none => rfl
    | some r => rw [(getK_iff h).2 ((key r).1 (getK_mem hs))] at hg; cases hg
theorem kgetR_step {l : List KR} (h : RowsOk l) {most : Nat} (hm : l.length < most) {o : Op7} (ho : o.Ok) {k : List Nat} (hne : k ≠ o.key) : kgetR (stepK most l o) k = kgetR l k := by
  unfold kgetR; rw [getK_step h hm ho hne]
theorem kgetE_step {l : List KR} (h : RowsOk l) {most : Nat} (hm : l.length < most) {o : Op7} (ho : o.Ok) {k : List Nat} (hne : k ≠ o.key) : kgetE (stepK most l o) k = kgetE l k := by
  unfold kgetE; rw [getK_step h hm ho hne]
theorem kputW_step {l : List KR} (h : RowsOk l) {most : Nat} (hm : l.length < most) {o : Op7} (ho : o.Ok) {k : List Nat} (hne : k ≠ o.key) : kputW (stepK most l o) k = kputW l k := by
  unfold kputW; rw [getK_step h hm ho hne]
theorem kputE_step {l : List KR} {most : Nat} (hm : l.length + 2 ≤ most) (o : Op7) (k : List Nat) : kputE most (stepK most l o) k = kputE most l k := by
  have := stepK_len most l o
  rw [kputE_room (by omega), kputE_room (by omega)]

/-- Put that is refused. -/
theorem put_refused {l : List KR} {most : Nat} {k : List Nat} (he : kputE most l k ≠ 0) (r : Ro) : kputN most l k r = l ∧ kgetR l k = zero4 ∧ kputW l k = false := by
  unfold kputE at he
  cases hk : keyB k with
  | false =>
    refine ⟨kputN_bad hk r, ?_, ?_⟩
    · unfold kgetR; rw [hk]; rfl
    · unfold kputW; rw [hk]; rfl
  | true =>
    rw [if_pos hk] at he
    cases hg : getK l k with
    | some s => rw [hg] at he; exact absurd rfl he
    | none =>
      rw [hg] at he
      refine ⟨?_, ?_, ?_⟩
      · unfold kputN kputE
        rw [if_pos hk, hg]
        exact if_neg he
      · unfold kgetR; rw [hg]; simp
      · unfold kputW; rw [hg]; simp
theorem put_key {l : List KR} {most : Nat} {k : List Nat} (he : kputE most l k = 0) : keyB k = true := by
  unfold kputE at he
  cases hk : keyB k with
  | true => rfl
  | false => rw [hk] at he; simp at he
/-- What was put is there. -/
theorem getK_put {l : List KR} (h : RowsOk l) {most : Nat} {k : List Nat} (hb : Byt k) {r : Ro} (hr : r.ok) (he : kputE most l k = 0) : getK (kputN most l k r) k = some r := by
  refine (getK_iff (h.kput most hb hr)).2 ?_
  exact (mem_kputN h k r he).2 (.inl rfl)
theorem kget_put {l : List KR} (h : RowsOk l) {most : Nat} {k : List Nat} (hb : Byt k) {r : Ro} (hr : r.ok) (he : kputE most l k = 0) : kgetR (kputN most l k r) k = r ∧ kgetE (kputN most l k r) k = 0 := by
  unfold kgetR kgetE
  rw [getK_put h hb hr he, put_key he]
  exact ⟨rfl, rfl⟩
/-- Taken out again, if it was not there. -/
theorem back_new {l : List KR} (h : RowsOk l) {most : Nat} {k : List Nat} (hb : Byt k) {r : Ro} (hr : r.ok) (he : kputE most l k = 0) (hg : getK l k = none) : kdelN (kputN most l k r) k = l := by
  refine rows_ext ((h.kput most hb hr).kdel k) h fun q => ?_
  rw [mem_kdelN (h.kput most hb hr), mem_kputN h k r he]
  have := h.none_ hg
  constructor
  · rintro ⟨e | hq, hn⟩
    · rw [e] at hn; exact absurd rfl hn
    · exact hq.1
  · exact fun hq => ⟨.inr ⟨hq, this q hq⟩, this q hq⟩
theorem kdelN_lt {l : List KR} {k : List Nat} {r : Ro} (hk : keyB k = true) (hg : getK l k = some r) : (kdelN l k).length + 1 = l.length := by
  unfold kdelN kgetE
  rw [hk, hg]
  exact delK_len hg
theorem back_was {l : List KR} (h : RowsOk l) {most : Nat} (hm : l.length ≤ most) {k : List Nat} (hb : Byt k) {r s : Ro} (hr : r.ok) (he : kputE most l k = 0) (hg : getK l k = some s) : kputE most (kdelN (kputN most l k r) k) k = 0 ∧ kputN most (kdelN (kputN most l k r) k) k s = l := by
  have hk := put_key he
  have h1 := h.kput most hb hr
  have h2 := h1.kdel k
  have hlen := kdelN_lt hk (getK_put h hb hr he)
  have hm1 := kputN_most hm k r
  have e0 : kputE most (kdelN (kputN most l k r) k) k = 0 := by rw [kputE_room (by omega), hk]; rfl
  have hs : s.ok := h.ok _ (getK_mem hg)
  refine ⟨e0, rows_ext (h2.kput most hb hs) h fun q => ?_⟩
  rw [mem_kputN h2 k s e0, mem_kdelN h1, mem_kputN h k r he]
  constructor
  · rintro (e | ⟨⟨e | hq, _⟩, hn⟩)
    · rw [e]; exact getK_mem hg
    · rw [e] at hn; exact absurd rfl hn
    · exact hq.1
  · intro hq
    by_cases e : q.1 = k
    · left
      have h3 := h.get (k := q.1) (r := q.2) hq
      rw [e, hg] at h3
      exact Prod.ext e (by injection h3 with h3; exact h3.symm)
    · exact .inr ⟨⟨.inr ⟨hq, e⟩, e⟩, e⟩
/-- Which keys Find tells of one value. -/
theorem findL_one {l : List KR} (h : RowsOk l) (hl : l.length ≤ 1024) (c : Nat) (x : Int) {k : List Nat} : k ∈ findL c x x 2000 l ↔ ∃ r, (k, r) ∈ l ∧ r.at c = x := by
  have hlen := tellK_len h c x x
  unfold findL
  rw [List.take_of_length_le (by rw [List.length_map]; omega), List.mem_map]
  constructor
  · rintro ⟨q, hq, rfl⟩
    obtain ⟨h1, h2, h3⟩ := (tellK_mem h).1 hq
    exact ⟨q.2, h1, by omega⟩
  · rintro ⟨r, hr, e⟩
    exact ⟨(k, r), (tellK_mem h).2 ⟨hr, by show x ≤ r.at c; omega, by show r.at c ≤ x; omega⟩, rfl⟩
end Go.Proofs.Ytlnagdodnkhbmaa
