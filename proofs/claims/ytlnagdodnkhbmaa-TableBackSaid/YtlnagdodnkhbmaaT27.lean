/- Ranges of values that lie one behind the other; rows by value, then key. No program. -/
import Derived.Test.YtlnagdodnkhbmaaT18
namespace Go.Proofs.Ytlnagdodnkhbmaa
open Go.RowKit
set_option maxRecDepth 100000

theorem entB_between {x y : Int} (hx : I64 x) (hy : I64 y) (k m : List Nat) : entB x k < entB y m ↔ x < y ∨ (x = y ∧ k < m) := by
  unfold entB
  exact wv_lt hx hy k m
theorem keys_of_map (c : Nat) (M : List KR) : M.map Prod.fst = (M.map (entC c)).map fun q => q.1.drop 8 := by
  rw [List.map_map]
  refine List.map_congr_left fun q _ => ?_
  show q.1 = (entB (q.2.at c) q.1).drop 8
  rw [entB_drop]
/-- A range of values, parted. -/
theorem tellK_part {l : List KR} (h : RowsOk l) {c : Nat} (hc : c < 4) {lo m hi : Int} (h1 : lo ≤ m + 1) (h2 : m ≤ hi) : (tellK c lo hi l).map Prod.fst = (tellK c lo m l).map Prod.fst ++ (tellK c (m + 1) hi l).map Prod.fst := by
  have e : (tellK c lo hi l).map (entC c) = (tellK c lo m l).map (entC c) ++ (tellK c (m + 1) hi l).map (entC c) := by
    refine rising_ext (tellK_ok h c lo hi).1 ?_ fun q => ?_
    · unfold Rising
      rw [List.pairwise_append]
      refine ⟨(tellK_ok h c lo m).1, (tellK_ok h c (m + 1) hi).1, fun a ha b hb => ?_⟩
      obtain ⟨x, hx, rfl⟩ := List.mem_map.1 ha
      obtain ⟨y, hy, rfl⟩ := List.mem_map.1 hb
      obtain ⟨x1, _, x3⟩ := (tellK_mem h).1 hx
      obtain ⟨y1, y2, _⟩ := (tellK_mem h).1 hy
      exact (entB_between ((h.ok x x1).at hc) ((h.ok y y1).at hc) _ _).2 (.inl (by omega))
    · rw [List.mem_append, List.mem_map, List.mem_map, List.mem_map]
      constructor
      · rintro ⟨x, hx, rfl⟩
        obtain ⟨x1, x2, x3⟩ := (tellK_mem h).1 hx
        by_cases h5 : m < x.2.at c
        · exact .inr ⟨x, (tellK_mem h).2 ⟨x1, by omega, x3⟩, rfl⟩
        · exact .inl ⟨x, (tellK_mem h).2 ⟨x1, x2, by omega⟩, rfl⟩
      · rintro (⟨x, hx, rfl⟩ | ⟨x, hx, rfl⟩)
        · obtain ⟨x1, x2, x3⟩ := (tellK_mem h).1 hx
          exact ⟨x, (tellK_mem h).2 ⟨x1, x2, by omega⟩, rfl⟩
        · obtain ⟨x1, x2, x3⟩ := (tellK_mem h).1 hx
          exact ⟨x, (tellK_mem h).2 ⟨x1, by omega, x3⟩, rfl⟩
  rw [keys_of_map c, keys_of_map c, keys_of_map c, e, List.map_append]
/-- All values. -/
theorem tellK_all {l : List KR} (h : RowsOk l) {c : Nat} (hc : c < 4) : (tellK c (-9223372036854775808) 9223372036854775807 l).length = l.length := by
  rw [(tellK_ok h c _ _).2.length_eq, List.filter_eq_self.2]
  intro q hq
  obtain ⟨a, b⟩ := (h.ok q hq).at hc
  unfold inR
  rw [decide_eq_true (by omega), decide_eq_true (by omega)]
  rfl
/-- Of two rows, one behind the other: the value rises, or is the same and the key rises. -/
theorem tellK_next {l : List KR} (h : RowsOk l) {c : Nat} (hc : c < 4) {lo hi : Int} {i : Nat} {q r : KR} (hq : (tellK c lo hi l)[i]? = some q) (hr : (tellK c lo hi l)[i + 1]? = some r) : q.2.at c < r.2.at c ∨ (q.2.at c = r.2.at c ∧ q.1 < r.1) := by
  have hp := (tellK_ok h c lo hi).1
  unfold Rising at hp
  rw [List.pairwise_map] at hp
  have hlt := (List.getElem?_eq_some_iff.1 hr).1
  have h1 := List.pairwise_iff_getElem.1 hp i (i + 1) (by omega) hlt (by omega)
  rw [(List.getElem?_eq_some_iff.1 hq).2, (List.getElem?_eq_some_iff.1 hr).2] at h1
  have q1 := ((tellK_mem h).1 (List.mem_of_getElem? hq)).1
  have r1 := ((tellK_mem h).1 (List.mem_of_getElem? hr)).1
  exact (entB_between ((h.ok q q1).at hc) ((h.ok r r1).at hc) _ _).1 h1
/-- Two lists of rows that have the same rows are the same. -/
theorem rows_ext {A B : List KR} (hA : RowsOk A) (hB : RowsOk B) (h : ∀ q, q ∈ A ↔ q ∈ B) : A = B := by
  have e : lines A = lines B := rising_ext hA.lines hB.lines fun q => by
    unfold lines
    rw [List.mem_map, List.mem_map]
    constructor
    · rintro ⟨x, hx, rfl⟩; exact ⟨x, (h x).1 hx, rfl⟩
    · rintro ⟨x, hx, rfl⟩; exact ⟨x, (h x).2 hx, rfl⟩
  have hk : A.map Prod.fst = B.map Prod.fst := by
    have := congrArg (List.map Prod.fst) e
    unfold lines at this
    rw [List.map_map, List.map_map] at this
    exact this
  refine List.ext_getElem? fun i => ?_
  have h1 := congrArg (fun L : List (List Nat) => L[i]?) hk
  simp only [List.getElem?_map] at h1
  cases ha : A[i]? with
  | none =>
    rw [ha] at h1
    cases hb : B[i]? with
    | none => rfl
    | some y => rw [hb] at h1; cases h1
  | some x =>
    rw [ha] at h1
    cases hb : B[i]? with
    | none => rw [hb] at h1; cases h1
    | some y =>
      rw [hb] at h1
      have hxy : x.1 = y.1 := by simpa using h1
      have hx := hB.get (k := x.1) (r := x.2) ((h x).1 (List.mem_of_getElem? ha))
      have hy := hB.get (k := y.1) (r := y.2) (List.mem_of_getElem? hb)
      rw [hxy, hy] at hx
      have h2 : y.2 = x.2 := by injection hx
      congr 1
      exact Prod.ext hxy h2.symm
end Go.Proofs.Ytlnagdodnkhbmaa
