/- Which rows a range of a column's values has: by value, then by key. No program but Find's call. -/
import Derived.Test.YtlnagdodnkhbmaaT17
namespace Go.Proofs.Ytlnagdodnkhbmaa
open Go.RowKit
set_option maxRecDepth 100000

theorem rising_ext : ∀ {A B : List Pr}, Rising A → Rising B → (∀ q, q ∈ A ↔ q ∈ B) → A = B
  | [], [], _, _, _ => rfl
  | [], b :: B, _, _, h => by have := (h b).2 List.mem_cons_self; cases this
  | a :: A, [], _, _, h => by have := (h a).1 List.mem_cons_self; cases this
  | a :: A, b :: B, hA, hB, h => by
    unfold Rising at hA hB
    rw [List.pairwise_cons] at hA hB
    have e : a = b := by
      rcases List.mem_cons.1 ((h a).1 List.mem_cons_self) with e | h1
      · exact e
      rcases List.mem_cons.1 ((h b).2 List.mem_cons_self) with e | h2
      · exact e.symm
      exact absurd (List.lt_trans (hB.1 a h1) (hA.1 b h2)) (List.lt_irrefl _)
    subst e
    congr 1
    refine rising_ext hA.2 hB.2 fun q => ⟨fun hq => ?_, fun hq => ?_⟩
    · rcases List.mem_cons.1 ((h q).1 (List.mem_cons_of_mem _ hq)) with e | h1
      · subst e; exact absurd (hA.1 _ hq) (List.lt_irrefl _)
      · exact h1
    · rcases List.mem_cons.1 ((h q).2 (List.mem_cons_of_mem _ hq)) with e | h1
      · subst e; exact absurd (hB.1 _ hq) (List.lt_irrefl _)
      · exact h1
theorem getL_free {l : List Pr} {k : List Nat} (h : ∀ q ∈ l, q.1 ≠ k) : getL l k = none := by
  cases hg : getL l k with
  | none => rfl
  | some v => exact absurd rfl (h _ (List.mem_of_getElem? (getL_some hg)))

/-- Is a row's value within? -/
def inR (c : Nat) (lo hi : Int) (q : KR) : Bool := decide (lo ≤ q.2.at c) && decide (q.2.at c ≤ hi)
/-- The place of a row among rows by their values, then keys; with it. -/
def posC (c : Nat) (F : List KR) (x : KR) : Nat := atN (F.map (entC c)) (entB (x.2.at c) x.1)
def insC (c : Nat) (F : List KR) (x : KR) : List KR := F.take (posC c F x) ++ [x] ++ F.drop (posC c F x)
theorem insC_perm (c : Nat) (F : List KR) (x : KR) : (insC c F x).Perm (x :: F) := by
  unfold insC
  refine (mid_perm _ _ _).trans ?_
  rw [List.take_append_drop]
theorem insC_map {c : Nat} {F : List KR} {x : KR} (h : ∀ q ∈ F, q.1 ≠ x.1) : (insC c F x).map (entC c) = putL (F.map (entC c)) (entB (x.2.at c) x.1) [] := by
  unfold insC putL
  rw [getL_free (l := F.map (entC c)) (fun q hq => ?_), if_neg (by simp), List.map_append, List.map_append, List.map_take, List.map_drop]
  · rfl
  · obtain ⟨y, hy, rfl⟩ := List.mem_map.1 hq
    intro e
    exact h y hy (entB_key e)
/-- The rows of a range of values, in order. -/
def tellK (c : Nat) (lo hi : Int) (l : List KR) : List KR := (l.filter (inR c lo hi)).foldl (insC c) []
theorem tell_fold (c : Nat) : ∀ (M F : List KR), Rising (F.map (entC c)) → (∀ q ∈ F, ∀ y ∈ M, q.1 ≠ y.1) → M.Pairwise (fun a b => a.1 ≠ b.1) → Rising ((M.foldl (insC c) F).map (entC c)) ∧ (M.foldl (insC c) F).Perm (M ++ F)
  | [], F, h, _, _ => ⟨h, List.Perm.refl _⟩
  | x :: M, F, h, hd, hp => by
    have hp' := List.pairwise_cons.1 hp
    have h1 : ∀ q ∈ F, q.1 ≠ x.1 := fun q hq => hd q hq x List.mem_cons_self
    have h2 := insC_perm c F x
    obtain ⟨h3, h4⟩ := tell_fold c M (insC c F x) (by rw [insC_map h1]; exact putL_rising h _ _) (fun q hq y hy => by
      rcases List.mem_cons.1 (h2.mem_iff.1 hq) with rfl | hq
      · exact hp'.1 y hy
      · exact hd q hq y (List.mem_cons_of_mem _ hy)) hp'.2
    refine ⟨h3, h4.trans ?_⟩
    refine ((List.Perm.refl M).append h2).trans ?_
    rw [List.cons_append]
    exact List.perm_middle
theorem RowsOk.diff {l : List KR} (h : RowsOk l) : l.Pairwise (fun a b => a.1 ≠ b.1) := h.rise.imp fun {a b} hab => fun e => by rw [e] at hab; exact List.lt_irrefl _ hab
theorem tellK_ok {l : List KR} (h : RowsOk l) (c : Nat) (lo hi : Int) : Rising ((tellK c lo hi l).map (entC c)) ∧ (tellK c lo hi l).Perm (l.filter (inR c lo hi)) := by
  obtain ⟨h1, h2⟩ := tell_fold c (l.filter (inR c lo hi)) [] List.Pairwise.nil (by simp) (h.diff.sublist List.filter_sublist)
  exact ⟨h1, by rwa [List.append_nil] at h2⟩
theorem tellK_mem {l : List KR} (h : RowsOk l) {c : Nat} {lo hi : Int} {q : KR} : q ∈ tellK c lo hi l ↔ q ∈ l ∧ lo ≤ q.2.at c ∧ q.2.at c ≤ hi := by
  rw [(tellK_ok h c lo hi).2.mem_iff, List.mem_filter]
  simp [inR]
theorem tellK_len {l : List KR} (h : RowsOk l) (c : Nat) (lo hi : Int) : (tellK c lo hi l).length ≤ l.length := by
  rw [(tellK_ok h c lo hi).2.length_eq]
  exact List.length_filter_le _ _
theorem entB_lo {x lo : Int} (hx : I64 x) (hl : I64 lo) (k : List Nat) : entB x k < wv lo ↔ x < lo := by
  have := wv_lt hx hl k []
  rw [List.append_nil] at this
  unfold entB
  rw [this]
  constructor
  · rintro (h | ⟨_, h⟩)
    · exact h
    · exact absurd h (List.not_lt_nil _)
  · exact .inl
theorem seq_mem {I : List Pr} (_hr : Rising I) {hi : List Nat} {j : Nat} {q : Pr} : q ∈ seq I hi j ↔ ∃ i, I[i]? = some q ∧ j ≤ i ∧ i < endN I hi := by
  constructor
  · intro h
    obtain ⟨k, hk⟩ := List.getElem?_of_mem h
    rw [seq_at] at hk
    split at hk
    · exact ⟨j + k, hk, by omega, by assumption⟩
    · cases hk
  · rintro ⟨i, hi', h1, h2⟩
    have : (seq I hi j)[i - j]? = some q := by
      rw [seq_at, show j + (i - j) = i by omega, if_pos h2]; exact hi'
    exact List.mem_of_getElem? this
theorem seq_tell {c : Nat} {l : List KR} {I : List Pr} (h : Idx c l I) (hl : RowsOk l) (hc : c < 4) {lo hi : Int} (hlo : I64 lo) (hhi : I64 hi) : seq I (toB hi) (atN I (wv lo)) = (tellK c lo hi l).map (entC c) := by
  have hsub : (seq I (toB hi) (atN I (wv lo))).Sublist I := by
    unfold seq
    exact (List.drop_sublist _ _).trans (List.take_sublist _ _)
  refine rising_ext (rising_sub h.rise hsub) (tellK_ok hl c lo hi).1 fun q => ?_
  rw [seq_mem h.rise, List.mem_map]
  constructor
  · rintro ⟨i, hq, h1, h2⟩
    obtain ⟨x, hx, rfl⟩ := h.mem.1 (List.mem_of_getElem? hq)
    have hxo := (hl.ok x hx).at hc
    refine ⟨x, (tellK_mem hl).2 ⟨hx, ?_, ?_⟩, rfl⟩
    · have h3 := (atN_iff (k := wv lo) h.rise hq)
      have h4 : ¬ entB (x.2.at c) x.1 < wv lo := fun h5 => by have := h3.1 h5; omega
      rw [entB_lo hxo hlo] at h4
      omega
    · unfold endN at h2
      unfold toB at h2
      by_cases e : hi = 9223372036854775807
      · have := hxo.2; omega
      · rw [if_neg e, if_neg (fun e' => by have := congrArg List.length e'; rw [wv_len] at this; simp at this)] at h2
        have h3 := (atN_iff (k := wv (hi + 1)) h.rise hq).2 h2
        have h4 := (entB_lo hxo (lo := hi + 1) ⟨by have := hhi.1; omega, by have := hhi.2; omega⟩ x.1).1 h3
        omega
  · rintro ⟨x, hx, rfl⟩
    obtain ⟨hm, h1, h2⟩ := (tellK_mem hl).1 hx
    have hxo := (hl.ok x hm).at hc
    obtain ⟨i, hi'⟩ := List.getElem?_of_mem (h.mem.2 ⟨x, hm, rfl⟩)
    refine ⟨i, hi', ?_, ?_⟩
    · have h3 := (atN_iff (k := wv lo) h.rise hi')
      have h4 : ¬ i < atN I (wv lo) := fun h5 => by
        have h6 := (entB_lo hxo hlo x.1).1 (h3.2 h5)
        omega
      omega
    · unfold endN toB
      by_cases e : hi = 9223372036854775807
      · rw [if_pos e, if_pos rfl]; exact (List.getElem?_eq_some_iff.1 hi').1
      · rw [if_neg e, if_neg (fun e' => by have := congrArg List.length e'; rw [wv_len] at this; simp at this)]
        refine (atN_iff (k := wv (hi + 1)) h.rise hi').1 ?_
        exact (entB_lo hxo (lo := hi + 1) ⟨by have := hhi.1; omega, by have := hhi.2; omega⟩ x.1).2 (by omega)
/-- What Find tells. -/
def findL (c : Nat) (lo hi : Int) (m : Nat) (l : List KR) : List (List Nat) := ((tellK c lo hi l).map Prod.fst).take m
theorem findK_findL {c : Nat} {l : List KR} {I : List Pr} (h : Idx c l I) (hl : RowsOk l) (hc : c < 4) {lo hi : Int} (hlo : I64 lo) (hhi : I64 hi) (m : Nat) : findK I lo hi m = findL c lo hi m l := by
  unfold findK findL
  rw [seq_tell h hl hc hlo hhi]
  unfold keysOf
  rw [List.map_map]
  congr 2
theorem tfind {w : World} {T : Nat} {p : Nat → Nat} {Q : Bl} {most o : Nat} {l : List KR} (h : Tab w T p Q most o l) (c : Nat) (hc : c < 4) (lo hi : Int) (m : Nat) (hl : I64 lo) (hh : I64 hi) (hle : lo ≤ hi) (hm : m ≤ 9223372036854775807) :
    Calls Try.prog 15 #[.pointer (some ⟨T, 0, none⟩), .int .i64 (c : Int), .int .i64 lo, .int .i64 hi, .int .i64 (m : Int)] w (FindEnd w (findL c lo hi m l)) := by
  have hlen := h.le
  obtain ⟨J, hT, hok, _⟩ := h
  rw [← findK_findL (hok.idx c hc) hok.rows hc hl hh m]
  exact tfind_ok hT hok hlen c hc lo hi m hl hh hle hm
end Go.Proofs.Ytlnagdodnkhbmaa
