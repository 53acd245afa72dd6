/- A table: New. -/
import Derived.Test.YtlnagdodnkhbmaaT11
namespace Go.Proofs.Ytlnagdodnkhbmaa
open Go.RowKit
set_option maxRecDepth 100000

/-- A new table's cells, while its trees are made. -/
def padT (most : Int) (T k : Nat) : Array Value := #[.int .i64 most, if 0 < k then ptr (T + 2) else .pointer none, if 1 < k then ptr (T + 4) else .pointer none, if 2 < k then ptr (T + 6) else .pointer none, if 3 < k then ptr (T + 8) else .pointer none, if 4 < k then ptr (T + 10) else .pointer none]
theorem padT_set (most : Int) (T : Nat) {k : Nat} (h : k < 5) : (padT most T k).set! (1 + k) (ptr (T + 2 + 2 * k)) = padT most T (k + 1) := by
  match k with
  | 0 => rfl
  | 1 => rfl
  | 2 => rfl
  | 3 => rfl
  | 4 => rfl
  | k + 5 => omega
theorem padT_at (most : Int) (T : Nat) {k : Nat} (h : k < 5) : (padT most T k)[1 + k]? = some (.pointer none) := by
  match k with
  | 0 => rfl
  | 1 => rfl
  | 2 => rfl
  | 3 => rfl
  | 4 => rfl
  | k + 5 => omega
structure NewRel (w : World) (most : Int) (o k : Nat) (wr : World) : Prop where
  size : wr.heap.size = w.heap.size + 1 + 2 * k
  below : Below w.heap.size w wr
  c : wr.heap[w.heap.size]? = some (.cells (padT most w.heap.size k) 72 (0, 0))
  t : ∀ j, j < k → TreeAt wr (w.heap.size + 2 + 2 * j) o [] (fun b => b = w.heap.size + 1 + 2 * j)
theorem NewRel.start (w : World) (most : Int) (o : Nat) : NewRel w most o 0 (w.alloc (.cells #[.int .i64 most, .pointer none, .pointer none, .pointer none, .pointer none, .pointer none] 72)) :=
  ⟨by simp, (Below.refl _ _).alloc (Nat.le_refl _) _, heap_alloc_new w _, fun j h => by omega⟩
theorem NewRel.step {w wr w' : World} {most : Int} {o k : Nat} {g : Nat} {t : T} (h : NewRel w most o k wr) (hk : k < 5) (hb : Below wr.heap.size wr w') (hs : w'.heap.size = wr.heap.size + 2) (ht : TreeIn w' (wr.heap.size + 1) o [] (fun b => b = wr.heap.size) 0 g t) :
    NewRel w most o (k + 1) (w'.setCell ⟨w.heap.size, 1 + k, none⟩ (.pointer (some ⟨wr.heap.size + 1, 0, none⟩))) := by
  have h1 := h.size
  have hc : w'.heap[w.heap.size]? = some (.cells (padT most w.heap.size k) 72 (0, 0)) := (hb.block _ (by omega)).trans h.c
  have hk1 : ∀ b, b ≠ w.heap.size → (w'.setCell ⟨w.heap.size, 1 + k, none⟩ (.pointer (some ⟨wr.heap.size + 1, 0, none⟩))).heap[b]? = w'.heap[b]? := fun b hne => Below.heap_setCell _ _ _ _ hne
  have hsz : (w'.setCell ⟨w.heap.size, 1 + k, none⟩ (.pointer (some ⟨wr.heap.size + 1, 0, none⟩))).heap.size = w'.heap.size := by simp [World.setCell]
  refine ⟨by rw [hsz]; omega, (h.below.trans (hb.mono h.below.size)).setCell (p := ⟨w.heap.size, 1 + k, none⟩) (Nat.le_refl _) _, ?_, fun j hj => ?_⟩
  · rw [setCell_row hc, ← padT_set most w.heap.size hk]
    rw [show wr.heap.size + 1 = w.heap.size + 2 + 2 * k by omega]; rfl
  · by_cases e : j = k
    · subst e
      have ht2 : TreeAt w' (wr.heap.size + 1) o [] (fun b => b = wr.heap.size) := ⟨_, _, _, ht⟩
      rw [show wr.heap.size + 1 = w.heap.size + 2 + 2 * j by omega, show wr.heap.size = w.heap.size + 1 + 2 * j by omega] at ht2
      exact ht2.keep (hk1 _ (by omega)) (fun b hb => hk1 b (by omega)) (by omega)
    · have h2 := (h.t j (by omega)).below hb
      exact h2.keep (hk1 _ (by omega)) (fun b hb => hk1 b (by omega)) (by omega)
theorem NewRel.tab {w wr : World} {most o : Nat} (h : NewRel w most o 5 wr) (hm : most ≤ 1024) : Tab wr w.heap.size (fun i => w.heap.size + 2 + 2 * i) (fun b => ∃ j, j < 5 ∧ b = w.heap.size + 1 + 2 * j) most o [] := by
  have hs := h.size
  refine ⟨fun _ => [], ⟨h.c, fun i hi => (h.t i hi).mono (fun b hb => ⟨i, hi, hb⟩) (fun b hb => ?_) ?_, fun i j _ _ e => ?_, fun i _ => ?_⟩, TOk.nil, Nat.zero_le _, hm⟩
  · obtain ⟨j, hj, rfl⟩ := hb; omega
  · rintro ⟨j, hj, e⟩; omega
  · have e' : w.heap.size + 2 + 2 * i = w.heap.size + 2 + 2 * j := e
    omega
  · show ¬ (w.heap.size + 2 + 2 * i = w.heap.size)
    omega
theorem tnew_range (w : World) (m : Int) (o : Int) (h : m < 1 ∨ (1 ≤ m ∧ 1024 < m)) : Calls Try.prog 28 #[.int .i64 m, .int .i64 o] w fun e w' => e = .returned (.tuple #[.pointer none, .int .i64 23]) ∧ Below w.heap.size w w' := by
  rcases h with h | ⟨h, h'⟩
  · go_enter Try.func28, Try.ntmps28
    go_wp2
    go_ret2
    exact ⟨rfl, Below.refl _ _⟩
  · have h2 : ¬ m < 1 := by omega
    go_enter Try.func28, Try.ntmps28
    go_wp2
    go_ret2
    exact ⟨rfl, Below.refl _ _⟩
theorem tnew_order (w : World) (most : Nat) (h1 : 1 ≤ most) (h2 : most ≤ 1024) (o : Int) (ho : o < 2 ∨ 16 < o) : Calls Try.prog 28 #[.int .i64 (most : Int), .int .i64 o] w fun e w' => e = .returned (.tuple #[.pointer none, .int .i64 23]) ∧ Below w.heap.size w w' := by
  have hi1 : ¬ (most : Int) < 1 := by omega
  have hi2 : ¬ (1024 : Int) < most := by omega
  have HN := hid (NewRel.start w (most : Int) 2)
  go_enter Try.func28, Try.ntmps28
  go_wp2
  go_loopw [19] (fun i wr => i = .int .i64 0 ∧ wr = w.alloc (.cells #[.int .i64 (most : Int), .pointer none, .pointer none, .pointer none, .pointer none, .pointer none] 72)) (fun i _ => 0)
  case atStart => exact ⟨rfl, rfl⟩
  case round =>
    obtain ⟨rfl, rfl⟩ := hrel
    go_wp2_with fail
    refine (tree_new_bad _ o ho).mono ?_
    rintro e w' ⟨rfl, rfl⟩
    go_wp2
    go_ret2
    exact ⟨rfl, HN.out.below⟩
def NewEnd (w : World) (most o : Nat) (e : Ending) (w' : World) : Prop :=
  e = .returned (.tuple #[.pointer (some ⟨w.heap.size, 0, none⟩), .int .i64 0]) ∧ Below w.heap.size w w' ∧ ∃ p Q, Tab w' w.heap.size p Q most o [] ∧ (∀ i, i < 5 → w.heap.size < p i) ∧ ∀ b, Q b → w.heap.size < b
theorem tnew (w : World) (most o : Nat) (h1 : 1 ≤ most) (h2 : most ≤ 1024) (ho2 : 2 ≤ o) (ho16 : o ≤ 16) : Calls Try.prog 28 #[.int .i64 (most : Int), .int .i64 (o : Int)] w (NewEnd w most o) := by
  have hi1 : ¬ (most : Int) < 1 := by omega
  have hi2 : ¬ (1024 : Int) < most := by omega
  have HN := hid (NewRel.start w (most : Int) o)
  go_enter Try.func28, Try.ntmps28
  go_wp2
  go_loopw [19] (fun i wr => ∃ k : Nat, k ≤ 5 ∧ i = .int .i64 k ∧ NewRel w (most : Int) o k wr) (fun i _ => 5 - (intOf i).toNat)
  case atStart => exact ⟨0, by omega, rfl, HN.out⟩
  case round =>
    obtain ⟨k, hk, rfl, hrl⟩ := hrel
    have HR := hid hrl
    by_cases hlt : k < 5
    · have hlti : (k : Int) < 5 := by omega
      have hk0 : (0 : Int) ≤ (k : Int) := by omega
      clear hrl
      go_wp2_with fail
      refine (tree_new wr o ho2 ho16).mono ?_
      rintro e w' ⟨rfl, hb, hs, ht⟩
      have hc : w'.heap[w.heap.size]? = some (.cells (padT (most : Int) w.heap.size k) 72 (0, 0)) := (hb.block _ (by have := HR.out.size; omega)).trans HR.out.c
      have q0 : w'.cell? ⟨w.heap.size, 1 + k, none⟩ = some (.pointer none) := (cell_of_row _ _ _ _ _ _ hc).trans (padT_at _ _ hlt)
      have qf : w'.frozen? ⟨w.heap.size, 1 + k, none⟩ = false := by simp [World.frozen?, hc]
      have HS := hid (HR.out.step hlt hb hs ht)
      clear hb hs ht hc
      go_wp2
      go_roundw
      case rel => exact ⟨k + 1, by omega, by go_num, HS.out⟩
      case measure => simp [intOf]; omega
    · obtain rfl : k = 5 := by omega
      go_wp2
      go_ret2
      exact ⟨rfl, HR.out.below, _, _, HR.out.tab h2, fun i _ => by show w.heap.size < w.heap.size + 2 + 2 * i; omega, fun b hb => by obtain ⟨j, _, rfl⟩ := hb; omega⟩
end Go.Proofs.Ytlnagdodnkhbmaa
