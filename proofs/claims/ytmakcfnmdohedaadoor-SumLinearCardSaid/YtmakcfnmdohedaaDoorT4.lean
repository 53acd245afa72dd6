import Derived.Test.YtmakcfnmdohedaaDoorT3
import Derived.Deep.QuietTactic
import Derived.BigQuiet
namespace Go.Proofs.YtmakcfnmdohedaaDoor
open Go.RowKit

def eqB (a b : List Nat) : Bool := decide (a = b)
theorem take_snoc_eq {xs ys : List Nat} {k x : Nat} (h : xs.take k = ys.take k) (hx : xs[k]? = some x) (hy : ys[k]? = some x) : xs.take (k + 1) = ys.take (k + 1) := by
  rw [List.take_add_one, List.take_add_one, hx, hy, h]
theorem eqB_no {a b : List Nat} (h : a.length ≠ b.length) : eqB a b = false := by
  unfold eqB; simp; intro e; exact h (by rw [e])
theorem eqB_at {a b : List Nat} {k x y : Nat} (hx : a[k]? = some x) (hy : b[k]? = some y) (h : x ≠ y) : eqB a b = false := by
  unfold eqB; simp; intro e; rw [e, hy] at hx; injection hx with hx; exact h hx.symm

set_option maxHeartbeats 400000 in
theorem bytes_any (w : World) (u v : Value) (xs ys : List Nat) (hs : Sl .u8 w u xs) (ht : Sl .u8 w v ys) :
    Calls Tryd.prog 15 #[u, v] w fun e w' => e = .returned (.bool (eqB xs ys)) ∧ Below w.heap.size w w' := by
  obtain ⟨A, cap, rfl, hlc, hm, _, hc⟩ := hs
  obtain ⟨B, cap', rfl, hlc', hm', _, hc'⟩ := ht
  obtain ⟨len, HL⟩ : ∃ len, Hid (len = xs.length) := ⟨_, rfl⟩
  obtain ⟨len', HL'⟩ : ∃ len, Hid (len = ys.length) := ⟨_, rfl⟩
  rw [← HL.out] at hlc ⊢
  rw [← HL'.out] at hlc' ⊢
  unfold maxLen at hm hm'
  have hn : len ≤ 9223372036854775807 := by omega
  have hn' : len' ≤ 9223372036854775807 := by omega
  by_cases hl : len = len'
  · subst hl
    go_enter Tryd.func15, Tryd.ntmps15
    go_wp2
    go_loopw [5] (fun i wr => ∃ k : Nat, k ≤ len ∧ i = .int .i64 k ∧ Hid (xs.take k = ys.take k) ∧ ∃ n, wr = w.drewN n) (fun i _ => len - (intOf i).toNat)
    case atStart => exact ⟨0, by omega, rfl, rfl, 0, rfl⟩
    case round =>
      obtain ⟨k, hk, rfl, HE, n, rfl⟩ := hrel
      by_cases hlt : k < len
      · obtain ⟨x, hx⟩ : ∃ b, xs[k]? = some b := ⟨xs[k]'(by have := HL.out; omega), List.getElem?_eq_getElem _⟩
        obtain ⟨y, hy⟩ : ∃ b, ys[k]? = some b := ⟨ys[k]'(by have := HL'.out; omega), List.getElem?_eq_getElem _⟩
        obtain ⟨ad, rfl, hcell⟩ := hc k x hx
        obtain ⟨ad', rfl, hcell'⟩ := hc' k y hy
        have HX := hid hx
        have HY := hid hy
        clear hc hc' hx hy
        by_cases hxy : x = y
        · go_wp2
          go_quiet (fail)
          go_wp2
          go_roundw
          case rel => exact ⟨k + 1, by omega, by go_num, take_snoc_eq HE.out HX.out (hxy ▸ HY.out), _, rfl⟩
          case measure => simp [intOf]; omega
        · go_wp2
          go_quiet (fail)
          go_wp2
          go_ret
          exact ⟨ret_bool (eqB_at HX.out HY.out hxy).symm, below_drewN' (below_drewN' (Below.refl _ _) _) _⟩
      · go_wp2
        go_ret
        exact ⟨ret_bool (by
          have h1 := HE.out
          rw [List.take_of_length_le (by have := HL.out; omega), List.take_of_length_le (by have := HL'.out; omega)] at h1
          subst h1; simp [eqB]), below_drewN' (Below.refl _ _) _⟩
  · go_enter Tryd.func15, Tryd.ntmps15
    go_wp2
    go_ret
    exact ⟨ret_bool (eqB_no (by rw [← HL.out, ← HL'.out]; exact hl)).symm, Below.refl _ _⟩
end Go.Proofs.YtmakcfnmdohedaaDoor
