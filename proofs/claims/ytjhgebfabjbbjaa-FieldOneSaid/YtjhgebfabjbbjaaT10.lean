import Derived.Test.YtjhgebfabjbbjaaT9
import Derived.Deep.QuietTactic
import Derived.BigQuiet
namespace Go.Proofs.Ytjhgebfabjbbjaa
open Go.RowKit

def eqB (a b : List Nat) : Bool := decide (a = b)
theorem take_snoc_eq {xs ys : List Nat} {k x : Nat} (h : xs.take k = ys.take k) (hx : xs[k]? = some x) (hy : ys[k]? = some x) : xs.take (k + 1) = ys.take (k + 1) := by
  rw [List.take_add_one, List.take_add_one, hx, hy, h]
theorem eqB_no {a b : List Nat} (h : a.length ≠ b.length) : eqB a b = false := by
  unfold eqB; simp; intro e; exact h (by rw [e])
theorem eqB_at {a b : List Nat} {k x y : Nat} (hx : a[k]? = some x) (hy : b[k]? = some y) (h : x ≠ y) : eqB a b = false := by
  unfold eqB; simp; intro e; rw [e, hy] at hx; injection hx with hx; exact h hx.symm

set_option maxHeartbeats 400000 in
theorem bytes_any (w : World) (u v : Value) (xs ys : List Nat) (hs : Sl .u8 w u xs) (ht : Sl .u8 w v ys) :
    Calls Try.prog 17 #[u, v] w fun e w' => e = .returned (.bool (eqB xs ys)) ∧ Below w.heap.size w w' := by
  obtain ⟨A, cap, rfl, hlc, hm, _, hc⟩ := hs
  obtain ⟨B, cap', rfl, hlc', hm', _, hc'⟩ := ht
  obtain ⟨len, HL⟩ : ∃ len, Hid (len = xs.length) := ⟨_, rfl⟩
  obtain ⟨len', HL'⟩ : ∃ len, Hid (len = ys.length) := ⟨_, rfl⟩
  rw [← HL.out] at hlc ⊢
  rw [← HL'.out] at hlc' ⊢
  unfold maxLen at hm hm'
  have hn : len ≤ 9223372036854775807 := by omega
  have hn' : len' ≤ 9223372036854775807 := by omega
  by_cases hl : len = len'
  · subst hl
    go_enter Try.func17, Try.ntmps17
    go_wp2
    go_loopw [5] (fun i wr => ∃ k : Nat, k ≤ len ∧ i = .int .i64 k ∧ Hid (xs.take k = ys.take k) ∧ ∃ n, wr = w.drewN n) (fun i _ => len - (intOf i).toNat)
    case atStart => exact ⟨0, by omega, rfl, rfl, 0, rfl⟩
    case round =>
      obtain ⟨k, hk, rfl, HE, n, rfl⟩ := hrel
      by_cases hlt : k < len
      · obtain ⟨x, hx⟩ : ∃ b, xs[k]? = some b := ⟨xs[k]'(by have := HL.out; omega), List.getElem?_eq_getElem _⟩
        obtain ⟨y, hy⟩ : ∃ b, ys[k]? = some b := ⟨ys[k]'(by have := HL'.out; omega), List.getElem?_eq_getElem _⟩
        obtain ⟨ad, rfl, hcell⟩ := hc k x hx
        obtain ⟨ad', rfl, hcell'⟩ := hc' k y hy
        have HX := hid hx
        have HY := hid hy
        clear hc hc' hx hy
        by_cases hxy : x = y
        · go_wp2
          go_quiet (fail)
          go_wp2
          go_roundw
          case rel => exact ⟨k + 1, by omega, by go_num, take_snoc_eq HE.out HX.out (hxy ▸ HY.out), _, rfl⟩
          case measure => simp [intOf]; omega
        · go_wp2
          go_quiet (fail)
          go_wp2
          go_ret
          exact ⟨ret_bool (eqB_at HX.out HY.out hxy).symm, below_drewN' (below_drewN' (Below.refl _ _) _) _⟩
      · go_wp2
        go_ret
        exact ⟨ret_bool (by
          have h1 := HE.out
          rw [List.take_of_length_le (by have := HL.out; omega), List.take_of_length_le (by have := HL'.out; omega)] at h1
          subst h1; simp [eqB]), below_drewN' (Below.refl _ _) _⟩
  · go_enter Try.func17, Try.ntmps17
    go_wp2
    go_ret
    exact ⟨ret_bool (eqB_no (by rw [← HL.out, ← HL'.out]; exact hl)).symm, Below.refl _ _⟩

/-- Do bytes begin with others? -/
def preB (xs ys : List Nat) : Bool := decide (ys <+: xs)
theorem preB_no {a b : List Nat} (h : a.length < b.length) : preB a b = false := by
  unfold preB; simp; intro e; have := e.length_le; omega
theorem preB_at {a b : List Nat} {k x y : Nat} (hx : a[k]? = some x) (hy : b[k]? = some y) (h : x ≠ y) : preB a b = false := by
  unfold preB; simp
  rintro ⟨c, rfl⟩
  rw [List.getElem?_append_left (List.getElem?_eq_some_iff.1 hy).1, hy] at hx
  injection hx with hx; exact h hx.symm
theorem preB_yes {a b : List Nat} (h : a.take b.length = b) : preB a b = true := by
  unfold preB; simp
  rw [← h]; exact List.take_prefix _ _

set_option maxHeartbeats 400000 in
theorem same_any (w : World) (u v : Value) (xs ys : List Nat) (hs : Sl .u8 w u xs) (ht : Sl .u8 w v ys) :
    Calls Try.prog 28 #[u, v] w fun e w' => e = .returned (.bool (preB xs ys)) ∧ Below w.heap.size w w' := by
  obtain ⟨A, cap, rfl, hlc, hm, _, hc⟩ := hs
  obtain ⟨B, cap', rfl, hlc', hm', _, hc'⟩ := ht
  obtain ⟨len, HL⟩ : ∃ len, Hid (len = xs.length) := ⟨_, rfl⟩
  obtain ⟨len', HL'⟩ : ∃ len, Hid (len = ys.length) := ⟨_, rfl⟩
  rw [← HL.out] at hlc ⊢
  rw [← HL'.out] at hlc' ⊢
  unfold maxLen at hm hm'
  have hn : len ≤ 9223372036854775807 := by omega
  have hn' : len' ≤ 9223372036854775807 := by omega
  by_cases hl : len < len'
  · go_enter Try.func28, Try.ntmps28
    go_wp2
    go_ret
    exact ⟨ret_bool (preB_no (by rw [← HL.out, ← HL'.out]; exact hl)).symm, Below.refl _ _⟩
  · have hl' : len' ≤ len := by omega
    go_enter Try.func28, Try.ntmps28
    go_wp2
    go_loopw [5] (fun i wr => ∃ k : Nat, k ≤ len' ∧ i = .int .i64 k ∧ Hid (xs.take k = ys.take k) ∧ ∃ n, wr = w.drewN n) (fun i _ => len' - (intOf i).toNat)
    case atStart => exact ⟨0, by omega, rfl, rfl, 0, rfl⟩
    case round =>
      obtain ⟨k, hk, rfl, HE, n, rfl⟩ := hrel
      by_cases hlt : k < len'
      · obtain ⟨x, hx⟩ : ∃ b, xs[k]? = some b := ⟨xs[k]'(by have := HL.out; omega), List.getElem?_eq_getElem _⟩
        obtain ⟨y, hy⟩ : ∃ b, ys[k]? = some b := ⟨ys[k]'(by have := HL'.out; omega), List.getElem?_eq_getElem _⟩
        obtain ⟨ad, rfl, hcell⟩ := hc k x hx
        obtain ⟨ad', rfl, hcell'⟩ := hc' k y hy
        have HX := hid hx
        have HY := hid hy
        have hkl : k < len := by omega
        have hkl1 : (k : Int) < len := by omega
        clear hc hc' hx hy
        by_cases hxy : x = y
        · go_wp2
          go_quiet (fail)
          go_wp2
          go_roundw
          case rel => exact ⟨k + 1, by omega, by go_num, take_snoc_eq HE.out HX.out (hxy ▸ HY.out), _, rfl⟩
          case measure => simp [intOf]; omega
        · go_wp2
          go_quiet (fail)
          go_wp2
          go_ret
          exact ⟨ret_bool (preB_at HX.out HY.out hxy).symm, below_drewN' (below_drewN' (Below.refl _ _) _) _⟩
      · have hkk : k = len' := by omega
        have HK := hid hkk
        clear hkk
        go_wp2
        go_ret
        refine ⟨ret_bool (preB_yes ?_).symm, below_drewN' (Below.refl _ _) _⟩
        rw [← HL'.out, ← HK.out]
        have := HE.out
        rw [List.take_of_length_le (l := ys) (by have := HL'.out; have := HK.out; omega)] at this
        exact this
end Go.Proofs.Ytjhgebfabjbbjaa
