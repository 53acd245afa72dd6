import Derived.Test.YtomkfggilehhgaaT2
namespace Go.Proofs.Ytomkfggilehhgaa
open Go.RowKit

theorem bits_val {V : Nat} (h : V < 18446744073709551616) : IntKind.i64.wrap (bits .xor .u64 (V : Int) 9223372036854775808) = (V : Int) - 9223372036854775808 := by
  by_cases h' : V < 9223372036854775808
  · have := bits_xor_u64_nat V 9223372036854775808 (by omega) (by omega)
    rw [xor63_lt h'] at this
    rw [show bits .xor .u64 (V : Int) 9223372036854775808 = ((V + 9223372036854775808 : Nat) : Int) from this, IntKind.wrap_i64]
    omega
  · obtain ⟨m, rfl⟩ : ∃ m, V = m + 9223372036854775808 := ⟨V - 9223372036854775808, by omega⟩
    have := bits_xor_u64_nat (m + 9223372036854775808) 9223372036854775808 (by omega) (by omega)
    rw [xor63_ge (by omega)] at this
    rw [show bits .xor .u64 ((m + 9223372036854775808 : Nat) : Int) 9223372036854775808 = (m : Int) from this, IntKind.wrap_i64]
    omega

set_option maxRecDepth 100000 in
theorem read_any (w : World) (xs : List Nat) (hb : Byt xs) (hl : 8 ≤ xs.length) : Calls Try.prog 20 #[.string (str xs)] w fun e w' => e = .returned (.int .i64 (val xs)) ∧ w' = w := by
  have hnum : Hid (∀ k, k ≤ 7 → num (xs.take k) < 72057594037927936) := fun k hk => by
    have h1 := num_lt (xs.take k) (hb.take k)
    have h2 : 256 ^ (xs.take k).length ≤ 256 ^ 7 := Nat.pow_le_pow_right (by omega) (by rw [List.length_take]; omega)
    rw [show (256 : Nat) ^ 7 = 72057594037927936 by rfl] at h2
    omega
  have hnum8 : Hid (num (xs.take 8) < 18446744073709551616) := by
    have h1 := num_lt (xs.take 8) (hb.take 8)
    have h2 : 256 ^ (xs.take 8).length ≤ 256 ^ 8 := Nat.pow_le_pow_right (by omega) (by rw [List.length_take]; omega)
    rw [show (256 : Nat) ^ 8 = 18446744073709551616 by rfl] at h2
    show _ < _; omega
  have HL := hid hl
  clear hl
  go_enter Try.func20, Try.ntmps20
  go_wp2
  go_loop [3, 5] (fun n i => ∃ k : Nat, k ≤ 8 ∧ i = .int .i64 k ∧ ∃ N : Nat, n = .int .u64 N ∧ Hid (N = num (xs.take k))) (fun _ i => 8 - (intOf i).toNat)
  case atStart => exact ⟨0, by omega, rfl, 0, rfl, rfl⟩
  case round =>
    obtain ⟨k, hk, rfl, N, rfl, HN⟩ := hrel
    by_cases hlt : k < 8
    · obtain ⟨x, hx⟩ : ∃ b, xs[k]? = some b := ⟨xs[k]'(by have := HL.out; omega), List.getElem?_eq_getElem _⟩
      obtain ⟨hsz, hget⟩ := str_get hx hb
      have hN7 := hnum.out k (by omega)
      rw [← HN.out] at hN7
      have hxb := hb x (List.mem_of_getElem? hx)
      have HN' : Hid (256 * N + x = num (xs.take (k + 1))) := by show _ = _; rw [num_take hx, HN.out]
      clear hx
      go_wp2
      go_round
      case rel => exact ⟨k + 1, by omega, by go_num, 256 * N + x, by go_num, HN'⟩
      case measure => simp [intOf]; omega
    · obtain rfl : k = 8 := by omega
      have hbv := bits_val (V := N) (by rw [HN.out]; exact hnum8.out)
      go_wp2
      go_ret
      exact ⟨by unfold val; rw [← HN.out]; rfl, rfl⟩
end Go.Proofs.Ytomkfggilehhgaa
