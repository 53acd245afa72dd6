import Derived.Test.YtomkfggilehhgaaT1
import Derived.Lib.ConvBytes
import Derived.Laws.Bits64
namespace Go.Proofs.Ytomkfggilehhgaa
open Go.RowKit

theorem xor63_lt {x : Nat} (h : x < 9223372036854775808) : x ^^^ 9223372036854775808 = x + 9223372036854775808 := by
  rw [show 9223372036854775808 = 2 ^ 63 by rfl] at *
  apply Nat.eq_of_testBit_eq
  intro i
  rw [Nat.testBit_xor, Nat.testBit_two_pow, Nat.add_comm]
  rcases Nat.lt_trichotomy i 63 with hi | rfl | hi
  · rw [Nat.testBit_two_pow_add_gt hi, decide_eq_false (by omega), Bool.xor_false]
  · rw [Nat.testBit_two_pow_add_eq]; simp
  · have h1 : x < 2 ^ i := Nat.lt_trans h (Nat.pow_lt_pow_right (by omega) hi)
    have h2 : 2 ^ 63 + x < 2 ^ i := Nat.lt_of_lt_of_le (show 2 ^ 63 + x < 2 ^ 64 by omega) (Nat.pow_le_pow_right (by omega) hi)
    rw [Nat.testBit_lt_two_pow h1, Nat.testBit_lt_two_pow h2, decide_eq_false (by omega)]; rfl
theorem xor63_ge {x : Nat} (h : x < 9223372036854775808) : (x + 9223372036854775808) ^^^ 9223372036854775808 = x := by
  rw [← xor63_lt h, Nat.xor_assoc, Nat.xor_self, Nat.xor_zero]
theorem bits_lift {n : Int} (hn : I64 n) : bits .xor .u64 (IntKind.u64.wrap n) 9223372036854775808 = (lift n : Int) := by
  obtain ⟨h1, h2⟩ := hn
  rw [IntKind.wrap_u64]
  by_cases h : n < 0
  · obtain ⟨m, rfl⟩ : ∃ m : Nat, n = (m : Int) - 9223372036854775808 := ⟨(n + 9223372036854775808).toNat, by omega⟩
    rw [show ((m : Int) - 9223372036854775808) % 18446744073709551616 = ((m + 9223372036854775808 : Nat) : Int) by omega]
    have := bits_xor_u64_nat (m + 9223372036854775808) 9223372036854775808 (by omega) (by omega)
    rw [xor63_ge (by omega)] at this
    rw [show lift ((m : Int) - 9223372036854775808) = m by unfold lift; omega]
    exact this
  · obtain ⟨m, rfl⟩ : ∃ m : Nat, n = (m : Int) := ⟨n.toNat, by omega⟩
    rw [show (m : Int) % 18446744073709551616 = (m : Int) by omega]
    have := bits_xor_u64_nat m 9223372036854775808 (by omega) (by omega)
    rw [xor63_lt (by omega)] at this
    rw [show lift (m : Int) = m + 9223372036854775808 by unfold lift; omega]
    exact this
/-- What written's array holds behind i rounds. -/
def part (i N : Nat) : List Nat := List.replicate (8 - i) 0 ++ be i N
theorem part_len {i : Nat} (N : Nat) (h : i ≤ 8) : (part i N).length = 8 := by unfold part; rw [List.length_append, List.length_replicate, be_len]; omega
theorem part_all (N : Nat) : part 8 N = be 8 N := rfl
theorem part_step {i : Nat} (N : Nat) (h : i < 8) : (part i N).set (7 - i) (N / 256 ^ i % 256) = part (i + 1) N := by
  unfold part
  rw [show 8 - i = (7 - i) + 1 by omega, show 8 - (i + 1) = 7 - i by omega, List.replicate_succ', List.append_assoc, List.set_append_right (h := by rw [List.length_replicate]; exact Nat.le_refl _), List.length_replicate, Nat.sub_self]
  rfl
def u8s (xs : List Nat) : Array Value := (xs.map fun (b : Nat) => Value.int .u8 (b : Int)).toArray
theorem u8s_set (xs : List Nat) (i b : Nat) : (u8s xs).set! i (.int .u8 (b : Int)) = u8s (xs.set i b) := by
  unfold u8s
  simp [List.map_set]
theorem u8s_size (xs : List Nat) : (u8s xs).size = xs.length := by simp [u8s]
theorem setCell_row {w : World} {g i : Nat} {cs : Array Value} {t : TypeId} {fz : Nat × Nat} (h : w.heap[g]? = some (.cells cs t fz)) (v : Value) :
    (w.setCell ⟨g, i, none⟩ v).heap[g]? = some (.cells (cs.set! i v) t fz) := by
  simp [World.setCell, Array.getElem?_modify, h]

set_option maxRecDepth 100000 in
theorem written_any (w : World) (n : Int) (hn : I64 n) : Calls Try.prog 19 #[.int .i64 n] w fun e w' => e = .returned (.string (str (wv n))) ∧ Below w.heap.size w w' := by
  have hx := bits_lift hn
  have hlt := lift_lt hn
  rw [show (256 : Nat) ^ 8 = 18446744073709551616 by rfl] at hlt
  obtain ⟨V, HV⟩ : ∃ V, Hid (V = lift n) := ⟨_, rfl⟩
  unfold wv
  rw [← HV.out] at hlt hx ⊢
  go_enter Try.func19, Try.ntmps19
  go_wp2
  go_loopw [9] (fun i wr => ∃ k : Nat, k ≤ 8 ∧ i = .int .i64 k ∧ wr.heap[w.heap.size]? = some (.cells (u8s (part k V)) 51 (0, 0)) ∧ Below w.heap.size w wr) (fun i _ => 8 - (intOf i).toNat)
  case atStart => exact ⟨0, by omega, rfl, heap_alloc_new _ _, (Below.refl _ _).alloc (Nat.le_refl _) _⟩
  case round =>
    obtain ⟨k, hk, rfl, hrow, hbel⟩ := hrel
    by_cases hlt' : k < 8
    · have hcell : wr.cell? ⟨w.heap.size, 7 - k, none⟩ = some (.int .u8 (((part k V)[7 - k]'(by rw [part_len V hk]; omega) : Nat) : Int)) := by
        have := cell_of_row wr w.heap.size (7 - k) _ _ _ hrow
        rw [this]
        have hi : 7 - k < (part k V).length := by rw [part_len V hk]; omega
        unfold u8s
        rw [List.getElem?_toArray, List.getElem?_map, List.getElem?_eq_getElem hi]
        rfl
      have hfz : wr.frozen? ⟨w.heap.size, 7 - k, none⟩ = false := by simp [World.frozen?, hrow]
      have hst := setCell_row hrow (i := 7 - k) (.int .u8 ((V / 256 ^ k % 256 : Nat) : Int))
      rw [u8s_set, part_step V hlt', show ((V / 256 ^ k % 256 : Nat) : Int) = (V : Int) / 2 ^ (8 * k) % 256 by rw [show (256 : Nat) = 2 ^ 8 by rfl, ← Nat.pow_mul]; simp] at hst
      have HST := hid hst
      have HB := hid hbel
      clear hst hrow hbel
      go_wp2
      go_roundw
      case rel => exact ⟨k + 1, by omega, by go_num, HST.out, HB.out.setCell (Nat.le_refl _) _⟩
      case measure => simp [intOf]; omega
    · obtain rfl : k = 8 := by omega
      rw [part_all] at hrow
      have hs : Sl .u8 wr (.slice (some ⟨w.heap.size, 0, none⟩) 8 8) (be 8 V) := by
        have := Sl.row (xs := be 8 V) (c := 8) hrow (Nat.le_of_eq (be_len _ _)) (by unfold maxLen; omega) (by
          intro i b hi
          unfold u8s
          rw [List.getElem?_toArray, List.getElem?_map, hi]; rfl)
        rw [be_len] at this
        exact this
      have hcv := hs.str (P := Try.prog) 30 5 9 Try.underlying30 Try.underlying5 Try.underlying9
      have HB := hid hbel
      clear hs hrow hbel
      go_wp2
      go_ret
      exact ⟨rfl, HB.out⟩
end Go.Proofs.Ytomkfggilehhgaa
