import Derived.Test.YtlnagdodnkhbmaaGreatRows
import Derived.Test.YtlnagdodnkhbmaaGreatMA
import Derived.Laws.Cover1
import Derived.Deep.QuietTactic
import Derived.BigQuiet
import Derived.Lib.ConvBytes
import Derived.Laws.Bits64
import Derived.Lib.BufferWrite
import Derived.Lib.UnsafeStr
import Derived.Laws.MakeOwn
import Derived.OwnWalk
import Derived.Deep.RegionHeld3

namespace Go.Proofs.YtlnagdodnkhbmaaGreat
set_option maxRecDepth 100000
open Go.RowKit

theorem isnan_int (w : World) (x : Int) : Calls Tryz.prog 107 #[.int .i64 x] w fun e w' => e = .returned (.bool false) ∧ w' = w := by
  go_enter Tryz.func107, Tryz.ntmps107
  go_wp2
  go_ret
  exact ⟨rfl, rfl⟩
theorem isnan_str (w : World) (x : ByteArray) : Calls Tryz.prog 108 #[.string x] w fun e w' => e = .returned (.bool false) ∧ w' = w := by
  go_enter Tryz.func108, Tryz.ntmps108
  go_wp2
  go_ret
  exact ⟨rfl, rfl⟩
def cmpI (a b : Int) : Int := if a < b then -1 else if b < a then 1 else 0
theorem cmp_int (w : World) (x y : Int) : Calls Tryz.prog 75 #[.int .i64 x, .int .i64 y] w fun e w' => e = .returned (.int .i64 (cmpI x y)) ∧ w' = w := by
  unfold cmpI
  go_enter Tryz.func75, Tryz.ntmps75
  go_wp2_with fail
  refine (isnan_int _ _).mono ?_
  rintro e w' ⟨rfl, rfl⟩
  go_wp2_with fail
  refine (isnan_int _ _).mono ?_
  rintro e w' ⟨rfl, rfl⟩
  by_cases h : x < y
  · go_wp2
    go_ret
    exact ⟨rfl, rfl⟩
  · by_cases h' : y < x
    · go_wp2
      go_ret
      exact ⟨rfl, rfl⟩
    · go_wp2
      go_ret
      exact ⟨rfl, rfl⟩
theorem cmpL_lt {a b : List Nat} (h : a < b) : cmpL a b = -1 := by unfold cmpL; rw [if_pos h]
theorem cmpL_eq (a : List Nat) : cmpL a a = 0 := by unfold cmpL; rw [if_neg (List.lt_irrefl _), if_pos rfl]
theorem cmpL_gt {a b : List Nat} (h : ¬ a < b) (h' : a ≠ b) : cmpL a b = 1 := by unfold cmpL; rw [if_neg h, if_neg h']
theorem cmp_str (w : World) (xs ys : List Nat) (hx : Byt xs) (hy : Byt ys) : Calls Tryz.prog 76 #[.string (str xs), .string (str ys)] w fun e w' => e = .returned (.int .i64 (cmpL xs ys)) ∧ w' = w := by
  have h1 := less_str hx hy
  have h2 := beq_str hx hy
  by_cases h : xs < ys
  · rw [cmpL_lt h]
    simp only [h, decide_true] at h1
    go_enter Tryz.func76, Tryz.ntmps76
    go_wp2_with fail
    refine (isnan_str _ _).mono ?_
    rintro e w' ⟨rfl, rfl⟩
    go_wp2_with fail
    refine (isnan_str _ _).mono ?_
    rintro e w' ⟨rfl, rfl⟩
    go_wp2
    go_ret
    exact ⟨rfl, rfl⟩
  · simp only [h, decide_false] at h1
    by_cases h' : xs = ys
    · subst h'
      rw [cmpL_eq]
      simp only [decide_true] at h2
      go_enter Tryz.func76, Tryz.ntmps76
      go_wp2_with fail
      refine (isnan_str _ _).mono ?_
      rintro e w' ⟨rfl, rfl⟩
      go_wp2_with fail
      refine (isnan_str _ _).mono ?_
      rintro e w' ⟨rfl, rfl⟩
      go_wp2
      go_ret
      exact ⟨rfl, rfl⟩
    · rw [cmpL_gt h h']
      simp only [h', decide_false] at h2
      go_enter Tryz.func76, Tryz.ntmps76
      go_wp2_with fail
      refine (isnan_str _ _).mono ?_
      rintro e w' ⟨rfl, rfl⟩
      go_wp2_with fail
      refine (isnan_str _ _).mono ?_
      rintro e w' ⟨rfl, rfl⟩
      go_wp2
      go_ret
      exact ⟨rfl, rfl⟩

/-- Is it a key? -/
def keyB (xs : List Nat) : Bool := decide (1 ≤ xs.length ∧ xs.length ≤ 16)
def checkE (xs : List Nat) : Int := if keyB xs then 0 else 13
theorem kstr_ne {xs : List Nat} (h : xs ≠ []) : ¬ (str xs).toList = [] ∧ (str xs).toList.isEmpty = false := by
  rw [str_toList]
  cases xs with
  | nil => exact absurd rfl h
  | cons x xs => exact ⟨by simp, rfl⟩
theorem keyB_nil : keyB [] = false := rfl
theorem keyB_yes {xs : List Nat} (h : keyB xs = true) : xs ≠ [] ∧ 1 ≤ xs.length ∧ xs.length ≤ 16 := by
  unfold keyB at h
  rw [decide_eq_true_iff] at h
  exact ⟨by rintro rfl; simp at h, h⟩
theorem keyB_no {xs : List Nat} (h : keyB xs = false) (h' : xs ≠ []) : 16 < xs.length := by
  unfold keyB at h
  rw [decide_eq_false_iff_not] at h
  have : 1 ≤ xs.length := by cases xs with
    | nil => exact absurd rfl h'
    | cons x xs => simp
  omega
theorem kcheck_any (w : World) (xs : List Nat) : Calls Tryz.prog 56 #[.string (str xs)] w fun e w' => e = .returned (.int .i64 (checkE xs)) ∧ w' = w := by
  by_cases h0 : xs = []
  · subst h0
    rw [← str_nil, show checkE [] = 13 by rfl]
    go_enter Tryz.func56, Tryz.ntmps56
    go_wp2
    go_ret
    exact ⟨rfl, rfl⟩
  · obtain ⟨h1, h2⟩ := kstr_ne h0
    have h3 := str_size xs
    cases hk : keyB xs with
    | true =>
      have hl : (xs.length : Int) ≤ 16 := by have := (keyB_yes hk).2.2; omega
      rw [show checkE xs = 0 by unfold checkE; rw [hk]; rfl]
      clear hk h0
      go_enter Tryz.func56, Tryz.ntmps56
      go_wp2
      go_ret
      exact ⟨rfl, rfl⟩
    | false =>
      have hl : (16 : Int) < xs.length := by have := keyB_no hk h0; omega
      rw [show checkE xs = 13 by unfold checkE; rw [hk]; rfl]
      clear hk h0
      go_enter Tryz.func56, Tryz.ntmps56
      go_wp2
      go_ret
      exact ⟨rfl, rfl⟩
end Go.Proofs.YtlnagdodnkhbmaaGreat

namespace Go.Proofs.YtlnagdodnkhbmaaGreat
set_option maxRecDepth 100000
open Go.RowKit

theorem xor63_lt {x : Nat} (h : x < 9223372036854775808) : x ^^^ 9223372036854775808 = x + 9223372036854775808 := by
  rw [show 9223372036854775808 = 2 ^ 63 by rfl] at *
  apply Nat.eq_of_testBit_eq
  intro i
  rw [Nat.testBit_xor, Nat.testBit_two_pow, Nat.add_comm]
  rcases Nat.lt_trichotomy i 63 with hi | rfl | hi
  · rw [Nat.testBit_two_pow_add_gt hi, decide_eq_false (by omega), Bool.xor_false]
  · rw [Nat.testBit_two_pow_add_eq]; simp
  · have h1 : x < 2 ^ i := Nat.lt_trans h (Nat.pow_lt_pow_right (by omega) hi)
    have h2 : 2 ^ 63 + x < 2 ^ i := Nat.lt_of_lt_of_le (show 2 ^ 63 + x < 2 ^ 64 by omega) (Nat.pow_le_pow_right (by omega) hi)
    rw [Nat.testBit_lt_two_pow h1, Nat.testBit_lt_two_pow h2, decide_eq_false (by omega)]; rfl
theorem xor63_ge {x : Nat} (h : x < 9223372036854775808) : (x + 9223372036854775808) ^^^ 9223372036854775808 = x := by
  rw [← xor63_lt h, Nat.xor_assoc, Nat.xor_self, Nat.xor_zero]
theorem bits_lift {n : Int} (hn : I64 n) : bits .xor .u64 (IntKind.u64.wrap n) 9223372036854775808 = (lift n : Int) := by
  obtain ⟨h1, h2⟩ := hn
  rw [IntKind.wrap_u64]
  by_cases h : n < 0
  · obtain ⟨m, rfl⟩ : ∃ m : Nat, n = (m : Int) - 9223372036854775808 := ⟨(n + 9223372036854775808).toNat, by omega⟩
    rw [show ((m : Int) - 9223372036854775808) % 18446744073709551616 = ((m + 9223372036854775808 : Nat) : Int) by omega]
    have := bits_xor_u64_nat (m + 9223372036854775808) 9223372036854775808 (by omega) (by omega)
    rw [xor63_ge (by omega)] at this
    rw [show lift ((m : Int) - 9223372036854775808) = m by unfold lift; omega]
    exact this
  · obtain ⟨m, rfl⟩ : ∃ m : Nat, n = (m : Int) := ⟨n.toNat, by omega⟩
    rw [show (m : Int) % 18446744073709551616 = (m : Int) by omega]
    have := bits_xor_u64_nat m 9223372036854775808 (by omega) (by omega)
    rw [xor63_lt (by omega)] at this
    rw [show lift (m : Int) = m + 9223372036854775808 by unfold lift; omega]
    exact this
/-- What written's array holds behind i rounds. -/
def part (i N : Nat) : List Nat := List.replicate (8 - i) 0 ++ be i N
theorem part_len {i : Nat} (N : Nat) (h : i ≤ 8) : (part i N).length = 8 := by unfold part; rw [List.length_append, List.length_replicate, be_len]; omega
theorem part_all (N : Nat) : part 8 N = be 8 N := rfl
theorem part_step {i : Nat} (N : Nat) (h : i < 8) : (part i N).set (7 - i) (N / 256 ^ i % 256) = part (i + 1) N := by
  unfold part
  rw [show 8 - i = (7 - i) + 1 by omega, show 8 - (i + 1) = 7 - i by omega, List.replicate_succ', List.append_assoc, List.set_append_right (h := by rw [List.length_replicate]; exact Nat.le_refl _), List.length_replicate, Nat.sub_self]
  rfl
def u8s (xs : List Nat) : Array Value := (xs.map fun (b : Nat) => Value.int .u8 (b : Int)).toArray
theorem u8s_set (xs : List Nat) (i b : Nat) : (u8s xs).set! i (.int .u8 (b : Int)) = u8s (xs.set i b) := by
  unfold u8s
  simp [List.map_set]
theorem u8s_size (xs : List Nat) : (u8s xs).size = xs.length := by simp [u8s]
theorem setCell_row {w : World} {g i : Nat} {cs : Array Value} {t : TypeId} {fz : Nat × Nat} (h : w.heap[g]? = some (.cells cs t fz)) (v : Value) :
    (w.setCell ⟨g, i, none⟩ v).heap[g]? = some (.cells (cs.set! i v) t fz) := by
  simp [World.setCell, Array.getElem?_modify, h]

set_option maxRecDepth 100000 in
theorem written_any (w : World) (n : Int) (hn : I64 n) : Calls Tryz.prog 93 #[.int .i64 n] w fun e w' => e = .returned (.string (str (wv n))) ∧ Below w.heap.size w w' := by
  have hx := bits_lift hn
  have hlt := lift_lt hn
  rw [show (256 : Nat) ^ 8 = 18446744073709551616 by rfl] at hlt
  obtain ⟨V, HV⟩ : ∃ V, Hid (V = lift n) := ⟨_, rfl⟩
  unfold wv
  rw [← HV.out] at hlt hx ⊢
  go_enter Tryz.func93, Tryz.ntmps93
  go_wp2
  go_loopw [9] (fun i wr => ∃ k : Nat, k ≤ 8 ∧ i = .int .i64 k ∧ wr.heap[w.heap.size]? = some (.cells (u8s (part k V)) 212 (0, 0)) ∧ Below w.heap.size w wr) (fun i _ => 8 - (intOf i).toNat)
  case atStart => exact ⟨0, by omega, rfl, heap_alloc_new _ _, (Below.refl _ _).alloc (Nat.le_refl _) _⟩
  case round =>
    obtain ⟨k, hk, rfl, hrow, hbel⟩ := hrel
    by_cases hlt' : k < 8
    · have hcell : wr.cell? ⟨w.heap.size, 7 - k, none⟩ = some (.int .u8 (((part k V)[7 - k]'(by rw [part_len V hk]; omega) : Nat) : Int)) := by
        have := cell_of_row wr w.heap.size (7 - k) _ _ _ hrow
        rw [this]
        have hi : 7 - k < (part k V).length := by rw [part_len V hk]; omega
        unfold u8s
        rw [List.getElem?_toArray, List.getElem?_map, List.getElem?_eq_getElem hi]
        rfl
      have hfz : wr.frozen? ⟨w.heap.size, 7 - k, none⟩ = false := by simp [World.frozen?, hrow]
      have hst := setCell_row hrow (i := 7 - k) (.int .u8 ((V / 256 ^ k % 256 : Nat) : Int))
      rw [u8s_set, part_step V hlt', show ((V / 256 ^ k % 256 : Nat) : Int) = (V : Int) / 2 ^ (8 * k) % 256 by rw [show (256 : Nat) = 2 ^ 8 by rfl, ← Nat.pow_mul]; simp] at hst
      have HST := hid hst
      have HB := hid hbel
      clear hst hrow hbel
      go_wp2
      go_roundw
      case rel => exact ⟨k + 1, by omega, by go_num, HST.out, HB.out.setCell (Nat.le_refl _) _⟩
      case measure => simp [intOf]; omega
    · obtain rfl : k = 8 := by omega
      rw [part_all] at hrow
      have hs : Sl .u8 wr (.slice (some ⟨w.heap.size, 0, none⟩) 8 8) (be 8 V) := by
        have := Sl.row (xs := be 8 V) (c := 8) hrow (Nat.le_of_eq (be_len _ _)) (by unfold maxLen; omega) (by
          intro i b hi
          unfold u8s
          rw [List.getElem?_toArray, List.getElem?_map, hi]; rfl)
        rw [be_len] at this
        exact this
      have hcv := hs.str (P := Tryz.prog) 113 5 9 Tryz.underlying113 Tryz.underlying5 Tryz.underlying9
      have HB := hid hbel
      clear hs hrow hbel
      go_wp2
      go_ret
      exact ⟨rfl, HB.out⟩
end Go.Proofs.YtlnagdodnkhbmaaGreat

namespace Go.Proofs.YtlnagdodnkhbmaaGreat
set_option maxRecDepth 100000
open Go.RowKit

theorem bits_val {V : Nat} (h : V < 18446744073709551616) : IntKind.i64.wrap (bits .xor .u64 (V : Int) 9223372036854775808) = (V : Int) - 9223372036854775808 := by
  by_cases h' : V < 9223372036854775808
  · have := bits_xor_u64_nat V 9223372036854775808 (by omega) (by omega)
    rw [xor63_lt h'] at this
    rw [show bits .xor .u64 (V : Int) 9223372036854775808 = ((V + 9223372036854775808 : Nat) : Int) from this, IntKind.wrap_i64]
    omega
  · obtain ⟨m, rfl⟩ : ∃ m, V = m + 9223372036854775808 := ⟨V - 9223372036854775808, by omega⟩
    have := bits_xor_u64_nat (m + 9223372036854775808) 9223372036854775808 (by omega) (by omega)
    rw [xor63_ge (by omega)] at this
    rw [show bits .xor .u64 ((m + 9223372036854775808 : Nat) : Int) 9223372036854775808 = (m : Int) from this, IntKind.wrap_i64]
    omega

set_option maxRecDepth 100000 in
theorem read_any (w : World) (xs : List Nat) (hb : Byt xs) (hl : 8 ≤ xs.length) : Calls Tryz.prog 130 #[.string (str xs)] w fun e w' => e = .returned (.int .i64 (val xs)) ∧ w' = w := by
  have hnum : Hid (∀ k, k ≤ 7 → num (xs.take k) < 72057594037927936) := fun k hk => by
    have h1 := num_lt (xs.take k) (hb.take k)
    have h2 : 256 ^ (xs.take k).length ≤ 256 ^ 7 := Nat.pow_le_pow_right (by omega) (by rw [List.length_take]; omega)
    rw [show (256 : Nat) ^ 7 = 72057594037927936 by rfl] at h2
    omega
  have hnum8 : Hid (num (xs.take 8) < 18446744073709551616) := by
    have h1 := num_lt (xs.take 8) (hb.take 8)
    have h2 : 256 ^ (xs.take 8).length ≤ 256 ^ 8 := Nat.pow_le_pow_right (by omega) (by rw [List.length_take]; omega)
    rw [show (256 : Nat) ^ 8 = 18446744073709551616 by rfl] at h2
    show _ < _; omega
  have HL := hid hl
  clear hl
  go_enter Tryz.func130, Tryz.ntmps130
  go_wp2
  go_loop [3, 5] (fun n i => ∃ k : Nat, k ≤ 8 ∧ i = .int .i64 k ∧ ∃ N : Nat, n = .int .u64 N ∧ Hid (N = num (xs.take k))) (fun _ i => 8 - (intOf i).toNat)
  case atStart => exact ⟨0, by omega, rfl, 0, rfl, rfl⟩
  case round =>
    obtain ⟨k, hk, rfl, N, rfl, HN⟩ := hrel
    by_cases hlt : k < 8
    · obtain ⟨x, hx⟩ : ∃ b, xs[k]? = some b := ⟨xs[k]'(by have := HL.out; omega), List.getElem?_eq_getElem _⟩
      obtain ⟨hsz, hget⟩ := str_get hx hb
      have hN7 := hnum.out k (by omega)
      rw [← HN.out] at hN7
      have hxb := hb x (List.mem_of_getElem? hx)
      have HN' : Hid (256 * N + x = num (xs.take (k + 1))) := by show _ = _; rw [num_take hx, HN.out]
      clear hx
      go_wp2
      go_round
      case rel => exact ⟨k + 1, by omega, by go_num, 256 * N + x, by go_num, HN'⟩
      case measure => simp [intOf]; omega
    · obtain rfl : k = 8 := by omega
      have hbv := bits_val (V := N) (by rw [HN.out]; exact hnum8.out)
      go_wp2
      go_ret
      exact ⟨by unfold val; rw [← HN.out]; rfl, rfl⟩
end Go.Proofs.YtlnagdodnkhbmaaGreat

namespace Go.Proofs.YtlnagdodnkhbmaaGreat
set_option maxRecDepth 100000
open Go.RowKit

theorem kinfo8 : (Tryz.prog.info? 5).map (fun i => (i.zero, i.size, i.bytes)) = some (some (.int .u8 0), 1, 1) := by kernel_rfl

/-- A text that has bytes, copied: the same bytes. -/
theorem kstringslite_clone (w : World) (s : ByteArray) (h0 : s.size ≠ 0) (hle : s.size ≤ 1000000) : Calls Tryz.prog 110 #[.string s] w fun e w' => e = .returned (.string s) ∧ Below w.heap.size w w' := by
  obtain ⟨i0, hi, hz0, hz1, hz2⟩ := info_parts kinfo8
  have hinfo : (Tryz.prog.info? 5).map (·.size) = some 1 := by rw [hi]; simp [hz1]
  have hco : Tryz.prog.cellsOf 5 = 1 := by kernel_rfl
  obtain ⟨M, HM⟩ : ∃ M, Hid (M = madeCells (Value.int .u8 0).cells (((s.size : Nat) : Int).toNat * i0.size)) := ⟨_, rfl⟩
  have hMs : M.size = s.size := by rw [HM.out, size_madeCells, hz1]; simp
  have hmk : ∀ W : World, (Instr.makeSlice 113 (.int .i64 (s.size : Int)) (.int .i64 (s.size : Int))).run Tryz.prog W = .ok (.slice (some ⟨W.heap.size, 0, none⟩) s.size s.size) (W.alloc (.cells M 5)) := fun W => by
    have h := run_make (P := Tryz.prog) W 113 5 i0 (.int .u8 0) Tryz.underlying113 hi hz0 .i64 .i64 (s.size : Int) (s.size : Int) (by omega) (by omega) (by rw [hz2]; omega) (by omega)
    rw [← HM.out] at h
    simpa using h
  have hcp := Lib.run_copy_row_string (P := Tryz.prog) (w.alloc (.cells M 5)) 113 9 3 5 w.heap.size 0 s.size s.size s M 5 Tryz.underlying113 hinfo (heap_alloc_new w _) (Nat.le_refl _) (by omega)
  obtain ⟨Y, HY⟩ : ∃ Y, Hid (Y = (M.toList.take 0 ++ Lib.byteCells s.data.toList ++ M.toList.drop (0 + s.size)).toArray) := ⟨_, rfl⟩
  rw [← HY.out] at hcp
  have hYl : Y.toList = Lib.byteCells s.data.toList := by
    rw [HY.out, List.toList_toArray, List.take_zero, List.nil_append, List.drop_of_length_le (by rw [Array.length_toList]; omega), List.append_nil]
  have hYs : Y.size = s.size := by rw [← Array.length_toList, hYl, Lib.byteCells_length, ← Lib.size_eq]
  have hrow : ((w.alloc (.cells M 5)).setRow w.heap.size Y).heap[w.heap.size]? = some (.cells Y 5 (0, 0)) := setRow_heap _ _ M _ 5 (0, 0) (heap_alloc_new w _)
  have hne : s.data.toList ≠ [] := fun e => h0 (by rw [Lib.size_eq, e]; rfl)
  have hus := Lib.run_unsafeString_row (P := Tryz.prog) ((w.alloc (.cells M 5)).setRow w.heap.size Y) 223 3 9 5 Tryz.underlying223 hco w.heap.size Y.size (by unfold World.shape?; rw [hrow]) s.data.toList hne (by rw [← Lib.size_eq]; omega) (by rw [← Lib.size_eq]; omega)
    (fun j x hx => Lib.cells_of_row hrow Y.size j _ (by rw [List.take_of_length_le (by rw [Array.length_toList]; exact Nat.le_refl _), hYl]; simp [Lib.byteCells, hx]))
  rw [← Lib.size_eq] at hus
  have HYS := hid hYs
  have HB : Hid (Below w.heap.size w (((w.alloc (.cells M 5)).setRow w.heap.size Y).freeze ⟨w.heap.size, 0, none⟩ s.size)) := by
    have b1 : Below w.heap.size w (w.alloc (.cells M 5)) := (Below.refl _ w).alloc (Nat.le_refl _) _
    have b2 : Below w.heap.size (w.alloc (.cells M 5)) ((w.alloc (.cells M 5)).setRow w.heap.size Y) := ⟨rfl, rfl, rfl, by simp, fun k hk => setRow_other _ _ _ _ (by omega)⟩
    exact Lib.below_freeze (b1.trans b2) (p := ⟨w.heap.size, 0, none⟩) (Nat.le_refl _) _
  clear hYl hrow hne hMs hYs
  go_enter Tryz.func110, Tryz.ntmps110
  go_wp2
  go_ret
  exact ⟨rfl, HB.out⟩
theorem kclone_any (w : World) (s : ByteArray) (h0 : s.size ≠ 0) (hle : s.size ≤ 1000000) : Calls Tryz.prog 79 #[.string s] w fun e w' => e = .returned (.string s) ∧ Below w.heap.size w w' := by
  go_enter Tryz.func79, Tryz.ntmps79
  go_wp2_with fail
  refine (kstringslite_clone w s h0 hle).mono ?_
  rintro e w' ⟨rfl, hb⟩
  go_wp2
  go_ret
  exact ⟨rfl, hb⟩

set_option maxRecDepth 100000 in
theorem bounds_no (w : World) (lo hi : Int) (h : hi < lo) : Calls Tryz.prog 66 #[.int .i64 lo, .int .i64 hi] w fun e w' => e = .returned (.tuple #[.string (str []), .string (str []), .int .i64 10]) ∧ w' = w := by
  rw [← str_nil]
  go_enter Tryz.func66, Tryz.ntmps66
  go_wp2
  go_ret3
  exact ⟨rfl, rfl⟩
set_option maxRecDepth 100000 in
theorem bounds_end (w : World) (lo : Int) (hl : I64 lo) : Calls Tryz.prog 66 #[.int .i64 lo, .int .i64 9223372036854775807] w fun e w' => e = .returned (.tuple #[.string (str (wv lo)), .string (str []), .int .i64 0]) ∧ Below w.heap.size w w' := by
  rw [← str_nil]
  have h2 := hl.2
  go_enter Tryz.func66, Tryz.ntmps66
  go_wp2_with fail
  refine (written_any w lo hl).mono ?_
  rintro e w' ⟨rfl, hb⟩
  go_wp2
  go_ret3
  exact ⟨rfl, hb⟩
set_option maxRecDepth 100000 in
theorem bounds_two (w : World) (lo hi : Int) (hl : I64 lo) (hh : I64 hi) (h : lo ≤ hi) (h' : hi < 9223372036854775807) :
    Calls Tryz.prog 66 #[.int .i64 lo, .int .i64 hi] w fun e w' => e = .returned (.tuple #[.string (str (wv lo)), .string (str (wv (hi + 1))), .int .i64 0]) ∧ Below w.heap.size w w' := by
  have h1 := hh.1
  go_enter Tryz.func66, Tryz.ntmps66
  go_wp2_with fail
  refine (written_any w lo hl).mono ?_
  rintro e w' ⟨rfl, hb⟩
  go_wp2_with fail
  refine (written_any w' (hi + 1) ⟨by omega, by omega⟩).mono ?_
  rintro e w'' ⟨rfl, hb'⟩
  go_wp2
  go_ret3
  exact ⟨rfl, below_step hb hb'⟩
end Go.Proofs.YtlnagdodnkhbmaaGreat

namespace Go.Proofs.YtlnagdodnkhbmaaGreat
set_option maxRecDepth 100000
open Go.RowKit

/-- An entry, as a value, and where one lies. -/
def ent (n : Int) (xs : List Nat) : Value := .agg #[.int .i64 n, .string (str xs)]
def EntAt (w : World) (b : Addr) (n : Int) (xs : List Nat) : Prop :=
  w.cell? b = some (.int .i64 n) ∧ w.cell? { block := b.block, off := b.off + 1, spot := none } = some (.string (str xs))
theorem EntAt.below {w w' : World} {b : Addr} {n : Int} {xs : List Nat} (h : EntAt w b n xs) (hb : Below w.heap.size w w') : EntAt w' b n xs :=
  ⟨below_keep hb _ _ h.1, below_keep hb _ _ h.2⟩
theorem EntAt.new (w : World) (n : Int) (xs : List Nat) : EntAt (w.alloc (.cells #[.int .i64 n, .string (str xs)] 93)) ⟨w.heap.size, 0, none⟩ n xs :=
  ⟨cell_of_row _ _ 0 _ _ _ (heap_alloc_new w _), cell_of_row _ _ 1 _ _ _ (heap_alloc_new w _)⟩

theorem str_wv_size (n : Int) : (str (wv n)).size = 8 := by rw [str_size, wv_len]
theorem checkE_yes {xs : List Nat} (h : keyB xs = true) : checkE xs = 0 := by unfold checkE; rw [h]; rfl
theorem checkE_no {xs : List Nat} (h : keyB xs = false) : checkE xs = 13 := by unfold checkE; rw [h]; rfl

theorem run_add (t : TypeId) (xs ys : List Nat) (h : xs.length + ys.length ≤ 1000000) : binOp .add t (.string (str xs)) (.string (str ys)) = pure (.string (str (xs ++ ys))) := by
  have h1 := str_size xs
  have h2 := str_size ys
  have h3 := str_app xs ys
  have hm : IntKind.i64.max = 9223372036854775807 := rfl
  rw [binOp_string_add]
  unfold Op.stringOp
  simp only [h1, h2, h3, hm]
  rw [if_neg (by omega)]
theorem put_ok (w : World) (n : Int) (xs : List Nat) (hn : I64 n) (hk : keyB xs = true) :
    Calls Tryz.prog 84 #[ent n xs] w fun e w' => e = .returned (.tuple #[.string (str (wv n ++ xs)), .int .i64 0]) ∧ Below w.heap.size w w' := by
  have hl := (keyB_yes hk).2.2
  have hs1 := str_wv_size n
  have hs2 := str_size xs
  have hadd := fun t => run_add t (wv n) xs (by rw [wv_len]; omega)
  clear hl hs1 hs2
  obtain ⟨hc0, hc1⟩ := EntAt.new w n xs
  unfold ent
  go_enter Tryz.func84, Tryz.ntmps84
  go_wp2_with fail
  refine (kcheck_any _ xs).mono ?_
  rw [checkE_yes hk]
  rintro e w' ⟨rfl, rfl⟩
  go_wp2_with fail
  go_region_held3 (fun w' => w'.cell? ⟨w.heap.size, 0, none⟩ = some (.int .i64 n) ∧ w'.cell? ⟨w.heap.size, 0 + 1, none⟩ = some (.string (str xs))) (first | exact ⟨hc0, hc1⟩ | exact ⟨hc0', hc1'⟩)
    (first
      | (go_at_call 93; ((with_reducible refine (written_any _ n hn).mono ?_); rintro e w1 ⟨rfl, hb1⟩; have hc0' := below_keep hb1 _ _ hc0; have hc1' := below_keep hb1 _ _ hc1)))
  go_wp2
  go_ret2
  exact ⟨rfl, below_step ((Below.refl _ w).alloc (Nat.le_refl _) _).drew hb1⟩
theorem put_no (w : World) (n : Int) (xs : List Nat) (hk : keyB xs = false) :
    Calls Tryz.prog 84 #[ent n xs] w fun e w' => e = .returned (.tuple #[.string (str []), .int .i64 13]) ∧ Below w.heap.size w w' := by
  obtain ⟨hc0, hc1⟩ := EntAt.new w n xs
  rw [← str_nil]
  unfold ent
  go_enter Tryz.func84, Tryz.ntmps84
  go_wp2_with fail
  refine (kcheck_any _ xs).mono ?_
  rw [checkE_no hk]
  rintro e w' ⟨rfl, rfl⟩
  go_wp2
  go_ret2
  exact ⟨rfl, (Below.refl _ w).alloc (Nat.le_refl _) _⟩

theorem run_tail (W : World) (xs : List Nat) (h : 8 ≤ xs.length) : (Instr.slice 9 (.string (str xs)) (some (.int .i64 8)) none none).run Tryz.prog W = .ok (.string (str (xs.drop 8))) W := by
  have hd := str_drop xs 8
  have hs := str_size xs
  have h2 := run_slice_string_l (P := Tryz.prog) (w := W) 9 (str xs) Tryz.underlying9 .i64 8 (by omega) (by rw [hs]; omega)
  rw [h2, ← hd]
  rfl
theorem get_short (w : World) (xs : List Nat) (h : (xs.length : Int) < 8) :
    Calls Tryz.prog 95 #[.string (str xs)] w fun e w' => e = .returned (.tuple #[ent 0 [], .int .i64 11]) ∧ Below w.heap.size w w' := by
  have hs := str_size xs
  go_enter Tryz.func95, Tryz.ntmps95
  obtain ⟨q0, q1⟩ := EntAt.new w 0 []
  rw [← str_nil] at q1
  go_wp2
  refine bodyPost_ret (v := .tuple #[ent 0 [], .int .i64 11]) (by unfold ent; rw [← str_nil]; simp [results, Tryz.results95, go_sem, q1]) rfl ⟨rfl, (Below.refl _ w).alloc (Nat.le_refl _) _⟩
theorem get_key (w : World) (xs : List Nat) (h : 8 ≤ xs.length) (hk : keyB (xs.drop 8) = false) :
    Calls Tryz.prog 95 #[.string (str xs)] w fun e w' => e = .returned (.tuple #[ent 0 [], .int .i64 11]) ∧ Below w.heap.size w w' := by
  have hs := str_size xs
  have hcut := fun W => run_tail W xs h
  have h' : (8 : Int) ≤ xs.length := by omega
  have hce := checkE_no hk
  go_enter Tryz.func95, Tryz.ntmps95
  go_wp2_with fail
  refine (kcheck_any _ _).mono ?_
  rw [hce]
  rintro e w' ⟨rfl, rfl⟩
  obtain ⟨q0, q1⟩ := EntAt.new w 0 []
  rw [← str_nil] at q1
  go_wp2
  refine bodyPost_ret (v := .tuple #[ent 0 [], .int .i64 11]) (by unfold ent; rw [← str_nil]; simp [results, Tryz.results95, go_sem, q1]) rfl ⟨rfl, (Below.refl _ w).alloc (Nat.le_refl _) _⟩
theorem get_ok (w : World) (xs : List Nat) (hb : Byt xs) (hk : keyB (xs.drop 8) = true) :
    Calls Tryz.prog 95 #[.string (str xs)] w fun e w' => e = .returned (.tuple #[ent (val xs) (xs.drop 8), .int .i64 0]) ∧ Below w.heap.size w w' := by
  have hkl := (keyB_yes hk).2
  rw [List.length_drop] at hkl
  have hl : 8 ≤ xs.length := by omega
  have hs := str_size xs
  have hcut := fun W => run_tail W xs hl
  have h' : (8 : Int) ≤ xs.length := by omega
  have hce := checkE_yes hk
  have hz0 : (str (xs.drop 8)).size ≠ 0 := by rw [str_size, List.length_drop]; omega
  have hz1 : (str (xs.drop 8)).size ≤ 1000000 := by rw [str_size, List.length_drop]; omega
  have HZ0 := hid hz0
  have HZ1 := hid hz1
  clear hz0 hz1 hkl
  go_enter Tryz.func95, Tryz.ntmps95
  go_wp2_with fail
  refine (kcheck_any _ _).mono ?_
  rw [hce]
  rintro e w' ⟨rfl, rfl⟩
  have hrow := heap_alloc_new w (.cells #[.int .i64 0, .string ⟨#[]⟩] 93)
  have HROW := hid hrow
  clear hrow
  go_wp2_with fail
  go_region_held3 (fun _ => True) (trivial)
    (first
      | (go_at_call 130; ((with_reducible refine (read_any _ xs hb hl).mono ?_); rintro e w1 ⟨rfl, rfl⟩))
      | (go_at_call 79; ((with_reducible refine (kclone_any _ _ HZ0.out HZ1.out).mono ?_); rintro e w2 ⟨rfl, hb2⟩; have HROW2 := hid ((hb2.block _ (by simp)).trans HROW.out); have HB2 := hid hb2; have q0 := cell_of_row w2 _ 0 _ _ _ HROW2.out; have q1 := cell_of_row w2 _ 1 _ _ _ HROW2.out; have z0 : w2.frozen? ⟨w.heap.size, 0, none⟩ = false := (by simp [World.frozen?, HROW2.out]); have z1 : w2.frozen? ⟨w.heap.size, 0 + 1, none⟩ = false := (by simp [World.frozen?, HROW2.out]); clear hb2)))
  have R1 := setCell_row (i := 0) HROW2.out (.int .i64 (val xs))
  have R2 := setCell_row (i := 1) R1 (.string (str (xs.drop 8)))
  have p0 := cell_of_row _ _ 0 _ _ _ R2
  have p1 := cell_of_row _ _ 1 _ _ _ R2
  simp only [Array.set!] at p0 p1
  have HB3 : Hid (Below w.heap.size w ((w2.setCell ⟨w.heap.size, 0, none⟩ (.int .i64 (val xs))).setCell ⟨w.heap.size, 1, none⟩ (.string (str (xs.drop 8))))) :=
    (((((Below.refl _ w).alloc (Nat.le_refl _) _).drew).trans (HB2.out.mono (by simp))).setCell (Nat.le_refl _) _).setCell (Nat.le_refl _) _
  clear R1 R2 q0 q1 z0 z1
  go_wp2
  refine bodyPost_ret (v := .tuple #[ent (val xs) (xs.drop 8), .int .i64 0]) (by unfold ent; simp [results, Tryz.results95, go_sem, p0, p1]) rfl ⟨rfl, HB3.out⟩
end Go.Proofs.YtlnagdodnkhbmaaGreat

namespace Go.Proofs.YtlnagdodnkhbmaaGreat
set_option maxRecDepth 100000
open Go.RowKit

def aheadB (a b : Int) : Bool := if a ≠ 0 then decide (a < 0) else decide (b < 0)
theorem ahead_any (w : World) (g cap : Nat) (a b : Int) (h0 : w.cell? ⟨g, 0, none⟩ = some (.int .i64 a)) (h1 : w.cell? ⟨g, 0 + 1, none⟩ = some (.int .i64 b)) :
    Calls Tryz.prog 74 #[.slice (some ⟨g, 0, none⟩) 2 cap] w fun e w' => e = .returned (.bool (aheadB a b)) ∧ w' = w := by
  go_enter Tryz.func74, Tryz.ntmps74
  go_wp2
  go_loop [7] (fun i => ∃ k : Nat, k ≤ 2 ∧ i = .int .i64 k ∧ (1 ≤ k → a = 0) ∧ (2 ≤ k → b = 0)) (fun i => 2 - (intOf i).toNat)
  case atStart => exact ⟨0, by omega, rfl, by omega, by omega⟩
  case round =>
    obtain ⟨k, hk, rfl, ha, hb⟩ := hrel
    obtain rfl | rfl | rfl : k = 0 ∨ k = 1 ∨ k = 2 := by omega
    · by_cases h : a = 0
      · go_wp2
        go_round
        case rel => exact ⟨1, by omega, by go_num, fun _ => h, by omega⟩
        case measure => simp [intOf]
      · go_wp2
        go_ret
        exact ⟨ret_bool (by simp [aheadB, h]), rfl⟩
    · obtain rfl := ha (by omega)
      by_cases h : b = 0
      · go_wp2
        go_round
        case rel => exact ⟨2, by omega, by go_num, by simp, fun _ => h⟩
        case measure => simp [intOf]
      · go_wp2
        go_ret
        exact ⟨ret_bool (by simp [aheadB]), rfl⟩
    · obtain rfl := ha (by omega)
      obtain rfl := hb (by omega)
      go_wp2
      go_ret
      exact ⟨ret_bool (by simp [aheadB]), rfl⟩

theorem compare_same (w : World) (n : Int) (xs : List Nat) : Calls Tryz.prog 47 #[ent n xs, ent n xs] w fun e w' => e = .returned (.int .i64 0) ∧ Below w.heap.size w w' := by
  unfold ent
  go_enter Tryz.func47, Tryz.ntmps47
  go_wp2
  go_ret
  exact ⟨rfl, ((Below.refl _ w).alloc (Nat.le_refl _) _).alloc (by simp) _⟩

theorem toList_ne {xs ys : List Nat} (hx : Byt xs) (hy : Byt ys) (hd : xs ≠ ys) : ¬ (str xs).toList = (str ys).toList := by
  rw [str_toList, str_toList]; exact fun e => hd (ofNat_inj hx hy e)
theorem two_cells (w : World) (a b : Int) : (w.alloc (.cells #[.int .i64 a, .int .i64 b] 3)).cell? ⟨w.heap.size, 0, none⟩ = some (.int .i64 a) ∧ (w.alloc (.cells #[.int .i64 a, .int .i64 b] 3)).cell? ⟨w.heap.size, 0 + 1, none⟩ = some (.int .i64 b) :=
  ⟨cell_of_row _ _ 0 _ _ _ (heap_alloc_new w _), cell_of_row _ _ 1 _ _ _ (heap_alloc_new w _)⟩

theorem compare_two1 (w : World) (n m : Int) (xs ys : List Nat) (hx : Byt xs) (hy : Byt ys) (hE : n ≠ m) (B : Bool) (hA : aheadB (cmpI n m) (cmpL xs ys) = B) :
    Calls Tryz.prog 47 #[ent n xs, ent m ys] w fun e w' => e = .returned (.int .i64 (if B = true then -1 else 1)) ∧ Below w.heap.size w w' := by
  obtain ⟨hc0, hc1⟩ := (EntAt.new w n xs).below ((Below.refl _ (w.alloc (.cells #[.int .i64 n, .string (str xs)] 93))).alloc (Nat.le_refl _) (.cells #[.int .i64 m, .string (str ys)] 93))
  obtain ⟨hc2, hc3⟩ := EntAt.new (w.alloc (.cells #[.int .i64 n, .string (str xs)] 93)) m ys
  have hsz : (w.alloc (.cells #[.int .i64 n, .string (str xs)] 93)).heap.size = w.heap.size + 1 := by simp
  rw [hsz] at hc2 hc3
  have hk : Hid (∀ a u, (((w.alloc (.cells #[.int .i64 n, .string (str xs)] 93)).alloc (.cells #[.int .i64 m, .string (str ys)] 93))).cell? a = some u → ((((w.alloc (.cells #[.int .i64 n, .string (str xs)] 93)).alloc (.cells #[.int .i64 m, .string (str ys)] 93))).alloc (.cells #[.int .i64 (cmpI n m), .int .i64 (cmpL xs ys)] 3)).drew.cell? a = some u) := below_keep ((Below.refl _ _).alloc (Nat.le_refl _) _).drew
  obtain ⟨hq0, hq1⟩ : ((((w.alloc (.cells #[.int .i64 n, .string (str xs)] 93)).alloc (.cells #[.int .i64 m, .string (str ys)] 93))).alloc (.cells #[.int .i64 (cmpI n m), .int .i64 (cmpL xs ys)] 3)).drew.cell? ⟨w.heap.size + 1 + 1, 0, none⟩ = some (.int .i64 (cmpI n m)) ∧ ((((w.alloc (.cells #[.int .i64 n, .string (str xs)] 93)).alloc (.cells #[.int .i64 m, .string (str ys)] 93))).alloc (.cells #[.int .i64 (cmpI n m), .int .i64 (cmpL xs ys)] 3)).drew.cell? ⟨w.heap.size + 1 + 1, 0 + 1, none⟩ = some (.int .i64 (cmpL xs ys)) := by
    have h := two_cells (((w.alloc (.cells #[.int .i64 n, .string (str xs)] 93)).alloc (.cells #[.int .i64 m, .string (str ys)] 93))) (cmpI n m) (cmpL xs ys)
    rw [show (((w.alloc (.cells #[.int .i64 n, .string (str xs)] 93)).alloc (.cells #[.int .i64 m, .string (str ys)] 93))).heap.size = w.heap.size + 1 + 1 by simp] at h
    exact h
  have HQ0 := hid hq0
  have HQ1 := hid hq1
  have HB : Hid (Below w.heap.size w ((((w.alloc (.cells #[.int .i64 n, .string (str xs)] 93)).alloc (.cells #[.int .i64 m, .string (str ys)] 93))).alloc (.cells #[.int .i64 (cmpI n m), .int .i64 (cmpL xs ys)] 3)).drew) := ((((Below.refl _ w).alloc (Nat.le_refl _) _).alloc (by simp) _).alloc (by simp; omega) _).drew
  clear hq0 hq1
  cases B
  all_goals
    unfold ent
    go_enter Tryz.func47, Tryz.ntmps47
    go_wp2_with fail
    go_region_held3 (fun w' => w'.cell? ⟨w.heap.size, 0, none⟩ = some (.int .i64 n) ∧ w'.cell? ⟨w.heap.size, 0 + 1, none⟩ = some (.string (str xs)) ∧ w'.cell? ⟨w.heap.size + 1, 0, none⟩ = some (.int .i64 m) ∧ w'.cell? ⟨w.heap.size + 1, 0 + 1, none⟩ = some (.string (str ys))) (first | exact ⟨hc0, hc1, hc2, hc3⟩ | exact ⟨hk.out _ _ hc0, hk.out _ _ hc1, hk.out _ _ hc2, hk.out _ _ hc3⟩)
      (first
        | (go_at_call 75; ((with_reducible refine (cmp_int _ _ _).mono ?_); rintro e w1 ⟨rfl, rfl⟩))
        | (go_at_call 76; ((with_reducible refine (cmp_str _ xs ys hx hy).mono ?_); rintro e w2 ⟨rfl, rfl⟩))
        | (go_at_call 74; ((with_reducible refine (ahead_any _ _ _ _ _ HQ0.out HQ1.out).mono ?_); rw [hA]; rintro e w3 ⟨rfl, rfl⟩)))
    all_goals
      go_wp2
      go_ret
      exact ⟨rfl, HB.out⟩
theorem compare_two2 (w : World) (n : Int) (xs ys : List Nat) (hx : Byt xs) (hy : Byt ys) (hd : xs ≠ ys) (B : Bool) (hA : aheadB (cmpI n n) (cmpL xs ys) = B) :
    Calls Tryz.prog 47 #[ent n xs, ent n ys] w fun e w' => e = .returned (.int .i64 (if B = true then -1 else 1)) ∧ Below w.heap.size w w' := by
  obtain ⟨hc0, hc1⟩ := (EntAt.new w n xs).below ((Below.refl _ (w.alloc (.cells #[.int .i64 n, .string (str xs)] 93))).alloc (Nat.le_refl _) (.cells #[.int .i64 n, .string (str ys)] 93))
  obtain ⟨hc2, hc3⟩ := EntAt.new (w.alloc (.cells #[.int .i64 n, .string (str xs)] 93)) n ys
  have hsz : (w.alloc (.cells #[.int .i64 n, .string (str xs)] 93)).heap.size = w.heap.size + 1 := by simp
  rw [hsz] at hc2 hc3
  have hk : Hid (∀ a u, (((w.alloc (.cells #[.int .i64 n, .string (str xs)] 93)).alloc (.cells #[.int .i64 n, .string (str ys)] 93))).cell? a = some u → ((((w.alloc (.cells #[.int .i64 n, .string (str xs)] 93)).alloc (.cells #[.int .i64 n, .string (str ys)] 93))).alloc (.cells #[.int .i64 (cmpI n n), .int .i64 (cmpL xs ys)] 3)).drew.cell? a = some u) := below_keep ((Below.refl _ _).alloc (Nat.le_refl _) _).drew
  obtain ⟨hq0, hq1⟩ : ((((w.alloc (.cells #[.int .i64 n, .string (str xs)] 93)).alloc (.cells #[.int .i64 n, .string (str ys)] 93))).alloc (.cells #[.int .i64 (cmpI n n), .int .i64 (cmpL xs ys)] 3)).drew.cell? ⟨w.heap.size + 1 + 1, 0, none⟩ = some (.int .i64 (cmpI n n)) ∧ ((((w.alloc (.cells #[.int .i64 n, .string (str xs)] 93)).alloc (.cells #[.int .i64 n, .string (str ys)] 93))).alloc (.cells #[.int .i64 (cmpI n n), .int .i64 (cmpL xs ys)] 3)).drew.cell? ⟨w.heap.size + 1 + 1, 0 + 1, none⟩ = some (.int .i64 (cmpL xs ys)) := by
    have h := two_cells (((w.alloc (.cells #[.int .i64 n, .string (str xs)] 93)).alloc (.cells #[.int .i64 n, .string (str ys)] 93))) (cmpI n n) (cmpL xs ys)
    rw [show (((w.alloc (.cells #[.int .i64 n, .string (str xs)] 93)).alloc (.cells #[.int .i64 n, .string (str ys)] 93))).heap.size = w.heap.size + 1 + 1 by simp] at h
    exact h
  have HQ0 := hid hq0
  have HQ1 := hid hq1
  have HB : Hid (Below w.heap.size w ((((w.alloc (.cells #[.int .i64 n, .string (str xs)] 93)).alloc (.cells #[.int .i64 n, .string (str ys)] 93))).alloc (.cells #[.int .i64 (cmpI n n), .int .i64 (cmpL xs ys)] 3)).drew) := ((((Below.refl _ w).alloc (Nat.le_refl _) _).alloc (by simp) _).alloc (by simp; omega) _).drew
  clear hq0 hq1
  have hE := toList_ne hx hy hd
  clear hd
  cases B
  all_goals
    unfold ent
    go_enter Tryz.func47, Tryz.ntmps47
    go_wp2_with fail
    go_region_held3 (fun w' => w'.cell? ⟨w.heap.size, 0, none⟩ = some (.int .i64 n) ∧ w'.cell? ⟨w.heap.size, 0 + 1, none⟩ = some (.string (str xs)) ∧ w'.cell? ⟨w.heap.size + 1, 0, none⟩ = some (.int .i64 n) ∧ w'.cell? ⟨w.heap.size + 1, 0 + 1, none⟩ = some (.string (str ys))) (first | exact ⟨hc0, hc1, hc2, hc3⟩ | exact ⟨hk.out _ _ hc0, hk.out _ _ hc1, hk.out _ _ hc2, hk.out _ _ hc3⟩)
      (first
        | (go_at_call 75; ((with_reducible refine (cmp_int _ _ _).mono ?_); rintro e w1 ⟨rfl, rfl⟩))
        | (go_at_call 76; ((with_reducible refine (cmp_str _ xs ys hx hy).mono ?_); rintro e w2 ⟨rfl, rfl⟩))
        | (go_at_call 74; ((with_reducible refine (ahead_any _ _ _ _ _ HQ0.out HQ1.out).mono ?_); rw [hA]; rintro e w3 ⟨rfl, rfl⟩)))
    all_goals
      go_wp2
      go_ret
      exact ⟨rfl, HB.out⟩

theorem cmpL_cases (a b : List Nat) : (a < b ∧ cmpL a b = -1) ∨ (a = b ∧ cmpL a b = 0) ∨ (b < a ∧ ¬ a < b ∧ a ≠ b ∧ cmpL a b = 1) := by
  by_cases h : a < b
  · exact .inl ⟨h, cmpL_lt h⟩
  · by_cases h' : a = b
    · subst h'; exact .inr (.inl ⟨rfl, cmpL_eq a⟩)
    · refine .inr (.inr ⟨?_, h, h', cmpL_gt h h'⟩)
      rcases Std.lt_trichotomy a b with h1 | h1 | h1
      · exact absurd h1 h
      · exact absurd h1 h'
      · exact h1
theorem compare_any (w : World) (n m : Int) (xs ys : List Nat) (hx : Byt xs) (hy : Byt ys) :
    Calls Tryz.prog 47 #[ent n xs, ent m ys] w fun e w' => e = .returned (.int .i64 (cmpE n xs m ys)) ∧ Below w.heap.size w w' := by
  by_cases h : n = m
  · subst h
    by_cases h' : xs = ys
    · subst h'
      rw [show cmpE n xs n xs = 0 by unfold cmpE; rw [if_neg (by omega), if_neg (by omega), cmpL_eq]]
      exact compare_same w n xs
    · have hc := compare_two2 w n xs ys hx hy h' _ rfl
      rw [show (if aheadB (cmpI n n) (cmpL xs ys) = true then (-1 : Int) else 1) = cmpE n xs n ys by
        rw [show cmpI n n = 0 by unfold cmpI; rw [if_neg (by omega), if_neg (by omega)]]
        unfold cmpE
        rw [if_neg (Int.lt_irrefl n), if_neg (Int.lt_irrefl n)]
        rcases cmpL_cases xs ys with ⟨_, e⟩ | ⟨e, _⟩ | ⟨_, _, _, e⟩
        · rw [e]; rfl
        · exact absurd e h'
        · rw [e]; rfl] at hc
      exact hc
  · have hc := compare_two1 w n m xs ys hx hy h _ rfl
    rw [show (if aheadB (cmpI n m) (cmpL xs ys) = true then (-1 : Int) else 1) = cmpE n xs m ys by
      unfold cmpE cmpI
      by_cases h1 : n < m
      · rw [if_pos h1, if_pos h1]; rfl
      · have h2 : m < n := by omega
        rw [if_neg h1, if_neg h1, if_pos h2, if_pos h2]; rfl] at hc
    exact hc
end Go.Proofs.YtlnagdodnkhbmaaGreat

