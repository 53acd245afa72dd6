import Derived.Test.YtcnhklmfahbaoaaRows
import Derived.Test.YtcnhklmfahbaoaaMA
import Derived.Laws.Cover1
import Derived.Deep.QuietTactic
import Derived.BigQuiet
import Derived.Lib.ConvBytes
import Derived.Laws.Bits64
import Derived.Lib.BufferWrite
import Derived.Lib.UnsafeStr
import Derived.Laws.MakeOwn
import Derived.OwnWalk
import Derived.Deep.RegionHeld3

namespace Go.Proofs.Ytcnhklmfahbaoaa
open Go.RowKit

def cmpI (a b : Int) : Int := if a < b then -1 else if b < a then 1 else 0
theorem cmpL_lt {a b : List Nat} (h : a < b) : cmpL a b = -1 := by unfold cmpL; rw [if_pos h]
theorem cmpL_eq (a : List Nat) : cmpL a a = 0 := by unfold cmpL; rw [if_neg (List.lt_irrefl _), if_pos rfl]
theorem cmpL_gt {a b : List Nat} (h : ¬ a < b) (h' : a ≠ b) : cmpL a b = 1 := by unfold cmpL; rw [if_neg h, if_neg h']
/-- Is it a key? -/
def keyB (xs : List Nat) : Bool := decide (1 ≤ xs.length ∧ xs.length ≤ 16)
def checkE (xs : List Nat) : Int := if keyB xs then 0 else 13
theorem kstr_ne {xs : List Nat} (h : xs ≠ []) : ¬ (str xs).toList = [] ∧ (str xs).toList.isEmpty = false := by
  rw [str_toList]
  cases xs with
  | nil => exact absurd rfl h
  | cons x xs => exact ⟨by simp, rfl⟩
theorem keyB_nil : keyB [] = false := rfl
theorem keyB_yes {xs : List Nat} (h : keyB xs = true) : xs ≠ [] ∧ 1 ≤ xs.length ∧ xs.length ≤ 16 := by
  unfold keyB at h
  rw [decide_eq_true_iff] at h
  exact ⟨by rintro rfl; simp at h, h⟩
theorem keyB_no {xs : List Nat} (h : keyB xs = false) (h' : xs ≠ []) : 16 < xs.length := by
  unfold keyB at h
  rw [decide_eq_false_iff_not] at h
  have : 1 ≤ xs.length := by cases xs with
    | nil => exact absurd rfl h'
    | cons x xs => simp
  omega
theorem kcheck_any (w : World) (xs : List Nat) : Calls Try.prog 26 #[.string (str xs)] w fun e w' => e = .returned (.int .i64 (checkE xs)) ∧ w' = w := by
  by_cases h0 : xs = []
  · subst h0
    rw [← str_nil, show checkE [] = 13 by rfl]
    go_enter Try.func26, Try.ntmps26
    go_wp2
    go_ret
    exact ⟨rfl, rfl⟩
  · obtain ⟨h1, h2⟩ := kstr_ne h0
    have h3 := str_size xs
    cases hk : keyB xs with
    | true =>
      have hl : (xs.length : Int) ≤ 16 := by have := (keyB_yes hk).2.2; omega
      rw [show checkE xs = 0 by unfold checkE; rw [hk]; rfl]
      clear hk h0
      go_enter Try.func26, Try.ntmps26
      go_wp2
      go_ret
      exact ⟨rfl, rfl⟩
    | false =>
      have hl : (16 : Int) < xs.length := by have := keyB_no hk h0; omega
      rw [show checkE xs = 13 by unfold checkE; rw [hk]; rfl]
      clear hk h0
      go_enter Try.func26, Try.ntmps26
      go_wp2
      go_ret
      exact ⟨rfl, rfl⟩
end Go.Proofs.Ytcnhklmfahbaoaa

namespace Go.Proofs.Ytcnhklmfahbaoaa
open Go.RowKit

theorem xor63_lt {x : Nat} (h : x < 9223372036854775808) : x ^^^ 9223372036854775808 = x + 9223372036854775808 := by
  rw [show 9223372036854775808 = 2 ^ 63 by rfl] at *
  apply Nat.eq_of_testBit_eq
  intro i
  rw [Nat.testBit_xor, Nat.testBit_two_pow, Nat.add_comm]
  rcases Nat.lt_trichotomy i 63 with hi | rfl | hi
  · rw [Nat.testBit_two_pow_add_gt hi, decide_eq_false (by omega), Bool.xor_false]
  · rw [Nat.testBit_two_pow_add_eq]; simp
  · have h1 : x < 2 ^ i := Nat.lt_trans h (Nat.pow_lt_pow_right (by omega) hi)
    have h2 : 2 ^ 63 + x < 2 ^ i := Nat.lt_of_lt_of_le (show 2 ^ 63 + x < 2 ^ 64 by omega) (Nat.pow_le_pow_right (by omega) hi)
    rw [Nat.testBit_lt_two_pow h1, Nat.testBit_lt_two_pow h2, decide_eq_false (by omega)]; rfl
theorem xor63_ge {x : Nat} (h : x < 9223372036854775808) : (x + 9223372036854775808) ^^^ 9223372036854775808 = x := by
  rw [← xor63_lt h, Nat.xor_assoc, Nat.xor_self, Nat.xor_zero]
theorem bits_lift {n : Int} (hn : I64 n) : bits .xor .u64 (IntKind.u64.wrap n) 9223372036854775808 = (lift n : Int) := by
  obtain ⟨h1, h2⟩ := hn
  rw [IntKind.wrap_u64]
  by_cases h : n < 0
  · obtain ⟨m, rfl⟩ : ∃ m : Nat, n = (m : Int) - 9223372036854775808 := ⟨(n + 9223372036854775808).toNat, by omega⟩
    rw [show ((m : Int) - 9223372036854775808) % 18446744073709551616 = ((m + 9223372036854775808 : Nat) : Int) by omega]
    have := bits_xor_u64_nat (m + 9223372036854775808) 9223372036854775808 (by omega) (by omega)
    rw [xor63_ge (by omega)] at this
    rw [show lift ((m : Int) - 9223372036854775808) = m by unfold lift; omega]
    exact this
  · obtain ⟨m, rfl⟩ : ∃ m : Nat, n = (m : Int) := ⟨n.toNat, by omega⟩
    rw [show (m : Int) % 18446744073709551616 = (m : Int) by omega]
    have := bits_xor_u64_nat m 9223372036854775808 (by omega) (by omega)
    rw [xor63_lt (by omega)] at this
    rw [show lift (m : Int) = m + 9223372036854775808 by unfold lift; omega]
    exact this
/-- What written's array holds behind i rounds. -/
def part (i N : Nat) : List Nat := List.replicate (8 - i) 0 ++ be i N
theorem part_len {i : Nat} (N : Nat) (h : i ≤ 8) : (part i N).length = 8 := by unfold part; rw [List.length_append, List.length_replicate, be_len]; omega
theorem part_all (N : Nat) : part 8 N = be 8 N := rfl
theorem part_step {i : Nat} (N : Nat) (h : i < 8) : (part i N).set (7 - i) (N / 256 ^ i % 256) = part (i + 1) N := by
  unfold part
  rw [show 8 - i = (7 - i) + 1 by omega, show 8 - (i + 1) = 7 - i by omega, List.replicate_succ', List.append_assoc, List.set_append_right (h := by rw [List.length_replicate]; exact Nat.le_refl _), List.length_replicate, Nat.sub_self]
  rfl
def u8s (xs : List Nat) : Array Value := (xs.map fun (b : Nat) => Value.int .u8 (b : Int)).toArray
theorem u8s_set (xs : List Nat) (i b : Nat) : (u8s xs).set! i (.int .u8 (b : Int)) = u8s (xs.set i b) := by
  unfold u8s
  simp [List.map_set]
theorem u8s_size (xs : List Nat) : (u8s xs).size = xs.length := by simp [u8s]
theorem setCell_row {w : World} {g i : Nat} {cs : Array Value} {t : TypeId} {fz : Nat × Nat} (h : w.heap[g]? = some (.cells cs t fz)) (v : Value) :
    (w.setCell ⟨g, i, none⟩ v).heap[g]? = some (.cells (cs.set! i v) t fz) := by
  simp [World.setCell, Array.getElem?_modify, h]

end Go.Proofs.Ytcnhklmfahbaoaa

namespace Go.Proofs.Ytcnhklmfahbaoaa
open Go.RowKit

theorem bits_val {V : Nat} (h : V < 18446744073709551616) : IntKind.i64.wrap (bits .xor .u64 (V : Int) 9223372036854775808) = (V : Int) - 9223372036854775808 := by
  by_cases h' : V < 9223372036854775808
  · have := bits_xor_u64_nat V 9223372036854775808 (by omega) (by omega)
    rw [xor63_lt h'] at this
    rw [show bits .xor .u64 (V : Int) 9223372036854775808 = ((V + 9223372036854775808 : Nat) : Int) from this, IntKind.wrap_i64]
    omega
  · obtain ⟨m, rfl⟩ : ∃ m, V = m + 9223372036854775808 := ⟨V - 9223372036854775808, by omega⟩
    have := bits_xor_u64_nat (m + 9223372036854775808) 9223372036854775808 (by omega) (by omega)
    rw [xor63_ge (by omega)] at this
    rw [show bits .xor .u64 ((m + 9223372036854775808 : Nat) : Int) 9223372036854775808 = (m : Int) from this, IntKind.wrap_i64]
    omega

end Go.Proofs.Ytcnhklmfahbaoaa

namespace Go.Proofs.Ytcnhklmfahbaoaa
open Go.RowKit

theorem kinfo8 : (Try.prog.info? 5).map (fun i => (i.zero, i.size, i.bytes)) = some (some (.int .u8 0), 1, 1) := by kernel_rfl

/-- A text that has bytes, copied: the same bytes. -/
theorem kstringslite_clone (w : World) (s : ByteArray) (h0 : s.size ≠ 0) (hle : s.size ≤ 1000000) : Calls Try.prog 36 #[.string s] w fun e w' => e = .returned (.string s) ∧ Below w.heap.size w w' := by
  obtain ⟨i0, hi, hz0, hz1, hz2⟩ := info_parts kinfo8
  have hinfo : (Try.prog.info? 5).map (·.size) = some 1 := by rw [hi]; simp [hz1]
  have hco : Try.prog.cellsOf 5 = 1 := by kernel_rfl
  obtain ⟨M, HM⟩ : ∃ M, Hid (M = madeCells (Value.int .u8 0).cells (((s.size : Nat) : Int).toNat * i0.size)) := ⟨_, rfl⟩
  have hMs : M.size = s.size := by rw [HM.out, size_madeCells, hz1]; simp
  have hmk : ∀ W : World, (Instr.makeSlice 25 (.int .i64 (s.size : Int)) (.int .i64 (s.size : Int))).run Try.prog W = .ok (.slice (some ⟨W.heap.size, 0, none⟩) s.size s.size) (W.alloc (.cells M 5)) := fun W => by
    have h := run_make (P := Try.prog) W 25 5 i0 (.int .u8 0) Try.underlying25 hi hz0 .i64 .i64 (s.size : Int) (s.size : Int) (by omega) (by omega) (by rw [hz2]; omega) (by omega)
    rw [← HM.out] at h
    simpa using h
  have hcp := Lib.run_copy_row_string (P := Try.prog) (w.alloc (.cells M 5)) 25 9 3 5 w.heap.size 0 s.size s.size s M 5 Try.underlying25 hinfo (heap_alloc_new w _) (Nat.le_refl _) (by omega)
  obtain ⟨Y, HY⟩ : ∃ Y, Hid (Y = (M.toList.take 0 ++ Lib.byteCells s.data.toList ++ M.toList.drop (0 + s.size)).toArray) := ⟨_, rfl⟩
  rw [← HY.out] at hcp
  have hYl : Y.toList = Lib.byteCells s.data.toList := by
    rw [HY.out, List.toList_toArray, List.take_zero, List.nil_append, List.drop_of_length_le (by rw [Array.length_toList]; omega), List.append_nil]
  have hYs : Y.size = s.size := by rw [← Array.length_toList, hYl, Lib.byteCells_length, ← Lib.size_eq]
  have hrow : ((w.alloc (.cells M 5)).setRow w.heap.size Y).heap[w.heap.size]? = some (.cells Y 5 (0, 0)) := setRow_heap _ _ M _ 5 (0, 0) (heap_alloc_new w _)
  have hne : s.data.toList ≠ [] := fun e => h0 (by rw [Lib.size_eq, e]; rfl)
  have hus := Lib.run_unsafeString_row (P := Try.prog) ((w.alloc (.cells M 5)).setRow w.heap.size Y) 83 3 9 5 Try.underlying83 hco w.heap.size Y.size (by unfold World.shape?; rw [hrow]) s.data.toList hne (by rw [← Lib.size_eq]; omega) (by rw [← Lib.size_eq]; omega)
    (fun j x hx => Lib.cells_of_row hrow Y.size j _ (by rw [List.take_of_length_le (by rw [Array.length_toList]; exact Nat.le_refl _), hYl]; simp [Lib.byteCells, hx]))
  rw [← Lib.size_eq] at hus
  have HYS := hid hYs
  have HB : Hid (Below w.heap.size w (((w.alloc (.cells M 5)).setRow w.heap.size Y).freeze ⟨w.heap.size, 0, none⟩ s.size)) := by
    have b1 : Below w.heap.size w (w.alloc (.cells M 5)) := (Below.refl _ w).alloc (Nat.le_refl _) _
    have b2 : Below w.heap.size (w.alloc (.cells M 5)) ((w.alloc (.cells M 5)).setRow w.heap.size Y) := ⟨rfl, rfl, rfl, by simp, fun k hk => setRow_other _ _ _ _ (by omega)⟩
    exact Lib.below_freeze (b1.trans b2) (p := ⟨w.heap.size, 0, none⟩) (Nat.le_refl _) _
  clear hYl hrow hne hMs hYs
  go_enter Try.func36, Try.ntmps36
  go_wp2
  go_ret
  exact ⟨rfl, HB.out⟩
theorem kclone_any (w : World) (s : ByteArray) (h0 : s.size ≠ 0) (hle : s.size ≤ 1000000) : Calls Try.prog 27 #[.string s] w fun e w' => e = .returned (.string s) ∧ Below w.heap.size w w' := by
  go_enter Try.func27, Try.ntmps27
  go_wp2_with fail
  refine (kstringslite_clone w s h0 hle).mono ?_
  rintro e w' ⟨rfl, hb⟩
  go_wp2
  go_ret
  exact ⟨rfl, hb⟩

end Go.Proofs.Ytcnhklmfahbaoaa

namespace Go.Proofs.Ytcnhklmfahbaoaa
open Go.RowKit

/-- An entry, as a value, and where one lies. -/
def ent (n : Int) (xs : List Nat) : Value := .agg #[.int .i64 n, .string (str xs)]
def EntAt (w : World) (b : Addr) (n : Int) (xs : List Nat) : Prop :=
  w.cell? b = some (.int .i64 n) ∧ w.cell? { block := b.block, off := b.off + 1, spot := none } = some (.string (str xs))
theorem EntAt.below {w w' : World} {b : Addr} {n : Int} {xs : List Nat} (h : EntAt w b n xs) (hb : Below w.heap.size w w') : EntAt w' b n xs :=
  ⟨below_keep hb _ _ h.1, below_keep hb _ _ h.2⟩
theorem EntAt.new (w : World) (n : Int) (xs : List Nat) : EntAt (w.alloc (.cells #[.int .i64 n, .string (str xs)] 45)) ⟨w.heap.size, 0, none⟩ n xs :=
  ⟨cell_of_row _ _ 0 _ _ _ (heap_alloc_new w _), cell_of_row _ _ 1 _ _ _ (heap_alloc_new w _)⟩

theorem str_wv_size (n : Int) : (str (wv n)).size = 8 := by rw [str_size, wv_len]
theorem checkE_yes {xs : List Nat} (h : keyB xs = true) : checkE xs = 0 := by unfold checkE; rw [h]; rfl
theorem checkE_no {xs : List Nat} (h : keyB xs = false) : checkE xs = 13 := by unfold checkE; rw [h]; rfl

theorem run_add (t : TypeId) (xs ys : List Nat) (h : xs.length + ys.length ≤ 1000000) : binOp .add t (.string (str xs)) (.string (str ys)) = pure (.string (str (xs ++ ys))) := by
  have h1 := str_size xs
  have h2 := str_size ys
  have h3 := str_app xs ys
  have hm : IntKind.i64.max = 9223372036854775807 := rfl
  rw [binOp_string_add]
  unfold Op.stringOp
  simp only [h1, h2, h3, hm]
  rw [if_neg (by omega)]
theorem run_tail (W : World) (xs : List Nat) (h : 8 ≤ xs.length) : (Instr.slice 9 (.string (str xs)) (some (.int .i64 8)) none none).run Try.prog W = .ok (.string (str (xs.drop 8))) W := by
  have hd := str_drop xs 8
  have hs := str_size xs
  have h2 := run_slice_string_l (P := Try.prog) (w := W) 9 (str xs) Try.underlying9 .i64 8 (by omega) (by rw [hs]; omega)
  rw [h2, ← hd]
  rfl
end Go.Proofs.Ytcnhklmfahbaoaa

namespace Go.Proofs.Ytcnhklmfahbaoaa
open Go.RowKit

def aheadB (a b : Int) : Bool := if a ≠ 0 then decide (a < 0) else decide (b < 0)
theorem toList_ne {xs ys : List Nat} (hx : Byt xs) (hy : Byt ys) (hd : xs ≠ ys) : ¬ (str xs).toList = (str ys).toList := by
  rw [str_toList, str_toList]; exact fun e => hd (ofNat_inj hx hy e)
theorem two_cells (w : World) (a b : Int) : (w.alloc (.cells #[.int .i64 a, .int .i64 b] 3)).cell? ⟨w.heap.size, 0, none⟩ = some (.int .i64 a) ∧ (w.alloc (.cells #[.int .i64 a, .int .i64 b] 3)).cell? ⟨w.heap.size, 0 + 1, none⟩ = some (.int .i64 b) :=
  ⟨cell_of_row _ _ 0 _ _ _ (heap_alloc_new w _), cell_of_row _ _ 1 _ _ _ (heap_alloc_new w _)⟩

theorem cmpL_cases (a b : List Nat) : (a < b ∧ cmpL a b = -1) ∨ (a = b ∧ cmpL a b = 0) ∨ (b < a ∧ ¬ a < b ∧ a ≠ b ∧ cmpL a b = 1) := by
  by_cases h : a < b
  · exact .inl ⟨h, cmpL_lt h⟩
  · by_cases h' : a = b
    · subst h'; exact .inr (.inl ⟨rfl, cmpL_eq a⟩)
    · refine .inr (.inr ⟨?_, h, h', cmpL_gt h h'⟩)
      rcases Std.lt_trichotomy a b with h1 | h1 | h1
      · exact absurd h1 h
      · exact absurd h1 h'
      · exact h1
end Go.Proofs.Ytcnhklmfahbaoaa

