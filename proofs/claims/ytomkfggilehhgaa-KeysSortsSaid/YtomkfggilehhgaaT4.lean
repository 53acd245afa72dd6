import Derived.Test.YtomkfggilehhgaaT3
import Derived.Lib.BufferWrite
import Derived.Lib.UnsafeStr
import Derived.Laws.MakeOwn
import Derived.OwnWalk
namespace Go.Proofs.Ytomkfggilehhgaa
open Go.RowKit

theorem Try.info5 : (Try.prog.info? 5).map (fun i => (i.zero, i.size, i.bytes)) = some (some (.int .u8 0), 1, 1) := by kernel_rfl

/-- A text that has bytes, copied: the same bytes. -/
theorem stringslite_clone (w : World) (s : ByteArray) (h0 : s.size ≠ 0) (hle : s.size ≤ 1000000) : Calls Try.prog 25 #[.string s] w fun e w' => e = .returned (.string s) ∧ Below w.heap.size w w' := by
  obtain ⟨i0, hi, hz0, hz1, hz2⟩ := info_parts Try.info5
  have hinfo : (Try.prog.info? 5).map (·.size) = some 1 := by rw [hi]; simp [hz1]
  have hco : Try.prog.cellsOf 5 = 1 := by kernel_rfl
  obtain ⟨M, HM⟩ : ∃ M, Hid (M = madeCells (Value.int .u8 0).cells (((s.size : Nat) : Int).toNat * i0.size)) := ⟨_, rfl⟩
  have hMs : M.size = s.size := by rw [HM.out, size_madeCells, hz1]; simp
  have hmk : ∀ W : World, (Instr.makeSlice 30 (.int .i64 (s.size : Int)) (.int .i64 (s.size : Int))).run Try.prog W = .ok (.slice (some ⟨W.heap.size, 0, none⟩) s.size s.size) (W.alloc (.cells M 5)) := fun W => by
    have h := run_make (P := Try.prog) W 30 5 i0 (.int .u8 0) Try.underlying30 hi hz0 .i64 .i64 (s.size : Int) (s.size : Int) (by omega) (by omega) (by rw [hz2]; omega) (by omega)
    rw [← HM.out] at h
    simpa using h
  have hcp := Lib.run_copy_row_string (P := Try.prog) (w.alloc (.cells M 5)) 30 9 3 5 w.heap.size 0 s.size s.size s M 5 Try.underlying30 hinfo (heap_alloc_new w _) (Nat.le_refl _) (by omega)
  obtain ⟨Y, HY⟩ : ∃ Y, Hid (Y = (M.toList.take 0 ++ Lib.byteCells s.data.toList ++ M.toList.drop (0 + s.size)).toArray) := ⟨_, rfl⟩
  rw [← HY.out] at hcp
  have hYl : Y.toList = Lib.byteCells s.data.toList := by
    rw [HY.out, List.toList_toArray, List.take_zero, List.nil_append, List.drop_of_length_le (by rw [Array.length_toList]; omega), List.append_nil]
  have hYs : Y.size = s.size := by rw [← Array.length_toList, hYl, Lib.byteCells_length, ← Lib.size_eq]
  have hrow : ((w.alloc (.cells M 5)).setRow w.heap.size Y).heap[w.heap.size]? = some (.cells Y 5 (0, 0)) := setRow_heap _ _ M _ 5 (0, 0) (heap_alloc_new w _)
  have hne : s.data.toList ≠ [] := fun e => h0 (by rw [Lib.size_eq, e]; rfl)
  have hus := Lib.run_unsafeString_row (P := Try.prog) ((w.alloc (.cells M 5)).setRow w.heap.size Y) 56 3 9 5 Try.underlying56 hco w.heap.size Y.size (by unfold World.shape?; rw [hrow]) s.data.toList hne (by rw [← Lib.size_eq]; omega) (by rw [← Lib.size_eq]; omega)
    (fun j x hx => Lib.cells_of_row hrow Y.size j _ (by rw [List.take_of_length_le (by rw [Array.length_toList]; exact Nat.le_refl _), hYl]; simp [Lib.byteCells, hx]))
  rw [← Lib.size_eq] at hus
  have HYS := hid hYs
  have HB : Hid (Below w.heap.size w (((w.alloc (.cells M 5)).setRow w.heap.size Y).freeze ⟨w.heap.size, 0, none⟩ s.size)) := by
    have b1 : Below w.heap.size w (w.alloc (.cells M 5)) := (Below.refl _ w).alloc (Nat.le_refl _) _
    have b2 : Below w.heap.size (w.alloc (.cells M 5)) ((w.alloc (.cells M 5)).setRow w.heap.size Y) := ⟨rfl, rfl, rfl, by simp, fun k hk => setRow_other _ _ _ _ (by omega)⟩
    exact Lib.below_freeze (b1.trans b2) (p := ⟨w.heap.size, 0, none⟩) (Nat.le_refl _) _
  clear hYl hrow hne hMs hYs
  go_enter Try.func25, Try.ntmps25
  go_wp2
  go_ret
  exact ⟨rfl, HB.out⟩
theorem clone_any (w : World) (s : ByteArray) (h0 : s.size ≠ 0) (hle : s.size ≤ 1000000) : Calls Try.prog 21 #[.string s] w fun e w' => e = .returned (.string s) ∧ Below w.heap.size w w' := by
  go_enter Try.func21, Try.ntmps21
  go_wp2_with fail
  refine (stringslite_clone w s h0 hle).mono ?_
  rintro e w' ⟨rfl, hb⟩
  go_wp2
  go_ret
  exact ⟨rfl, hb⟩

set_option maxRecDepth 100000 in
theorem bounds_no (w : World) (lo hi : Int) (h : hi < lo) : Calls Try.prog 18 #[.int .i64 lo, .int .i64 hi] w fun e w' => e = .returned (.tuple #[.string (str []), .string (str []), .int .i64 10]) ∧ w' = w := by
  rw [← str_nil]
  go_enter Try.func18, Try.ntmps18
  go_wp2
  go_ret3
  exact ⟨rfl, rfl⟩
set_option maxRecDepth 100000 in
theorem bounds_end (w : World) (lo : Int) (hl : I64 lo) : Calls Try.prog 18 #[.int .i64 lo, .int .i64 9223372036854775807] w fun e w' => e = .returned (.tuple #[.string (str (wv lo)), .string (str []), .int .i64 0]) ∧ Below w.heap.size w w' := by
  rw [← str_nil]
  have h2 := hl.2
  go_enter Try.func18, Try.ntmps18
  go_wp2_with fail
  refine (written_any w lo hl).mono ?_
  rintro e w' ⟨rfl, hb⟩
  go_wp2
  go_ret3
  exact ⟨rfl, hb⟩
set_option maxRecDepth 100000 in
theorem bounds_two (w : World) (lo hi : Int) (hl : I64 lo) (hh : I64 hi) (h : lo ≤ hi) (h' : hi < 9223372036854775807) :
    Calls Try.prog 18 #[.int .i64 lo, .int .i64 hi] w fun e w' => e = .returned (.tuple #[.string (str (wv lo)), .string (str (wv (hi + 1))), .int .i64 0]) ∧ Below w.heap.size w w' := by
  have h1 := hh.1
  go_enter Try.func18, Try.ntmps18
  go_wp2_with fail
  refine (written_any w lo hl).mono ?_
  rintro e w' ⟨rfl, hb⟩
  go_wp2_with fail
  refine (written_any w' (hi + 1) ⟨by omega, by omega⟩).mono ?_
  rintro e w'' ⟨rfl, hb'⟩
  go_wp2
  go_ret3
  exact ⟨rfl, below_step hb hb'⟩
end Go.Proofs.Ytomkfggilehhgaa
