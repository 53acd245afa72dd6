import Derived.Test.YtomkfggilehhgaaT4
import Derived.Deep.RegionHeld3
namespace Go.Proofs.Ytomkfggilehhgaa
open Go.RowKit

/-- An entry, as a value, and where one lies. -/
def ent (n : Int) (xs : List Nat) : Value := .agg #[.int .i64 n, .string (str xs)]
def EntAt (w : World) (b : Addr) (n : Int) (xs : List Nat) : Prop :=
  w.cell? b = some (.int .i64 n) ∧ w.cell? { block := b.block, off := b.off + 1, spot := none } = some (.string (str xs))
theorem EntAt.below {w w' : World} {b : Addr} {n : Int} {xs : List Nat} (h : EntAt w b n xs) (hb : Below w.heap.size w w') : EntAt w' b n xs :=
  ⟨below_keep hb _ _ h.1, below_keep hb _ _ h.2⟩
theorem EntAt.new (w : World) (n : Int) (xs : List Nat) : EntAt (w.alloc (.cells #[.int .i64 n, .string (str xs)] 23)) ⟨w.heap.size, 0, none⟩ n xs :=
  ⟨cell_of_row _ _ 0 _ _ _ (heap_alloc_new w _), cell_of_row _ _ 1 _ _ _ (heap_alloc_new w _)⟩

theorem str_wv_size (n : Int) : (str (wv n)).size = 8 := by rw [str_size, wv_len]
theorem checkE_yes {xs : List Nat} (h : keyB xs = true) : checkE xs = 0 := by unfold checkE; rw [h]; rfl
theorem checkE_no {xs : List Nat} (h : keyB xs = false) : checkE xs = 13 := by unfold checkE; rw [h]; rfl

theorem run_add (t : TypeId) (xs ys : List Nat) (h : xs.length + ys.length ≤ 1000000) : binOp .add t (.string (str xs)) (.string (str ys)) = pure (.string (str (xs ++ ys))) := by
  have h1 := str_size xs
  have h2 := str_size ys
  have h3 := str_app xs ys
  have hm : IntKind.i64.max = 9223372036854775807 := rfl
  rw [binOp_string_add]
  unfold Op.stringOp
  simp only [h1, h2, h3, hm]
  rw [if_neg (by omega)]
theorem put_ok (w : World) (n : Int) (xs : List Nat) (hn : I64 n) (hk : keyB xs = true) :
    Calls Try.prog 10 #[ent n xs] w fun e w' => e = .returned (.tuple #[.string (str (wv n ++ xs)), .int .i64 0]) ∧ Below w.heap.size w w' := by
  have hl := (keyB_yes hk).2.2
  have hs1 := str_wv_size n
  have hs2 := str_size xs
  have hadd := fun t => run_add t (wv n) xs (by rw [wv_len]; omega)
  clear hl hs1 hs2
  obtain ⟨hc0, hc1⟩ := EntAt.new w n xs
  unfold ent
  go_enter Try.func10, Try.ntmps10
  go_wp2_with fail
  refine (check_any _ xs).mono ?_
  rw [checkE_yes hk]
  rintro e w' ⟨rfl, rfl⟩
  go_wp2_with fail
  go_region_held3 (fun w' => w'.cell? ⟨w.heap.size, 0, none⟩ = some (.int .i64 n) ∧ w'.cell? ⟨w.heap.size, 0 + 1, none⟩ = some (.string (str xs))) (first | exact ⟨hc0, hc1⟩ | exact ⟨hc0', hc1'⟩)
    (first
      | (go_at_call 19; ((with_reducible refine (written_any _ n hn).mono ?_); rintro e w1 ⟨rfl, hb1⟩; have hc0' := below_keep hb1 _ _ hc0; have hc1' := below_keep hb1 _ _ hc1)))
  go_wp2
  go_ret2
  exact ⟨rfl, below_step ((Below.refl _ w).alloc (Nat.le_refl _) _).drew hb1⟩
theorem put_no (w : World) (n : Int) (xs : List Nat) (hk : keyB xs = false) :
    Calls Try.prog 10 #[ent n xs] w fun e w' => e = .returned (.tuple #[.string (str []), .int .i64 13]) ∧ Below w.heap.size w w' := by
  obtain ⟨hc0, hc1⟩ := EntAt.new w n xs
  rw [← str_nil]
  unfold ent
  go_enter Try.func10, Try.ntmps10
  go_wp2_with fail
  refine (check_any _ xs).mono ?_
  rw [checkE_no hk]
  rintro e w' ⟨rfl, rfl⟩
  go_wp2
  go_ret2
  exact ⟨rfl, (Below.refl _ w).alloc (Nat.le_refl _) _⟩

theorem run_tail (W : World) (xs : List Nat) (h : 8 ≤ xs.length) : (Instr.slice 9 (.string (str xs)) (some (.int .i64 8)) none none).run Try.prog W = .ok (.string (str (xs.drop 8))) W := by
  have hd := str_drop xs 8
  have hs := str_size xs
  have h2 := run_slice_string_l (P := Try.prog) (w := W) 9 (str xs) Try.underlying9 .i64 8 (by omega) (by rw [hs]; omega)
  rw [h2, ← hd]
  rfl
theorem get_short (w : World) (xs : List Nat) (h : (xs.length : Int) < 8) :
    Calls Try.prog 14 #[.string (str xs)] w fun e w' => e = .returned (.tuple #[ent 0 [], .int .i64 11]) ∧ Below w.heap.size w w' := by
  have hs := str_size xs
  go_enter Try.func14, Try.ntmps14
  obtain ⟨q0, q1⟩ := EntAt.new w 0 []
  rw [← str_nil] at q1
  go_wp2
  refine bodyPost_ret (v := .tuple #[ent 0 [], .int .i64 11]) (by unfold ent; rw [← str_nil]; simp [results, Try.results14, go_sem, q0, q1]) rfl ⟨rfl, (Below.refl _ w).alloc (Nat.le_refl _) _⟩
theorem get_key (w : World) (xs : List Nat) (h : 8 ≤ xs.length) (hk : keyB (xs.drop 8) = false) :
    Calls Try.prog 14 #[.string (str xs)] w fun e w' => e = .returned (.tuple #[ent 0 [], .int .i64 11]) ∧ Below w.heap.size w w' := by
  have hs := str_size xs
  have hcut := fun W => run_tail W xs h
  have h' : (8 : Int) ≤ xs.length := by omega
  have hce := checkE_no hk
  go_enter Try.func14, Try.ntmps14
  go_wp2_with fail
  refine (check_any _ _).mono ?_
  rw [hce]
  rintro e w' ⟨rfl, rfl⟩
  obtain ⟨q0, q1⟩ := EntAt.new w 0 []
  rw [← str_nil] at q1
  go_wp2
  refine bodyPost_ret (v := .tuple #[ent 0 [], .int .i64 11]) (by unfold ent; rw [← str_nil]; simp [results, Try.results14, go_sem, q0, q1]) rfl ⟨rfl, (Below.refl _ w).alloc (Nat.le_refl _) _⟩
theorem get_ok (w : World) (xs : List Nat) (hb : Byt xs) (hk : keyB (xs.drop 8) = true) :
    Calls Try.prog 14 #[.string (str xs)] w fun e w' => e = .returned (.tuple #[ent (val xs) (xs.drop 8), .int .i64 0]) ∧ Below w.heap.size w w' := by
  have hkl := (keyB_yes hk).2
  rw [List.length_drop] at hkl
  have hl : 8 ≤ xs.length := by omega
  have hs := str_size xs
  have hcut := fun W => run_tail W xs hl
  have h' : (8 : Int) ≤ xs.length := by omega
  have hce := checkE_yes hk
  have hz0 : (str (xs.drop 8)).size ≠ 0 := by rw [str_size, List.length_drop]; omega
  have hz1 : (str (xs.drop 8)).size ≤ 1000000 := by rw [str_size, List.length_drop]; omega
  have HZ0 := hid hz0
  have HZ1 := hid hz1
  clear hz0 hz1 hkl
  go_enter Try.func14, Try.ntmps14
  go_wp2_with fail
  refine (check_any _ _).mono ?_
  rw [hce]
  rintro e w' ⟨rfl, rfl⟩
  have hrow := heap_alloc_new w (.cells #[.int .i64 0, .string ⟨#[]⟩] 23)
  have HROW := hid hrow
  clear hrow
  go_wp2_with fail
  go_region_held3 (fun _ => True) (trivial)
    (first
      | (go_at_call 20; ((with_reducible refine (read_any _ xs hb hl).mono ?_); rintro e w1 ⟨rfl, rfl⟩))
      | (go_at_call 21; ((with_reducible refine (clone_any _ _ HZ0.out HZ1.out).mono ?_); rintro e w2 ⟨rfl, hb2⟩; have HROW2 := hid ((hb2.block _ (by simp)).trans HROW.out); have HB2 := hid hb2; have q0 := cell_of_row w2 _ 0 _ _ _ HROW2.out; have q1 := cell_of_row w2 _ 1 _ _ _ HROW2.out; have z0 : w2.frozen? ⟨w.heap.size, 0, none⟩ = false := (by simp [World.frozen?, HROW2.out]); have z1 : w2.frozen? ⟨w.heap.size, 0 + 1, none⟩ = false := (by simp [World.frozen?, HROW2.out]); clear hb2)))
  have R1 := setCell_row (i := 0) HROW2.out (.int .i64 (val xs))
  have R2 := setCell_row (i := 1) R1 (.string (str (xs.drop 8)))
  have p0 := cell_of_row _ _ 0 _ _ _ R2
  have p1 := cell_of_row _ _ 1 _ _ _ R2
  simp only [Array.set!] at p0 p1
  have HB3 : Hid (Below w.heap.size w ((w2.setCell ⟨w.heap.size, 0, none⟩ (.int .i64 (val xs))).setCell ⟨w.heap.size, 1, none⟩ (.string (str (xs.drop 8))))) :=
    (((((Below.refl _ w).alloc (Nat.le_refl _) _).drew).trans (HB2.out.mono (by simp))).setCell (Nat.le_refl _) _).setCell (Nat.le_refl _) _
  clear R1 R2 q0 q1 z0 z1
  go_wp2
  refine bodyPost_ret (v := .tuple #[ent (val xs) (xs.drop 8), .int .i64 0]) (by unfold ent; simp [results, Try.results14, go_sem, p0, p1]) rfl ⟨rfl, HB3.out⟩
end Go.Proofs.Ytomkfggilehhgaa
