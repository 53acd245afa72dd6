import Derived.Test.YtomkfggilehhgaaT9
import Derived.Deep.RegionHeld
namespace Go.Proofs.Ytomkfggilehhgaa
open Go.RowKit

theorem long_str {xs : List Nat} (h : 100 < xs.length) : (100 : Int) < (str xs).size := by rw [str_size]; omega
theorem puts_long (w : World) (n : Int) (xs : List Nat) (h : 100 < xs.length) : Calls Try.prog 3 #[ent n xs] w (Yes w) := by
  have hl := long_str h
  obtain ⟨hc0, hc1⟩ := EntAt.new w n xs
  unfold ent
  go_enter Try.func3, Try.ntmps3
  go_wp2_with fail
  refine (awake_any _).mono ?_
  rintro e w1 ⟨rfl, hb1⟩
  go_wp2
  go_ret
  exact ⟨rfl, below_step ((Below.refl _ w).alloc (Nat.le_refl _) _) hb1⟩
theorem puts_no (w : World) (n : Int) (xs : List Nat) (hk : keyB xs = false) (h : xs.length ≤ 100) : Calls Try.prog 3 #[ent n xs] w (Yes w) := by
  have hl : (xs.length : Int) ≤ 100 := by omega
  have hs := str_size xs
  have HE := hid (EntAt.new w n xs)
  obtain ⟨hc0, hc1⟩ := HE.out
  have hce := checkE_no hk
  have HN := hid str_nil
  unfold ent
  go_enter Try.func3, Try.ntmps3
  go_wp2_with fail
  refine (put_no _ n xs hk).mono ?_
  rintro e w1 ⟨rfl, hb1⟩
  rw [← HN.out]
  obtain ⟨hd0, hd1⟩ := HE.out.below hb1
  have HB1 := hid hb1
  clear hb1 hc0 hc1
  go_wp2_with fail
  refine (check_any _ xs).mono ?_
  rw [hce]
  rintro e w2 ⟨rfl, rfl⟩
  go_wp2_with fail
  refine (right_any _ xs).mono ?_
  rw [hk]
  rintro e w2 ⟨rfl, rfl⟩
  go_wp2_with fail
  refine (awake_any _).mono ?_
  rintro e w3 ⟨rfl, hb3⟩
  go_wp2
  go_ret
  exact ⟨rfl, below_step (below_step ((Below.refl _ w).alloc (Nat.le_refl _) _) HB1.out) hb3⟩
theorem puts_yes (w : World) (n : Int) (xs : List Nat) (hn : I64 n) (hk : keyB xs = true) : Calls Try.prog 3 #[ent n xs] w (Yes w) := by
  have hk2 := (keyB_yes hk).2.2
  have hl : (xs.length : Int) ≤ 100 := by omega
  have hs := str_size xs
  have HE := hid (EntAt.new w n xs)
  obtain ⟨hc0, hc1⟩ := HE.out
  have hce := checkE_yes hk
  unfold ent
  go_enter Try.func3, Try.ntmps3
  go_wp2_with fail
  refine (put_ok _ n xs hn hk).mono ?_
  rintro e w1 ⟨rfl, hb1⟩
  have HE1 := hid (HE.out.below hb1)
  obtain ⟨hd0, hd1⟩ := HE1.out
  have HB1 := hid hb1
  clear hb1 hc0 hc1
  go_wp2_with fail
  refine (check_any _ xs).mono ?_
  rw [hce]
  rintro e w2 ⟨rfl, rfl⟩
  go_wp2_with fail
  refine (right_any _ xs).mono ?_
  rw [hk]
  rintro e w2 ⟨rfl, rfl⟩
  have hadd := fun t => run_add t (wv n) xs (by rw [wv_len]; omega)
  clear hs hl hk2
  go_wp2_with fail
  go_region_held (fun w' => w'.cell? ⟨w.heap.size, 0, none⟩ = some (.int .i64 n) ∧ w'.cell? ⟨w.heap.size, 0 + 1, none⟩ = some (.string (str xs))) (first | exact ⟨hd0, hd1⟩ | exact HE3.out | exact HE4.out)
    (first
      | (go_at_call 13; ((with_reducible refine (value_any _ n hn).mono ?_); rintro e w3 ⟨u, rfl, hu, hb3⟩; have HB3 := hid hb3; have HE3 := hid (EntAt.below (w := w2.drew) HE1.out hb3); have hcv := hu.str (P := Try.prog) 30 5 9 Try.underlying30 Try.underlying5 Try.underlying9; clear hb3 hu))
      | (go_at_call 9; ((with_reducible refine (awake_any _).mono ?_); rintro e w4 ⟨rfl, hb4⟩; have HE4 := hid (EntAt.below HE3.out hb4); have HB4 := hid hb4; clear hb4)))
  go_wp2
  go_ret
  exact ⟨rfl, below_step (below_step (below_step ((Below.refl _ w).alloc (Nat.le_refl _) _) HB1.out).drew HB3.out) HB4.out⟩
theorem puts_any (w : World) (n : Int) (xs : List Nat) (hn : I64 n) : Calls Try.prog 3 #[ent n xs] w (Yes w) := by
  by_cases h : xs.length ≤ 100
  · cases hk : keyB xs with
    | true => exact puts_yes w n xs hn hk
    | false => exact puts_no w n xs hk h
  · exact puts_long w n xs (by omega)
end Go.Proofs.Ytomkfggilehhgaa
