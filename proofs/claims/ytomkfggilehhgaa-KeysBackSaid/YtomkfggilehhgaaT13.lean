import Derived.Test.YtomkfggilehhgaaT12
namespace Go.Proofs.Ytomkfggilehhgaa
open Go.RowKit

theorem back_long (w : World) (n : Int) (xs ys : List Nat) (h : 100 < xs.length ∨ (xs.length ≤ 100 ∧ 100 < ys.length)) : Calls Try.prog 6 #[ent n xs, .string (str ys)] w (Yes w) := by
  obtain ⟨hc0, hc1⟩ := EntAt.new w n xs
  have hs := str_size xs
  have hs' := str_size ys
  rcases h with h | ⟨h, h'⟩
  · have hl : (100 : Int) < xs.length := by omega
    unfold ent
    go_enter Try.func6, Try.ntmps6
    go_wp2_with fail
    refine (awake_any _).mono ?_
    rintro e w1 ⟨rfl, hb1⟩
    go_wp2
    go_ret
    exact ⟨rfl, below_step ((Below.refl _ w).alloc (Nat.le_refl _) _) hb1⟩
  · have hl : (xs.length : Int) ≤ 100 := by omega
    have hl' : (100 : Int) < ys.length := by omega
    unfold ent
    go_enter Try.func6, Try.ntmps6
    go_wp2_with fail
    refine (awake_any _).mono ?_
    rintro e w1 ⟨rfl, hb1⟩
    go_wp2
    go_ret
    exact ⟨rfl, below_step ((Below.refl _ w).alloc (Nat.le_refl _) _) hb1⟩
theorem back_yy (w : World) (n : Int) (xs ys : List Nat) (hn : I64 n) (hx : Byt xs) (hy : Byt ys) (hlx : xs.length ≤ 100) (hly : ys.length ≤ 100) (hk : keyB xs = true) (hk' : keyB (ys.drop 8) = true) :
    Calls Try.prog 6 #[ent n xs, .string (str ys)] w (Yes w) := by
  have HX := hid (EntAt.new w n xs)
  have HBW : Hid (Below w.heap.size w (w.alloc (.cells #[.int .i64 n, .string (str xs)] 23))) := (Below.refl _ w).alloc (Nat.le_refl _) _
  obtain ⟨hc0, hc1⟩ := HX.out
  have hs := str_size xs
  have hs' := str_size ys
  have hl : (xs.length : Int) ≤ 100 := by omega
  have hl' : (ys.length : Int) ≤ 100 := by omega
  have HN := hid str_nil
  obtain ⟨A, HA⟩ : ∃ A, Hid (A = wv n ++ xs) := ⟨_, rfl⟩
  have hsA : (str A).size = xs.length + 8 := by rw [str_size, HA.out, List.length_append, wv_len]; omega
  have HAB : Hid (Byt A) := by rw [HA.out]; exact (wv_byt n).app hx
  have HAD : Hid (A.drop 8 = xs) := by show _ = _; rw [HA.out]; exact drop_wv n xs
  have HAV : Hid (val A = n) := by show _ = _; rw [HA.out]; exact val_wv hn xs
  have HAK : Hid (keyB (A.drop 8) = true) := by rw [HAD.out]; exact hk
  have HL8 : Hid (8 ≤ ys.length) := by have h := (keyB_yes hk').2.1; rw [List.length_drop] at h; show _ ≤ _; omega
  have HWV := hid (wv_val hy HL8.out)
  have HVI := hid (val_i64 hy)
  unfold ent
  go_enter Try.func6, Try.ntmps6
  go_wp2_with fail
  refine (put_ok _ n xs hn hk).mono ?_
  rw [← HA.out]
  rintro e w1 ⟨rfl, hb1⟩
  have HX1 := hid (HX.out.below hb1)
  have HB1 := hid (below_step HBW.out hb1)
  clear hb1 hc0 hc1
  go_wp2_with fail
  refine (get_ok _ A HAB.out HAK.out).mono ?_
  rw [HAD.out, HAV.out]
  rintro e w2 ⟨rfl, hb2⟩
  unfold ent
  have HX2 := hid (HX1.out.below hb2)
  have HB2 := hid (below_step HB1.out hb2)
  clear hb2
  obtain ⟨hc0, hc1⟩ := HX2.out.below ((Below.refl _ w2).alloc (Nat.le_refl _) (.cells #[.int .i64 n, .string (str xs)] 23))
  obtain ⟨hd0, hd1⟩ := EntAt.new w2 n xs
  have HB3 : Hid (Below w.heap.size w (w2.alloc (.cells #[.int .i64 n, .string (str xs)] 23))) := HB2.out.alloc HB2.out.size _
  go_wp2_with fail
  refine (get_ok _ ys hy hk').mono ?_
  rintro e w4 ⟨rfl, hb4⟩
  unfold ent
  have HB4 := hid (below_step HB3.out hb4)
  clear hb4
  obtain ⟨hq0, hq1⟩ := EntAt.new w4 (val ys) (ys.drop 8)
  have HB5 : Hid (Below w.heap.size w (w4.alloc (.cells #[.int .i64 (val ys), .string (str (ys.drop 8))] 23))) := HB4.out.alloc HB4.out.size _
  go_wp2_with fail
  refine (put_ok _ (val ys) (ys.drop 8) HVI.out hk').mono ?_
  rw [HWV.out]
  rintro e w6 ⟨rfl, hb6⟩
  have HB6 := hid (below_step HB5.out hb6)
  clear hb6 hq0 hq1
  go_wp2_with fail
  refine (awake_any _).mono ?_
  rintro e w7 ⟨rfl, hb7⟩
  go_wp2
  go_ret
  exact ⟨rfl, below_step HB6.out hb7⟩
theorem back_yn (w : World) (n : Int) (xs ys : List Nat) (hn : I64 n) (hx : Byt xs) (hy : Byt ys) (hlx : xs.length ≤ 100) (hly : ys.length ≤ 100) (hk : keyB xs = true) (hk' : keyB (ys.drop 8) = false) :
    Calls Try.prog 6 #[ent n xs, .string (str ys)] w (Yes w) := by
  have HX := hid (EntAt.new w n xs)
  have HBW : Hid (Below w.heap.size w (w.alloc (.cells #[.int .i64 n, .string (str xs)] 23))) := (Below.refl _ w).alloc (Nat.le_refl _) _
  obtain ⟨hc0, hc1⟩ := HX.out
  have hs := str_size xs
  have hs' := str_size ys
  have hl : (xs.length : Int) ≤ 100 := by omega
  have hl' : (ys.length : Int) ≤ 100 := by omega
  have HN := hid str_nil
  obtain ⟨A, HA⟩ : ∃ A, Hid (A = wv n ++ xs) := ⟨_, rfl⟩
  have hsA : (str A).size = xs.length + 8 := by rw [str_size, HA.out, List.length_append, wv_len]; omega
  have HAB : Hid (Byt A) := by rw [HA.out]; exact (wv_byt n).app hx
  have HAD : Hid (A.drop 8 = xs) := by show _ = _; rw [HA.out]; exact drop_wv n xs
  have HAV : Hid (val A = n) := by show _ = _; rw [HA.out]; exact val_wv hn xs
  have HAK : Hid (keyB (A.drop 8) = true) := by rw [HAD.out]; exact hk
  unfold ent
  go_enter Try.func6, Try.ntmps6
  go_wp2_with fail
  refine (put_ok _ n xs hn hk).mono ?_
  rw [← HA.out]
  rintro e w1 ⟨rfl, hb1⟩
  have HX1 := hid (HX.out.below hb1)
  have HB1 := hid (below_step HBW.out hb1)
  clear hb1 hc0 hc1
  go_wp2_with fail
  refine (get_ok _ A HAB.out HAK.out).mono ?_
  rw [HAD.out, HAV.out]
  rintro e w2 ⟨rfl, hb2⟩
  unfold ent
  have HX2 := hid (HX1.out.below hb2)
  have HB2 := hid (below_step HB1.out hb2)
  clear hb2
  obtain ⟨hc0, hc1⟩ := HX2.out.below ((Below.refl _ w2).alloc (Nat.le_refl _) (.cells #[.int .i64 n, .string (str xs)] 23))
  obtain ⟨hd0, hd1⟩ := EntAt.new w2 n xs
  have HB3 : Hid (Below w.heap.size w (w2.alloc (.cells #[.int .i64 n, .string (str xs)] 23))) := HB2.out.alloc HB2.out.size _
  go_wp2_with fail
  refine (get_no _ ys hk').mono ?_
  rintro e w4 ⟨rfl, hb4⟩
  unfold ent
  rw [← HN.out]
  have HB4 := hid (below_step HB3.out hb4)
  clear hb4
  have HB6 : Hid (Below w.heap.size w (w4.alloc (.cells #[.int .i64 0, .string ⟨#[]⟩] 23))) := HB4.out.alloc HB4.out.size _
  go_wp2_with fail
  refine (awake_any _).mono ?_
  rintro e w7 ⟨rfl, hb7⟩
  go_wp2
  go_ret
  exact ⟨rfl, below_step HB6.out hb7⟩
theorem back_ny (w : World) (n : Int) (xs ys : List Nat) (hn : I64 n) (hx : Byt xs) (hy : Byt ys) (hlx : xs.length ≤ 100) (hly : ys.length ≤ 100) (hk : keyB xs = false) (hk' : keyB (ys.drop 8) = true) :
    Calls Try.prog 6 #[ent n xs, .string (str ys)] w (Yes w) := by
  have HX := hid (EntAt.new w n xs)
  have HBW : Hid (Below w.heap.size w (w.alloc (.cells #[.int .i64 n, .string (str xs)] 23))) := (Below.refl _ w).alloc (Nat.le_refl _) _
  obtain ⟨hc0, hc1⟩ := HX.out
  have hs := str_size xs
  have hs' := str_size ys
  have hl : (xs.length : Int) ≤ 100 := by omega
  have hl' : (ys.length : Int) ≤ 100 := by omega
  have HN := hid str_nil
  have HL8 : Hid (8 ≤ ys.length) := by have h := (keyB_yes hk').2.1; rw [List.length_drop] at h; show _ ≤ _; omega
  have HWV := hid (wv_val hy HL8.out)
  have HVI := hid (val_i64 hy)
  unfold ent
  go_enter Try.func6, Try.ntmps6
  go_wp2_with fail
  refine (put_no _ n xs hk).mono ?_
  rintro e w2 ⟨rfl, hb2⟩
  have HB3 := hid (below_step HBW.out hb2)
  clear hb2 hc0 hc1
  go_wp2_with fail
  refine (get_ok _ ys hy hk').mono ?_
  rintro e w4 ⟨rfl, hb4⟩
  unfold ent
  have HB4 := hid (below_step HB3.out hb4)
  clear hb4
  obtain ⟨hq0, hq1⟩ := EntAt.new w4 (val ys) (ys.drop 8)
  have HB5 : Hid (Below w.heap.size w (w4.alloc (.cells #[.int .i64 (val ys), .string (str (ys.drop 8))] 23))) := HB4.out.alloc HB4.out.size _
  go_wp2_with fail
  refine (put_ok _ (val ys) (ys.drop 8) HVI.out hk').mono ?_
  rw [HWV.out]
  rintro e w6 ⟨rfl, hb6⟩
  have HB6 := hid (below_step HB5.out hb6)
  clear hb6 hq0 hq1
  go_wp2_with fail
  refine (awake_any _).mono ?_
  rintro e w7 ⟨rfl, hb7⟩
  go_wp2
  go_ret
  exact ⟨rfl, below_step HB6.out hb7⟩
theorem back_nn (w : World) (n : Int) (xs ys : List Nat) (hn : I64 n) (hx : Byt xs) (hy : Byt ys) (hlx : xs.length ≤ 100) (hly : ys.length ≤ 100) (hk : keyB xs = false) (hk' : keyB (ys.drop 8) = false) :
    Calls Try.prog 6 #[ent n xs, .string (str ys)] w (Yes w) := by
  have HX := hid (EntAt.new w n xs)
  have HBW : Hid (Below w.heap.size w (w.alloc (.cells #[.int .i64 n, .string (str xs)] 23))) := (Below.refl _ w).alloc (Nat.le_refl _) _
  obtain ⟨hc0, hc1⟩ := HX.out
  have hs := str_size xs
  have hs' := str_size ys
  have hl : (xs.length : Int) ≤ 100 := by omega
  have hl' : (ys.length : Int) ≤ 100 := by omega
  have HN := hid str_nil
  unfold ent
  go_enter Try.func6, Try.ntmps6
  go_wp2_with fail
  refine (put_no _ n xs hk).mono ?_
  rintro e w2 ⟨rfl, hb2⟩
  have HB3 := hid (below_step HBW.out hb2)
  clear hb2 hc0 hc1
  go_wp2_with fail
  refine (get_no _ ys hk').mono ?_
  rintro e w4 ⟨rfl, hb4⟩
  unfold ent
  rw [← HN.out]
  have HB4 := hid (below_step HB3.out hb4)
  clear hb4
  have HB6 : Hid (Below w.heap.size w (w4.alloc (.cells #[.int .i64 0, .string ⟨#[]⟩] 23))) := HB4.out.alloc HB4.out.size _
  go_wp2_with fail
  refine (awake_any _).mono ?_
  rintro e w7 ⟨rfl, hb7⟩
  go_wp2
  go_ret
  exact ⟨rfl, below_step HB6.out hb7⟩
theorem back_any (w : World) (n : Int) (xs ys : List Nat) (hn : I64 n) (hx : Byt xs) (hy : Byt ys) : Calls Try.prog 6 #[ent n xs, .string (str ys)] w (Yes w) := by
  by_cases h : xs.length ≤ 100
  · by_cases h' : ys.length ≤ 100
    · cases hk : keyB xs with
      | true =>
        cases hk' : keyB (ys.drop 8) with
        | true => exact back_yy w n xs ys hn hx hy h h' hk hk'
        | false => exact back_yn w n xs ys hn hx hy h h' hk hk'
      | false =>
        cases hk' : keyB (ys.drop 8) with
        | true => exact back_ny w n xs ys hn hx hy h h' hk hk'
        | false => exact back_nn w n xs ys hn hx hy h h' hk hk'
    · exact back_long w n xs ys (.inr ⟨h, by omega⟩)
  · exact back_long w n xs ys (.inl (by omega))
end Go.Proofs.Ytomkfggilehhgaa
