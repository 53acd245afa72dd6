import Derived.Test.YtomkfggilehhgaaT13
namespace Go.Proofs.Ytomkfggilehhgaa
open Go.RowKit

theorem wv_lt_nil {n m : Int} (hn : I64 n) (hm : I64 m) (a : List Nat) : (wv n ++ a < wv m) ↔ n < m := by
  have h := wv_lt hn hm a []
  rw [List.append_nil] at h
  rw [h]
  exact ⟨fun h => h.elim id fun h => absurd h.2 (List.not_lt_nil a), .inl⟩
theorem less_wv {n m : Int} (hn : I64 n) (hm : I64 m) {a : List Nat} (ha : Byt a) : Op.bytesLess (str (wv n ++ a)).toList (str (wv m)).toList = decide (n < m) := by
  rw [less_str ((wv_byt n).app ha) (wv_byt m), decide_eq_decide]; exact wv_lt_nil hn hm a
theorem wv_ne (n : Int) : wv n ≠ [] := fun h => by have := wv_len n; rw [h] at this; cases this

theorem bnd_no (w : World) (lo hi v : Int) (xs : List Nat) (h : hi < lo) : Calls Try.prog 7 #[.int .i64 lo, .int .i64 hi, ent v xs] w (Yes w) := by
  have HN := hid str_nil
  have HBW : Hid (Below w.heap.size w (w.alloc (.cells #[.int .i64 v, .string (str xs)] 23))) := (Below.refl _ w).alloc (Nat.le_refl _) _
  unfold ent
  go_enter Try.func7, Try.ntmps7
  go_wp2_with fail
  refine (bounds_no _ lo hi h).mono ?_
  rw [← HN.out]
  rintro e w1 ⟨rfl, rfl⟩
  go_wp2_with fail
  refine (awake_any _).mono ?_
  rintro e w2 ⟨rfl, hb2⟩
  go_wp2
  go_ret
  exact ⟨rfl, below_step HBW.out hb2⟩
set_option maxRecDepth 100000 in
theorem bnd_end_no (w : World) (lo v : Int) (xs : List Nat) (hl : I64 lo) (hv : I64 v) (hx : Byt xs) (hk : keyB xs = false) : Calls Try.prog 7 #[.int .i64 lo, .int .i64 9223372036854775807, ent v xs] w (Yes w) := by
  have HN := hid str_nil
  have HX := hid (EntAt.new w v xs)
  have HBW : Hid (Below w.heap.size w (w.alloc (.cells #[.int .i64 v, .string (str xs)] 23))) := (Below.refl _ w).alloc (Nat.le_refl _) _
  have HL := hid hl
  have HV := hid hv
  have hl2 := hl.2
  have hv2 := hv.2
  have hl1 := hl.1
  have hv1 := hv.1
  obtain ⟨F, HF⟩ : ∃ F, Hid (F = wv lo) := ⟨_, rfl⟩
  clear hl hv
  unfold ent
  go_enter Try.func7, Try.ntmps7
  go_wp2_with fail
  refine (bounds_end _ lo HL.out).mono ?_
  rw [← HN.out, ← HF.out]
  rintro e w1 ⟨rfl, hb1⟩
  have HX1 := hid (HX.out.below hb1)
  have HB1 := hid (below_step HBW.out hb1)
  clear hb1
  go_wp2_with fail
  refine (value_any _ lo HL.out).mono ?_
  rw [← HF.out]
  rintro e w2 ⟨u2, rfl, hu2, hb2⟩
  have hcv2 := hu2.str (P := Try.prog) 30 5 9 Try.underlying30 Try.underlying5 Try.underlying9
  have HX2 := hid (HX1.out.below hb2)
  have HB2 := hid (below_step HB1.out hb2)
  obtain ⟨hc0, hc1⟩ := HX2.out
  clear hu2 hb2
  go_wp2_with fail
  refine (put_no _ v xs hk).mono ?_
  rintro e w3 ⟨rfl, hb3⟩
  have HB3 := hid (below_step HB2.out hb3)
  clear hb3
  go_wp2_with fail
  refine (awake_any _).mono ?_
  rintro e w4 ⟨rfl, hb4⟩
  go_wp2
  go_ret
  exact ⟨rfl, below_step HB3.out hb4⟩
set_option maxRecDepth 100000 in
theorem bnd_end_below (w : World) (lo v : Int) (xs : List Nat) (hl : I64 lo) (hv : I64 v) (hx : Byt xs) (hk : keyB xs = true) (hr : v < lo) : Calls Try.prog 7 #[.int .i64 lo, .int .i64 9223372036854775807, ent v xs] w (Yes w) := by
  have HN := hid str_nil
  have HX := hid (EntAt.new w v xs)
  have HBW : Hid (Below w.heap.size w (w.alloc (.cells #[.int .i64 v, .string (str xs)] 23))) := (Below.refl _ w).alloc (Nat.le_refl _) _
  have HL := hid hl
  have HV := hid hv
  have hl2 := hl.2
  have hv2 := hv.2
  have hl1 := hl.1
  have hv1 := hv.1
  obtain ⟨F, HF⟩ : ∃ F, Hid (F = wv lo) := ⟨_, rfl⟩
  obtain ⟨A, HA⟩ : ∃ A, Hid (A = wv v ++ xs) := ⟨_, rfl⟩
  have hAF : Op.bytesLess (str A).toList (str F).toList = decide (v < lo) := by rw [HA.out, HF.out]; exact less_wv hv hl hx
  simp only [hr, decide_true] at hAF
  clear hl hv
  unfold ent
  go_enter Try.func7, Try.ntmps7
  go_wp2_with fail
  refine (bounds_end _ lo HL.out).mono ?_
  rw [← HN.out, ← HF.out]
  rintro e w1 ⟨rfl, hb1⟩
  have HX1 := hid (HX.out.below hb1)
  have HB1 := hid (below_step HBW.out hb1)
  clear hb1
  go_wp2_with fail
  refine (value_any _ lo HL.out).mono ?_
  rw [← HF.out]
  rintro e w2 ⟨u2, rfl, hu2, hb2⟩
  have hcv2 := hu2.str (P := Try.prog) 30 5 9 Try.underlying30 Try.underlying5 Try.underlying9
  have HX2 := hid (HX1.out.below hb2)
  have HB2 := hid (below_step HB1.out hb2)
  obtain ⟨hc0, hc1⟩ := HX2.out
  clear hu2 hb2
  go_wp2_with fail
  refine (put_ok _ v xs HV.out hk).mono ?_
  rw [← HA.out]
  rintro e w3 ⟨rfl, hb3⟩
  have HB3 := hid (below_step HB2.out hb3)
  obtain ⟨hd0, hd1⟩ := HX2.out.below hb3
  clear hb3 hc0 hc1
  go_wp2_with fail
  refine (awake_any _).mono ?_
  rintro e w4 ⟨rfl, hb4⟩
  go_wp2
  go_ret
  exact ⟨rfl, below_step HB3.out hb4⟩
set_option maxRecDepth 100000 in
theorem bnd_end_within (w : World) (lo v : Int) (xs : List Nat) (hl : I64 lo) (hv : I64 v) (hx : Byt xs) (hk : keyB xs = true) (hr : lo ≤ v)  : Calls Try.prog 7 #[.int .i64 lo, .int .i64 9223372036854775807, ent v xs] w (Yes w) := by
  have HN := hid str_nil
  have HX := hid (EntAt.new w v xs)
  have HBW : Hid (Below w.heap.size w (w.alloc (.cells #[.int .i64 v, .string (str xs)] 23))) := (Below.refl _ w).alloc (Nat.le_refl _) _
  have HL := hid hl
  have HV := hid hv
  have hl2 := hl.2
  have hv2 := hv.2
  have hl1 := hl.1
  have hv1 := hv.1
  obtain ⟨F, HF⟩ : ∃ F, Hid (F = wv lo) := ⟨_, rfl⟩
  obtain ⟨A, HA⟩ : ∃ A, Hid (A = wv v ++ xs) := ⟨_, rfl⟩
  have hAF : Op.bytesLess (str A).toList (str F).toList = decide (v < lo) := by rw [HA.out, HF.out]; exact less_wv hv hl hx
  have hr1 : ¬ v < lo := by omega
  simp only [hr1, decide_false] at hAF
  clear hl hv
  unfold ent
  go_enter Try.func7, Try.ntmps7
  go_wp2_with fail
  refine (bounds_end _ lo HL.out).mono ?_
  rw [← HN.out, ← HF.out]
  rintro e w1 ⟨rfl, hb1⟩
  have HX1 := hid (HX.out.below hb1)
  have HB1 := hid (below_step HBW.out hb1)
  clear hb1
  go_wp2_with fail
  refine (value_any _ lo HL.out).mono ?_
  rw [← HF.out]
  rintro e w2 ⟨u2, rfl, hu2, hb2⟩
  have hcv2 := hu2.str (P := Try.prog) 30 5 9 Try.underlying30 Try.underlying5 Try.underlying9
  have HX2 := hid (HX1.out.below hb2)
  have HB2 := hid (below_step HB1.out hb2)
  obtain ⟨hc0, hc1⟩ := HX2.out
  clear hu2 hb2
  go_wp2_with fail
  refine (put_ok _ v xs HV.out hk).mono ?_
  rw [← HA.out]
  rintro e w3 ⟨rfl, hb3⟩
  have HB3 := hid (below_step HB2.out hb3)
  obtain ⟨hd0, hd1⟩ := HX2.out.below hb3
  clear hb3 hc0 hc1
  go_wp2_with fail
  refine (awake_any _).mono ?_
  rintro e w4 ⟨rfl, hb4⟩
  go_wp2
  go_ret
  exact ⟨rfl, below_step HB3.out hb4⟩
set_option maxRecDepth 100000 in
theorem bnd_two_no (w : World) (lo v : Int) (hi : Int) (hh : I64 hi) (hle : lo ≤ hi) (hlt : hi < 9223372036854775807) (xs : List Nat) (hl : I64 lo) (hv : I64 v) (hx : Byt xs) (hk : keyB xs = false) : Calls Try.prog 7 #[.int .i64 lo, .int .i64 hi, ent v xs] w (Yes w) := by
  have HN := hid str_nil
  have HX := hid (EntAt.new w v xs)
  have HBW : Hid (Below w.heap.size w (w.alloc (.cells #[.int .i64 v, .string (str xs)] 23))) := (Below.refl _ w).alloc (Nat.le_refl _) _
  have HL := hid hl
  have HV := hid hv
  have hl2 := hl.2
  have hv2 := hv.2
  have hl1 := hl.1
  have hv1 := hv.1
  have HH := hid hh
  have HH1 : Hid (I64 (hi + 1)) := by have := hh.1; exact ⟨by omega, by omega⟩
  have hh1 := hh.1
  obtain ⟨T, HT⟩ : ∃ T, Hid (T = wv (hi + 1)) := ⟨_, rfl⟩
  obtain ⟨ht1, ht2⟩ : ¬ (str T).toList = [] ∧ (str T).toList.isEmpty = false := by rw [HT.out]; exact str_ne (wv_ne _)
  obtain ⟨F, HF⟩ : ∃ F, Hid (F = wv lo) := ⟨_, rfl⟩
  clear hl hv hh
  unfold ent
  go_enter Try.func7, Try.ntmps7
  go_wp2_with fail
  refine (bounds_two _ lo hi HL.out HH.out (by omega) hlt).mono ?_
  rw [← HT.out, ← HF.out]
  rintro e w0 ⟨rfl, hb0⟩
  have HX0 := hid (HX.out.below hb0)
  have HB0 := hid (below_step HBW.out hb0)
  clear hb0
  go_wp2_with fail
  refine (value_any _ (hi + 1) HH1.out).mono ?_
  rw [← HT.out]
  rintro e w1 ⟨u1, rfl, hu1, hb1⟩
  have hcv1 := hu1.str (P := Try.prog) 30 5 9 Try.underlying30 Try.underlying5 Try.underlying9
  have HX1 := hid (HX0.out.below hb1)
  have HB1 := hid (below_step HB0.out hb1)
  clear hu1 hb1
  go_wp2_with fail
  refine (value_any _ lo HL.out).mono ?_
  rw [← HF.out]
  rintro e w2 ⟨u2, rfl, hu2, hb2⟩
  have hcv2 := hu2.str (P := Try.prog) 30 5 9 Try.underlying30 Try.underlying5 Try.underlying9
  have HX2 := hid (HX1.out.below hb2)
  have HB2 := hid (below_step HB1.out hb2)
  obtain ⟨hc0, hc1⟩ := HX2.out
  clear hu2 hb2
  go_wp2_with fail
  refine (put_no _ v xs hk).mono ?_
  rintro e w3 ⟨rfl, hb3⟩
  have HB3 := hid (below_step HB2.out hb3)
  clear hb3
  go_wp2_with fail
  refine (awake_any _).mono ?_
  rintro e w4 ⟨rfl, hb4⟩
  go_wp2
  go_ret
  exact ⟨rfl, below_step HB3.out hb4⟩
set_option maxRecDepth 100000 in
theorem bnd_two_below (w : World) (lo v : Int) (hi : Int) (hh : I64 hi) (hle : lo ≤ hi) (hlt : hi < 9223372036854775807) (xs : List Nat) (hl : I64 lo) (hv : I64 v) (hx : Byt xs) (hk : keyB xs = true) (hr : v < lo) : Calls Try.prog 7 #[.int .i64 lo, .int .i64 hi, ent v xs] w (Yes w) := by
  have HN := hid str_nil
  have HX := hid (EntAt.new w v xs)
  have HBW : Hid (Below w.heap.size w (w.alloc (.cells #[.int .i64 v, .string (str xs)] 23))) := (Below.refl _ w).alloc (Nat.le_refl _) _
  have HL := hid hl
  have HV := hid hv
  have hl2 := hl.2
  have hv2 := hv.2
  have hl1 := hl.1
  have hv1 := hv.1
  have HH := hid hh
  have HH1 : Hid (I64 (hi + 1)) := by have := hh.1; exact ⟨by omega, by omega⟩
  have hh1 := hh.1
  obtain ⟨T, HT⟩ : ∃ T, Hid (T = wv (hi + 1)) := ⟨_, rfl⟩
  obtain ⟨ht1, ht2⟩ : ¬ (str T).toList = [] ∧ (str T).toList.isEmpty = false := by rw [HT.out]; exact str_ne (wv_ne _)
  obtain ⟨F, HF⟩ : ∃ F, Hid (F = wv lo) := ⟨_, rfl⟩
  obtain ⟨A, HA⟩ : ∃ A, Hid (A = wv v ++ xs) := ⟨_, rfl⟩
  have hAF : Op.bytesLess (str A).toList (str F).toList = decide (v < lo) := by rw [HA.out, HF.out]; exact less_wv hv hl hx
  simp only [hr, decide_true] at hAF
  have hAT : Op.bytesLess (str A).toList (str T).toList = decide (v < hi + 1) := by rw [HA.out, HT.out]; exact less_wv hv HH1.out hx
  have hr3 : v < hi + 1 := by omega
  simp only [hr3, decide_true] at hAT
  clear hl hv hh
  unfold ent
  go_enter Try.func7, Try.ntmps7
  go_wp2_with fail
  refine (bounds_two _ lo hi HL.out HH.out (by omega) hlt).mono ?_
  rw [← HT.out, ← HF.out]
  rintro e w0 ⟨rfl, hb0⟩
  have HX0 := hid (HX.out.below hb0)
  have HB0 := hid (below_step HBW.out hb0)
  clear hb0
  go_wp2_with fail
  refine (value_any _ (hi + 1) HH1.out).mono ?_
  rw [← HT.out]
  rintro e w1 ⟨u1, rfl, hu1, hb1⟩
  have hcv1 := hu1.str (P := Try.prog) 30 5 9 Try.underlying30 Try.underlying5 Try.underlying9
  have HX1 := hid (HX0.out.below hb1)
  have HB1 := hid (below_step HB0.out hb1)
  clear hu1 hb1
  go_wp2_with fail
  refine (value_any _ lo HL.out).mono ?_
  rw [← HF.out]
  rintro e w2 ⟨u2, rfl, hu2, hb2⟩
  have hcv2 := hu2.str (P := Try.prog) 30 5 9 Try.underlying30 Try.underlying5 Try.underlying9
  have HX2 := hid (HX1.out.below hb2)
  have HB2 := hid (below_step HB1.out hb2)
  obtain ⟨hc0, hc1⟩ := HX2.out
  clear hu2 hb2
  go_wp2_with fail
  refine (put_ok _ v xs HV.out hk).mono ?_
  rw [← HA.out]
  rintro e w3 ⟨rfl, hb3⟩
  have HB3 := hid (below_step HB2.out hb3)
  obtain ⟨hd0, hd1⟩ := HX2.out.below hb3
  clear hb3 hc0 hc1
  go_wp2_with fail
  refine (awake_any _).mono ?_
  rintro e w4 ⟨rfl, hb4⟩
  go_wp2
  go_ret
  exact ⟨rfl, below_step HB3.out hb4⟩
set_option maxRecDepth 100000 in
theorem bnd_two_within (w : World) (lo v : Int) (hi : Int) (hh : I64 hi) (hle : lo ≤ hi) (hlt : hi < 9223372036854775807) (xs : List Nat) (hl : I64 lo) (hv : I64 v) (hx : Byt xs) (hk : keyB xs = true) (hr : lo ≤ v) (hr2 : v ≤ hi) : Calls Try.prog 7 #[.int .i64 lo, .int .i64 hi, ent v xs] w (Yes w) := by
  have HN := hid str_nil
  have HX := hid (EntAt.new w v xs)
  have HBW : Hid (Below w.heap.size w (w.alloc (.cells #[.int .i64 v, .string (str xs)] 23))) := (Below.refl _ w).alloc (Nat.le_refl _) _
  have HL := hid hl
  have HV := hid hv
  have hl2 := hl.2
  have hv2 := hv.2
  have hl1 := hl.1
  have hv1 := hv.1
  have HH := hid hh
  have HH1 : Hid (I64 (hi + 1)) := by have := hh.1; exact ⟨by omega, by omega⟩
  have hh1 := hh.1
  obtain ⟨T, HT⟩ : ∃ T, Hid (T = wv (hi + 1)) := ⟨_, rfl⟩
  obtain ⟨ht1, ht2⟩ : ¬ (str T).toList = [] ∧ (str T).toList.isEmpty = false := by rw [HT.out]; exact str_ne (wv_ne _)
  obtain ⟨F, HF⟩ : ∃ F, Hid (F = wv lo) := ⟨_, rfl⟩
  obtain ⟨A, HA⟩ : ∃ A, Hid (A = wv v ++ xs) := ⟨_, rfl⟩
  have hAF : Op.bytesLess (str A).toList (str F).toList = decide (v < lo) := by rw [HA.out, HF.out]; exact less_wv hv hl hx
  have hr1 : ¬ v < lo := by omega
  simp only [hr1, decide_false] at hAF
  have hAT : Op.bytesLess (str A).toList (str T).toList = decide (v < hi + 1) := by rw [HA.out, HT.out]; exact less_wv hv HH1.out hx
  have hr3 : v < hi + 1 := by omega
  simp only [hr3, decide_true] at hAT
  clear hl hv hh
  unfold ent
  go_enter Try.func7, Try.ntmps7
  go_wp2_with fail
  refine (bounds_two _ lo hi HL.out HH.out (by omega) hlt).mono ?_
  rw [← HT.out, ← HF.out]
  rintro e w0 ⟨rfl, hb0⟩
  have HX0 := hid (HX.out.below hb0)
  have HB0 := hid (below_step HBW.out hb0)
  clear hb0
  go_wp2_with fail
  refine (value_any _ (hi + 1) HH1.out).mono ?_
  rw [← HT.out]
  rintro e w1 ⟨u1, rfl, hu1, hb1⟩
  have hcv1 := hu1.str (P := Try.prog) 30 5 9 Try.underlying30 Try.underlying5 Try.underlying9
  have HX1 := hid (HX0.out.below hb1)
  have HB1 := hid (below_step HB0.out hb1)
  clear hu1 hb1
  go_wp2_with fail
  refine (value_any _ lo HL.out).mono ?_
  rw [← HF.out]
  rintro e w2 ⟨u2, rfl, hu2, hb2⟩
  have hcv2 := hu2.str (P := Try.prog) 30 5 9 Try.underlying30 Try.underlying5 Try.underlying9
  have HX2 := hid (HX1.out.below hb2)
  have HB2 := hid (below_step HB1.out hb2)
  obtain ⟨hc0, hc1⟩ := HX2.out
  clear hu2 hb2
  go_wp2_with fail
  refine (put_ok _ v xs HV.out hk).mono ?_
  rw [← HA.out]
  rintro e w3 ⟨rfl, hb3⟩
  have HB3 := hid (below_step HB2.out hb3)
  obtain ⟨hd0, hd1⟩ := HX2.out.below hb3
  clear hb3 hc0 hc1
  go_wp2_with fail
  refine (awake_any _).mono ?_
  rintro e w4 ⟨rfl, hb4⟩
  go_wp2
  go_ret
  exact ⟨rfl, below_step HB3.out hb4⟩
set_option maxRecDepth 100000 in
theorem bnd_two_above (w : World) (lo v : Int) (hi : Int) (hh : I64 hi) (hle : lo ≤ hi) (hlt : hi < 9223372036854775807) (xs : List Nat) (hl : I64 lo) (hv : I64 v) (hx : Byt xs) (hk : keyB xs = true) (hr : hi < v) : Calls Try.prog 7 #[.int .i64 lo, .int .i64 hi, ent v xs] w (Yes w) := by
  have HN := hid str_nil
  have HX := hid (EntAt.new w v xs)
  have HBW : Hid (Below w.heap.size w (w.alloc (.cells #[.int .i64 v, .string (str xs)] 23))) := (Below.refl _ w).alloc (Nat.le_refl _) _
  have HL := hid hl
  have HV := hid hv
  have hl2 := hl.2
  have hv2 := hv.2
  have hl1 := hl.1
  have hv1 := hv.1
  have HH := hid hh
  have HH1 : Hid (I64 (hi + 1)) := by have := hh.1; exact ⟨by omega, by omega⟩
  have hh1 := hh.1
  obtain ⟨T, HT⟩ : ∃ T, Hid (T = wv (hi + 1)) := ⟨_, rfl⟩
  obtain ⟨ht1, ht2⟩ : ¬ (str T).toList = [] ∧ (str T).toList.isEmpty = false := by rw [HT.out]; exact str_ne (wv_ne _)
  obtain ⟨F, HF⟩ : ∃ F, Hid (F = wv lo) := ⟨_, rfl⟩
  obtain ⟨A, HA⟩ : ∃ A, Hid (A = wv v ++ xs) := ⟨_, rfl⟩
  have hAF : Op.bytesLess (str A).toList (str F).toList = decide (v < lo) := by rw [HA.out, HF.out]; exact less_wv hv hl hx
  have hr1 : ¬ v < lo := by omega
  simp only [hr1, decide_false] at hAF
  have hAT : Op.bytesLess (str A).toList (str T).toList = decide (v < hi + 1) := by rw [HA.out, HT.out]; exact less_wv hv HH1.out hx
  have hr3 : ¬ v < hi + 1 := by omega
  simp only [hr3, decide_false] at hAT
  clear hl hv hh
  unfold ent
  go_enter Try.func7, Try.ntmps7
  go_wp2_with fail
  refine (bounds_two _ lo hi HL.out HH.out (by omega) hlt).mono ?_
  rw [← HT.out, ← HF.out]
  rintro e w0 ⟨rfl, hb0⟩
  have HX0 := hid (HX.out.below hb0)
  have HB0 := hid (below_step HBW.out hb0)
  clear hb0
  go_wp2_with fail
  refine (value_any _ (hi + 1) HH1.out).mono ?_
  rw [← HT.out]
  rintro e w1 ⟨u1, rfl, hu1, hb1⟩
  have hcv1 := hu1.str (P := Try.prog) 30 5 9 Try.underlying30 Try.underlying5 Try.underlying9
  have HX1 := hid (HX0.out.below hb1)
  have HB1 := hid (below_step HB0.out hb1)
  clear hu1 hb1
  go_wp2_with fail
  refine (value_any _ lo HL.out).mono ?_
  rw [← HF.out]
  rintro e w2 ⟨u2, rfl, hu2, hb2⟩
  have hcv2 := hu2.str (P := Try.prog) 30 5 9 Try.underlying30 Try.underlying5 Try.underlying9
  have HX2 := hid (HX1.out.below hb2)
  have HB2 := hid (below_step HB1.out hb2)
  obtain ⟨hc0, hc1⟩ := HX2.out
  clear hu2 hb2
  go_wp2_with fail
  refine (put_ok _ v xs HV.out hk).mono ?_
  rw [← HA.out]
  rintro e w3 ⟨rfl, hb3⟩
  have HB3 := hid (below_step HB2.out hb3)
  obtain ⟨hd0, hd1⟩ := HX2.out.below hb3
  clear hb3 hc0 hc1
  go_wp2_with fail
  refine (awake_any _).mono ?_
  rintro e w4 ⟨rfl, hb4⟩
  go_wp2
  go_ret
  exact ⟨ret_bool (a := !decide (v ≤ hi)) (b := true) (by rw [decide_eq_false (show ¬ v ≤ hi by omega)]; rfl), below_step HB3.out hb4⟩
set_option maxRecDepth 100000 in
theorem bnd_any (w : World) (lo hi v : Int) (xs : List Nat) (hl : I64 lo) (hh : I64 hi) (hv : I64 v) (hx : Byt xs) : Calls Try.prog 7 #[.int .i64 lo, .int .i64 hi, ent v xs] w (Yes w) := by
  by_cases h : hi < lo
  · exact bnd_no w lo hi v xs h
  · by_cases hm : hi = 9223372036854775807
    · subst hm
      cases hk : keyB xs with
      | false => exact bnd_end_no w lo v xs hl hv hx hk
      | true =>
        by_cases hr : v < lo
        · exact bnd_end_below w lo v xs hl hv hx hk hr
        · exact bnd_end_within w lo v xs hl hv hx hk (by omega)
    · have hlt : hi < 9223372036854775807 := by have := hh.2; omega
      cases hk : keyB xs with
      | false => exact bnd_two_no w lo v hi hh (by omega) hlt xs hl hv hx hk
      | true =>
        by_cases hr : v < lo
        · exact bnd_two_below w lo v hi hh (by omega) hlt xs hl hv hx hk hr
        · by_cases hr2 : v ≤ hi
          · exact bnd_two_within w lo v hi hh (by omega) hlt xs hl hv hx hk (by omega) hr2
          · exact bnd_two_above w lo v hi hh (by omega) hlt xs hl hv hx hk (by omega)
end Go.Proofs.Ytomkfggilehhgaa
