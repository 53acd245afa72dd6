/- CursorScans. -/
import Derived.Test.YtkckilemfkajeaaY2
namespace Go.Proofs.Ytkckilemfkajeaa
open Go.RowKit
set_option maxRecDepth 100000

theorem scans_many (w : World) (v : Value) (os : List Cl) (K V : List Nat) (n : Int) (hv : Elems 3 cO w v os) (hf : fewB os = false ∨ (fewB os = true ∧ shortB K V = false)) : Calls Try.prog 11 #[v, two2 K V, .int .i64 n] w (Yes w) := by
  obtain ⟨wB, HW⟩ : ∃ W, Hid (W = w.alloc (.cells #[.string (str K), .string (str V)] 48)) := ⟨_, rfl⟩
  obtain ⟨x0, x1, b0⟩ := boxed w K V 48
  rw [← HW.out] at x0 x1 b0
  have HB0 := hid b0
  have X0 := hid x0
  have X1 := hid x1
  clear x0 x1 b0
  rcases hf with hf | ⟨hf, hs⟩
  · unfold two2
    go_enter Try.func11, Try.ntmps11
    go_wp2_with fail
    rw [← HW.out]
    refine (few_any wB _ os (hv.below HB0.out)).mono ?_
    rw [hf]
    rintro e w1 ⟨rfl, rfl⟩
    go_wp2_with fail
    refine (awake5_yes _).mono ?_
    rintro e wz ⟨rfl, hbz⟩
    go_wp2
    go_ret
    exact ⟨rfl, below_step HB0.out (below_step (Below.refl _ _) hbz)⟩
  · unfold two2
    go_enter Try.func11, Try.ntmps11
    go_wp2_with fail
    rw [← HW.out]
    refine (few_any wB _ os (hv.below HB0.out)).mono ?_
    rw [hf]
    rintro e w1 ⟨rfl, rfl⟩
    have x0 := X0.out
    have x1 := X1.out
    go_wp2_with fail
    refine (short_any wB K V).mono ?_
    rw [hs]
    rintro e w2 ⟨rfl, hb2⟩
    have HB2 := hid hb2
    clear hb2
    go_wp2_with fail
    refine (awake5_yes _).mono ?_
    rintro e wz ⟨rfl, hbz⟩
    go_wp2
    go_ret
    exact ⟨rfl, below_step HB0.out (below_step HB2.out hbz)⟩
set_option maxHeartbeats 4000000 in
theorem scans_bad (w : World) (v : Value) (os : List Cl) (K V : List Nat) (n : Int) (hv : Elems 3 cO w v os) (hos : ClsOk os) (bK : Byt K) (bV : Byt V) (hf : fewB os = true) (hs : shortB K V = true) (hn : V ≠ []) (hlt : V < K) : Calls Try.prog 11 #[v, two2 K V, .int .i64 n] w (Yes w) := by
  obtain ⟨wB, HW⟩ : ∃ W, Hid (W = w.alloc (.cells #[.string (str K), .string (str V)] 48)) := ⟨_, rfl⟩
  obtain ⟨x0, x1, b0⟩ := boxed w K V 48
  rw [← HW.out] at x0 x1 b0
  have HB0 := hid b0
  have X0 := hid x0
  have X1 := hid x1
  clear x0 x1 b0
  obtain ⟨e1, e2⟩ := ne_nil_str hn
  have e3 : Op.bytesLess (str V).toList (str K).toList = true := by rw [less_str bV bK, decide_eq_true hlt]
  have BV := hid bV
  have BK := hid bK
  have HE := hid str_nil
  obtain ⟨hK, hV⟩ : K.length ≤ 300 ∧ V.length ≤ 300 := by unfold shortB at hs; exact of_decide_eq_true hs
  unfold two2
  go_enter Try.func11, Try.ntmps11
  go_wp2_with fail
  rw [← HW.out]
  refine (few_any wB _ os (hv.below HB0.out)).mono ?_
  rw [hf]
  rintro e w1 ⟨rfl, rfl⟩
  have x0 := X0.out
  have x1 := X1.out
  go_wp2_with fail
  refine (short_any wB K V).mono ?_
  rw [hs]
  rintro e w2 ⟨rfl, hb2⟩
  have HB2 := hid hb2
  clear hb2
  go_wp2_with fail
  refine (made_ok w2 2 (by decide) (by decide) v os ((hv.below HB0.out).below HB2.out) hos hf).mono ?_
  rintro e w1 ⟨a, p, P, G, rfl, hst⟩
  have HS : Hid (St wB w1 P G a p (runL [] os) 2) := ⟨hst.t, hst.r, hst.n, hst.m, ((Chg.of_below (F := []) HB2.out).less (K := []) (fun k hk => by cases hk)).trans hst.c⟩
  clear hst x0 x1
  have x0 := below_keep HS.out.since _ _ X0.out
  have x1 := below_keep HS.out.since _ _ X1.out
  go_wp2_with fail
  refine (scan_bad _ a K V n BK.out BV.out hn hlt).mono ?_
  rintro e w3 ⟨rfl, hb3⟩
  have HS3 := hid (HS.out.below_ hb3)
  have x0 := below_keep HS3.out.since _ _ X0.out
  have x1 := below_keep HS3.out.since _ _ X1.out
  clear hb3
  go_wp2_with fail
  refine (awake5_yes _).mono ?_
  rintro e wz ⟨rfl, hbz⟩
  go_wp2
  go_ret
  exact ⟨rfl, below_step HB0.out (below_step HS3.out.since hbz)⟩
set_option maxHeartbeats 4000000 in
theorem scans_fewB (w : World) (v : Value) (os : List Cl) (K : List Nat) (n : Int) (hv : Elems 3 cO w v os) (hm : n < 0) (hos : ClsOk os) (bK : Byt K) (hf : fewB os = true) (hs : shortB K [] = true) : Calls Try.prog 11 #[v, two2 K [], .int .i64 n] w (Yes w) := by
  obtain ⟨wB, HW⟩ : ∃ W, Hid (W = w.alloc (.cells #[.string (str K), .string (str [])] 48)) := ⟨_, rfl⟩
  obtain ⟨x0, x1, b0⟩ := boxed w K [] 48
  rw [← HW.out] at x0 x1 b0
  rw [← str_nil] at x1
  have HB0 := hid b0
  have X0 := hid x0
  have X1 := hid x1
  clear x0 x1 b0
  have BK := hid bK
  have HE := hid str_nil
  obtain ⟨hK, hV⟩ : K.length ≤ 300 ∧ ([] : List Nat).length ≤ 300 := by unfold shortB at hs; exact of_decide_eq_true hs
  unfold two2
  go_enter Try.func11, Try.ntmps11
  go_wp2_with fail
  rw [← HW.out]
  refine (few_any wB _ os (hv.below HB0.out)).mono ?_
  rw [hf]
  rintro e w1 ⟨rfl, rfl⟩
  have x0 := X0.out
  have x1 := X1.out
  go_wp2_with fail
  rw [HE.out]
  refine (short_any wB K []).mono ?_
  rw [hs]
  rintro e w2 ⟨rfl, hb2⟩
  have HB2 := hid hb2
  clear hb2
  go_wp2_with fail
  refine (made_ok w2 2 (by decide) (by decide) v os ((hv.below HB0.out).below HB2.out) hos hf).mono ?_
  rintro e w1 ⟨a, p, P, G, rfl, hst⟩
  have HS : Hid (St wB w1 P G a p (runL [] os) 2) := ⟨hst.t, hst.r, hst.n, hst.m, ((Chg.of_below (F := []) HB2.out).less (K := []) (fun k hk => by cases hk)).trans hst.c⟩
  clear hst x0 x1
  have x0 := below_keep HS.out.since _ _ X0.out
  have x1 := below_keep HS.out.since _ _ X1.out
  go_wp2_with fail
  rw [HE.out]
  refine (scan_few _ a K [] n BK.out (fun b hb => by cases hb) (by omega) (by decide) (.inl rfl) hm).mono ?_
  rintro e w3 ⟨rfl, hb3⟩
  have HS3 := hid (HS.out.below_ hb3)
  have x0 := below_keep HS3.out.since _ _ X0.out
  have x1 := below_keep HS3.out.since _ _ X1.out
  clear hb3
  go_wp2_with fail
  refine (awake5_yes _).mono ?_
  rintro e wz ⟨rfl, hbz⟩
  go_wp2
  go_ret
  exact ⟨rfl, below_step HB0.out (below_step HS3.out.since hbz)⟩
set_option maxHeartbeats 4000000 in
theorem scans_okB (w : World) (v : Value) (os : List Cl) (K : List Nat) (most : Nat) (hv : Elems 3 cO w v os) (hm : most ≤ 9223372036854775807) (hos : ClsOk os) (bK : Byt K) (hf : fewB os = true) (hs : shortB K [] = true) : Calls Try.prog 11 #[v, two2 K [], .int .i64 (most : Int)] w (Yes w) := by
  obtain ⟨wB, HW⟩ : ∃ W, Hid (W = w.alloc (.cells #[.string (str K), .string (str [])] 48)) := ⟨_, rfl⟩
  obtain ⟨x0, x1, b0⟩ := boxed w K [] 48
  rw [← HW.out] at x0 x1 b0
  rw [← str_nil] at x1
  have HB0 := hid b0
  have X0 := hid x0
  have X1 := hid x1
  clear x0 x1 b0
  have BK := hid bK
  have HE := hid str_nil
  obtain ⟨hK, hV⟩ : K.length ≤ 300 ∧ ([] : List Nat).length ≤ 300 := by unfold shortB at hs; exact of_decide_eq_true hs
  have hmi : ¬ (most : Int) < 0 := by omega
  unfold two2
  go_enter Try.func11, Try.ntmps11
  go_wp2_with fail
  rw [← HW.out]
  refine (few_any wB _ os (hv.below HB0.out)).mono ?_
  rw [hf]
  rintro e w1 ⟨rfl, rfl⟩
  have x0 := X0.out
  have x1 := X1.out
  go_wp2_with fail
  rw [HE.out]
  refine (short_any wB K []).mono ?_
  rw [hs]
  rintro e w2 ⟨rfl, hb2⟩
  have HB2 := hid hb2
  clear hb2
  go_wp2_with fail
  refine (made_ok w2 2 (by decide) (by decide) v os ((hv.below HB0.out).below HB2.out) hos hf).mono ?_
  rintro e w1 ⟨a, p, P, G, rfl, hst⟩
  have HS : Hid (St wB w1 P G a p (runL [] os) 2) := ⟨hst.t, hst.r, hst.n, hst.m, ((Chg.of_below (F := []) HB2.out).less (K := []) (fun k hk => by cases hk)).trans hst.c⟩
  clear hst x0 x1
  have x0 := below_keep HS.out.since _ _ X0.out
  have x1 := below_keep HS.out.since _ _ X1.out
  have hLL := run_few hf
  obtain ⟨L, HLE⟩ : ∃ L, Hid (L = runL [] os) := ⟨_, rfl⟩
  have HKY : Hid (Keyed L) := by rw [HLE.out]; exact run_keyed os
  rw [← HLE.out] at HS hLL
  go_wp2_with fail
  rw [HE.out]
  refine (scan_ok _ a 2 most K [] L P HS.out.t (by omega) HKY.out BK.out (fun b hb => by cases hb) (by omega) (by decide) (.inl rfl) hm).mono ?_
  rintro e w3 ⟨gv, rfl, hown, hb3⟩
  obtain ⟨S, HSE⟩ : ∃ S, Hid (S = seg L [] (atN L K) most) := ⟨_, rfl⟩
  rw [← HSE.out] at hown
  have HG := hid hown.rows
  have HS3 := hid (HS.out.below_ hb3)
  have x0 := below_keep HS3.out.since _ _ X0.out
  have x1 := below_keep HS3.out.since _ _ X1.out
  clear hb3 hown
  go_wp2_with fail
  rw [HE.out]
  refine (range_any _ G p most L K [] HS3.out.r HS3.out.t.byt (by omega) BK.out (fun b hb => by cases hb) hm).mono ?_
  rw [filter_scan HS3.out.t.rise K [] (.inl rfl) most, ← HSE.out]
  rintro e w4 ⟨wv, rfl, hown, hb4⟩
  have HW4 := hid hown.rows
  have HG4 := hid (HG.out.below hb4)
  have HS4 := hid (HS3.out.below_ hb4)
  obtain ⟨Ag, cg, rfl⟩ := HG4.out.slice
  obtain ⟨Aw, cw, rfl⟩ := HW4.out.slice
  obtain ⟨m, HM⟩ : ∃ m, Hid (m = S.length) := ⟨_, rfl⟩
  have hmx : m ≤ 9223372036854775807 := by
    have h1 := HG4.out.cap
    rw [HM.out]
    unfold maxLen at h1
    omega
  rw [← HM.out] at HG4 HW4 ⊢
  clear hb4 hown x0 x1
  go_wp2
  obtain ⟨ws, rfl⟩ : ∃ ws, ws = w4 := ⟨_, rfl⟩
  go_loopw [12] (fun i wr => ∃ k : Nat, k ≤ m ∧ i = .int .i64 k ∧ Below ws.heap.size ws wr) (fun i _ => m - (intOf i).toNat)
  case atStart => exact ⟨0, by omega, rfl, Below.refl _ _⟩
  case round =>
    obtain ⟨k, hk, rfl, hb⟩ := hrel
    have HB := hid hb
    clear hb
    by_cases hkm : k < m
    · have hkmi : (k : Int) < m := by omega
      obtain ⟨q, hq⟩ : ∃ q, S[k]? = some q := ⟨S[k]'(by have := HM.out; omega), List.getElem?_eq_getElem _⟩
      obtain ⟨ad, rfl, q0, q1⟩ := (HG4.out.below HB.out).pcell2 hq
      obtain ⟨ad2, rfl, r0, r1⟩ := (HW4.out.below HB.out).pcell2 hq
      clear hq
      go_wp2
      go_quiet (fail)
      go_wp2
      go_roundw
      case rel => exact ⟨k + 1, by omega, by go_num, below_drewN' HB.out _⟩
      case measure => simp [intOf]; omega
    · obtain rfl : k = m := by omega
      go_wp2_with fail
      refine (awake5_yes _).mono ?_
      rintro e w5 ⟨rfl, hb5⟩
      go_wp2
      go_ret
      exact ⟨rfl, below_step HB0.out (below_step (below_step HS4.out.since HB.out) hb5)⟩
set_option maxHeartbeats 4000000 in
theorem scans_fewC (w : World) (v : Value) (os : List Cl) (K V : List Nat) (n : Int) (hv : Elems 3 cO w v os) (hm : n < 0) (hos : ClsOk os) (bK : Byt K) (bV : Byt V) (hf : fewB os = true) (hs : shortB K V = true) (hn : V ≠ []) (hlt : ¬ V < K) : Calls Try.prog 11 #[v, two2 K V, .int .i64 n] w (Yes w) := by
  obtain ⟨wB, HW⟩ : ∃ W, Hid (W = w.alloc (.cells #[.string (str K), .string (str V)] 48)) := ⟨_, rfl⟩
  obtain ⟨x0, x1, b0⟩ := boxed w K V 48
  rw [← HW.out] at x0 x1 b0
  have HB0 := hid b0
  have X0 := hid x0
  have X1 := hid x1
  clear x0 x1 b0
  obtain ⟨e1, e2⟩ := ne_nil_str hn
  have e3 : Op.bytesLess (str V).toList (str K).toList = false := by rw [less_str bV bK, decide_eq_false hlt]
  have BV := hid bV
  have BK := hid bK
  have HE := hid str_nil
  obtain ⟨hK, hV⟩ : K.length ≤ 300 ∧ V.length ≤ 300 := by unfold shortB at hs; exact of_decide_eq_true hs
  unfold two2
  go_enter Try.func11, Try.ntmps11
  go_wp2_with fail
  rw [← HW.out]
  refine (few_any wB _ os (hv.below HB0.out)).mono ?_
  rw [hf]
  rintro e w1 ⟨rfl, rfl⟩
  have x0 := X0.out
  have x1 := X1.out
  go_wp2_with fail
  refine (short_any wB K V).mono ?_
  rw [hs]
  rintro e w2 ⟨rfl, hb2⟩
  have HB2 := hid hb2
  clear hb2
  go_wp2_with fail
  refine (made_ok w2 2 (by decide) (by decide) v os ((hv.below HB0.out).below HB2.out) hos hf).mono ?_
  rintro e w1 ⟨a, p, P, G, rfl, hst⟩
  have HS : Hid (St wB w1 P G a p (runL [] os) 2) := ⟨hst.t, hst.r, hst.n, hst.m, ((Chg.of_below (F := []) HB2.out).less (K := []) (fun k hk => by cases hk)).trans hst.c⟩
  clear hst x0 x1
  have x0 := below_keep HS.out.since _ _ X0.out
  have x1 := below_keep HS.out.since _ _ X1.out
  go_wp2_with fail
  refine (scan_few _ a K V n BK.out BV.out (by omega) (by omega) (.inr hlt) hm).mono ?_
  rintro e w3 ⟨rfl, hb3⟩
  have HS3 := hid (HS.out.below_ hb3)
  have x0 := below_keep HS3.out.since _ _ X0.out
  have x1 := below_keep HS3.out.since _ _ X1.out
  clear hb3
  go_wp2_with fail
  refine (awake5_yes _).mono ?_
  rintro e wz ⟨rfl, hbz⟩
  go_wp2
  go_ret
  exact ⟨rfl, below_step HB0.out (below_step HS3.out.since hbz)⟩
set_option maxHeartbeats 4000000 in
theorem scans_okC (w : World) (v : Value) (os : List Cl) (K V : List Nat) (most : Nat) (hv : Elems 3 cO w v os) (hm : most ≤ 9223372036854775807) (hos : ClsOk os) (bK : Byt K) (bV : Byt V) (hf : fewB os = true) (hs : shortB K V = true) (hn : V ≠ []) (hlt : ¬ V < K) : Calls Try.prog 11 #[v, two2 K V, .int .i64 (most : Int)] w (Yes w) := by
  obtain ⟨wB, HW⟩ : ∃ W, Hid (W = w.alloc (.cells #[.string (str K), .string (str V)] 48)) := ⟨_, rfl⟩
  obtain ⟨x0, x1, b0⟩ := boxed w K V 48
  rw [← HW.out] at x0 x1 b0
  have HB0 := hid b0
  have X0 := hid x0
  have X1 := hid x1
  clear x0 x1 b0
  obtain ⟨e1, e2⟩ := ne_nil_str hn
  have e3 : Op.bytesLess (str V).toList (str K).toList = false := by rw [less_str bV bK, decide_eq_false hlt]
  have BV := hid bV
  have BK := hid bK
  have HE := hid str_nil
  obtain ⟨hK, hV⟩ : K.length ≤ 300 ∧ V.length ≤ 300 := by unfold shortB at hs; exact of_decide_eq_true hs
  have hmi : ¬ (most : Int) < 0 := by omega
  unfold two2
  go_enter Try.func11, Try.ntmps11
  go_wp2_with fail
  rw [← HW.out]
  refine (few_any wB _ os (hv.below HB0.out)).mono ?_
  rw [hf]
  rintro e w1 ⟨rfl, rfl⟩
  have x0 := X0.out
  have x1 := X1.out
  go_wp2_with fail
  refine (short_any wB K V).mono ?_
  rw [hs]
  rintro e w2 ⟨rfl, hb2⟩
  have HB2 := hid hb2
  clear hb2
  go_wp2_with fail
  refine (made_ok w2 2 (by decide) (by decide) v os ((hv.below HB0.out).below HB2.out) hos hf).mono ?_
  rintro e w1 ⟨a, p, P, G, rfl, hst⟩
  have HS : Hid (St wB w1 P G a p (runL [] os) 2) := ⟨hst.t, hst.r, hst.n, hst.m, ((Chg.of_below (F := []) HB2.out).less (K := []) (fun k hk => by cases hk)).trans hst.c⟩
  clear hst x0 x1
  have x0 := below_keep HS.out.since _ _ X0.out
  have x1 := below_keep HS.out.since _ _ X1.out
  have hLL := run_few hf
  obtain ⟨L, HLE⟩ : ∃ L, Hid (L = runL [] os) := ⟨_, rfl⟩
  have HKY : Hid (Keyed L) := by rw [HLE.out]; exact run_keyed os
  rw [← HLE.out] at HS hLL
  go_wp2_with fail
  refine (scan_ok _ a 2 most K V L P HS.out.t (by omega) HKY.out BK.out BV.out (by omega) (by omega) (.inr hlt) hm).mono ?_
  rintro e w3 ⟨gv, rfl, hown, hb3⟩
  obtain ⟨S, HSE⟩ : ∃ S, Hid (S = seg L V (atN L K) most) := ⟨_, rfl⟩
  rw [← HSE.out] at hown
  have HG := hid hown.rows
  have HS3 := hid (HS.out.below_ hb3)
  have x0 := below_keep HS3.out.since _ _ X0.out
  have x1 := below_keep HS3.out.since _ _ X1.out
  clear hb3 hown
  go_wp2_with fail
  refine (range_any _ G p most L K V HS3.out.r HS3.out.t.byt (by omega) BK.out BV.out hm).mono ?_
  rw [filter_scan HS3.out.t.rise K V (.inr hlt) most, ← HSE.out]
  rintro e w4 ⟨wv, rfl, hown, hb4⟩
  have HW4 := hid hown.rows
  have HG4 := hid (HG.out.below hb4)
  have HS4 := hid (HS3.out.below_ hb4)
  obtain ⟨Ag, cg, rfl⟩ := HG4.out.slice
  obtain ⟨Aw, cw, rfl⟩ := HW4.out.slice
  obtain ⟨m, HM⟩ : ∃ m, Hid (m = S.length) := ⟨_, rfl⟩
  have hmx : m ≤ 9223372036854775807 := by
    have h1 := HG4.out.cap
    rw [HM.out]
    unfold maxLen at h1
    omega
  rw [← HM.out] at HG4 HW4 ⊢
  clear hb4 hown x0 x1
  go_wp2
  obtain ⟨ws, rfl⟩ : ∃ ws, ws = w4 := ⟨_, rfl⟩
  go_loopw [12] (fun i wr => ∃ k : Nat, k ≤ m ∧ i = .int .i64 k ∧ Below ws.heap.size ws wr) (fun i _ => m - (intOf i).toNat)
  case atStart => exact ⟨0, by omega, rfl, Below.refl _ _⟩
  case round =>
    obtain ⟨k, hk, rfl, hb⟩ := hrel
    have HB := hid hb
    clear hb
    by_cases hkm : k < m
    · have hkmi : (k : Int) < m := by omega
      obtain ⟨q, hq⟩ : ∃ q, S[k]? = some q := ⟨S[k]'(by have := HM.out; omega), List.getElem?_eq_getElem _⟩
      obtain ⟨ad, rfl, q0, q1⟩ := (HG4.out.below HB.out).pcell2 hq
      obtain ⟨ad2, rfl, r0, r1⟩ := (HW4.out.below HB.out).pcell2 hq
      clear hq
      go_wp2
      go_quiet (fail)
      go_wp2
      go_roundw
      case rel => exact ⟨k + 1, by omega, by go_num, below_drewN' HB.out _⟩
      case measure => simp [intOf]; omega
    · obtain rfl : k = m := by omega
      go_wp2_with fail
      refine (awake5_yes _).mono ?_
      rintro e w5 ⟨rfl, hb5⟩
      go_wp2
      go_ret
      exact ⟨rfl, below_step HB0.out (below_step (below_step HS4.out.since HB.out) hb5)⟩
theorem scans_any (w : World) (v : Value) (os : List Cl) (K V : List Nat) (n : Int) (hv : Elems 3 cO w v os) (hos : ClsOk os) (bK : Byt K) (bV : Byt V) (hn : n ≤ 9223372036854775807) : Calls Try.prog 11 #[v, two2 K V, .int .i64 n] w (Yes w) := by
  cases hf : fewB os with
  | false => exact scans_many w v os K V n hv (.inl hf)
  | true =>
    cases hs : shortB K V with
    | false => exact scans_many w v os K V n hv (.inr ⟨hf, hs⟩)
    | true =>
      by_cases h0 : V = []
      · subst h0
        by_cases hm : n < 0
        · exact scans_fewB w v os K n hv hm hos bK hf hs
        · obtain ⟨most, rfl⟩ : ∃ m : Nat, n = (m : Int) := ⟨n.toNat, by omega⟩
          exact scans_okB w v os K most hv (by omega) hos bK hf hs
      · by_cases h1 : V < K
        · exact scans_bad w v os K V n hv hos bK bV hf hs h0 h1
        · by_cases hm : n < 0
          · exact scans_fewC w v os K V n hv hm hos bK bV hf hs h0 h1
          · obtain ⟨most, rfl⟩ : ∃ m : Nat, n = (m : Int) := ⟨n.toNat, by omega⟩
            exact scans_okC w v os K V most hv (by omega) hos bK bV hf hs h0 h1
end Go.Proofs.Ytkckilemfkajeaa
