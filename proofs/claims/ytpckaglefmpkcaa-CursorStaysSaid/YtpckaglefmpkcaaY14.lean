/- CursorStays: the ways that end early. -/
import Derived.Test.YtpckaglefmpkcaaY16
namespace Go.Proofs.Ytpckaglefmpkcaa
open Go.RowKit
set_option maxRecDepth 100000

theorem stays_fewl (w : World) (v v2 : Value) (os ms : List Cl) (K V : List Nat) (hv : Elems 3 cO w v os) (_hv2 : Elems 3 cO w v2 ms) (hf : fewB os = false) : Calls Try.prog 14 #[v, two2 K V, v2] w (Yes w) := by
  obtain ⟨wB, HW⟩ : ∃ W, Hid (W = w.alloc (.cells #[.string (str K), .string (str V)] 48)) := ⟨_, rfl⟩
  obtain ⟨x0, x1, b0⟩ := boxed w K V 48
  rw [← HW.out] at x0 x1 b0
  have HB0 := hid b0
  have X0 := hid x0
  have X1 := hid x1
  clear x0 x1 b0
  unfold two2
  go_enter Try.func14, Try.ntmps14
  go_wp2_with fail
  rw [← HW.out]
  refine (few_any wB _ os (hv.below HB0.out)).mono ?_
  rw [hf]
  rintro e w1 ⟨rfl, rfl⟩
  go_wp2_with fail
  refine (awake5_yes _).mono ?_
  rintro e wz ⟨rfl, hbz⟩
  go_wp2
  go_ret
  exact ⟨rfl, below_step HB0.out (below_step (Below.refl _ _) hbz)⟩
theorem stays_fewm (w : World) (v v2 : Value) (os ms : List Cl) (K V : List Nat) (hv : Elems 3 cO w v os) (hv2 : Elems 3 cO w v2 ms) (hf : fewB os = true) (hfm : fewB ms = false) : Calls Try.prog 14 #[v, two2 K V, v2] w (Yes w) := by
  obtain ⟨wB, HW⟩ : ∃ W, Hid (W = w.alloc (.cells #[.string (str K), .string (str V)] 48)) := ⟨_, rfl⟩
  obtain ⟨x0, x1, b0⟩ := boxed w K V 48
  rw [← HW.out] at x0 x1 b0
  have HB0 := hid b0
  have X0 := hid x0
  have X1 := hid x1
  clear x0 x1 b0
  unfold two2
  go_enter Try.func14, Try.ntmps14
  go_wp2_with fail
  rw [← HW.out]
  refine (few_any wB _ os (hv.below HB0.out)).mono ?_
  rw [hf]
  rintro e w1 ⟨rfl, rfl⟩
  go_wp2_with fail
  refine (few_any wB _ ms (hv2.below HB0.out)).mono ?_
  rw [hfm]
  rintro e w1 ⟨rfl, rfl⟩
  go_wp2_with fail
  refine (awake5_yes _).mono ?_
  rintro e wz ⟨rfl, hbz⟩
  go_wp2
  go_ret
  exact ⟨rfl, below_step HB0.out (below_step (Below.refl _ _) hbz)⟩
theorem stays_short (w : World) (v v2 : Value) (os ms : List Cl) (K V : List Nat) (hv : Elems 3 cO w v os) (hv2 : Elems 3 cO w v2 ms) (hf : fewB os = true) (hfm : fewB ms = true) (hs : shortB K V = false) : Calls Try.prog 14 #[v, two2 K V, v2] w (Yes w) := by
  obtain ⟨wB, HW⟩ : ∃ W, Hid (W = w.alloc (.cells #[.string (str K), .string (str V)] 48)) := ⟨_, rfl⟩
  obtain ⟨x0, x1, b0⟩ := boxed w K V 48
  rw [← HW.out] at x0 x1 b0
  have HB0 := hid b0
  have X0 := hid x0
  have X1 := hid x1
  clear x0 x1 b0
  unfold two2
  go_enter Try.func14, Try.ntmps14
  go_wp2_with fail
  rw [← HW.out]
  refine (few_any wB _ os (hv.below HB0.out)).mono ?_
  rw [hf]
  rintro e w1 ⟨rfl, rfl⟩
  go_wp2_with fail
  refine (few_any wB _ ms (hv2.below HB0.out)).mono ?_
  rw [hfm]
  rintro e w1 ⟨rfl, rfl⟩
  have x0 := X0.out
  have x1 := X1.out
  go_wp2_with fail
  refine (short_any wB K V).mono ?_
  rw [hs]
  rintro e w2 ⟨rfl, hb2⟩
  have HB2 := hid hb2
  clear hb2
  go_wp2_with fail
  refine (awake5_yes _).mono ?_
  rintro e wz ⟨rfl, hbz⟩
  go_wp2
  go_ret
  exact ⟨rfl, below_step HB0.out (below_step HB2.out hbz)⟩
theorem stays_long (w : World) (v v2 : Value) (os ms : List Cl) (K V : List Nat) (hv : Elems 3 cO w v os) (hv2 : Elems 3 cO w v2 ms) (hf : fewB os = true) (hfm : fewB ms = true) (hs : shortB K V = true) (hml : 100 < ms.length) : Calls Try.prog 14 #[v, two2 K V, v2] w (Yes w) := by
  obtain ⟨wB, HW⟩ : ∃ W, Hid (W = w.alloc (.cells #[.string (str K), .string (str V)] 48)) := ⟨_, rfl⟩
  obtain ⟨x0, x1, b0⟩ := boxed w K V 48
  rw [← HW.out] at x0 x1 b0
  have HB0 := hid b0
  have X0 := hid x0
  have X1 := hid x1
  clear x0 x1 b0
  obtain ⟨A2, cap2, rfl⟩ := hv2.slice
  have hmi : (100 : Int) < ms.length := by omega
  unfold two2
  go_enter Try.func14, Try.ntmps14
  go_wp2_with fail
  rw [← HW.out]
  refine (few_any wB _ os (hv.below HB0.out)).mono ?_
  rw [hf]
  rintro e w1 ⟨rfl, rfl⟩
  go_wp2_with fail
  refine (few_any wB _ ms (hv2.below HB0.out)).mono ?_
  rw [hfm]
  rintro e w1 ⟨rfl, rfl⟩
  have x0 := X0.out
  have x1 := X1.out
  go_wp2_with fail
  refine (short_any wB K V).mono ?_
  rw [hs]
  rintro e w2 ⟨rfl, hb2⟩
  have HB2 := hid hb2
  clear hb2
  go_wp2_with fail
  refine (awake5_yes _).mono ?_
  rintro e wz ⟨rfl, hbz⟩
  go_wp2
  go_ret
  exact ⟨rfl, below_step HB0.out (below_step HB2.out hbz)⟩
set_option maxHeartbeats 4000000 in
theorem stays_bad (w : World) (v v2 : Value) (os ms : List Cl) (K V : List Nat) (hv : Elems 3 cO w v os) (hv2 : Elems 3 cO w v2 ms) (hfm : fewB ms = true) (_hom : ClsOk ms) (hml : ms.length ≤ 100) (hos : ClsOk os) (bK : Byt K) (bV : Byt V) (hf : fewB os = true) (hs : shortB K V = true) (hn : V ≠ []) (hlt : V < K) : Calls Try.prog 14 #[v, two2 K V, v2] w (Yes w) := by
  obtain ⟨wB, HW⟩ : ∃ W, Hid (W = w.alloc (.cells #[.string (str K), .string (str V)] 48)) := ⟨_, rfl⟩
  obtain ⟨x0, x1, b0⟩ := boxed w K V 48
  rw [← HW.out] at x0 x1 b0
  have HB0 := hid b0
  have X0 := hid x0
  have X1 := hid x1
  clear x0 x1 b0
  obtain ⟨e1, e2⟩ := ne_nil_str hn
  have e3 : Op.bytesLess (str V).toList (str K).toList = true := by rw [less_str bV bK, decide_eq_true hlt]
  have BV := hid bV
  have BK := hid bK
  have HE := hid str_nil
  obtain ⟨hK, hV⟩ : K.length ≤ 300 ∧ V.length ≤ 300 := by unfold shortB at hs; exact of_decide_eq_true hs
  obtain ⟨A2, cap2, rfl⟩ := hv2.slice
  have hmi : ¬ (100 : Int) < ms.length := by omega
  unfold two2
  go_enter Try.func14, Try.ntmps14
  go_wp2_with fail
  rw [← HW.out]
  refine (few_any wB _ os (hv.below HB0.out)).mono ?_
  rw [hf]
  rintro e w1 ⟨rfl, rfl⟩
  go_wp2_with fail
  refine (few_any wB _ ms (hv2.below HB0.out)).mono ?_
  rw [hfm]
  rintro e w1 ⟨rfl, rfl⟩
  have x0 := X0.out
  have x1 := X1.out
  go_wp2_with fail
  refine (short_any wB K V).mono ?_
  rw [hs]
  rintro e w2 ⟨rfl, hb2⟩
  have HB2 := hid hb2
  clear hb2
  go_wp2_with fail
  refine (made_ok w2 2 (by decide) (by decide) v os ((hv.below HB0.out).below HB2.out) hos hf).mono ?_
  rintro e w1 ⟨a, p, P, G, rfl, hst⟩
  have HS : Hid (St wB w1 P G a p (runL [] os) 2) := ⟨hst.t, hst.r, hst.n, hst.m, ((Chg.of_below (F := []) HB2.out).less (K := []) (fun k hk => by cases hk)).trans hst.c⟩
  clear hst x0 x1
  have x0 := below_keep HS.out.since _ _ X0.out
  have x1 := below_keep HS.out.since _ _ X1.out
  go_wp2_with fail
  refine (new_bad _ a K V BK.out BV.out hn hlt).mono ?_
  rintro e w3 ⟨rfl, rfl⟩
  go_wp2_with fail
  refine (awake5_yes _).mono ?_
  rintro e wz ⟨rfl, hbz⟩
  go_wp2
  go_ret
  exact ⟨rfl, below_step HB0.out (below_step HS.out.since hbz)⟩
end Go.Proofs.Ytpckaglefmpkcaa
